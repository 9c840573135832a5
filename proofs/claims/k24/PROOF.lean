import PyProof.Rows.All
import Wide.All
import OpenK.AllK
import Wide.FinOn
import HandS.ForMost
import HandS.Gcd
import Flt.RightSqrt
import KE.KMathG
import HandS.IsInst
import HandS.Wide
import HandS.WideBits
import HandS.StrMore
import HandS.FStr
import HandS.EndBits
import HandS.Codes
import HandS.Walk
import HandS.Strs
import PyProof.Rows.StrPadFill
import HandS.RaiseMore
import HandS.TupLe
import HandS.TupAny
import HandS.StrSplit
import HandS.Rev
import HandS.Sort
import HandS.Flow
import HandS.More
import HandS.Deep
import HandS.Lambda
import HandS.Nested
import HandS.EndTab
import HandS.CallLocal
import KE.KNestM
import PySem.Challenge.RW_sheetworks_k24_broadcasting
set_option Elab.async false
set_option linter.all false
set_option maxRecDepth 100000
set_option maxHeartbeats 20000000
namespace Mysheetworks_k24_broadcasting
open PySem PySem.Spec PyProof.Rows L2
def topS (i : Nat) : Stmt := PySem.Challenge.pw_sheetworks_k24_broadcasting.main.body.getD i (.Pass ⟨0, 0, 0, 0⟩)
abbrev sfits : Stmt := topS 4
abbrev Nfits : List Str := ["h", "w"]
abbrev Pfits : List Str := ["h", "w"]
theorem scfits : FnScope Nfits Pfits (defScope sfits) := ⟨rfl, rfl, rfl, by decide +kernel, rfl, by decide +kernel, by decide +kernel⟩
abbrev sarray : Stmt := topS 5
abbrev Narray : List Str := ["h", "w", "members"]
abbrev Parray : List Str := ["h", "w", "members"]
theorem scarray : FnScope Narray Parray (defScope sarray) := ⟨rfl, rfl, rfl, by decide +kernel, rfl, by decide +kernel, by decide +kernel⟩
abbrev sheight : Stmt := topS 6
abbrev Nheight : List Str := ["v"]
abbrev Pheight : List Str := ["v"]
theorem scheight : FnScope Nheight Pheight (defScope sheight) := ⟨rfl, rfl, rfl, by decide +kernel, rfl, by decide +kernel, by decide +kernel⟩
abbrev swidth : Stmt := topS 7
abbrev Nwidth : List Str := ["v"]
abbrev Pwidth : List Str := ["v"]
theorem scwidth : FnScope Nwidth Pwidth (defScope swidth) := ⟨rfl, rfl, rfl, by decide +kernel, rfl, by decide +kernel, by decide +kernel⟩
abbrev smember : Stmt := topS 8
abbrev Nmember : List Str := ["v", "i", "j"]
abbrev Pmember : List Str := ["v", "i", "j"]
theorem scmember : FnScope Nmember Pmember (defScope smember) := ⟨rfl, rfl, rfl, by decide +kernel, rfl, by decide +kernel, by decide +kernel⟩
abbrev ssize_of : Stmt := topS 11
abbrev Nsize_of : List Str := ["values", "v"]
abbrev Psize_of : List Str := ["values"]
theorem scsize_of : FnScope Nsize_of Psize_of (defScope ssize_of) := ⟨rfl, rfl, rfl, by decide +kernel, rfl, by decide +kernel, by decide +kernel⟩
abbrev srepeated : Stmt := topS 12
abbrev Nrepeated : List Str := ["v", "i", "j", "h", "w", "row", "column"]
abbrev Prepeated : List Str := ["v", "i", "j"]
theorem screpeated : FnScope Nrepeated Prepeated (defScope srepeated) := ⟨rfl, rfl, rfl, by decide +kernel, rfl, by decide +kernel, by decide +kernel⟩
abbrev stogether : Stmt := topS 13
abbrev Ntogether : List Str := ["deed", "values", "h", "w", "found", "i", "j", "members", "v"]
abbrev Ptogether : List Str := ["deed", "values"]
theorem sctogether : FnScope Ntogether Ptogether (defScope stogether) := ⟨rfl, rfl, rfl, by decide +kernel, rfl, by decide +kernel, by decide +kernel⟩
abbrev sfirst_error : Stmt := topS 14
abbrev Nfirst_error : List Str := ["scalars", "v"]
abbrev Pfirst_error : List Str := ["scalars"]
theorem scfirst_error : FnScope Nfirst_error Pfirst_error (defScope sfirst_error) := ⟨rfl, rfl, rfl, by decide +kernel, rfl, by decide +kernel, by decide +kernel⟩
abbrev sbroadcast : Stmt := topS 15
abbrev Nbroadcast : List Str := ["deed", "a", "b"]
abbrev Pbroadcast : List Str := ["deed", "a", "b"]
theorem scbroadcast : FnScope Nbroadcast Pbroadcast (defScope sbroadcast) := ⟨rfl, rfl, rfl, by decide +kernel, rfl, by decide +kernel, by decide +kernel⟩
abbrev s_law_mixed : Stmt := topS 17
abbrev N_law_mixed : List Str := ["number", "k", "first", "second"]
abbrev P_law_mixed : List Str := ["number", "k"]
theorem sc_law_mixed : FnScope N_law_mixed P_law_mixed (defScope s_law_mixed) := ⟨rfl, rfl, rfl, by decide +kernel, rfl, by decide +kernel, by decide +kernel⟩
abbrev s_law_start : Stmt := topS 18
abbrev N_law_start : List Str := ["script", "seed", "cell"]
abbrev P_law_start : List Str := ["script"]
theorem sc_law_start : FnScope N_law_start P_law_start (defScope s_law_start) := ⟨rfl, rfl, rfl, by decide +kernel, rfl, by decide +kernel, by decide +kernel⟩
abbrev s_law_take : Stmt := topS 19
abbrev N_law_take : List Str := ["state", "limit", "cells", "cell", "value"]
abbrev P_law_take : List Str := ["state", "limit"]
theorem sc_law_take : FnScope N_law_take P_law_take (defScope s_law_take) := ⟨rfl, rfl, rfl, by decide +kernel, rfl, by decide +kernel, by decide +kernel⟩
abbrev s_law_same : Stmt := topS 20
abbrev N_law_same : List Str := ["actual", "due", "k"]
abbrev P_law_same : List Str := ["actual", "due"]
theorem sc_law_same : FnScope N_law_same P_law_same (defScope s_law_same) := ⟨rfl, rfl, rfl, by decide +kernel, rfl, by decide +kernel, by decide +kernel⟩
abbrev s_law_amount : Stmt := topS 21
abbrev N_law_amount : List Str := ["state", "amount", "k"]
abbrev P_law_amount : List Str := ["state"]
theorem sc_law_amount : FnScope N_law_amount P_law_amount (defScope s_law_amount) := ⟨rfl, rfl, rfl, by decide +kernel, rfl, by decide +kernel, by decide +kernel⟩
abbrev s_law_signs : Stmt := topS 22
abbrev N_law_signs : List Str := ["signs"]
abbrev P_law_signs : List Str := []
theorem sc_law_signs : FnScope N_law_signs P_law_signs (defScope s_law_signs) := ⟨rfl, rfl, rfl, by decide +kernel, rfl, by decide +kernel, by decide +kernel⟩
abbrev s_law_scalar : Stmt := topS 23
abbrev N_law_scalar : List Str := ["state", "signs", "kind", "size", "k"]
abbrev P_law_scalar : List Str := ["state"]
theorem sc_law_scalar : FnScope N_law_scalar P_law_scalar (defScope s_law_scalar) := ⟨rfl, rfl, rfl, by decide +kernel, rfl, by decide +kernel, by decide +kernel⟩
abbrev s_law_members : Stmt := topS 24
abbrev N_law_members : List Str := ["state", "many", "few", "k", "members", "choice"]
abbrev P_law_members : List Str := ["state", "many"]
theorem sc_law_members : FnScope N_law_members P_law_members (defScope s_law_members) := ⟨rfl, rfl, rfl, by decide +kernel, rfl, by decide +kernel, by decide +kernel⟩
abbrev s_law_lines : Stmt := topS 25
abbrev N_law_lines : List Str := ["state", "limit", "near", "choice", "many"]
abbrev P_law_lines : List Str := ["state", "limit", "near"]
theorem sc_law_lines : FnScope N_law_lines P_law_lines (defScope s_law_lines) := ⟨rfl, rfl, rfl, by decide +kernel, rfl, by decide +kernel, by decide +kernel⟩
abbrev s_law_value : Stmt := topS 26
abbrev N_law_value : List Str := ["state", "height_v", "width_v", "members"]
abbrev P_law_value : List Str := ["state", "height_v", "width_v"]
theorem sc_law_value : FnScope N_law_value P_law_value (defScope s_law_value) := ⟨rfl, rfl, rfl, by decide +kernel, rfl, by decide +kernel, by decide +kernel⟩
abbrev s_law_told : Stmt := topS 27
abbrev N_law_told : List Str := ["x"]
abbrev P_law_told : List Str := ["x"]
theorem sc_law_told : FnScope N_law_told P_law_told (defScope s_law_told) := ⟨rfl, rfl, rfl, by decide +kernel, rfl, by decide +kernel, by decide +kernel⟩
abbrev s_law_both : Stmt := topS 28
abbrev N_law_both : List Str := ["x", "y"]
abbrev P_law_both : List Str := ["x", "y"]
theorem sc_law_both : FnScope N_law_both P_law_both (defScope s_law_both) := ⟨rfl, rfl, rfl, by decide +kernel, rfl, by decide +kernel, by decide +kernel⟩
abbrev s_law_left : Stmt := topS 29
abbrev N_law_left : List Str := ["x", "y"]
abbrev P_law_left : List Str := ["x", "y"]
theorem sc_law_left : FnScope N_law_left P_law_left (defScope s_law_left) := ⟨rfl, rfl, rfl, by decide +kernel, rfl, by decide +kernel, by decide +kernel⟩
abbrev s_law_right : Stmt := topS 30
abbrev N_law_right : List Str := ["x", "y"]
abbrev P_law_right : List Str := ["x", "y"]
theorem sc_law_right : FnScope N_law_right P_law_right (defScope s_law_right) := ⟨rfl, rfl, rfl, by decide +kernel, rfl, by decide +kernel, by decide +kernel⟩
abbrev s_law_alike : Stmt := topS 31
abbrev N_law_alike : List Str := ["x", "y"]
abbrev P_law_alike : List Str := ["x", "y"]
theorem sc_law_alike : FnScope N_law_alike P_law_alike (defScope s_law_alike) := ⟨rfl, rfl, rfl, by decide +kernel, rfl, by decide +kernel, by decide +kernel⟩
abbrev s_law_odd : Stmt := topS 32
abbrev N_law_odd : List Str := ["x", "y"]
abbrev P_law_odd : List Str := ["x", "y"]
theorem sc_law_odd : FnScope N_law_odd P_law_odd (defScope s_law_odd) := ⟨rfl, rfl, rfl, by decide +kernel, rfl, by decide +kernel, by decide +kernel⟩
abbrev s_law_deed : Stmt := topS 33
abbrev N_law_deed : List Str := ["which", "x", "y"]
abbrev P_law_deed : List Str := ["which", "x", "y"]
theorem sc_law_deed : FnScope N_law_deed P_law_deed (defScope s_law_deed) := ⟨rfl, rfl, rfl, by decide +kernel, rfl, by decide +kernel, by decide +kernel⟩
abbrev s_law_asked : Stmt := topS 34
abbrev N_law_asked : List Str := ["which", "a", "b"]
abbrev P_law_asked : List Str := ["which", "a", "b"]
theorem sc_law_asked : FnScope N_law_asked P_law_asked (defScope s_law_asked) := ⟨rfl, rfl, rfl, by decide +kernel, rfl, by decide +kernel, by decide +kernel⟩
abbrev s_law_member : Stmt := topS 35
abbrev N_law_member : List Str := ["value", "i", "j", "row", "column"]
abbrev P_law_member : List Str := ["value", "i", "j"]
theorem sc_law_member : FnScope N_law_member P_law_member (defScope s_law_member) := ⟨rfl, rfl, rfl, by decide +kernel, rfl, by decide +kernel, by decide +kernel⟩
abbrev s_law_lengths : Stmt := topS 36
abbrev N_law_lengths : List Str := ["value"]
abbrev P_law_lengths : List Str := ["value"]
theorem sc_law_lengths : FnScope N_law_lengths P_law_lengths (defScope s_law_lengths) := ⟨rfl, rfl, rfl, by decide +kernel, rfl, by decide +kernel, by decide +kernel⟩
abbrev s_law_due : Stmt := topS 37
abbrev N_law_due : List Str := ["which", "a", "b", "height_v", "width_v", "members", "i", "j", "x", "y"]
abbrev P_law_due : List Str := ["which", "a", "b"]
theorem sc_law_due : FnScope N_law_due P_law_due (defScope s_law_due) := ⟨rfl, rfl, rfl, by decide +kernel, rfl, by decide +kernel, by decide +kernel⟩
abbrev slaw : Stmt := topS 38
abbrev Nlaw : List Str := ["script", "state", "height_v", "width_v", "a", "shapes", "b", "which", "other", "due"]
abbrev Plaw : List Str := ["script"]
theorem sclaw : FnScope Nlaw Plaw (defScope slaw) := ⟨rfl, rfl, rfl, by decide +kernel, rfl, by decide +kernel, by decide +kernel⟩

/-! ### own rules -/
theorem pe_powc {X : Cx} {a b c : Int} {j k : Nat} {p q pos : Pos} (hb : 0 ≤ b ∧ b ≤ 1000000 ∧ a.natAbs < 2 ^ 64) (h : a ^ b.toNat = c) : PE X (.BinOp (.Constant (.int a) j p) .Pow (.Constant (.int b) k q) pos) (tC (.int c)) :=
  ⟨fun pins s σ H Q I hq => (pe_op op_pow pe_int pe_int).run pins s σ H Q I ⟨a, b, rfl, rfl, hb, by
    show Q (.int (a ^ b.toNat)) H
    rw [h]
    exact hq⟩⟩
/-- isinstance of a flat value: told by its kind -/
def isiV : V → String → Option Bool
  | .int _, "int" => some true | .bl _, "int" => some true | .str _, "int" => some false | .non, "int" => some false
  | .int _, "bool" => some false | .bl _, "bool" => some true | .str _, "bool" => some false | .non, "bool" => some false
  | .int _, "str" => some false | .bl _, "str" => some false | .str _, "str" => some true | .non, "str" => some false
  | .int _, "tuple" => some false | .bl _, "tuple" => some false | .str _, "tuple" => some false | .non, "tuple" => some false
  | _, _ => none
theorem call_isiV {X : Cx} : CallR X (.builtin "isinstance") (fun xs H Q => ∃ x n b, xs = [x, .ty n] ∧ isiV x n = some b ∧ Q (.bl b) H) := by
  intro pins s σ H xs us Q I r h
  obtain ⟨x, n, b, rfl, e, q⟩ := h
  refine call_isi pins s σ H _ us Q I r ?_
  unfold isiV at e
  split at e
  case h_17 => cases e
  all_goals (cases e)
  all_goals first
    | exact ⟨_, _, .type "int", _, _, rfl, .ty _, .base (.int _), kit_ty (by decide +kernel), q⟩
    | exact ⟨_, _, .type "bool", _, _, rfl, .ty _, .base (.bl _), kit_ty (by decide +kernel), q⟩
    | exact ⟨_, _, .type "str", _, _, rfl, .ty _, .base (.str _), kit_ty (by decide +kernel), q⟩
    | exact ⟨_, _, .type "NoneType", _, _, rfl, .ty _, .base .non, kit_ty (by decide +kernel), q⟩
/-- how a call by keywords alone binds -/
structure KB0 (K : PySem.W.Frag) (fd : FuncData) (ps ks : List Str) (g : List Value → List Value) (gV : List V → List V) : Prop where
  to : ∀ (s : Shared) (ws : List Value), ws.length = ks.length → BindsTo s fd ⟨[], ks.zip ws⟩ (ps.zip (g ws))
  rel : ∀ {zs : List V} {ws : List Value}, Vals zs ws → Vals (gV zs) (g ws)
def tCallK0 (n : Nat) (sp : Sp) (gV : List V → List V) (E : XK) (tk : TA) : TE := fun σ H Q => tk σ H fun zs H2 => zs.length = n ∧ sp (gV zs) H2 Q E
theorem pe_callK0 {X : Cx} {CX : CXT} {k : Nat} {f : Addr} {fd : FuncData} {ps ks : List Str} {sp : Sp} {E : XK} {x : Str} {p pos : Pos} {kws : List Keyword} {tk : TA} {g : List Value → List Value} {gV : List V → List V}
    (F : FnOk X.prog X.w X.K X.mg X.base CX k f fd ps sp) (hr : Room k X.A) (hg : Gl X x) (hm : X.mg x = some (.ref f)) (hk : PySem.W.keepIn X.K (.ref f) = true) (hb : KB0 X.K fd ps ks g gV) (hx : Passes CX X E)
    (hkw : PK X kws tk) (hall : (backToKw pos (keywordEach kws X.env)).all (·.1.isSome) = true := by rfl) (hks : (backToKw pos (keywordEach kws X.env)).filterMap (·.1) = ks := by rfl)
    (hdb : (x == ("__debug__" : Str)) = false := by decide)
    (hpl : ((backTo pos (starEach [] X.env)).any (·.1) || (backToKw pos (keywordEach kws X.env)).any (·.1.isNone)) = false := by rfl) :
    PE X (.Call (.Name x p) [] kws pos) (tCallK0 ks.length sp gV E tk) := by
  refine ⟨fun pins s σ H Q I h => ?_⟩
  refine wpAny_Call_Name_kw (ld_glob I hg hm ?_ hdb)
  refine PySem.W.callWith_KW0 (h₀ := X.base) I.ok.mod.kin hk hall (thn (hkw.run pos pins s σ H _ I h) fun ws s2 ⟨zs, H2, I2, rz, l2, q2⟩ => ⟨I2.kIn, ?_⟩) hpl
  rw [hks]
  have r2 := hb.rel rz
  refine wpAny_call (codeAny_mono (F.run X.A X.stack s2 H2 ⟨[], ks.zip ws⟩ (g ws) (gV zs) Q E hr I2.env0 (hb.to s2 ws (rz.length.symm.trans l2)) r2 q2) fun r s' hq => ?_)
  cases r with
  | error e => exact hx pins σ H2 s2 e s' I2 hq
  | ok fl =>
    cases fl with
    | ret u => exact I2.after hq
    | next => exact False.elim hq
    | brk => exact False.elim hq
    | cont => exact False.elim hq
theorem atI_mem {xs : List V} {i : Int} (h0 : 0 ≤ i) (h1 : i < (xs.length : Int)) : ∃ v, v ∈ xs ∧ atI xs i = some v := by
  obtain ⟨n, rfl⟩ := Int.eq_ofNat_of_zero_le h0
  have h2 : n < xs.length := by omega
  exact ⟨xs[n], List.getElem_mem h2, atI_nat (List.getElem?_eq_getElem h2)⟩
/-- rules with conditions that are linear -/
theorem opr_imp {X : Cx} {f : Value → Value → Sem Value} {C C' : Int → Int → Prop} {g : Int → Int → V} (h : OpR X f (rI C g)) (k : ∀ i j, C' i j → C i j) : OpR X f (rI C' g) := fun pins s σ H x y v u Q I rx ry hq => by
  obtain ⟨i, j, ex, ey, hc, q⟩ := hq
  exact h pins s σ H x y v u Q I rx ry ⟨i, j, ex, ey, k i j hc, q⟩
def CB (_ j : Int) : Prop := 0 < j ∧ j < 1267650600228229401496703205376
def CMB (i j : Int) : Prop := (-1000000000000000000000000000000000000000000000000000000000000 < i ∧ i < 1000000000000000000000000000000000000000000000000000000000000) ∧ (-1000000000000000000000000000000000000000000000000000000000000 < j ∧ j < 1000000000000000000000000000000000000000000000000000000000000)
theorem abs200 {i : Int} (h : -1000000000000000000000000000000000000000000000000000000000000 < i ∧ i < 1000000000000000000000000000000000000000000000000000000000000) : i.natAbs < 2 ^ 200 := by
  have e : (2 : Nat) ^ 200 = 1606938044258990275541962092341162602522202993782792835301376 := by decide
  rw [e]
  omega
theorem abs100 {i : Int} (h : 0 < i ∧ i < 1267650600228229401496703205376) : i.natAbs < 2 ^ 100 := by
  have e : (2 : Nat) ^ 100 = 1267650600228229401496703205376 := by decide
  rw [e]
  omega
theorem op_mulB {X : Cx} : OpR X (binaryOp .Mult) (rI CMB fun i j => .int (i * j)) := opr_imp op_mulW fun i j h => wide_mul (abs200 h.1) (abs200 h.2) (by decide) (by decide) (by decide)
theorem op_fdivB {X : Cx} : OpR X (binaryOp .FloorDiv) (rI CB fun i j => .int (i / j)) := opr_imp op_fdivW fun i j h => wide_div h.1 (abs100 h) (by decide) (by decide)
theorem ediv_up {i j : Int} (h : 0 < j) (h0 : 0 ≤ i) : 0 ≤ i / j ∧ i / j ≤ i := ⟨Int.ediv_nonneg h0 (Int.le_of_lt h), Int.ediv_le_self j h0⟩
theorem ediv_dn {i j : Int} (h : 0 < j) (h0 : i < 0) : i ≤ i / j ∧ i / j < 0 := by
  refine ⟨?_, Int.ediv_neg_of_neg_of_pos h0 h⟩
  rw [Int.le_ediv_iff_mul_le h]
  have a : i * (j - 1) ≤ 0 := Int.mul_nonpos_of_nonpos_of_nonneg (Int.le_of_lt h0) (by omega)
  rw [Int.mul_sub, Int.mul_one] at a
  omega
/-- the quotient as a letter, with its bounds -/
theorem op_fdivL {X : Cx} : OpR X (binaryOp .FloorDiv) (fun x y H Q => ∃ i j, x = .int i ∧ y = .int j ∧ CB i j ∧ ∀ d, d = i / j → (0 ≤ i → 0 ≤ d ∧ d ≤ i) → (i < 0 → i ≤ d ∧ d < 0) → Q (.int d) H) := fun pins s σ H x y v u Q I rx ry hq => by
  obtain ⟨i, j, ex, ey, hc, q⟩ := hq
  exact op_fdivB pins s σ H x y v u Q I rx ry ⟨i, j, ex, ey, hc, q _ rfl (ediv_up hc.1) (ediv_dn hc.1)⟩
theorem call_divmodB {X : Cx} : CallR X (.builtin "divmod") (fun xs H Q => ∃ i j, xs = [.int i, .int j] ∧ CB i j ∧ ∀ p, H p = none → Q (.ref p) (upd H p (.tup [.int (i / j), .int (i % j)]))) := fun pins s σ H xs us Q I r hq => by
  obtain ⟨i, j, ex, hc, q⟩ := hq
  have w := wide_div (i := i) hc.1 (abs100 hc) (by decide) (by decide)
  exact call_divmodW pins s σ H xs us Q I r ⟨i, j, ex, ⟨hc.1, PyProof.noPylong_of_log2 w.2⟩, q⟩
theorem iteEqI {i j : Int} {A B : Prop} (h1 : i = j → A) (h2 : ¬ i = j → B) : if decide (V.int i = V.int j) = true then A else B := by
  by_cases h : i = j
  · rw [if_pos (decide_eq_true (congrArg V.int h))]
    exact h1 h
  · rw [if_neg (fun z => h (V.int.inj (of_decide_eq_true z)))]
    exact h2 h
theorem iteNeI {i j : Int} {A B : Prop} (h1 : ¬ i = j → A) (h2 : i = j → B) : if (!decide (V.int i = V.int j)) = true then A else B := by
  by_cases h : i = j
  · rw [decide_eq_true (congrArg V.int h)]
    exact iteF (h2 h)
  · rw [decide_eq_false (fun z => h (V.int.inj z))]
    exact iteT (h1 h)
theorem iteSS {x : Str} {A B : Prop} (h : A) : if decide (V.str x = V.str x) = true then A else B := by
  rw [if_pos (decide_eq_true rfl)]
  exact h
theorem iteIS {i : Int} {x : Str} {A B : Prop} (h : B) : if decide (V.int i = V.str x) = true then A else B := by
  rw [if_neg (fun z => V.noConfusion (of_decide_eq_true z))]
  exact h
theorem iteD {c A B : Prop} [Decidable c] (h1 : c → A) (h2 : ¬ c → B) : if decide c = true then A else B := by
  by_cases h : c
  · rw [if_pos (decide_eq_true h)]
    exact h1 h
  · rw [if_neg (fun z => h (of_decide_eq_true z))]
    exact h2 h
theorem same_upd {H : Hp} {p : Addr} {o : HO} (h : H p = none) : Same H (upd H p o) := fun b x e => by
  rw [upd_ne (ne_of_none e h)]
  exact e
theorem ix_listK {X : Cx} {K : PySem.W.Frag} (e : X.K = K) : IxR X (rIxL K) := e ▸ ix_list
theorem ix_tupK {X : Cx} {K : PySem.W.Frag} (e : X.K = K) : IxR X (rIxT K) := e ▸ ix_tup
theorem ix_seqK {X : Cx} {K : PySem.W.Frag} (e : X.K = K) : IxR X (rIx K) := e ▸ ix_seq
theorem call_len_seqK {X : Cx} {K : PySem.W.Frag} (e : X.K = K) : CallR X (.builtin "len") (fun xs H Q => ∃ p ys, xs = [.ref p] ∧ (SqL K H p ys ∨ SqT K H p ys) ∧ Q (.int ys.length) H) := e ▸ call_len_seq
/-- an item of a list, whichever -/
theorem atI_go {K : PySem.W.Frag} {p : Addr} {xs : List V} {i : Int} {H : Hp} {Q : VK} (h : SqL K H p xs) (h0 : 0 ≤ i) (h1 : i < (xs.length : Int)) (q : ∀ v, v ∈ xs → Q v H) : rIxL K (.ref p) (.int i) H Q := by
  obtain ⟨v, hv, e⟩ := atI_mem h0 h1
  exact ⟨_, _, _, v, rfl, rfl, h, e, q v hv⟩

/-- the product as a letter, with its bounds -/
theorem op_mulL {X : Cx} : OpR X (binaryOp .Mult) (fun x y H Q => ∃ i j, x = .int i ∧ y = .int j ∧ CMul i j ∧ ∀ d, d = i * j → (0 ≤ i → 0 ≤ j → 0 ≤ d) → (0 ≤ i → i ≤ 100000000000000 → 0 ≤ j → j ≤ 100000000000000 → d ≤ 10000000000000000000000000000) → Q (.int d) H) := fun pins s σ H x y v u Q I rx ry hq => by
  obtain ⟨i, j, ex, ey, hc, q⟩ := hq
  exact op_mul pins s σ H x y v u Q I rx ry ⟨i, j, ex, ey, hc, q _ rfl (fun a b => Int.mul_nonneg a b) (fun a b c d => Int.le_trans (Int.mul_le_mul b d c (by decide)) (by decide))⟩

theorem get_list {X : Cx} : PGet X (rIxL X.K) := by
  intro pins s σ H x y v u Q I rx ry h
  obtain ⟨p, xs, i, z, rfl, rfl, hq, he, q⟩ := h
  cases rx
  obtain ⟨t, rfl⟩ := ry
  obtain ⟨its, r, pl, hz⟩ := I.list hq
  obtain ⟨j, h1, h2, h3, h4, h5⟩ := atI_get he
  obtain ⟨w, ew, rw'⟩ := r.get h2
  have hl := r.length
  have hn := line63
  have fin : EP X pins σ Q w s := ⟨z, H, I, rw', q⟩
  by_cases h0 : 0 ≤ i
  · have hj : i.toNat = j := by
      rw [seqIndex_of h0 h5] at h1
      exact Option.some.inj h1
    exact wpAny_getItem_list pl.isList h0 (by omega) (by rw [hj]; simpa using ew) fin
  · have hj : (i + (its.toArray.size : Int)).toNat = j := by
      rw [seqIndex_neg (by omega) h4] at h1
      rw [List.size_toArray, ← hl]
      exact Option.some.inj h1
    exact wpAny_getItem_list_neg pl.isList (by omega) (by rw [List.size_toArray] <;> omega) (by omega) (by rw [hj]; simpa using ew) fin
section Closures
open LamX NdefX
/-- the object at f is the lambda -/
def LamO (f : Addr) (F : NF) (b : Expr) : HO := .ext fun h => ∃ (pm ctv : Value), h.get? f = some (PySem.W.kla_obj "<lambda>" F.qual F.params b F.scope F.cl pm F.c ctv)
/-- the very object of a cell -/
def CelO (c : Addr) (o : Obj) : HO := .ext fun h => h.get? c = some o
theorem lamO_at {P : Program} {w : World} {H : Hp} {h : Heap} {f : Addr} {F : NF} {b : Expr} (hok : HOk P w H h) (e : H f = some (LamO f F b)) : ∃ (pm ctv : Value), h.get? f = some (PySem.W.kla_obj "<lambda>" F.qual F.params b F.scope F.cl pm F.c ctv) := (hok f _ e).1
theorem celO_at {P : Program} {w : World} {H : Hp} {h : Heap} {c : Addr} {o : Obj} (hok : HOk P w H h) (e : H c = some (CelO c o)) : h.get? c = some o := (hok c _ e).1
/-- b is one of the captured cells -/
def InC (cl : List (Str × Addr)) (b : Addr) : Prop := ∃ y, cl.lookup y = some b
open Classical in
/-- the cells told -/
noncomputable def trk (cl : List (Str × Addr)) (h : Heap) (H : Hp) : Hp := fun b => if InC cl b then (h.get? b).map (CelO b) else H b
open Classical in
/-- the cells not told -/
noncomputable def unt (cl : List (Str × Addr)) (H : Hp) : Hp := fun b => if InC cl b then none else H b
open Classical in
/-- the cells as H tells them, all else as H' -/
noncomputable def ret (cl : List (Str × Addr)) (H H' : Hp) : Hp := fun b => if InC cl b then H b else H' b
theorem trk_in {cl : List (Str × Addr)} {h : Heap} {H : Hp} {b : Addr} (e : InC cl b) : trk cl h H b = (h.get? b).map (CelO b) := if_pos e
theorem trk_out {cl : List (Str × Addr)} {h : Heap} {H : Hp} {b : Addr} (e : ¬ InC cl b) : trk cl h H b = H b := if_neg e
theorem unt_in {cl : List (Str × Addr)} {H : Hp} {b : Addr} (e : InC cl b) : unt cl H b = none := if_pos e
theorem unt_out {cl : List (Str × Addr)} {H : Hp} {b : Addr} (e : ¬ InC cl b) : unt cl H b = H b := if_neg e
theorem ret_in {cl : List (Str × Addr)} {H H' : Hp} {b : Addr} (e : InC cl b) : ret cl H H' b = H b := if_pos e
theorem ret_out {cl : List (Str × Addr)} {H H' : Hp} {b : Addr} (e : ¬ InC cl b) : ret cl H H' b = H' b := if_neg e
/-- what the captured cells hold, told in the heap -/
structure Told (cl : List (Str × Addr)) (fr : List Str) (ws : List (Option V)) (H : Hp) : Prop where
  len : ws.length = fr.length
  all : ∀ y c, cl.lookup y = some c → ∃ o v, H c = some (CelO c o) ∧ o.data = .cell v
  inj : ∀ x y c, cl.lookup x = some c → cl.lookup y = some c → x = y
  has : ∀ (i : Nat) (y : Str), fr[i]? = some y → ∃ c, cl.lookup y = some c ∧ ∀ v, ws[i]? = some (some v) → ∃ o u, H c = some (CelO c o) ∧ o.data = .cell (some u) ∧ L2.RelV v u
theorem Told.keep {cl : List (Str × Addr)} {fr : List Str} {ws : List (Option V)} {H H' : Hp} (t : Told cl fr ws H) (e : ∀ b, InC cl b → H' b = H b) : Told cl fr ws H' :=
  ⟨t.len, fun y c q => by rw [e c ⟨y, q⟩]; exact t.all y c q, t.inj, fun i y q => by
    obtain ⟨c, q1, q2⟩ := t.has i y q
    exact ⟨c, q1, fun v hv => by rw [e c ⟨y, q1⟩]; exact q2 v hv⟩⟩
theorem Told.same {cl : List (Str × Addr)} {fr : List Str} {ws : List (Option V)} {H H' : Hp} (t : Told cl fr ws H) (e : Same H H') : Told cl fr ws H' := t.keep fun b ⟨y, q⟩ => by
  obtain ⟨o, v, h1, _⟩ := t.all y b q
  rw [h1, e _ _ h1]
theorem Told.cells {cl : List (Str × Addr)} {fr : List Str} {ws : List (Option V)} {P : Program} {w : World} {H : Hp} {h : Heap} (t : Told cl fr ws H) (hok : HOk P w H h) : CellsAt cl fr ws h (unt cl H) :=
  ⟨t.len, fun y c q => ⟨unt_in ⟨y, q⟩, by
    obtain ⟨o, v, h1, h2⟩ := t.all y c q
    exact ⟨v, o, celO_at hok h1, h2⟩⟩, t.inj, fun i y q => by
    obtain ⟨c, q1, q2⟩ := t.has i y q
    refine ⟨c, q1, fun v hv => ?_⟩
    obtain ⟨o, u, h1, h2, h3⟩ := q2 v hv
    exact ⟨u, h3, o, celO_at hok h1, h2⟩⟩
theorem told_of {cl : List (Str × Addr)} {fr : List Str} {ws : List (Option V)} {h : Heap} {H : Hp} (C : CellsAt cl fr ws h H) : Told cl fr ws (trk cl h H) :=
  ⟨C.len, fun y c q => by
    obtain ⟨_, v, o, h1, h2⟩ := C.all y c q
    exact ⟨o, v, by rw [trk_in ⟨y, q⟩, h1]; rfl, h2⟩, C.inj, fun i y q => by
    obtain ⟨c, q1, q2⟩ := C.has i y q
    refine ⟨c, q1, fun v hv => ?_⟩
    obtain ⟨u, h3, o, h1, h2⟩ := q2 v hv
    exact ⟨o, u, by rw [trk_in ⟨y, q1⟩, h1]; rfl, h2, h3⟩⟩
theorem celO_ne_tup {c : Addr} {o : Obj} (xs : List V) : CelO c o ≠ .tup xs := fun z => by unfold CelO at z; cases z
theorem celO_ne_own {c a : Addr} {o : Obj} : CelO c o ≠ .own a := fun z => by unfold CelO at z; cases z
theorem celO_ne_frz {c : Addr} {o ob : Obj} {u : HO} : CelO c o ≠ .frz ob u := fun z => by unfold CelO at z; cases z
theorem celO_ne_tbl {c : Addr} {o : Obj} {ps : Array Value} : CelO c o ≠ .tbl ps := fun z => by unfold CelO at z; cases z
/-- a call that ran with the cells told: they are told no more -/
theorem ce_unt {P : Program} {w : World} {outer : List Env} {H : Hp} {s s' : Shared} {Q : VK} {u : Value} {cl : List (Str × Addr)} (hn : ∀ y c, cl.lookup y = some c → H c = none ∧ ∃ o, s.heap.get? c = some o)
    (h : CE outer P w (trk cl s.heap H) s (fun v H' => (∀ b, InC cl b → H' b = trk cl s.heap H b) ∧ Q v (unt cl H')) u s') : CE outer P w H s Q u s' := by
  obtain ⟨v, H', os, bare, un, hok, rv, qe, q⟩ := h
  have cel : ∀ b, InC cl b → ∃ o, s.heap.get? b = some o ∧ H' b = some (CelO b o) := fun b hb => by
    obtain ⟨y, hy⟩ := hb
    obtain ⟨_, o, ho⟩ := hn y b hy
    exact ⟨o, ho, by rw [qe b ⟨y, hy⟩, trk_in ⟨y, hy⟩, ho]; rfl⟩
  have no : ∀ b u, H b = some u → ¬ InC cl b := fun b u e ⟨y, hy⟩ => by
    rw [(hn y b hy).1] at e
    cases e
  refine ⟨v, unt cl H', os, bare, ⟨fun b o e n hb hx => ?_, fun b o e n hb hx => ?_, fun b o e n hx => ?_, un.there, fun b xs e => ?_, fun b o u e => ?_, fun b ps e => ?_⟩, fun b u e => ?_, rv, q⟩
  · by_cases hc : InC cl b
    · obtain ⟨o', h1, h2⟩ := cel b hc
      rw [e] at h1
      rw [Option.some.inj h1]
      exact celO_at hok h2
    · exact un.keep b o e (by rw [trk_out hc]; exact n) hb hx
  · by_cases hc : InC cl b
    · obtain ⟨o', h1, h2⟩ := cel b hc
      rw [e] at h1
      rw [Option.some.inj h1]
      exact ⟨o'.slots, celO_at hok h2⟩
    · exact un.slot b o e (by rw [trk_out hc]; exact n) hb hx
  · by_cases hc : InC cl b
    · exact unt_in hc
    · rw [unt_out hc]
      exact un.free b o e (by rw [trk_out hc]; exact n) hx
  · have hc := no b _ e
    rw [unt_out hc]
    exact un.tups b xs (by rw [trk_out hc]; exact e)
  · have hc := no b _ e
    rw [unt_out hc]
    exact un.frzs b o u (by rw [trk_out hc]; exact e)
  · have hc := no b _ e
    rw [unt_out hc]
    exact un.tbls b ps (by rw [trk_out hc]; exact e)
  · by_cases hc : InC cl b
    · rw [unt_in hc] at e
      cases e
    · rw [unt_out hc] at e
      have out : ∀ {d : Addr} {x : HO}, H' d = some x → (∀ o, x ≠ CelO d o) → unt cl H' d = some x := fun {d x} hd hx => by
        by_cases hi : InC cl d
        · obtain ⟨o, _, h2⟩ := cel d hi
          rw [hd] at h2
          exact absurd (Option.some.inj h2) (hx o)
        · rw [unt_out hi]
          exact hd
      exact (hok b u e).stay (fun c v _ q => q) (fun c q => out q fun o z => celO_ne_own z.symm) fun c xs q => out q fun o z => celO_ne_tup xs z.symm
/-- a call that ran with the cells not told: they are told again -/
theorem ce_ret {P : Program} {w : World} {outer : List Env} {H : Hp} {s s' : Shared} {Q : VK} {u : Value} {cl : List (Str × Addr)} (hok0 : HOk P w H s.heap) (hn : ∀ y c, cl.lookup y = some c → c ∉ frs outer ∧ ∃ o, H c = some (CelO c o))
    (h : CE outer P w (unt cl H) s (fun v H' => (∀ b, InC cl b → H' b = none) → Q v (ret cl H H')) u s') : CE outer P w H s Q u s' := by
  obtain ⟨v, H', os, bare, un, hok, rv, q0⟩ := h
  have cel : ∀ b, InC cl b → ∃ o, b ∉ frs outer ∧ H b = some (CelO b o) := fun b ⟨y, hy⟩ => by
    obtain ⟨h1, o, h2⟩ := hn y b hy
    exact ⟨o, h1, h2⟩
  have q := q0 fun b hb => by
    obtain ⟨o, h1, h2⟩ := cel b hb
    exact un.free b o (celO_at hok0 h2) (unt_in hb) (by simp)
  have no : ∀ b, H b = none → ¬ InC cl b := fun b e hb => by
    obtain ⟨o, _, h2⟩ := cel b hb
    rw [e] at h2
    cases h2
  have noC : ∀ b u, H b = some u → (∀ o, u ≠ CelO b o) → ¬ InC cl b := fun b u e hu hb => by
    obtain ⟨o, _, h2⟩ := cel b hb
    rw [e] at h2
    exact hu o (Option.some.inj h2)
  refine ⟨v, ret cl H H', os, bare, ⟨fun b o e n hb hx => un.keep b o e (by rw [unt_out (no b n)]; exact n) hb hx, fun b o e n hb hx => un.slot b o e (by rw [unt_out (no b n)]; exact n) hb hx, fun b o e n hx => ?_, un.there, fun b xs e => ?_, fun b o u e => ?_, fun b ps e => ?_⟩, fun b u e => ?_, rv, q⟩
  · rw [ret_out (no b n)]
    exact un.free b o e (by rw [unt_out (no b n)]; exact n) hx
  · have hc := noC b _ e fun o z => celO_ne_tup xs z.symm
    rw [ret_out hc]
    exact un.tups b xs (by rw [unt_out hc]; exact e)
  · have hc := noC b _ e fun o' z => celO_ne_frz z.symm
    rw [ret_out hc]
    exact un.frzs b o u (by rw [unt_out hc]; exact e)
  · have hc := noC b _ e fun o' z => celO_ne_tbl z.symm
    rw [ret_out hc]
    exact un.tbls b ps (by rw [unt_out hc]; exact e)
  · by_cases hc : InC cl b
    · rw [ret_in hc] at e
      obtain ⟨o, h1, h2⟩ := cel b hc
      rw [e] at h2
      obtain rfl := Option.some.inj h2
      have h3 : s'.heap.get? b = some o := un.keep b o (celO_at hok0 e) (unt_in hc) h1 (by simp)
      exact ⟨h3, ⟨o, h3⟩, fun h1 h2 e st => st _ e⟩
    · rw [ret_out hc] at e
      have out : ∀ {d : Addr} {x : HO}, H' d = some x → ret cl H H' d = some x := fun {d x} hd => by
        by_cases hi : InC cl d
        · obtain ⟨o, h1, h2⟩ := cel d hi
          have z := un.free d o (celO_at hok0 h2) (unt_in hi) (by simp)
          rw [hd] at z
          cases z
        · rw [ret_out hi]
          exact hd
      exact (hok b u e).stay (fun c v _ q => q) (fun c q => out q) fun c xs q => out q
section
variable {X : Cx} {pins : List (Addr × Obj)} {σ : L2.St} {H : Hp} {s : Shared}
theorem inv_lam {F : NF} {b : Expr} {o : Obj} {t' : Nat} {pm ctv : Value} (I : Inv X pins σ H s) (ho : o = PySem.W.kla_obj "<lambda>" F.qual F.params b F.scope F.cl pm F.c ctv) :
    Inv X pins σ (upd H s.heap.objs.size (LamO s.heap.objs.size F b)) { s with heap := s.heap.push o, toks := t' } := by
  subst ho
  refine I.laid (a := s.heap.objs.size) (fun b u e => Heap.get?_push_of_some _ e) (Nat.le_refl _) ?_
  have e : (s.heap.push (PySem.W.kla_obj "<lambda>" F.qual F.params b F.scope F.cl pm F.c ctv)).get? s.heap.objs.size = some (PySem.W.kla_obj "<lambda>" F.qual F.params b F.scope F.cl pm F.c ctv) := Heap.get?_push_size _ rfl
  exact ⟨⟨pm, ctv, e⟩, ⟨_, e⟩, fun h1 h2 ⟨p, t, z⟩ st => ⟨p, t, st _ z⟩⟩
/-- the lambda is made: its code object is new, or found in the table -/
theorem lam_make3 {T : List (Addr × Str)} {c P : Addr} {params : Arguments} {body : Expr} {scope : Scope} {pos : Pos} {E : Value → Shared → Prop} {Q : Value → Shared → Prop} (I : Inv X pins σ H s) (TB : TabB X.base X.mg c P) (hcode : X.env.code = .ref c)
    (hm : (P, X.env.qual ++ "<lambda>") ∈ T) (hu : ∀ p ∈ T, p.1 = P → p.2 = X.env.qual ++ "<lambda>") (hT : Tabs T H) (hdef : defaultsOf params X.env = ([], [])) (hfree : ∀ y ∈ scope.names, y.2 = .free → ∃ c, X.env.cells.lookup y.1 = some c)
    (h : ∀ (f c' : Addr) (H1 : Hp) (s' : Shared), Inv X pins σ H1 s' → ExtN H H1 → Tabs T H1 → H f = none → H1 f = some (LamO f ⟨"<lambda>", X.env.qual ++ "<lambda>", params, [], scope, cloFrom X.env.cells scope.names [], c'⟩ body) → H1 c' = some (CodeO c' (X.env.qual ++ "<lambda>")) → Q (.ref f) s') :
    wpAny (model X.prog X.w) X.A (eval (.Lambda params body scope pos) X.env) Q E s := by
  obtain ⟨ps, hP, ht, ha⟩ := hT _ hm
  refine PySem.W.kla_eval hdef ?_
  have bP : s.heap.BuiltinsAt X.mg P := TB.bm.keeps I.bk
  have hP' : s.heap.get? P = some { cls := .none, data := .fields ps } := I.hok P _ hP
  cases hc : codeAmong pos ps.toList with
  | none =>
    refine PySem.W.kla_makeFunction (mg := X.mg) (c := c) (P := P) (ps := ps) (closure_ok hfree) I.ok.glob (I.mod.glob.keeps I.bk) hcode (TB.code.keeps I.bk) hP' ht hc TB.gP bP fun c' ctv h' tk hx hge hlt hrec htb => ?_
    obtain ⟨c2, oc, vs, t, e2, hoc, hd, hv⟩ := hrec
    cases e2
    have nC : H c' = none := I.hok.fresh hge
    have I1 := inv_table (t' := tk) (more := #[rawInt pos.line, rawInt pos.col, .ref c']) (h' := h') I hP (fun b o hb e => hx b o hb e) htb hge ⟨oc, vs, t, hoc, hd, hv⟩
    have hE : ExtN H (upd (upd H P (.tbl (ps ++ #[rawInt pos.line, rawInt pos.col, .ref c']))) c' (CodeO c' (X.env.qual ++ "<lambda>"))) := fun b o e n => by
      rw [upd_ne (ne_of_none e nC), upd_ne (fun z => n ps (Option.some.inj (e.symm.trans (by rw [z]; exact hP))))]
      exact e
    have eL : (ps ++ #[rawInt pos.line, rawInt pos.col, .ref c']).toList = ps.toList ++ [rawInt pos.line, rawInt pos.col, .ref c'] := by simp
    have T1 : Tabs T (upd (upd H P (.tbl (ps ++ #[rawInt pos.line, rawInt pos.col, .ref c']))) c' (CodeO c' (X.env.qual ++ "<lambda>"))) := fun p hp => by
      by_cases hb : p.1 = P
      · rw [hu p hp hb, hb]
        refine ⟨_, by rw [upd_ne (ne_of_none hP nC), upd_same], by rw [eL]; exact PySem.TriplesOk_snoc _ _ _ _ ht, fun p' cv hcv => ?_⟩
        rw [eL] at hcv
        rcases among_app _ ht hcv with z | z
        · obtain ⟨c0, e1, e2⟩ := ha p' cv z
          exact ⟨c0, e1, hE _ _ e2 codeO_ne⟩
        · exact ⟨c', z, upd_same⟩
      · obtain ⟨ps', a1, a2, a3⟩ := hT p hp
        refine ⟨ps', by rw [upd_ne (ne_of_none a1 nC), upd_ne hb]; exact a1, a2, fun p' cv hcv => ?_⟩
        obtain ⟨c0, e1, e2⟩ := a3 p' cv hcv
        exact ⟨c0, e1, hE _ _ e2 codeO_ne⟩
    have nF := I1.hok.fresh (Nat.le_refl _)
    have I2 := inv_lam (F := ⟨"<lambda>", X.env.qual ++ "<lambda>", params, [], scope, cloFrom X.env.cells scope.names [], c'⟩) (b := body) (t' := tk) (pm := (X.mg "__name__").getD .none) (ctv := ctv) I1 rfl
    refine h h'.objs.size c' _ _ I2 (fun b o e n => ?_) (T1.ext fun b o e => ?_) (I.hok.fresh (Nat.le_trans hge (Nat.le_of_lt hlt))) upd_same ?_
    · have e1 := hE b o e n
      exact (upd_ne (ne_of_none e1 nF)).trans e1
    · exact (upd_ne (ne_of_none e nF)).trans e
    · exact (upd_ne (Nat.ne_of_lt hlt)).trans upd_same
  | some cv =>
    obtain ⟨c', e, hco⟩ := ha pos cv hc
    subst e
    refine PySem.W.kla_makeFunctionHit (mg := X.mg) (c := c) (P := P) (ps := ps) (closure_ok hfree) I.ok.glob (I.mod.glob.keeps I.bk) hcode (TB.code.keeps I.bk) hP' ht hc bP fun ctv h' tk hx hsz => ?_
    have I1 : Inv X pins σ H { s with heap := h', toks := tk } := I.kept hx
    have nF : H h'.objs.size = none := I1.hok.fresh (Nat.le_refl _)
    have I2 := inv_lam (F := ⟨"<lambda>", X.env.qual ++ "<lambda>", params, [], scope, cloFrom X.env.cells scope.names [], c'⟩) (b := body) (t' := tk) (pm := (X.mg "__name__").getD .none) (ctv := ctv) I1 rfl
    refine h h'.objs.size c' _ _ I2 (fun b o e n => ?_) (hT.ext fun b o e => ?_) nF upd_same ?_
    · exact (upd_ne (ne_of_none e nF)).trans e
    · exact (upd_ne (ne_of_none e nF)).trans e
    · exact (upd_ne (ne_of_none hco nF)).trans hco
end
/-- the lambda's reading: the function object is new; its code object may be -/
def tLamM (T : List (Addr × Str)) (mk : Addr → NF) (body : Expr) : TE := fun _ H Q => Tabs T H ∧ ∀ (f c' : Addr) (H1 : Hp), ExtN H H1 → Tabs T H1 → H f = none → H1 f = some (LamO f (mk c') body) → H1 c' = some (CodeO c' (mk c').qual) → Q (.ref f) H1
theorem pe_lam {X : Cx} {T : List (Addr × Str)} {c P : Addr} {params : Arguments} {body : Expr} {scope : Scope} {pos : Pos} (TB : TabB X.base X.mg c P) (hcode : X.env.code = .ref c) (hm : (P, X.env.qual ++ "<lambda>") ∈ T) (hu : ∀ p ∈ T, p.1 = P → p.2 = X.env.qual ++ "<lambda>")
    (hdef : defaultsOf params X.env = ([], [])) (hfree : ∀ y ∈ scope.names, y.2 = .free → X.env.scope.names.lookup y.1 = some .cell ∨ X.env.scope.names.lookup y.1 = some .free) :
    PE X (.Lambda params body scope pos) (tLamM T (fun c' => ⟨"<lambda>", X.env.qual ++ "<lambda>", params, [], scope, cloFrom X.env.cells scope.names [], c'⟩) body) := by
  refine ⟨fun pins s σ H Q I h => ?_⟩
  obtain ⟨hT, h⟩ := h
  have hfr : ∀ y ∈ scope.names, y.2 = .free → ∃ c, X.env.cells.lookup y.1 = some c := fun y hy e => (hfree y hy e).elim (fun z => I.ok.has _ (.inl z)) fun z => I.ok.has _ (.inr z)
  exact lam_make3 I TB hcode hm hu hT hdef hfr fun f c' H1 s' I1 e1 e2 e3 e4 e5 => ⟨.ref f, H1, I1, rfl, h f c' H1 e1 e2 e3 e4 e5⟩
/-! ### a call with the cells of this frame told -/
def Away (X : Cx) (cl : List (Str × Addr)) : Prop := ∀ y c, cl.lookup y = some c → X.base.get? c = none ∧ c ∉ X.fs
theorem away_own {X : Cx} {scope : Scope} (ok : X.Ok) (hfree : ∀ y ∈ scope.names, y.2 = .free → X.env.scope.names.lookup y.1 = some .cell ∨ X.env.scope.names.lookup y.1 = some .free) (hfn : ∀ y, X.fn y = true) : Away X (cloFrom X.env.cells scope.names []) := fun y c e => by
  have hf : ∀ y ∈ scope.names, y.2 = .free → ∃ c, X.env.cells.lookup y.1 = some c := fun y hy e => (hfree y hy e).elim (fun z => ok.has _ (.inl z)) fun z => ok.has _ (.inr z)
  have h1 := ok.cab y c (hfn y) (clo_cm hf e)
  refine ⟨Heap.get?_none_of_le (Nat.le_trans ok.bsz h1), fun z => ?_⟩
  obtain ⟨_, o, ho, _⟩ := ok.funs.mem z
  exact absurd (Nat.lt_of_lt_of_le (Heap.lt_size ho) h1) (Nat.lt_irrefl _)
def tCallC (cl : List (Str × Addr)) (fr : List Str) (js : List Nat) (sp : Sp) (E : XK) (t : TA) : TE := fun σ H Q => t σ H fun vs H1 => ∀ H2 : Hp, (∀ b, InC cl b → H1 b = none) → (∀ b, ¬ InC cl b → H2 b = H1 b) → Told cl fr (js.map (slotAt σ)) H2 →
  sp vs H2 (fun v H3 => (∀ b, InC cl b → H3 b = H2 b) ∧ Q v (unt cl H3)) E
section
variable {X : Cx} {k : Nat} {f : Addr} {fd : FuncData} {ps fr : List Str} {js : List Nat} {sp : Sp} {E : XK} {x : Str} {p pos : Pos} {e : Expr} {es : List Expr} {t : TA} {cl : List (Str × Addr)}
theorem env0_trk {pins : List (Addr × Obj)} {σ : L2.St} {H : Hp} {s : Shared} (I : Inv X pins σ H s) (C : CellsAt cl fr (js.map (slotAt σ)) s.heap H) (cp : Caps X cl fr js) (aw : Away X cl) : Env0 X.prog X.w X.K X.mg X.base X.A X.stack s (trk cl s.heap H) := by
  have e0 := I.env0
  have no : ∀ b u, H b = some u → ¬ InC cl b := fun b u e ⟨y, hy⟩ => by
    rw [(C.all y b hy).1] at e
    cases e
  refine ⟨e0.frames, e0.mod, fun b o e => ⟨(e0.bs b o e).1, ?_⟩, e0.bsz, e0.funs, fun b hb => ?_, fun b u e => ?_, e0.bare⟩
  · by_cases hc : InC cl b
    · obtain ⟨y, hy⟩ := hc
      rw [(aw y b hy).1] at e
      cases e
    · rw [trk_out hc]
      exact (e0.bs b o e).2
  · by_cases hc : InC cl b
    · obtain ⟨y, hy⟩ := hc
      rcases List.mem_cons.mp (I.stkSub b hb) with z | z
      · exact absurd z (I.cne y b (cp.sub y b hy))
      · exact absurd z (aw y b hy).2
    · rw [trk_out hc]
      exact e0.frf b hb
  · by_cases hc : InC cl b
    · rw [trk_in hc] at e
      obtain ⟨y, hy⟩ := id hc
      obtain ⟨_, v, o, ho, _⟩ := C.all y b hy
      rw [ho] at e
      obtain rfl := Option.some.inj e
      exact ⟨ho, ⟨o, ho⟩, fun h1 h2 e st => st _ e⟩
    · rw [trk_out hc] at e
      exact (I.hok b u e).stay (fun c v _ q => q) (fun c q => by rw [trk_out (no c _ q)]; exact q) fun c xs q => by rw [trk_out (no c _ q)]; exact q
theorem pe_callC (F : FnOk X.prog X.w X.K X.mg X.base CX0 k f fd ps sp) (hr : Room k X.A) (hg : Gl X x) (hm : X.mg x = some (.ref f)) (hk : PySem.W.keepIn X.K (.ref f) = true) (hb : Binds X.K fd ps [])
    (cp : X.Ok → Caps X cl fr js) (aw : X.Ok → Away X cl) (ha : PA X (e :: es) t) (hdb : (x == ("__debug__" : Str)) = false := by decide) (he : starEach (e :: es) X.env = (false, eval e X.env) :: starEach es X.env := by rfl) (hpl : (backTo pos (starEach es X.env)).any (·.1) = false := by rfl) :
    PE X (.Call (.Name x p) (e :: es) [] pos) (tCallC cl fr js sp E t) := by
  refine ⟨fun pins s σ H Q I h => ?_⟩
  refine wpAny_Call_Name_kw (ld_glob I hg hm ?_ hdb)
  refine PySem.W.callWith_K (h₀ := X.base) I.ok.mod.kin hk (thn (ha.run pos pins s σ H _ I h) fun us s1 ⟨vs, H1, I1, r, q⟩ => ⟨I1.kIn, ?_⟩) he hpl
  have C := cells_of I1 (cp I1.ok)
  have q1 := q (trk cl s1.heap H1) (fun b ⟨y, hy⟩ => (C.all y b hy).1) (fun b hb => trk_out hb) (told_of C)
  have hl := F.len _ _ _ _ q1
  refine wpAny_call (codeAny_mono (F.run X.A X.stack s1 (trk cl s1.heap H1) ⟨us, []⟩ us vs _ E hr (env0_trk I1 C (cp I1.ok) (aw I1.ok)) ?_ r q1) fun r s' hq => ?_)
  · have b1 := hb s1 us I1.kIn (by rw [List.append_nil, ← r.length, hl])
    rw [List.append_nil] at b1
    exact b1
  · cases r with
    | error e => exact (show False from hq).elim
    | ok fl =>
      cases fl with
      | ret u => exact I1.after (ce_unt (fun y c hy => by
          obtain ⟨h1, v, o, ho, _⟩ := C.all y c hy
          exact ⟨h1, o, ho⟩) hq)
      | next => exact False.elim hq
      | brk => exact False.elim hq
      | cont => exact False.elim hq
end
/-! ### a call of a name that holds the lambda -/
/-- the promise of a lambda, whatever it captured -/
structure CloOk (P : Program) (w : World) (K : PySem.W.Frag) (mg : Str → Option Value) (base : Heap) (k : Nat) (mk : List (Str × Addr) → Addr → NF) (body : Expr) (ps fr : List Str) (sp : List (Option V) → Sp) : Prop where
  run : ∀ (A : Around) (outer : List Env) (s : Shared) (H : Hp) (us : List Value) (vs : List V) (ws : List (Option V)) (f c' : Addr) (cl : List (Str × Addr)) (Q : VK) (E : XK), Room k A → Env0 P w K mg base A outer s H → H f = some (LamO f (mk cl c') body) → H c' = some (CodeO c' (mk cl c').qual) → Told cl fr ws H →
    Vals vs us → vs.length = ps.length → sp ws vs (unt cl H) (fun v H' => (∀ b, InC cl b → H' b = none) → Q v (ret cl H H')) E → codeAny (model P w) A (.call (.ref f) ⟨us, []⟩) (CR CX0 outer P w H s Q E) s
section
variable {w : World} {P : Program} {K : PySem.W.Frag} {mg : Str → Option Value} {base : Heap} {N ps fr : List Str} {mk : List (Str × Addr) → Addr → NF} {body : Expr} {k : Nat} {sp : List (Option V) → Sp} {scope : Scope}
theorem clo_of (hsc : ∀ cl c', (mk cl c').scope = scope) (hcl : ∀ cl c', (mk cl c').cl = cl) (hcc : ∀ cl c', (mk cl c').c = c') (S : NScope N ps fr scope) (hb : ∀ (cl : List (Str × Addr)) (c' : Addr) (pm ctv : Value) (us : List Value), us.length = ps.length → bindArgs (PySem.W.kla_fn "<lambda>" (mk cl c').qual (mk cl c').params body (mk cl c').scope (mk cl c').cl pm (.ref (mk cl c').c) ctv) ⟨us, []⟩ = pure (ps.zip us))
    (hbody : ∀ (A : Around) (outer : List Env) (s : Shared) (H : Hp) (vs : List V) (ws : List (Option V)) (f c' : Addr) (cl : List (Str × Addr)) (Q : VK) (E : XK), Room k (A.deeper (envF (mk cl c') f s.heap.objs.size)) → (∀ y c, cl.lookup y = some c → base.get? c = none ∧ c ∉ frs outer) → ws.length = fr.length → vs.length = ps.length → sp ws vs H Q E →
      ∃ t, PE (ncx CX0 P w K mg base N (mk cl c') f A outer s H E) body t ∧ t (startF N vs ws) H Q) :
    CloOk P w K mg base (k + 1) mk body ps fr sp := by
  refine ⟨fun A outer s H us vs ws f c' cl Q E hr e0 hf hc t r hl hsp => ?_⟩
  have lim : s.heap.NoLimit := e0.mod.nolimit.keeps fun b o e => (e0.bs b o e).1
  obtain ⟨pm, ctv, ho⟩ := lamO_at e0.hok hf
  have C0 := t.cells e0.hok
  have out : ∀ y c, cl.lookup y = some c → base.get? c = none ∧ c ∉ frs outer := fun y c hy => by
    obtain ⟨o, v, h1, _⟩ := t.all y c hy
    refine ⟨?_, fun z => ?_⟩
    · cases q : base.get? c with
      | none => rfl
      | some ob =>
        rw [(e0.bs c ob q).2] at h1
        cases h1
    · rw [e0.frf c z] at h1
      cases h1
  have e1 : Env0 P w K mg base A outer s (unt cl H) := by
    have unn : ∀ b, H b = none → unt cl H b = none := fun b e => by
      by_cases hi : InC cl b
      · exact unt_in hi
      · rw [unt_out hi]
        exact e
    refine ⟨e0.frames, e0.mod, fun b o e => ⟨(e0.bs b o e).1, unn b (e0.bs b o e).2⟩, e0.bsz, e0.funs, fun b hb => unn b (e0.frf b hb), fun b u e => ?_, e0.bare⟩
    by_cases hi : InC cl b
    · rw [unt_in hi] at e
      cases e
    · rw [unt_out hi] at e
      have keep : ∀ {d : Addr} {x : HO}, H d = some x → (∀ o, x ≠ CelO d o) → unt cl H d = some x := fun {d x} hd hx => by
        by_cases hi : InC cl d
        · obtain ⟨y, hy⟩ := hi
          obtain ⟨o, _, h2, _⟩ := t.all y d hy
          rw [hd] at h2
          exact absurd (Option.some.inj h2) (hx o)
        · rw [unt_out hi]
          exact hd
      exact (e0.hok b u e).stay (fun c v _ q => q) (fun c q => keep q fun o z => celO_ne_own z.symm) fun c xs q => keep q fun o z => celO_ne_tup xs z.symm
  have C : CellsAt (mk cl c').cl fr ws s.heap (unt cl H) := by rw [hcl]; exact C0
  have S' : NScope N ps fr (mk cl c').scope := by rw [hsc]; exact S
  have rc : codeAny (model P w) A (.call (.ref f) ⟨us, []⟩) (CR CX0 outer P w (unt cl H) s (fun v H' => (∀ b, InC cl b → H' b = none) → Q v (ret cl H H')) E) s := by
    refine PySem.W.kla_callFunE hr.depth ho rfl S'.co S'.gen rfl (codeO_at e0.hok (by rw [hcc]; exact hc)) ?_
    rw [hb cl c' pm ctv us (by rw [← r.length]; exact hl)]
    refine wpAny_pure (wpAny_newFunctionEnv S'.nocell (fun ⟨n, _⟩ hy => S'.par n (List.of_mem_zip hy).1) (fun h₁ hns hsb => ⟨lim.fresh _ hsb, ?_⟩) S'.kind)
    show codeAny _ _ (.expr body (envF (mk cl c') f s.heap.objs.size)) _ _
    have kp : ∀ b o, s.heap.get? b = some o → h₁.get? b = some o := fun b o e => hsb.extBut b o (Nat.ne_of_lt (Heap.lt_size e)) (Heap.get?_push_of_some _ e)
    obtain ⟨tt, ht, hq⟩ := hbody A outer s (unt cl H) vs ws f c' cl _ E (hr.deeper _) out t.len hl hsp
    have I : Inv (ncx CX0 P w K mg base N (mk cl c') f A outer s (unt cl H) E) [] (startF N vs ws) (unt cl H) { s with heap := h₁, toks := s.toks + (ps.zip us).length } := inv_startN S' hr.hd e1 hl r C hns kp
    refine PySem.W.kla_codeExpr (wpAny_mono (ht.run [] _ (startF N vs ws) _ _ I hq) (fun v s' hs => ?_) fun e s' hs => hs)
    obtain ⟨w', H', J, rv, q⟩ := hs
    exact ⟨w', H', J.os, J.bare, J.base, J.hok, rv, q⟩
  refine codeAny_mono rc fun r s' hq => ?_
  cases r with
  | error e => exact hq
  | ok fl =>
    cases fl with
    | ret u => exact ce_ret e0.hok (fun y c hy => ⟨(out y c hy).2, by
        obtain ⟨o, _, h1, _⟩ := t.all y c hy
        exact ⟨o, h1⟩⟩) hq
    | next => exact hq
    | brk => exact hq
    | cont => exact hq
theorem CloOk.mono {j : Nat} (o : CloOk P w K mg base j mk body ps fr sp) (h : j ≤ k) : CloOk P w K mg base k mk body ps fr sp := ⟨fun A outer s H us vs ws f c' cl Q E hr => o.run A outer s H us vs ws f c' cl Q E (hr.mono h)⟩
end
def tCallX (mk : List (Str × Addr) → Addr → NF) (body : Expr) (n : Nat) (fr : List Str) (i : Nat) (sp : List (Option V) → Sp) (E : XK) (t : TA) : TE := fun σ H Q => ∃ f, σ[i]? = some (some (.ref f)) ∧ (∃ F, H f = some (LamO f F body)) ∧
  t σ H fun vs H1 => ∃ cl c' ws, H1 f = some (LamO f (mk cl c') body) ∧ H1 c' = some (CodeO c' (mk cl c').qual) ∧ Told cl fr ws H1 ∧ vs.length = n ∧ sp ws vs (unt cl H1) (fun v H' => (∀ b, InC cl b → H' b = none) → Q v (ret cl H1 H')) E
section
variable {X : Cx} {k i : Nat} {ps fr : List Str} {sp : List (Option V) → Sp} {E : XK} {x : Str} {p pos : Pos} {e : Expr} {es : List Expr} {t : TA} {mk : List (Str × Addr) → Addr → NF} {body : Expr}
theorem pe_callX (Fn : CloOk X.prog X.w X.K X.mg X.base k mk body ps fr sp) (hr : Room k X.A) (hN : X.N[i]? = some x) (hv : Vis X.env.scope x) (ha : PA X (e :: es) t)
    (hd : (x == ("__debug__" : Str)) = false := by decide) (hcd : (x == ("__classdict__" : Str)) = false := by decide)
    (he : starEach (e :: es) X.env = (false, eval e X.env) :: starEach es X.env := by rfl) (hpl : (backTo pos (starEach es X.env)).any (·.1) = false := by rfl) :
    PE X (.Call (.Name x p) (e :: es) [] pos) (tCallX mk body ps.length fr i sp E t) := by
  refine ⟨fun pins s σ H Q I h => ?_⟩
  obtain ⟨f, hs, ⟨F0, hf0⟩, ht⟩ := h
  refine wpAny_Call_Name_kw (thn ((pe_var (pos := p) hN hv hd hcd).run pins s σ H (fun v H1 => v = .ref f ∧ H1 = H) I ⟨.ref f, hs, rfl, rfl⟩) fun u s1 ⟨v, H1, I1, r1, q1⟩ => ?_)
  obtain ⟨ev, eH⟩ := q1
  subst ev
  rw [eH] at I1
  obtain rfl : u = Value.ref f := r1
  have fa : ∀ {H2 : Hp} {s2 : Shared} {F : NF}, Inv X pins σ H2 s2 → H2 f = some (LamO f F body) → PySem.W.FnAt f s2.heap := fun {H2 s2 F} J e => by
    obtain ⟨pm, ctv, ho⟩ := lamO_at J.hok e
    exact ⟨_, _, _, _, ho⟩
  refine PySem.W.callWith_F (first := []) (fa I1 hf0) (thn (ha.run pos pins s1 σ H _ I1 ht) fun us s2 ⟨vs, H2, I2, r, cl, c', ws, h1, h2, h3, hl, q⟩ => ⟨fa I2 h1, ?_⟩) he hpl
  show wpAny _ _ (call (.ref f) us) _ _ _
  refine wpAny_call (codeAny_mono (Fn.run X.A X.stack s2 H2 us vs ws f c' cl Q E hr I2.env0 h1 h2 h3 r hl q) fun r s' hq => ?_)
  cases r with
  | error e => exact (show False from hq).elim
  | ok fl =>
    cases fl with
    | ret u => exact I2.after hq
    | next => exact False.elim hq
    | brk => exact False.elim hq
    | cont => exact False.elim hq
end
/-! ### what is kept -/
theorem unt_keep {cl : List (Str × Addr)} {fr : List Str} {ws : List (Option V)} {H : Hp} (t : Told cl fr ws H) {b : Addr} {x : HO} (e : H b = some x) (hx : ∀ φ, x ≠ .ext φ) : unt cl H b = some x := by
  by_cases hi : InC cl b
  · obtain ⟨y, hy⟩ := hi
    obtain ⟨o, _, h2, _⟩ := t.all y b hy
    rw [e] at h2
    exact absurd (Option.some.inj h2) (hx _)
  · rw [unt_out hi]
    exact e
theorem ret_same {cl : List (Str × Addr)} {H H' : Hp} (e : Same (unt cl H) H') : Same H (ret cl H H') := fun b x q => by
  by_cases hi : InC cl b
  · rw [ret_in hi]
    exact q
  · rw [ret_out hi]
    exact e b x (by rw [unt_out hi]; exact q)
theorem unt_same {cl : List (Str × Addr)} {H1 H2 H3 : Hp} (hn : ∀ b, InC cl b → H1 b = none) (he : ∀ b, ¬ InC cl b → H2 b = H1 b) (e : Same H2 H3) : Same H1 (unt cl H3) := fun b x q => by
  by_cases hi : InC cl b
  · rw [hn b hi] at q
    cases q
  · rw [unt_out hi]
    exact e b x (by rw [he b hi]; exact q)
end Closures

class TabsB (mg : Str → Option Value) (base : Heap) (c P : Addr) : Prop where e : LamX.TabB base mg c P
theorem Fun.okC {P : Program} {w : World} {K : PySem.W.Frag} {mg : Str → Option Value} {base : Heap} {x qual : Str} {st : Stmt} {f : Addr} {fd : FuncData} {N ps : List Str} {k : Nat} {sp : Sp} (F : L2.Fun K x qual st f fd) (S : FnScope N ps (defScope st)) (len : ∀ vs H Q E, sp vs H Q E → vs.length = ps.length)
    (hbody : ∀ (cdv : Value) (A : Around) (outer : List Env) (s : Shared) (H : Hp) (vs : List V) (Q : VK) (E : XK), fd.code = cdv → Room k (A.deeper (envOfC qual (defScope st) s.heap.objs.size f cdv)) → sp vs H Q E →
      ∃ t, PSs (cxOf CX0 P w K mg base N qual (defScope st) f cdv A outer s H E).nox (defBody st) t ∧ t { nx := fun _ H' => Q .non H', rt := Q } (start N vs) H) : FnOk P w K mg base CX0 (k + 1) f fd ps sp := by
  obtain ⟨oc, od, kV, doc, pm, an, cdv, ct, osl, rfl, lk, hcd⟩ := F.ex
  refine fn_of lk hcd S len fun A outer s H vs Q E hr hsp => ?_
  obtain ⟨t, h, q⟩ := hbody cdv A outer s H vs Q E rfl hr hsp
  exact ⟨t, h.nox, q⟩

/-! ### what the top has left -/
structure Txt (K : PySem.W.Frag) (mg : Str → Option Value) where
  afits : Addr
  dfits : FuncData
  Ffits : Fun K "fits" "fits" sfits afits dfits
  gfits : mg "fits" = some (.ref afits)
  bfits : Binds K dfits Pfits []
  aarray : Addr
  darray : FuncData
  Farray : Fun K "array" "array" sarray aarray darray
  garray : mg "array" = some (.ref aarray)
  barray : Binds K darray Parray []
  aheight : Addr
  dheight : FuncData
  Fheight : Fun K "height" "height" sheight aheight dheight
  gheight : mg "height" = some (.ref aheight)
  bheight : Binds K dheight Pheight []
  awidth : Addr
  dwidth : FuncData
  Fwidth : Fun K "width" "width" swidth awidth dwidth
  gwidth : mg "width" = some (.ref awidth)
  bwidth : Binds K dwidth Pwidth []
  amember : Addr
  dmember : FuncData
  Fmember : Fun K "member" "member" smember amember dmember
  gmember : mg "member" = some (.ref amember)
  bmember : Binds K dmember Pmember []
  asize_of : Addr
  dsize_of : FuncData
  Fsize_of : Fun K "size_of" "size_of" ssize_of asize_of dsize_of
  gsize_of : mg "size_of" = some (.ref asize_of)
  bsize_of : Binds K dsize_of Psize_of []
  arepeated : Addr
  drepeated : FuncData
  Frepeated : Fun K "repeated" "repeated" srepeated arepeated drepeated
  grepeated : mg "repeated" = some (.ref arepeated)
  brepeated : Binds K drepeated Prepeated []
  atogether : Addr
  dtogether : FuncData
  Ftogether : Fun K "together" "together" stogether atogether dtogether
  gtogether : mg "together" = some (.ref atogether)
  btogether : Binds K dtogether Ptogether []
  afirst_error : Addr
  dfirst_error : FuncData
  Ffirst_error : Fun K "first_error" "first_error" sfirst_error afirst_error dfirst_error
  gfirst_error : mg "first_error" = some (.ref afirst_error)
  bfirst_error : Binds K dfirst_error Pfirst_error []
  abroadcast : Addr
  dbroadcast : FuncData
  Fbroadcast : Fun K "broadcast" "broadcast" sbroadcast abroadcast dbroadcast
  gbroadcast : mg "broadcast" = some (.ref abroadcast)
  bbroadcast : Binds K dbroadcast Pbroadcast []
  a_law_mixed : Addr
  d_law_mixed : FuncData
  F_law_mixed : Fun K "_law_mixed" "_law_mixed" s_law_mixed a_law_mixed d_law_mixed
  g_law_mixed : mg "_law_mixed" = some (.ref a_law_mixed)
  b_law_mixed : Binds K d_law_mixed P_law_mixed []
  a_law_start : Addr
  d_law_start : FuncData
  F_law_start : Fun K "_law_start" "_law_start" s_law_start a_law_start d_law_start
  g_law_start : mg "_law_start" = some (.ref a_law_start)
  b_law_start : Binds K d_law_start P_law_start []
  a_law_take : Addr
  d_law_take : FuncData
  F_law_take : Fun K "_law_take" "_law_take" s_law_take a_law_take d_law_take
  g_law_take : mg "_law_take" = some (.ref a_law_take)
  b_law_take : Binds K d_law_take P_law_take []
  a_law_same : Addr
  d_law_same : FuncData
  F_law_same : Fun K "_law_same" "_law_same" s_law_same a_law_same d_law_same
  g_law_same : mg "_law_same" = some (.ref a_law_same)
  b_law_same : Binds K d_law_same P_law_same []
  a_law_amount : Addr
  d_law_amount : FuncData
  F_law_amount : Fun K "_law_amount" "_law_amount" s_law_amount a_law_amount d_law_amount
  g_law_amount : mg "_law_amount" = some (.ref a_law_amount)
  b_law_amount : Binds K d_law_amount P_law_amount []
  a_law_signs : Addr
  d_law_signs : FuncData
  F_law_signs : Fun K "_law_signs" "_law_signs" s_law_signs a_law_signs d_law_signs
  g_law_signs : mg "_law_signs" = some (.ref a_law_signs)
  b_law_signs : Binds K d_law_signs P_law_signs []
  a_law_scalar : Addr
  d_law_scalar : FuncData
  F_law_scalar : Fun K "_law_scalar" "_law_scalar" s_law_scalar a_law_scalar d_law_scalar
  g_law_scalar : mg "_law_scalar" = some (.ref a_law_scalar)
  b_law_scalar : Binds K d_law_scalar P_law_scalar []
  a_law_members : Addr
  d_law_members : FuncData
  F_law_members : Fun K "_law_members" "_law_members" s_law_members a_law_members d_law_members
  g_law_members : mg "_law_members" = some (.ref a_law_members)
  b_law_members : Binds K d_law_members P_law_members []
  a_law_lines : Addr
  d_law_lines : FuncData
  F_law_lines : Fun K "_law_lines" "_law_lines" s_law_lines a_law_lines d_law_lines
  g_law_lines : mg "_law_lines" = some (.ref a_law_lines)
  b_law_lines : Binds K d_law_lines P_law_lines []
  a_law_value : Addr
  d_law_value : FuncData
  F_law_value : Fun K "_law_value" "_law_value" s_law_value a_law_value d_law_value
  g_law_value : mg "_law_value" = some (.ref a_law_value)
  b_law_value : Binds K d_law_value P_law_value []
  a_law_told : Addr
  d_law_told : FuncData
  F_law_told : Fun K "_law_told" "_law_told" s_law_told a_law_told d_law_told
  g_law_told : mg "_law_told" = some (.ref a_law_told)
  b_law_told : Binds K d_law_told P_law_told []
  a_law_both : Addr
  d_law_both : FuncData
  F_law_both : Fun K "_law_both" "_law_both" s_law_both a_law_both d_law_both
  g_law_both : mg "_law_both" = some (.ref a_law_both)
  b_law_both : Binds K d_law_both P_law_both []
  a_law_left : Addr
  d_law_left : FuncData
  F_law_left : Fun K "_law_left" "_law_left" s_law_left a_law_left d_law_left
  g_law_left : mg "_law_left" = some (.ref a_law_left)
  b_law_left : Binds K d_law_left P_law_left []
  a_law_right : Addr
  d_law_right : FuncData
  F_law_right : Fun K "_law_right" "_law_right" s_law_right a_law_right d_law_right
  g_law_right : mg "_law_right" = some (.ref a_law_right)
  b_law_right : Binds K d_law_right P_law_right []
  a_law_alike : Addr
  d_law_alike : FuncData
  F_law_alike : Fun K "_law_alike" "_law_alike" s_law_alike a_law_alike d_law_alike
  g_law_alike : mg "_law_alike" = some (.ref a_law_alike)
  b_law_alike : Binds K d_law_alike P_law_alike []
  a_law_odd : Addr
  d_law_odd : FuncData
  F_law_odd : Fun K "_law_odd" "_law_odd" s_law_odd a_law_odd d_law_odd
  g_law_odd : mg "_law_odd" = some (.ref a_law_odd)
  b_law_odd : Binds K d_law_odd P_law_odd []
  a_law_deed : Addr
  d_law_deed : FuncData
  F_law_deed : Fun K "_law_deed" "_law_deed" s_law_deed a_law_deed d_law_deed
  g_law_deed : mg "_law_deed" = some (.ref a_law_deed)
  b_law_deed : Binds K d_law_deed P_law_deed []
  a_law_asked : Addr
  d_law_asked : FuncData
  F_law_asked : Fun K "_law_asked" "_law_asked" s_law_asked a_law_asked d_law_asked
  g_law_asked : mg "_law_asked" = some (.ref a_law_asked)
  b_law_asked : Binds K d_law_asked P_law_asked []
  a_law_member : Addr
  d_law_member : FuncData
  F_law_member : Fun K "_law_member" "_law_member" s_law_member a_law_member d_law_member
  g_law_member : mg "_law_member" = some (.ref a_law_member)
  b_law_member : Binds K d_law_member P_law_member []
  a_law_lengths : Addr
  d_law_lengths : FuncData
  F_law_lengths : Fun K "_law_lengths" "_law_lengths" s_law_lengths a_law_lengths d_law_lengths
  g_law_lengths : mg "_law_lengths" = some (.ref a_law_lengths)
  b_law_lengths : Binds K d_law_lengths P_law_lengths []
  a_law_due : Addr
  d_law_due : FuncData
  F_law_due : Fun K "_law_due" "_law_due" s_law_due a_law_due d_law_due
  g_law_due : mg "_law_due" = some (.ref a_law_due)
  b_law_due : Binds K d_law_due P_law_due []
  alaw : Addr
  dlaw : FuncData
  Flaw : Fun K "law" "law" slaw alaw dlaw
  glaw : mg "law" = some (.ref alaw)
  blaw : Binds K dlaw Plaw []
  t_MOST_MEMBERS : Tok
  m_MOST_MEMBERS : mg "MOST_MEMBERS" = some (.int 64 t_MOST_MEMBERS)
  t_MOST_ROWS : Tok
  m_MOST_ROWS : mg "MOST_ROWS" = some (.int 20 t_MOST_ROWS)
  t_MOST_COLUMNS : Tok
  m_MOST_COLUMNS : mg "MOST_COLUMNS" = some (.int 20 t_MOST_COLUMNS)
  o_NOT_THERE : Addr
  m_NOT_THERE : mg "NOT_THERE" = some (.ref o_NOT_THERE)
  q_NOT_THERE : ∀ H, SqT K H o_NOT_THERE [.str "error", .str "NA"]
  z_abs : mg "abs" = none
  z_bool : mg "bool" = none
  z_int : mg "int" = none
  z_isinstance : mg "isinstance" = none
  z_len : mg "len" = none
  z_list : mg "list" = none
  z_max : mg "max" = none
  z_min : mg "min" = none
  z_range : mg "range" = none
  z_str : mg "str" = none
  z_tuple : mg "tuple" = none
  cT : Addr
  pT : Addr
  hc : dbroadcast.code = .ref cT
/-! ### the mathematics -/

theorem atI_some {α : Type} {xs : List α} {i : Int} (h0 : 0 ≤ i) (h1 : i < (xs.length : Int)) : ∃ v, v ∈ xs ∧ atI xs i = some v := by
  obtain ⟨n, rfl⟩ := Int.eq_ofNat_of_zero_le h0
  have h2 : n < xs.length := by omega
  exact ⟨xs[n], List.getElem_mem h2, atI_nat (List.getElem?_eq_getElem h2)⟩
theorem atI_at {α : Type} {xs : List α} {i : Int} {n : Nat} (e : i = (n : Int)) {v : α} (h : xs[n]? = some v) : atI xs i = some v := by
  rw [e]
  exact atI_nat h
theorem sqT_ty {K : PySem.W.Frag} {H : Hp} {p : Addr} {xs : List V} (h : SqT K H p xs) : TyX K H (.ref p) (.type "tuple") := by
  rcases h with (h | ⟨o, h⟩) | ⟨o, its, n, e, c, _⟩
  · exact .base (.tup h)
  · exact .fTuple h
  · exact .kTuple e c
theorem sqL_ty {K : PySem.W.Frag} {H : Hp} {p : Addr} {xs : List V} (h : SqL K H p xs) : TyX K H (.ref p) (.type "list") := by
  rcases h with (h | ⟨o, h⟩) | ⟨o, its, n, e, c, _⟩
  · exact .base (.lst h)
  · exact .base (.frz h)
  · exact .kList e c
/-- isinstance: flat values, tuples, lists -/
theorem call_isiR {X : Cx} : CallR X (.builtin "isinstance") (fun xs H Q => (∃ x n b, xs = [x, .ty n] ∧ isiV x n = some b ∧ Q (.bl b) H) ∨ (∃ p ys n b, xs = [.ref p, .ty n] ∧ SqT X.K H p ys ∧ kitB "tuple" n = some b ∧ Q (.bl b) H) ∨ ∃ p ys n b, xs = [.ref p, .ty n] ∧ SqL X.K H p ys ∧ kitB "list" n = some b ∧ Q (.bl b) H) := by
  intro pins s σ H xs us Q I r h
  rcases h with h | ⟨p, ys, n, b, rfl, hp, e, q⟩ | ⟨p, ys, n, b, rfl, hp, e, q⟩
  · exact call_isiV pins s σ H xs us Q I r h
  · exact call_isi pins s σ H _ us Q I r ⟨_, _, .type "tuple", _, _, rfl, .ty _, sqT_ty hp, kit_ty e, q⟩
  · exact call_isi pins s σ H _ us Q I r ⟨_, _, .type "list", _, _, rfl, .ty _, sqL_ty hp, kit_ty e, q⟩
theorem iteSN {x y : Str} {A B : Prop} (h : x ≠ y) (b : B) : if decide (V.str x = V.str y) = true then A else B := by
  rw [if_neg (fun z => h (V.str.inj (of_decide_eq_true z)))]
  exact b
theorem iteSNn {x y : Str} {A B : Prop} (h : x ≠ y) (a : A) : if (!decide (V.str x = V.str y)) = true then A else B := by
  rw [decide_eq_false (fun z => h (V.str.inj z))]
  exact iteT a
theorem iteSSn {x : Str} {A B : Prop} (b : B) : if (!decide (V.str x = V.str x)) = true then A else B := by
  rw [decide_eq_true rfl]
  exact iteF b
/-- a flat value -/
def Flat3 (x : V) : Prop := (∃ i, x = .int i) ∨ (∃ s, x = .str s) ∨ ∃ b, x = .bl b
/-- the tuples stand as they were -/
def TK (K : PySem.W.Frag) (H H' : Hp) : Prop := ∀ p xs, SqT K H p xs → SqT K H' p xs
theorem TK.refl {K : PySem.W.Frag} {H : Hp} : TK K H H := fun _ _ h => h
theorem TK.trans {K : PySem.W.Frag} {H H1 H2 : Hp} (a : TK K H H1) (b : TK K H1 H2) : TK K H H2 := fun p xs h => b p xs (a p xs h)
theorem same_tk {K : PySem.W.Frag} {H H' : Hp} (e : Same H H') : TK K H H' := by
  intro p xs h
  rcases h with (h | ⟨o, h⟩) | h
  · exact .inl (.inl (e _ _ h))
  · exact .inl (.inr ⟨o, e _ _ h⟩)
  · exact .inr h
theorem but_tk {K : PySem.W.Frag} {H H' : Hp} {b : Addr} {ys : List V} (h : H b = some (.lst ys)) (e : ∀ a o, a ≠ b → H a = some o → H' a = some o) : TK K H H' := by
  intro p xs q
  rcases q with (q | ⟨o, q⟩) | q
  · exact .inl (.inl (e _ _ (ne_of q h (fun z => nomatch z)) q))
  · exact .inl (.inr ⟨o, e _ _ (ne_of q h (fun z => nomatch z)) q⟩)
  · exact .inr q
theorem upd_but {H : Hp} {b : Addr} {u : HO} : ∀ a o, a ≠ b → H a = some o → upd H b u a = some o := fun a o n e => by
  rw [upd_ne n]
  exact e
theorem lst_tk {K : PySem.W.Frag} {H : Hp} {b : Addr} {ys zs : List V} (h : H b = some (.lst ys)) : TK K H (upd H b (.lst zs)) := but_tk h upd_but
theorem same_put {H H' : Hp} {D : Addr} {o : HO} (e : Same H H') (h : H D = none) : Same H (upd H' D o) := fun a x q => by
  rw [upd_ne (ne_of_none q h)]
  exact e _ _ q
/-- likeness, so deep -/
def Al (K : PySem.W.Frag) : Nat → Hp → V → V → Prop
  | 0, _, _, _ => False
  | n + 1, H, x, y => (Flat3 x ∧ x = y) ∨ ∃ (p q : Addr) (xs ys : List V), x = .ref p ∧ y = .ref q ∧ SqT K H p xs ∧ SqT K H q ys ∧ (xs.length = ys.length ∧ ys.length ≤ 5000) ∧ ∀ (k : Nat) (a b : V), xs[k]? = some a → ys[k]? = some b → Al K n H a b
theorem Al.flat {K : PySem.W.Frag} {n : Nat} {H : Hp} {x : V} (h : Flat3 x) : Al K (n + 1) H x x := Or.inl ⟨h, rfl⟩
theorem Al.tup {K : PySem.W.Frag} {n : Nat} {H : Hp} {p q : Addr} {xs : List V} (hl : xs.length ≤ 5000) (hp : SqT K H p xs) (hq : SqT K H q xs) (h : ∀ x ∈ xs, Al K n H x x) : Al K (n + 1) H (.ref p) (.ref q) :=
  Or.inr ⟨p, q, xs, xs, rfl, rfl, hp, hq, ⟨rfl, hl⟩, fun k a b e1 e2 => by
    obtain rfl := Option.some.inj (e1.symm.trans e2)
    exact h _ (List.mem_of_getElem? e1)⟩
/-- a scalar -/
def Sca (K : PySem.W.Frag) (H : Hp) (x : V) : Prop := ∃ p k rest, x = .ref p ∧ SqT K H p (.str k :: rest) ∧ k ≠ ("array" : Str) ∧ rest.length ≤ 20 ∧ ∀ y ∈ rest, Flat3 y
theorem Sca.keep {K : PySem.W.Frag} {H H' : Hp} {x : V} (e : TK K H H') (h : Sca K H x) : Sca K H' x := by
  obtain ⟨p, k, rest, rfl, a, b, c⟩ := h
  exact ⟨p, k, rest, rfl, e _ _ a, b, c⟩
theorem Sca.al {K : PySem.W.Frag} {H : Hp} {x : V} (n : Nat) (h : Sca K H x) : Al K (n + 2) H x x := by
  obtain ⟨p, k, rest, rfl, a, b, l, c⟩ := h
  refine Al.tup (by rw [List.length_cons]; omega) a a fun y hy => Al.flat ?_
  rcases List.mem_cons.mp hy with rfl | hy
  · exact Or.inr (Or.inl ⟨_, rfl⟩)
  · exact c y hy
theorem sca1 {K : PySem.W.Frag} {H : Hp} {p : Addr} {k : Str} (h : k ≠ ("array" : Str)) : Sca K (upd H p (.tup [.str k])) (.ref p) := ⟨p, k, [], rfl, SqT.of upd_same, h, by decide, fun y hy => by cases hy⟩
theorem sca2 {K : PySem.W.Frag} {H : Hp} {p : Addr} {k : Str} {x : V} (h : k ≠ ("array" : Str)) (hx : Flat3 x) : Sca K (upd H p (.tup [.str k, x])) (.ref p) := ⟨p, k, [x], rfl, SqT.of upd_same, h, (show 1 ≤ 20 by decide), fun y hy => by
  rcases List.mem_cons.mp hy with rfl | hy
  · exact hx
  · cases hy⟩
/-- all the signs -/
def SG : Str := (" !\"#$&'()*+,-./0123456789:;<=>?@ABCDEFGHIJKLMNOPQRSTUVWXYZ[\\]^_`" : Str) ++ ("abcdefghijklmnopqrstuvwxyz{|}~" : Str)
theorem sg_len : SG.cps.toList.length = 94 := by decide +kernel
theorem sg_line : SG.length ≤ sizeLine := by decide +kernel
theorem sg_at {n : Int} (h0 : 0 ≤ n) (h1 : n < 94) : ∃ c, atI SG.cps.toList n = some c := by
  obtain ⟨c, _, e⟩ := atI_some (xs := SG.cps.toList) h0 (by rw [sg_len]; exact h1)
  exact ⟨c, e⟩
theorem ones_sum : ∀ (zs : List Str), (∀ z ∈ zs, z.length = 1) → (zs.map (·.length)).sum = zs.length
  | [], _ => rfl
  | z :: zs, h => by
    rw [List.map_cons, List.sum_cons, ones_sum zs (fun y hy => h y (List.mem_cons_of_mem _ hy)), h z (List.mem_cons_self ..), List.length_cons]
    omega
theorem ones_join {zs : List Str} (h : ∀ z ∈ zs, z.length = 1) (hl : zs.length ≤ 1000) : (zs.map (·.length)).sum + zs.length * ("" : Str).length ≤ 16777216 := by
  rw [ones_sum zs h, show ("" : Str).length = 0 from by decide +kernel]
  omega
/-- the box of draws -/
def BoxAt (b : Addr) (H : Hp) : Prop := ∃ c d z : Int, H b = some (.lst [.int c, .int d, .int z])
def Bx (b : Addr) (H H' : Hp) : Prop := (∀ a o, a ≠ b → H a = some o → H' a = some o) ∧ BoxAt b H'
theorem Bx.refl {b : Addr} {H : Hp} (h : BoxAt b H) : Bx b H H := ⟨fun _ _ _ e => e, h⟩
theorem Bx.trans {b : Addr} {H H1 H2 : Hp} (x : Bx b H H1) (y : Bx b H1 H2) : Bx b H H2 := ⟨fun a o n e => y.1 a o n (x.1 a o n e), y.2⟩
theorem Bx.bat {b : Addr} {H H1 : Hp} (x : Bx b H H1) : BoxAt b H1 := x.2
theorem BoxAt.ne {b p : Addr} {H : Hp} (x : BoxAt b H) (h : H p = none) : b ≠ p := by
  obtain ⟨c, d, z, e⟩ := x
  exact ne_of_none e h
theorem BoxAt.new {b p : Addr} {H : Hp} {o : HO} (x : BoxAt b H) (h : H p = none) : BoxAt b (upd H p o) := by
  have n := x.ne h
  obtain ⟨c, d, z, e⟩ := x
  exact ⟨c, d, z, by rw [upd_ne n]; exact e⟩
theorem Bx.same {b : Addr} {H H1 H2 : Hp} (x : Bx b H H1) (y : Same H1 H2) : Bx b H H2 := by
  obtain ⟨x1, c, d, z, e⟩ := x
  exact ⟨fun a o n e => y _ _ (x1 a o n e), c, d, z, y _ _ e⟩
theorem Bx.new {b p : Addr} {H H1 : Hp} {o : HO} (x : Bx b H H1) (h : H1 p = none) : Bx b H (upd H1 p o) := x.same (same_upd h)
theorem Bx.put {b : Addr} {H H1 : Hp} {c d z : Int} (x : Bx b H H1) : Bx b H (upd H1 b (.lst [.int c, .int d, .int z])) := ⟨fun a o n e => by
  rw [upd_ne n]
  exact x.1 a o n e, c, d, z, upd_same⟩
theorem Bx.tk {K : PySem.W.Frag} {b : Addr} {H H1 : Hp} (x : Bx b H H1) (h : BoxAt b H) : TK K H H1 := by
  obtain ⟨c, d, z, e⟩ := h
  exact but_tk e x.1
/-- a new list beside the box, longer by one -/
theorem Bx.more {b D : Addr} {H0 H : Hp} {o : HO} (x : Bx b H0 H) (hD : H0 D = none) (n : b ≠ D) : Bx b H0 (upd H D o) := by
  obtain ⟨x1, c, d, z, e⟩ := x
  refine ⟨fun a o m q => ?_, c, d, z, by rw [upd_ne n]; exact e⟩
  rw [upd_ne (ne_of_none q hD)]
  exact x1 a o m q
theorem Bx.back {b D : Addr} {H0 H : Hp} (x : Bx b H0 H) (h : BoxAt b H0) (hD : H D = none) : H0 D = none ∧ b ≠ D := by
  have n := x.2.ne hD
  refine ⟨?_, n⟩
  cases q : H0 D with
  | none => rfl
  | some o =>
    rw [x.1 D o (Ne.symm n) q] at hD
    cases hD

/-- tuples and flat data alone, so deep -/
def FitD : Nat → PyData → Prop
  | 0, _ => False
  | n + 1, d => (d = .none ∨ (∃ b, d = .bool b) ∨ (∃ i, d = .int i) ∨ ∃ s, d = .str s) ∨ ∃ ds, d = .tuple ds ∧ ds.length ≤ 5000 ∧ ∀ e ∈ ds, FitD n e
theorem dp_get {K : PySem.W.Frag} {H : Hp} : ∀ {xs : List V} {ds : List PyData}, DpAll K H xs ds → xs.length = ds.length ∧ ∀ (k : Nat) (x : V) (d : PyData), xs[k]? = some x → ds[k]? = some d → Dp K H x d
  | [], [], _ => ⟨rfl, fun k x d e _ => by simp at e⟩
  | v :: vs, d :: ds, h => by
    cases h with
    | cons h1 h2 =>
      obtain ⟨e, f⟩ := dp_get h2
      refine ⟨by rw [List.length_cons, List.length_cons, e], fun k x d' ex ed => ?_⟩
      cases k with
      | zero =>
        simp only [List.getElem?_cons_zero, Option.some.injEq] at ex ed
        subst ex
        subst ed
        exact h1
      | succ k =>
        simp only [List.getElem?_cons_succ] at ex ed
        exact f k x d' ex ed
theorem dp_all {K : PySem.W.Frag} {H : Hp} : ∀ {xs : List V} {ds : List PyData}, xs.length = ds.length → (∀ (k : Nat) (x : V) (d : PyData), xs[k]? = some x → ds[k]? = some d → Dp K H x d) → DpAll K H xs ds
  | [], [], _, _ => .nil
  | v :: vs, d :: ds, e, f => .cons (f 0 v d rfl rfl) (dp_all (by simpa using e) fun k x d' ex ed => f (k + 1) x d' (by simpa using ex) (by simpa using ed))
  | [], _ :: _, e, _ => by simp at e
  | _ :: _, [], e, _ => by simp at e
theorem dp_tup_get {K : PySem.W.Frag} {H : Hp} {v : V} {ds : List PyData} (h : Dp K H v (.tuple ds)) : ∃ p xs, v = .ref p ∧ SqT K H p xs ∧ DpAll K H xs ds := by
  cases h with
  | tup a b => exact ⟨_, _, rfl, a, b⟩
/-- two values of the same data, tuples and flat ones alone -/
def Lk (K : PySem.W.Frag) (n : Nat) (H : Hp) (x y : V) : Prop := ∃ d, Dp K H x d ∧ Dp K H y d ∧ FitD n d

def StS (c : Addr) (i0 i1 i2 i3 i5 : Int) : List V := [.int i0, .int i1, .int i2, .int i3, .ref c, .int i5]
def BoxS (K : PySem.W.Frag) (b c : Addr) (ns : List Int) (H : Hp) : Prop := (∃ (i0 i1 i2 i3 i5 : Int), H b = some (.lst (StS c i0 i1 i2 i3 i5)) ∧ 0 ≤ i0 ∧ 0 ≤ i1) ∧ SqL K H c (ns.map V.int) ∧ ns.length ≤ 63
def Bs (K : PySem.W.Frag) (b c : Addr) (ns : List Int) (H H' : Hp) : Prop := (∀ a o, a ≠ b → H a = some o → H' a = some o) ∧ BoxS K b c ns H'
theorem stS_ne {b c d : Addr} {i0 i1 i2 i3 i5 : Int} {ns : List Int} {H : Hp} (e : H b = some (.lst (StS d i0 i1 i2 i3 i5))) {a : Addr} (h : H a = some (.lst (ns.map V.int))) : a ≠ b := fun z => by
  rw [z, e] at h
  have h2 : StS d i0 i1 i2 i3 i5 = ns.map V.int := HO.lst.inj (Option.some.inj h)
  have h3 : V.ref d ∈ ns.map V.int := by
    rw [← h2]
    unfold StS
    simp
  obtain ⟨m, _, hm⟩ := List.mem_map.mp h3
  cases hm
theorem but_sqlS {K : PySem.W.Frag} {b d : Addr} {i0 i1 i2 i3 i5 : Int} {ns : List Int} {H H' : Hp} (e : H b = some (.lst (StS d i0 i1 i2 i3 i5))) (k : ∀ a o, a ≠ b → H a = some o → H' a = some o) {a : Addr} (h : SqL K H a (ns.map V.int)) : SqL K H' a (ns.map V.int) := by
  rcases h with (h | ⟨o, h⟩) | h
  · exact .inl (.inl (k _ _ (stS_ne (c := a) e h) h))
  · exact .inl (.inr ⟨o, k _ _ (ne_of h e (fun z => nomatch z)) h⟩)
  · exact .inr h
section
variable {K : PySem.W.Frag} {b c : Addr} {ns : List Int} {H H0 H1 H2 : Hp}
theorem Bs.refl (h : BoxS K b c ns H) : Bs K b c ns H H := ⟨fun _ _ _ e => e, h⟩
theorem Bs.trans (x : Bs K b c ns H H1) (y : Bs K b c ns H1 H2) : Bs K b c ns H H2 := ⟨fun a o n e => y.1 a o n (x.1 a o n e), y.2⟩
theorem Bs.bat (x : Bs K b c ns H H1) : BoxS K b c ns H1 := x.2
theorem BoxS.ne {p : Addr} (x : BoxS K b c ns H) (h : H p = none) : b ≠ p := by
  obtain ⟨⟨i0, i1, i2, i3, i5, e, _⟩, _⟩ := x
  exact ne_of_none e h
theorem BoxS.same (x : BoxS K b c ns H) (s : Same H H1) : BoxS K b c ns H1 := by
  obtain ⟨⟨i0, i1, i2, i3, i5, e, h0⟩, h1, h2⟩ := x
  exact ⟨⟨i0, i1, i2, i3, i5, s _ _ e, h0⟩, Same.seq s h1, h2⟩
theorem BoxS.new {p : Addr} {o : HO} (x : BoxS K b c ns H) (h : H p = none) : BoxS K b c ns (upd H p o) := x.same (same_upd h)
theorem Bs.same (x : Bs K b c ns H H1) (y : Same H1 H2) : Bs K b c ns H H2 := ⟨fun a o n e => y _ _ (x.1 a o n e), x.2.same y⟩
theorem Bs.new {p : Addr} {o : HO} (x : Bs K b c ns H H1) (h : H1 p = none) : Bs K b c ns H (upd H1 p o) := x.same (same_upd h)
theorem BoxS.put {i0 i1 i2 i3 i5 j0 j1 j2 j3 j5 : Int} (e : H b = some (.lst (StS c i0 i1 i2 i3 i5))) (x : BoxS K b c ns H) (h5 : 0 ≤ j0) (h6 : 0 ≤ j1) : BoxS K b c ns (upd H b (.lst (StS c j0 j1 j2 j3 j5))) :=
  ⟨⟨j0, j1, j2, j3, j5, upd_same, h5, h6⟩, but_sqlS e upd_but x.2.1, x.2.2⟩
theorem Bs.put {xs : List V} (x : ∀ a o, a ≠ b → H a = some o → H1 a = some o) (y : BoxS K b c ns (upd H1 b (.lst xs))) : Bs K b c ns H (upd H1 b (.lst xs)) := ⟨fun a o n e => by
  rw [upd_ne n]
  exact x a o n e, y⟩
theorem Bs.tk (x : Bs K b c ns H H1) (h : BoxS K b c ns H) : TK K H H1 := by
  obtain ⟨⟨i0, i1, i2, i3, i5, e, _⟩, _⟩ := h
  exact but_tk e x.1
/-- a word that the walk does not open -/
inductive Hd (p : Prop) : Prop where
  | mk (h : p)
  | no (h : False)
theorem Hd.get {p : Prop} : Hd p → p
  | .mk h => h
  | .no h => h.elim
theorem dn {i l : Int} {p : Bool} (h : 0 ≤ i) (k : 0 < l) : 0 ≤ i / l * (if p = true then (1 : Int) else 0) := by
  refine Int.mul_nonneg (Int.ediv_nonneg h (Int.le_of_lt k)) ?_
  split <;> decide
theorem absnn (m : Int) : 0 ≤ (if m < 0 then -m else m) := by split <;> omega
/-- a list of our own beside the box, grown -/
theorem Bs.more {D : Addr} {xs : List V} (x : Bs K b c ns H0 H) (h : BoxS K b c ns H0) (hD : H0 D = none) (n : b ≠ D) : Bs K b c ns H0 (upd H D (.lst xs)) := by
  obtain ⟨x1, ⟨i0, i1, i2, i3, i5, e, h0⟩, h1, h2⟩ := x
  refine ⟨fun a o m q => ?_, ⟨i0, i1, i2, i3, i5, by rw [upd_ne n]; exact e, h0⟩, ?_, h2⟩
  · rw [upd_ne (ne_of_none q hD)]
    exact x1 a o m q
  · rcases h.2.1 with (q | ⟨o, q⟩) | q
    · exact .inl (.inl (by rw [upd_ne (ne_of_none q hD)]; exact x1 c _ (stS_ne (c := c) h.1.choose_spec.choose_spec.choose_spec.choose_spec.choose_spec.1 q) q))
    · exact .inl (.inr ⟨o, by rw [upd_ne (ne_of_none q hD)]; exact x1 c _ (ne_of q h.1.choose_spec.choose_spec.choose_spec.choose_spec.choose_spec.1 (fun z => nomatch z)) q⟩)
    · exact .inr q
theorem Bs.back {D : Addr} (x : Bs K b c ns H0 H) (hD : H D = none) : H0 D = none ∧ b ≠ D := by
  have n := x.2.ne hD
  refine ⟨?_, n⟩
  cases q : H0 D with
  | none => rfl
  | some o =>
    rw [x.1 D o (Ne.symm n) q] at hD
    cases hD
end

theorem joinL_len : ∀ (ls : List (List Nat)), (∀ l ∈ ls, l.length = 1) → (TL.joinL [] ls).length = ls.length
  | [], _ => rfl
  | [x], h => by
    rw [show TL.joinL [] [x] = x from by simp [TL.joinL], h x (List.mem_cons_self ..)]
    rfl
  | x :: y :: ls, h => by
    have e : TL.joinL [] (x :: y :: ls) = x ++ [] ++ TL.joinL [] (y :: ls) := by first | rfl | simp [TL.joinL]
    rw [e, List.append_nil, List.length_append, joinL_len (y :: ls) (fun l hl => h l (List.mem_cons_of_mem _ hl)), h x (List.mem_cons_self ..)]
    simp only [List.length_cons]
    omega
theorem len_join1 {zs : List Str} (h : ∀ z ∈ zs, z.length = 1) : (Txt.join (Str.ofString "") zs).length = zs.length := by
  have e : (Txt.join (Str.ofString "") zs).cps.toList = TL.joinL [] (zs.map fun z => z.cps.toList) := by
    rw [TL.join_eq]
    refine (TL.tl_join _ _).trans ?_
    rw [show TL.tl (Str.ofString "") = [] by decide +kernel]
  have e2 : (Txt.join (Str.ofString "") zs).length = (Txt.join (Str.ofString "") zs).cps.toList.length := by
    rw [Array.length_toList] <;> rfl
  rw [e2, e, joinL_len _ fun l hl => ?_, List.length_map]
  obtain ⟨z, hz, rfl⟩ := List.mem_map.mp hl
  rw [← h z hz, Array.length_toList] <;> rfl
def OkS (z : Str) : Prop := ∀ c ∈ z.cps.toList, c < 1114112
theorem OkS.ok {z : Str} (h : OkS z) : PyData.strOk z = true := by
  unfold PyData.strOk
  rw [← Array.all_toList]
  exact List.all_eq_true.mpr fun c hc => decide_eq_true (h c hc)
theorem mem_joinL : ∀ {ls : List (List Nat)} {c : Nat}, c ∈ TL.joinL [] ls → ∃ l ∈ ls, c ∈ l
  | [], c, h => by cases h
  | [x], c, h => ⟨x, List.mem_cons_self .., by simpa [TL.joinL] using h⟩
  | x :: y :: ls, c, h => by
    have e : TL.joinL [] (x :: y :: ls) = x ++ [] ++ TL.joinL [] (y :: ls) := by first | rfl | simp [TL.joinL]
    rw [e, List.append_nil] at h
    rcases List.mem_append.mp h with h | h
    · exact ⟨x, List.mem_cons_self .., h⟩
    · obtain ⟨l, hl, k⟩ := mem_joinL h
      exact ⟨l, List.mem_cons_of_mem _ hl, k⟩
theorem join_cps (zs : List Str) : (Txt.join (Str.ofString "") zs).cps.toList = TL.joinL [] (zs.map fun z => z.cps.toList) := by
  rw [TL.join_eq]
  refine (TL.tl_join _ _).trans ?_
  rw [show TL.tl (Str.ofString "") = [] by decide +kernel]
theorem OkS.join {zs : List Str} (h : ∀ z ∈ zs, OkS z) : OkS (Txt.join (Str.ofString "") zs) := fun c hc => by
  rw [join_cps] at hc
  obtain ⟨l, hl, k⟩ := mem_joinL hc
  obtain ⟨z, hz, rfl⟩ := List.mem_map.mp hl
  exact h z hz c k
theorem sg_ok {n : Int} {c : Nat} (e : atI SG.cps.toList n = some c) : c < 1114112 := by
  have m : c ∈ SG.cps.toList := by
    obtain ⟨j, _, hj⟩ := Option.bind_eq_some_iff.mp (show ((ixN SG.cps.toList.length n).bind fun j => SG.cps.toList[j]?) = some c from e)
    exact List.mem_of_getElem? hj
  have a : SG.cps.toList.all (· < 1114112) = true := by decide +kernel
  exact of_decide_eq_true (List.all_eq_true.mp a c m)
/-- a scalar by its kind -/
inductive Sc where
  | empty | num (m : Int) | tru (b : Bool) | txt (z : Str) | err (z : Str)
def Sc.vs : Sc → List V
  | .empty => [.str "empty"]
  | .num m => [.str "number", .int m]
  | .tru b => [.str "truth", .bl b]
  | .txt z => [.str "text", .str z]
  | .err z => [.str "error", .str z]
def Sc.ds : Sc → List PyData
  | .empty => [.str "empty"]
  | .num m => [.str "number", .int m]
  | .tru b => [.str "truth", .bool b]
  | .txt z => [.str "text", .str z]
  | .err z => [.str "error", .str z]
def Sc.fit : Sc → Prop
  | .num m => -1000000000000000000000 < m ∧ m < 1000000000000000000000
  | .txt z => z.length ≤ 500 ∧ PyData.strOk z = true
  | .err z => z.length ≤ 500 ∧ PyData.strOk z = true
  | _ => True
def Sc.isE : Sc → Bool
  | .err _ => true
  | _ => false
theorem words_ok (z : Str) (h : z ∈ Txt.split (Str.ofString "DIV VALUE REF NAME NUM NA CALC SIZE LIMIT") (Str.ofString " ")) : z.length ≤ 500 ∧ PyData.strOk z = true := by
  have a : (Txt.split (Str.ofString "DIV VALUE REF NAME NUM NA CALC SIZE LIMIT") (Str.ofString " ")).all (fun z => decide (z.length ≤ 500) && PyData.strOk z) = true := by decide +kernel
  have b := List.all_eq_true.mp a z h
  rw [Bool.and_eq_true, decide_eq_true_eq] at b
  exact b
def Con (K : PySem.W.Frag) (H : Hp) (x : V) (s : Sc) : Prop := ∃ p, x = .ref p ∧ SqT K H p s.vs
theorem Con.keep {K : PySem.W.Frag} {H H' : Hp} {x : V} {s : Sc} (e : TK K H H') (h : Con K H x s) : Con K H' x s := by
  obtain ⟨p, rfl, a⟩ := h
  exact ⟨p, rfl, e _ _ a⟩
theorem Con.sca {K : PySem.W.Frag} {H : Hp} {x : V} {s : Sc} (h : Con K H x s) : Sca K H x := by
  obtain ⟨p, rfl, a⟩ := h
  rcases s with _ | m | b | z | z
  · exact ⟨p, _, [], rfl, a, by decide +kernel, by decide, fun y hy => by cases hy⟩
  all_goals (
    refine ⟨p, _, [_], rfl, a, by decide +kernel, (show 1 ≤ 20 by decide), fun y hy => ?_⟩
    rw [List.mem_singleton.mp hy]
    first | exact Or.inl ⟨_, rfl⟩ | exact Or.inr (Or.inl ⟨_, rfl⟩) | exact Or.inr (Or.inr ⟨_, rfl⟩))
theorem Con.dp {K : PySem.W.Frag} {H : Hp} {x : V} {s : Sc} (h : Con K H x s) : Dp K H x (.tuple s.ds) := by
  obtain ⟨p, rfl, a⟩ := h
  rcases s with _ | m | b | z | z
  · exact .tup a (.cons (.str _) .nil)
  · exact .tup a (.cons (.str _) (.cons (.int _) .nil))
  · exact .tup a (.cons (.str _) (.cons (.bl _) .nil))
  · exact .tup a (.cons (.str _) (.cons (.str _) .nil))
  · exact .tup a (.cons (.str _) (.cons (.str _) .nil))
theorem Sc.fitD (s : Sc) (n : Nat) : FitD (n + 2) (.tuple s.ds) := by
  refine Or.inr ⟨_, rfl, ?_, fun e he => Or.inl ?_⟩
  · rcases s with _ | m | b | z | z
    all_goals exact Nat.le_of_ble_eq_true rfl
  · rcases s with _ | m | b | z | z
    all_goals simp only [Sc.ds, List.mem_cons, List.not_mem_nil, or_false] at he
    · exact Or.inr (Or.inr (Or.inr ⟨_, he⟩))
    all_goals rcases he with he | he
    all_goals first
      | exact Or.inr (Or.inr (Or.inr ⟨_, he⟩))
      | exact Or.inr (Or.inr (Or.inl ⟨_, he⟩))
      | exact Or.inr (Or.inl ⟨_, he⟩)
/-- a value: its height, width, members -/
structure Vl where
  h : Nat
  w : Nat
  cs : List Sc
def Vl.ok (A : Vl) : Prop := (1 ≤ A.h ∧ A.h ≤ 20 ∧ 1 ≤ A.w ∧ A.w ≤ 20 ∧ A.h * A.w ≤ 64) ∧ A.cs.length = A.h * A.w
def Vl.fit (A : Vl) : Prop := ∀ s ∈ A.cs, s.fit
def ConL (K : PySem.W.Frag) (H : Hp) (xs : List V) (cs : List Sc) : Prop := xs.length = cs.length ∧ ∀ (k : Nat) (x : V) (s : Sc), xs[k]? = some x → cs[k]? = some s → Con K H x s
theorem ConL.keep {K : PySem.W.Frag} {H H' : Hp} {xs : List V} {cs : List Sc} (e : TK K H H') (h : ConL K H xs cs) : ConL K H' xs cs := ⟨h.1, fun k x s a b => (h.2 k x s a b).keep e⟩
theorem ConL.nil {K : PySem.W.Frag} {H : Hp} : ConL K H [] [] := ⟨rfl, fun k x s a _ => by simp at a⟩
theorem ConL.snoc {K : PySem.W.Frag} {H : Hp} {xs : List V} {cs : List Sc} {x : V} {s : Sc} (h : ConL K H xs cs) (c : Con K H x s) : ConL K H (xs ++ [x]) (cs ++ [s]) := by
  refine ⟨by rw [List.length_append, List.length_append, h.1]; rfl, fun k y t a b => ?_⟩
  by_cases hk : k < xs.length
  · rw [List.getElem?_append_left hk] at a
    rw [List.getElem?_append_left (by rw [← h.1]; exact hk)] at b
    exact h.2 k y t a b
  · rw [List.getElem?_append_right (by omega)] at a
    rw [List.getElem?_append_right (by rw [← h.1]; omega), ← h.1] at b
    cases e : k - xs.length with
    | zero =>
      rw [e] at a b
      cases a
      cases b
      exact c
    | succ m =>
      rw [e] at a
      simp at a
theorem ConL.mem {K : PySem.W.Frag} {H : Hp} {xs : List V} {cs : List Sc} (h : ConL K H xs cs) {x : V} (hx : x ∈ xs) : ∃ s, s ∈ cs ∧ Con K H x s := by
  obtain ⟨k, hk⟩ := List.mem_iff_getElem?.mp hx
  have hl : k < cs.length := by
    rw [← h.1]
    exact (List.getElem?_eq_some_iff.mp hk).1
  exact ⟨cs[k], List.getElem_mem hl, h.2 k x _ hk (List.getElem?_eq_getElem hl)⟩
def Rep (K : PySem.W.Frag) (H : Hp) (v : V) (A : Vl) : Prop := (A.h * A.w = 1 ∧ ∃ s, A.cs = [s] ∧ Con K H v s) ∨
  (A.h * A.w ≠ 1 ∧ ∃ p q xs, v = .ref p ∧ SqT K H p [.str "array", .int A.h, .int A.w, .ref q] ∧ SqT K H q xs ∧ ConL K H xs A.cs)
theorem Rep.keep {K : PySem.W.Frag} {H H' : Hp} {v : V} {A : Vl} (e : TK K H H') (h : Rep K H v A) : Rep K H' v A := by
  rcases h with ⟨a, s, b, c⟩ | ⟨a, p, q, xs, rfl, b, c, d⟩
  · exact Or.inl ⟨a, s, b, c.keep e⟩
  · exact Or.inr ⟨a, p, q, xs, rfl, e _ _ b, e _ _ c, d.keep e⟩
/-- two such values of the same data -/
theorem Rep.lk {K : PySem.W.Frag} {H : Hp} {x y : V} {A : Vl} (ok : A.ok) (h : Rep K H x A) (k : Rep K H y A) : Lk K 4 H x y := by
  rcases h with ⟨a, s, b, c⟩ | ⟨a, p, q, xs, rfl, b, c, d⟩
  · rcases k with ⟨a', s', b', c'⟩ | ⟨a', _⟩
    · rw [b] at b'
      cases b'
      exact ⟨_, c.dp, c'.dp, s.fitD 2⟩
    · exact absurd a a'
  · rcases k with ⟨a', s', b', c'⟩ | ⟨a', p', q', xs', rfl, b', c', d'⟩
    · exact absurd a' a
    · have dd : ∀ {ys : List V}, ConL K H ys A.cs → DpAll K H ys (A.cs.map fun s => PyData.tuple s.ds) := fun {ys} z => dp_all (by rw [z.1, List.length_map]) fun k x e ex ee => by
        rw [List.getElem?_map] at ee
        cases es : A.cs[k]? with
        | none =>
          rw [es] at ee
          cases ee
        | some s =>
          rw [es] at ee
          cases ee
          exact (z.2 k x s ex es).dp
      refine ⟨.tuple [.str "array", .int A.h, .int A.w, .tuple (A.cs.map fun s => .tuple s.ds)], .tup b (.cons (.str _) (.cons (.int _) (.cons (.int _) (.cons (.tup c (dd d)) .nil)))), .tup b' (.cons (.str _) (.cons (.int _) (.cons (.int _) (.cons (.tup c' (dd d')) .nil)))), ?_⟩
      refine Or.inr ⟨_, rfl, (show 4 ≤ 5000 by decide), fun e he => ?_⟩
      simp only [List.mem_cons, List.not_mem_nil, or_false] at he
      rcases he with rfl | rfl | rfl | rfl
      · exact Or.inl (Or.inr (Or.inr (Or.inr ⟨_, rfl⟩)))
      · exact Or.inl (Or.inr (Or.inr (Or.inl ⟨_, rfl⟩)))
      · exact Or.inl (Or.inr (Or.inr (Or.inl ⟨_, rfl⟩)))
      · refine Or.inr ⟨_, rfl, ?_, fun e he => ?_⟩
        · have h1 := ok.2
          have h2 := ok.1.2.2.2.2
          rw [List.length_map]
          omega
        · obtain ⟨s, _, rfl⟩ := List.mem_map.mp he
          exact s.fitD 0
/-- the member at row i, column j -/
def Vl.at (A : Vl) (i j : Nat) : Option Sc :=
  if (if A.h = 1 then 0 else i) < A.h ∧ (if A.w = 1 then 0 else j) < A.w then A.cs[(if A.h = 1 then 0 else i) * A.w + (if A.w = 1 then 0 else j)]? else none
theorem Vl.at_none {A : Vl} {i j : Nat} (h : ¬ ((if A.h = 1 then 0 else i) < A.h ∧ (if A.w = 1 then 0 else j) < A.w)) : A.at i j = none := if_neg h
theorem Vl.at_eq {A : Vl} {i j r c : Nat} {s : Sc} (hr : r = if A.h = 1 then 0 else i) (hc : c = if A.w = 1 then 0 else j) (h1 : r < A.h) (h2 : c < A.w) (e : A.cs[r * A.w + c]? = some s) : A.at i j = some s := by
  unfold Vl.at
  rw [← hr, ← hc, if_pos ⟨h1, h2⟩]
  exact e
theorem idx_lt {r c h w : Nat} (h1 : r < h) (h2 : c < w) : r * w + c < h * w := by
  have a : (r + 1) * w ≤ h * w := Nat.mul_le_mul_right w h1
  rw [Nat.add_mul, Nat.one_mul] at a
  omega
theorem Vl.ok.get {A : Vl} (ok : A.ok) {r c : Nat} (h1 : r < A.h) (h2 : c < A.w) : ∃ s, A.cs[r * A.w + c]? = some s := by
  have h3 : r * A.w + c < A.cs.length := by
    rw [ok.2]
    exact idx_lt h1 h2
  exact ⟨_, List.getElem?_eq_getElem h3⟩
def cellV (G : Sc → Sc → Sc) (A B : Vl) (i j : Nat) : Sc := match A.at i j, B.at i j with
  | some s, some t => if s.isE = true then s else if t.isE = true then t else G s t
  | _, _ => .err "NA"
def bcV (G : Sc → Sc → Sc) (A B : Vl) : Vl := if 64 < max A.h B.h * max A.w B.w then ⟨1, 1, [.err "SIZE"]⟩ else ⟨max A.h B.h, max A.w B.w, (List.range (max A.h B.h * max A.w B.w)).map fun k => cellV G A B (k / max A.w B.w) (k % max A.w B.w)⟩
/-- the members drawn so far, beside the few -/
def MInv (K : PySem.W.Frag) (b c D M : Addr) (ns : List Int) (m : Int) (H : Hp) (xs : List V) (cs : List Sc) (i : Nat) (σ : L2.St) (H2 : Hp) : Prop :=
  Bs K b c ns H H2 ∧ H2 D = some (.lst xs) ∧ ConL K H2 xs cs ∧ ∃ ms ds u1 u2, H2 M = some (.lst ms) ∧ ds.length = i ∧ (∀ s ∈ ds, Sc.fit s) ∧ ConL K H2 ms ds ∧ σ = [some (.ref b), some (.int m), some (.ref D), u1, some (.ref M), u2]
theorem MInv.snoc {K : PySem.W.Frag} {b c D M : Addr} {ns : List Int} {m : Int} {H H3 : Hp} {xs ms : List V} {cs ds : List Sc} {i : Nat} {x : V} {s : Sc} {u1 u2 : Option V} (hb : BoxS K b c ns H) (hM : H M = none) (nb : b ≠ M) (nD : D ≠ M) (B : Bs K b c ns H H3)
    (zD : H3 D = some (.lst xs)) (cD : ConL K H3 xs cs) (zM : H3 M = some (.lst ms)) (hl : ds.length = i) (hf : ∀ s ∈ ds, Sc.fit s) (hc : ConL K H3 ms ds) (hx : Con K H3 x s) (fs : s.fit) :
    Hd (MInv K b c D M ns m H xs cs (i + 1) [some (.ref b), some (.int m), some (.ref D), u1, some (.ref M), u2] (upd H3 M (.lst (ms ++ [x])))) := by
  refine .mk ⟨B.more hb hM nb, (upd_ne nD).trans zD, cD.keep (lst_tk zM), ms ++ [x], ds ++ [s], u1, u2, upd_same, ?_, ?_, (hc.snoc hx).keep (lst_tk zM), rfl⟩
  · rw [List.length_append, hl]
    rfl
  · intro t ht
    rcases List.mem_append.mp ht with ht | ht
    · exact hf t ht
    · rw [List.mem_singleton.mp ht]
      exact fs
/-- what a scalar is told as -/
def told : Sc → Str
  | .empty => "empty"
  | .tru b => ("truth " : Str) ++ toString (if b = true then (1 : Int) else 0)
  | .num m => toString m
  | .txt z => ("text " : Str) ++ toString (z.length : Int) ++ cutS z none (some 20)
  | .err z => z
theorem hu65 {A : Around} {n : Nat} (hr : Room n A) : A.units + 65 < cLine := by
  have := hr.un
  omega
theorem hu64 {A : Around} {n : Nat} (hr : Room n A) : A.units + 64 < cLine := hr.units
theorem ts_len {i : Int} (h : -1000000000000000000000 < i ∧ i < 1000000000000000000000) : (Str.ofString (toString i)).length ≤ 31 := by
  rw [PyProof.Rows.ofString_length]
  refine int_text_length_le10 (k := 30) (by decide) ?_
  have e : (10 : Nat) ^ 30 = 1000000000000000000000000000000 := by decide
  rw [e]
  omega
theorem ts_lg {i : Int} (h : -1000000000000000000000 < i ∧ i < 1000000000000000000000) : i.natAbs.log2 < 1920 := by
  refine PySem.Flt.log2_lt_of (by decide) (Nat.lt_of_lt_of_le (show i.natAbs < 2 ^ 70 from ?_) (Nat.pow_le_pow_right (by decide) (by decide)))
  have e : (2 : Nat) ^ 70 = 1180591620717411303424 := by decide
  rw [e]
  omega
theorem cut_le (z : Str) (a b : Option Int) : (cutS z a b).length ≤ z.length := by
  show (cutS z a b).cps.size ≤ z.cps.size
  unfold cutS
  rw [List.size_toArray, List.length_take, List.length_drop, Array.length_toList]
  omega
theorem told_len (s : Sc) (h : s.isE = false) (f : s.fit) : (told s).length ≤ 2000 := by
  rcases s with _ | m | b | z | z
  · exact Nat.le_of_ble_eq_true (by decide +kernel)
  · exact Nat.le_trans (ts_len f) (by decide)
  · have e : (told (.tru b)).length = ("truth " : Str).length + (Str.ofString (toString (if b = true then (1 : Int) else 0))).length := Str.length_append ..
    have e1 : ("truth " : Str).length = 6 := by decide +kernel
    have e2 := ts_len (i := if b = true then (1 : Int) else 0) (by split <;> decide)
    omega
  · have e : (told (.txt z)).length = (("text " : Str) ++ Str.ofString (toString (z.length : Int))).length + (cutS z none (some 20)).length := Str.length_append ..
    have e3 : (("text " : Str) ++ Str.ofString (toString (z.length : Int))).length = ("text " : Str).length + (Str.ofString (toString (z.length : Int))).length := Str.length_append ..
    have e1 : ("text " : Str).length = 5 := by decide +kernel
    have f2 : z.length ≤ 500 := f.1
    have e2 := ts_len (i := (z.length : Int)) (by omega)
    have e4 := cut_le z none (some 20)
    omega
  · cases h
theorem Sc.head (s : Sc) (h : s.isE = false) : ∃ k rest, s.vs = .str k :: rest ∧ k ≠ ("error" : Str) := by
  rcases s with _ | m | b | z | z
  · exact ⟨_, _, rfl, by decide +kernel⟩
  · exact ⟨_, _, rfl, by decide +kernel⟩
  · exact ⟨_, _, rfl, by decide +kernel⟩
  · exact ⟨_, _, rfl, by decide +kernel⟩
  · cases h
theorem Sc.shp (s : Sc) (f : s.fit) : SeqAt.shaped (.tuple s.ds) = true := by
  rcases s with _ | m | b | z | z
  · decide +kernel
  · simp [Sc.ds, SeqAt.shaped, PyData.canLay0, PyData.canLayAll0, PyData.depth, PyData.depthAll, (by decide +kernel : PyData.strOk ("number" : Str) = true)]
  · simp [Sc.ds, SeqAt.shaped, PyData.canLay0, PyData.canLayAll0, PyData.depth, PyData.depthAll, (by decide +kernel : PyData.strOk ("truth" : Str) = true)]
  · simp [Sc.ds, SeqAt.shaped, PyData.canLay0, PyData.canLayAll0, PyData.depth, PyData.depthAll, (by decide +kernel : PyData.strOk ("text" : Str) = true), f.2]
  · simp [Sc.ds, SeqAt.shaped, PyData.canLay0, PyData.canLayAll0, PyData.depth, PyData.depthAll, (by decide +kernel : PyData.strOk ("error" : Str) = true), f.2]
/-- the five deeds -/
def deedV : Nat → Sc → Sc → Sc
  | 0, s, t => .txt (told s ++ ("/" : Str) ++ told t)
  | 1, s, _ => s
  | 2, _, t => t
  | 3, s, t => .tru (PyData.eqv (.tuple s.ds) (.tuple t.ds))
  | _, s, t => if s.vs.head? = t.vs.head? then .err "CALC" else .empty

theorem bcV_ok {G : Sc → Sc → Sc} {A B : Vl} (oa : A.ok) (ob : B.ok) : (bcV G A B).ok := by
  obtain ⟨⟨a1, a2, a3, a4, a5⟩, a6⟩ := oa
  obtain ⟨⟨b1, b2, b3, b4, b5⟩, b6⟩ := ob
  unfold bcV
  split
  · exact ⟨by decide, rfl⟩
  · refine ⟨⟨?_, ?_, ?_, ?_, ?_⟩, ?_⟩
    · show 1 ≤ max A.h B.h
      omega
    · show max A.h B.h ≤ 20
      omega
    · show 1 ≤ max A.w B.w
      omega
    · show max A.w B.w ≤ 20
      omega
    · show max A.h B.h * max A.w B.w ≤ 64
      omega
    · show List.length (List.map _ _) = _
      rw [List.length_map, List.length_range]
theorem Vl.fit.at {A : Vl} (f : A.fit) {i j : Nat} {s : Sc} (e : A.at i j = some s) : s.fit := by
  by_cases hc : (if A.h = 1 then 0 else i) < A.h ∧ (if A.w = 1 then 0 else j) < A.w
  · have e2 := (if_pos hc).symm.trans e
    exact f s (List.mem_of_getElem? e2)
  · have e2 := (if_neg hc).symm.trans e
    cases e2
/-- the member's number k -/
def cellK (G : Sc → Sc → Sc) (A B : Vl) (k : Nat) : Sc := cellV G A B (k / max A.w B.w) (k % max A.w B.w)
theorem cellK_at {G : Sc → Sc → Sc} {A B : Vl} {i j : Nat} (h : j < max A.w B.w) : cellK G A B (i * max A.w B.w + j) = cellV G A B i j := by
  unfold cellK
  have e1 : (i * max A.w B.w + j) / max A.w B.w = i := by
    rw [Nat.mul_comm, Nat.mul_add_div (by omega), Nat.div_eq_of_lt h, Nat.add_zero]
  have e2 : (i * max A.w B.w + j) % max A.w B.w = j := by
    rw [Nat.mul_comm, Nat.mul_add_mod, Nat.mod_eq_of_lt h]
  rw [e1, e2]
/-- the cells so far -/
def cellsT (G : Sc → Sc → Sc) (A B : Vl) (n : Nat) : List Sc := (List.range n).map (cellK G A B)
theorem cellsT_len {G : Sc → Sc → Sc} {A B : Vl} {n : Nat} : (cellsT G A B n).length = n := by
  unfold cellsT
  rw [List.length_map, List.length_range]
theorem cellsT_succ {G : Sc → Sc → Sc} {A B : Vl} {n : Nat} : cellsT G A B (n + 1) = cellsT G A B n ++ [cellK G A B n] := by
  unfold cellsT
  rw [List.range_succ, List.map_append]
  rfl
theorem bcV_in {G : Sc → Sc → Sc} {A B : Vl} (h : ¬ 64 < max A.h B.h * max A.w B.w) : bcV G A B = ⟨max A.h B.h, max A.w B.w, cellsT G A B (max A.h B.h * max A.w B.w)⟩ := if_neg h
theorem bcV_out {G : Sc → Sc → Sc} {A B : Vl} (h : 64 < max A.h B.h * max A.w B.w) : bcV G A B = ⟨1, 1, [.err "SIZE"]⟩ := if_pos h
/-- a member, or none -/
def Mt (K : PySem.W.Frag) (H : Hp) (z : V) (o : Option Sc) : Prop := match o with
  | some s => Con K H z s
  | none => z = .non
theorem Mt.keep {K : PySem.W.Frag} {H H' : Hp} {z : V} {o : Option Sc} (e : TK K H H') (h : Mt K H z o) : Mt K H' z o := by
  cases o with
  | none => exact h
  | some s => exact Con.keep e h
def dO : Option Sc → PyData
  | some s => .tuple s.ds
  | none => .none
theorem Mt.dp {K : PySem.W.Frag} {H : Hp} {z : V} {o : Option Sc} (h : Mt K H z o) : Dp K H z (dO o) := by
  cases o with
  | none =>
    obtain rfl : z = .non := h
    exact .non
  | some s => exact Con.dp h
theorem dO_eqv (o : Option Sc) : PyData.eqv (dO o) .none = o.isNone := by
  cases o <;> rfl
theorem shp2 {a b : Option Sc} (fa : ∀ s, a = some s → s.fit) (fb : ∀ s, b = some s → s.fit) : SeqAt.shaped (.list [dO a, dO b]) = true := by
  have hd : ∀ o : Option Sc, (∀ s, o = some s → s.fit) → (dO o).canLay0 = true ∧ (dO o).depth ≤ 2 := fun o f => by
    cases o with
    | none => exact ⟨rfl, by decide⟩
    | some s =>
      have h := s.shp (f s rfl)
      refine ⟨SeqAt.canLay_of_shaped h, ?_⟩
      rcases s with _ | m | b | z | z <;> simp [dO, Sc.ds, PyData.depth, PyData.depthAll]
  obtain ⟨a1, a2⟩ := hd a fa
  obtain ⟨b1, b2⟩ := hd b fb
  unfold SeqAt.shaped
  rw [Bool.and_eq_true, decide_eq_true_eq]
  refine ⟨by simp [PyData.canLay0, PyData.canLayAll0, a1, b1], ?_⟩
  simp only [PyData.depth, PyData.depthAll]
  omega
/-! ### the lambda -/
def lamE : Expr := match defBody sbroadcast with
  | [.Return (some (.Call _ (e :: _) _ _)) _] => e
  | _ => .Constant .none 0 ⟨0, 0, 0, 0⟩
def lamA : Arguments := match lamE with
  | .Lambda p _ _ _ => p
  | _ => { posonlyargs := [], args := [], vararg := none, kwonlyargs := [], kw_defaults := [], kwarg := none, defaults := [] }
def lamB : Expr := match lamE with
  | .Lambda _ b _ _ => b
  | e => e
def lamS : Scope := match lamE with
  | .Lambda _ _ s _ => s
  | _ => defScope sbroadcast
def lamQ : Str := ((Str.ofString "broadcast") ++ ".<locals>.") ++ "<lambda>"
def mkL (cl : List (Str × Addr)) (c' : Addr) : NdefX.NF := ⟨"<lambda>", lamQ, lamA, [], lamS, cl, c'⟩
theorem lamFree : ∀ y ∈ lamS.names, y.2 = .free → (defScope sbroadcast).names.lookup y.1 = some .cell ∨ (defScope sbroadcast).names.lookup y.1 = some .free := by decide +kernel
theorem lamDeed : ∀ y ∈ (["deed"] : List Str), (y, NameKind.free) ∈ lamS.names := by decide +kernel
theorem lamScp : NdefX.NScope ["pair", "deed"] ["pair"] ["deed"] lamS := NdefX.nscope_by (by decide +kernel)
def spL (K : PySem.W.Frag) (dd : Nat → Addr) : List (Option V) → Sp := fun ws vs H Q _ => ∃ (dw : Nat) (l : Addr) (x y : V) (s t : Sc), ws = [some (.ref (dd dw))] ∧ vs = [.ref l] ∧ dw < 5 ∧ SqL K H l [x, y] ∧ Con K H x s ∧ Con K H y t ∧ s.fit ∧ t.fit ∧
  ∀ (r : V) (H' : Hp), Same H H' → Con K H' r (if s.isE = true then s else if t.isE = true then t else deedV dw s t) → Q r H'
theorem tru_con {K : PySem.W.Frag} {H : Hp} {x : V} {s : Sc} (c : Con K H x s) : TruV K x H true := by
  obtain ⟨p, rfl, h⟩ := c
  refine .inr (.inl ⟨_, h, ?_⟩)
  rcases s with _ | m | b | z | z <;> rfl
def Txt.dd {K : PySem.W.Frag} {mg : Str → Option Value} (T : Txt K mg) : Nat → Addr
  | 0 => T.a_law_both
  | 1 => T.a_law_left
  | 2 => T.a_law_right
  | 3 => T.a_law_alike
  | _ => T.a_law_odd
def Txt.tb {K : PySem.W.Frag} {mg : Str → Option Value} (T : Txt K mg) : List (Addr × Str) := [(T.pT, lamQ)]
theorem ret_tk {K : PySem.W.Frag} {cl : List (Str × Addr)} {H H' : Hp} (hn : ∀ b, InC cl b → H' b = none) : TK K H' (ret cl H H') := fun p xs h => by
  have no : ∀ u, H' p = some u → ret cl H H' p = some u := fun u e => by
    by_cases hi : InC cl p
    · rw [hn p hi] at e
      cases e
    · rw [ret_out hi]
      exact e
  rcases h with (h | ⟨o, h⟩) | h
  · exact .inl (.inl (no _ h))
  · exact .inl (.inr ⟨o, no _ h⟩)
  · exact .inr h
def Mts (K : PySem.W.Frag) (H : Hp) (ms : List V) (a b : Option Sc) : Prop := ∀ k z, ms[k]? = some z → Mt K H z (if k = 0 then a else b)
theorem Mts.keep {K : PySem.W.Frag} {H H' : Hp} {ms : List V} {a b : Option Sc} (e : TK K H H') (h : Mts K H ms a b) : Mts K H' ms a b := fun k z q => (h k z q).keep e
theorem Mts.snoc {K : PySem.W.Frag} {H : Hp} {ms : List V} {a b : Option Sc} {z : V} (h : Mts K H ms a b) (c : Mt K H z (if ms.length = 0 then a else b)) : Mts K H (ms ++ [z]) a b := fun k y q => by
  by_cases hk : k < ms.length
  · rw [List.getElem?_append_left hk] at q
    exact h k y q
  · rw [List.getElem?_append_right (by omega)] at q
    cases e : k - ms.length with
    | zero =>
      rw [e] at q
      cases q
      have e2 : k = ms.length := by omega
      rw [e2]
      exact c
    | succ m =>
      rw [e] at q
      simp at q
theorem step24 {K : PySem.W.Frag} {H H3 HR : Hp} {F : Addr} {xs : List V} {r : V} {G : Sc → Sc → Sc} {A B : Vl} {n : Nat} (s3 : Same H H3) (hF0 : H F = Option.none) (sR : Same H3 HR) (hz : H3 F = some (.lst xs)) (hc : ConL K H3 xs (cellsT G A B n)) (c : Con K HR r (cellK G A B n)) :
    Same H (upd HR F (.lst (xs ++ [r]))) ∧ upd HR F (.lst (xs ++ [r])) F = some (.lst (xs ++ [r])) ∧ ConL K (upd HR F (.lst (xs ++ [r]))) (xs ++ [r]) (cellsT G A B (n + 1)) := by
  refine ⟨same_put (s3.trans sR) hF0, upd_same, ?_⟩
  rw [cellsT_succ]
  exact ((hc.keep (same_tk sR)).snoc c).keep (lst_tk (sR _ _ hz))
theorem cellV_none {G : Sc → Sc → Sc} {A B : Vl} {i j : Nat} (h : ((A.at i j).isNone || (B.at i j).isNone) = true) : cellV G A B i j = .err "NA" := by
  unfold cellV
  cases ea : A.at i j with
  | none => rfl
  | some s =>
    cases eb : B.at i j with
    | none => rfl
    | some t =>
      rw [ea, eb] at h
      cases h
theorem cellV_some {G : Sc → Sc → Sc} {A B : Vl} {i j : Nat} {s t : Sc} (ea : A.at i j = some s) (eb : B.at i j = some t) : cellV G A B i j = if s.isE = true then s else if t.isE = true then t else G s t := by
  unfold cellV
  rw [ea, eb]
theorem Tabs.box {K : PySem.W.Frag} {tb : List (Addr × Str)} {b c : Addr} {ns : List Int} {H H' : Hp} (t : LamX.Tabs tb H) (h : BoxS K b c ns H) (x : Bs K b c ns H H') : LamX.Tabs tb H' := fun p hp => by
  obtain ⟨⟨i0, i1, i2, i3, i5, e, _⟩, _⟩ := h
  obtain ⟨ps, h1, h2, h3⟩ := t p hp
  refine ⟨ps, x.1 _ _ (ne_of h1 e (fun z => nomatch z)) h1, h2, fun pos cv hc => ?_⟩
  obtain ⟨c0, e1, e2⟩ := h3 pos cv hc
  exact ⟨c0, e1, x.1 _ _ (ne_of e2 e (fun z => by unfold LamX.CodeO at z; cases z)) e2⟩
theorem div64' {x : Int} (h0 : 1 ≤ x) (h1 : x ≤ 20) : 3 ≤ 64 / x ∧ 64 / x ≤ 64 ∧ 64 / x * x ≤ 64 := by
  refine ⟨?_, Int.ediv_le_self x (by decide), Int.ediv_mul_le 64 (by omega)⟩
  rw [Int.le_ediv_iff_mul_le (by omega)]
  omega
theorem prod64 {h w : Nat} {m : Int} (hm : m * (h : Int) ≤ 64) (hw : (w : Int) ≤ m) : h * w ≤ 64 := by
  have a : (w : Int) * (h : Int) ≤ m * (h : Int) := Int.mul_le_mul_of_nonneg_right hw (by omega)
  have b : ((h * w : Nat) : Int) = (w : Int) * (h : Int) := by rw [Int.natCast_mul, Int.mul_comm]
  omega
theorem same_none {H H' : Hp} (s : Same H H') {p : Addr} (h : H' p = Option.none) : H p = Option.none := by
  cases e : H p with
  | none => rfl
  | some o =>
    rw [s _ _ e] at h
    cases h
theorem unt_tk {K : PySem.W.Frag} {cl : List (Str × Addr)} {fr : List Str} {ws : List (Option V)} {H : Hp} (t : Told cl fr ws H) : TK K H (unt cl H) := fun p xs h => by
  rcases h with (h | ⟨o, h⟩) | h
  · exact .inl (.inl (unt_keep t h fun φ z => by cases z))
  · exact .inl (.inr ⟨o, unt_keep t h fun φ z => by cases z⟩)
  · exact .inr h
theorem ext_tk {K : PySem.W.Frag} {H H' : Hp} (e : LamX.ExtN H H') : TK K H H' := fun p xs h => by
  rcases h with (h | ⟨o, h⟩) | h
  · exact .inl (.inl (e _ _ h fun ps z => by cases z))
  · exact .inl (.inr ⟨o, e _ _ h fun ps z => by cases z⟩)
  · exact .inr h

local macro_rules | `(tactic| walk_at "look") => `(tactic| first
  | exact upd_same
  | assumption
  | (refine (same_upd (by assumption)) _ _ ?_; walk_at "look"))
local macro_rules | `(tactic| walk_at "bat") => `(tactic| first
  | assumption
  | exact Bs.bat (by assumption)
  | (refine BoxS.new ?_ (by assumption); walk_at "bat")
  | (refine BoxS.same ?_ (by assumption); walk_at "bat"))
local macro_rules | `(tactic| walk_at "bx") => `(tactic| first
  | assumption
  | exact Bs.refl (by assumption)
  | (refine Bs.new ?_ (by assumption); walk_at "bx")
  | (refine Bs.same ?_ (by assumption); walk_at "bx")
  | (refine Bs.trans ?_ (by assumption); walk_at "bx"))

local macro_rules | `(tactic| walk_at "own") => `(tactic| first
  | rw [upd_upd]
  | refine ⟨_, _, _, _, rfl, (by walk_at "bat"), (by constructor <;> omega), fun n H1 b1 h0 h1 => ?_⟩
  | refine ⟨_, _, _, rfl, (by walk_at "bat"), fun n H1 b1 h0 h1 => ?_⟩
  | refine ⟨_, _, _, _, rfl, rfl, (by assumption), rfl, ?_⟩
  | refine ⟨_, _, _, _, rfl, rfl, upd_same, rfl, ?_⟩
  | refine ⟨_, _, _, _, rfl, rfl, .inl (.inl (by assumption)), rfl, ?_⟩
  | refine ⟨_, _, _, _, rfl, rfl, .inl (.inl upd_same), rfl, ?_⟩
  | refine ⟨_, _, _, _, rfl, rfl, (by assumption), (by first | assumption | rfl | exact atI_nat rfl | exact atI_at (n := 0) rfl rfl), ?_⟩
  | refine ⟨_, _, rfl, Or.inl (by assumption), ?_⟩
  | refine ⟨_, _, rfl, Or.inr (by assumption), ?_⟩
  | refine ⟨_, _, rfl, Or.inl (but_sqlS (by assumption) upd_but (by assumption)), ?_⟩
  | refine Or.inr ⟨_, rfl, ?_⟩
  | refine ⟨_, _, rfl, (show Rep _ _ _ _ from by first | assumption | exact Rep.keep (same_tk (by walk_at "same")) (by assumption)), (by assumption), ?_⟩
  | refine Or.inl ⟨_, _, _, rfl, rfl, ?_⟩
  | refine Or.inr (Or.inl ⟨_, _, _, _, rfl, (by assumption), rfl, ?_⟩)
  | refine Or.inr (Or.inr ⟨_, _, _, _, rfl, (by assumption), rfl, ?_⟩)
  | refine ⟨_, _, rfl, (show Lk _ _ _ _ _ by assumption), ?_⟩
  | refine iteSN (by assumption) ?_
  | refine iteSNn (by assumption) ?_
  | refine iteSSn ?_
  | refine ⟨rfl, ?_⟩)

/-- a chain of heaps -/
local macro_rules | `(tactic| walk_at "same") => `(tactic| first
  | assumption
  | exact Same.refl _
  | exact same_upd (by assumption)
  | (refine Same.trans ?_ (same_upd (by assumption)); walk_at "same")
  | (refine Same.trans ?_ (by assumption); walk_at "same"))
/-- a step of a reading, by its shape -/
local macro_rules | `(tactic| walk_at "st") => `(tactic| first
  | walk_at "own"
  | refine ⟨_, rfl, fun n h0 h1 => ?_⟩
  | refine ⟨_, rfl, ?_⟩
  | refine ⟨_, _, rfl, rfl, (by first | exact Or.inl ⟨by decide, by decide⟩ | exact Or.inr ⟨by decide, by decide⟩ | exact Or.inl (by omega) | exact Or.inr (by omega)), fun d hd hu hn => ?_⟩
  | refine ⟨_, _, rfl, rfl, by first | exact Or.inl ⟨by decide, by decide⟩ | exact Or.inr ⟨by decide, by decide⟩ | exact Or.inl (by omega) | exact Or.inr (by omega), ?_⟩
  | refine ⟨_, _, rfl, rfl, by first | (show (0 : Int) < _; first | omega | decide | (split <;> omega)) | (show _ ≠ (0 : Int); omega), ?_⟩
  | refine ⟨_, _, rfl, rfl, ⟨by decide, by decide⟩, ?_⟩
  | refine ⟨_, _, rfl, rfl, (by show (_ ∧ _) ∧ (_ ∧ _); omega), ?_⟩
  | refine ⟨_, _, rfl, rfl, (by show _ ∧ _; first | omega | (split <;> omega)), fun d hd hu hn => ?_⟩
  | refine ⟨_, _, rfl, rfl, (by show (0 : Int) < _ ∧ _; first | omega | (split <;> omega)), ?_⟩
  | refine ⟨_, _, rfl, rfl, ?_⟩
  | refine ⟨_, _, _, rfl, rfl, ?_⟩
  | refine ⟨_, _, _, _, rfl, rfl, .inl (.inl (by assumption)), rfl, ?_⟩
  | refine Or.inl ⟨_, rfl, ?_⟩
  | refine ⟨_, _, rfl, fun n H1 s1 h0 h1 => ?_⟩
  | refine ⟨_, _, rfl, fun n h0 h1 => ?_⟩
  | refine ⟨_, _, rfl, ?_⟩
  | refine ⟨Nat.le_of_ble_eq_true rfl, fun p hp => ?_⟩
  | refine ⟨rfl, ?_⟩
  | refine ⟨lim_flat _, ?_⟩
  | refine ⟨⟨by assumption, by assumption⟩, ?_⟩
  | refine And.intro (by assumption) ?_
  | refine ⟨Or.inl ⟨_, rfl⟩, ?_⟩
  | refine And.intro (by omega) (fun H1 s1 => ?_)
  | refine And.intro (by omega) ?_
  | refine iteF ?_
  | refine iteT ?_
  | refine iteSS ?_
  | refine iteIS ?_
  | refine iteEqI (fun _ => ?_) (fun _ => ?_)
  | refine iteNeI (fun _ => ?_) (fun _ => ?_)
  | refine iteD (fun _ => ?_) (fun _ => ?_)
  | refine ite2 (fun _ => ?_) (fun _ => ?_))
local macro_rules | `(tactic| walk_at "run") => `(tactic| repeat' (walk_at "st"))

/-! ### the promises -/
def spfits (K : PySem.W.Frag) : Sp := fun vs H Q _ => ∃ h w : Int, vs = [.int h, .int w] ∧ (1 ≤ h ∧ 1 ≤ w ∧ h ≤ 70 ∧ w ≤ 70) ∧ ∀ b : Bool, (b = true ↔ h ≤ 20 ∧ w ≤ 20 ∧ h * w ≤ 64) → Q (.bl b) H
def sparray (K : PySem.W.Frag) : Sp := fun vs H Q _ => ∃ (A : Vl) (l : Addr) (xs : List V), vs = [.int (A.h : Int), .int (A.w : Int), .ref l] ∧ A.ok ∧ SqL K H l xs ∧ ConL K H xs A.cs ∧ ∀ (r : V) (H' : Hp), Same H H' → Rep K H' r A → Q r H'
def spheight (K : PySem.W.Frag) : Sp := fun vs H Q _ => ∃ (v : V) (A : Vl), vs = [v] ∧ Rep K H v A ∧ A.ok ∧ Q (.int (A.h : Int)) H
def spwidth (K : PySem.W.Frag) : Sp := fun vs H Q _ => ∃ (v : V) (A : Vl), vs = [v] ∧ Rep K H v A ∧ A.ok ∧ Q (.int (A.w : Int)) H
def spmember (K : PySem.W.Frag) : Sp := fun vs H Q _ => ∃ (v : V) (A : Vl) (i j : Nat) (s : Sc), vs = [v, .int (i : Int), .int (j : Int)] ∧ Rep K H v A ∧ A.ok ∧ (i < A.h ∧ j < A.w) ∧ A.cs[i * A.w + j]? = some s ∧ ∀ (x : V), Con K H x s → Q x H
def spsize_of (K : PySem.W.Frag) : Sp := fun vs H Q _ => ∃ (l : Addr) (x y : V) (A B : Vl), vs = [.ref l] ∧ SqL K H l [x, y] ∧ Rep K H x A ∧ Rep K H y B ∧ A.ok ∧ B.ok ∧ ∀ (p : Addr) (H' : Hp), Same H H' → SqT K H' p [.int (max A.h B.h : Nat), .int (max A.w B.w : Nat)] → Q (.ref p) H'
def sprepeated (K : PySem.W.Frag) : Sp := fun vs H Q _ => ∃ (v : V) (A : Vl) (i j : Nat), vs = [v, .int (i : Int), .int (j : Int)] ∧ Rep K H v A ∧ A.ok ∧ (∀ x s, A.at i j = some s → Con K H x s → Q x H) ∧ (A.at i j = none → Q .non H)
def sptogether (K : PySem.W.Frag) (dd : Nat → Addr) (tb : List (Addr × Str)) : Sp := fun vs H Q _ => ∃ (f l c' : Addr) (cl : List (Str × Addr)) (dw : Nat) (x y : V) (A B : Vl), vs = [.ref f, .ref l] ∧ SqL K H l [x, y] ∧ Rep K H x A ∧ Rep K H y B ∧ A.ok ∧ B.ok ∧ A.fit ∧ B.fit ∧ dw < 5 ∧ H f = some (LamO f (mkL cl c') lamB) ∧ H c' = some (LamX.CodeO c' (mkL cl c').qual) ∧ Told cl ["deed"] [some (.ref (dd dw))] H ∧ ∀ (r : V) (H' : Hp), Same H H' → Rep K H' r (bcV (deedV dw) A B) → Q r H'
def spfirst_error (K : PySem.W.Frag) : Sp := fun vs H Q _ => ∃ (l : Addr) (x y : V) (s t : Sc), vs = [.ref l] ∧ SqL K H l [x, y] ∧ Con K H x s ∧ Con K H y t ∧ (s.isE = true → Q x H) ∧ (s.isE = false → t.isE = true → Q y H) ∧ (s.isE = false → t.isE = false → Q .non H)
def spbroadcast (K : PySem.W.Frag) (dd : Nat → Addr) (tb : List (Addr × Str)) : Sp := fun vs H Q _ => ∃ (dw : Nat) (x y : V) (A B : Vl), vs = [.ref (dd dw), x, y] ∧ dw < 5 ∧ Rep K H x A ∧ Rep K H y B ∧ A.ok ∧ B.ok ∧ A.fit ∧ B.fit ∧ LamX.Tabs tb H ∧ ∀ (r : V) (H' : Hp), LamX.ExtN H H' → LamX.Tabs tb H' → Rep K H' r (bcV (deedV dw) A B) → Q r H'
def sp_law_mixed (K : PySem.W.Frag) : Sp := fun vs H Q _ => ∃ c t : Int, vs = [.int c, .int t] ∧ ∀ (n : Int), 0 ≤ n → n < 2147483587 → Q (.int n) H
def sp_law_start (K : PySem.W.Frag) : Sp := fun vs H Q _ => ∃ (a : Addr) (ns : List Int), vs = [.ref a] ∧ SqL K H a (ns.map V.int) ∧ ns.length ≤ 63 ∧ ∀ (b c : Addr) (H' : Hp), Same H H' → BoxS K b c ns H' → Q (.ref b) H'
def sp_law_take (K : PySem.W.Frag) : Sp := fun vs H Q _ => ∃ (b c : Addr) (ns : List Int) (l : Int), vs = [.ref b, .int l] ∧ BoxS K b c ns H ∧ (0 < l ∧ l < 1267650600228229401496703205376) ∧ ∀ (n : Int) (H' : Hp), Bs K b c ns H H' → 0 ≤ n → n < l → Q (.int n) H'
def spR_law_same (K : PySem.W.Frag) : Nat → Sp
  | 0 => fun _ _ _ _ => False
  | n + 1 => fun vs H Q _ => ∃ x y : V, vs = [x, y] ∧ Lk K (n + 1) H x y ∧ Q (.bl true) H
def sp_law_same (K : PySem.W.Frag) : Sp := spR_law_same K 4
def sp_law_amount (K : PySem.W.Frag) : Sp := fun vs H Q _ => ∃ (b c : Addr) (ns : List Int), vs = [.ref b] ∧ BoxS K b c ns H ∧ ∀ (n : Int) (H' : Hp), Bs K b c ns H H' → 0 ≤ n → n < 1000000000000000000000 → Q (.int n) H'
def sp_law_signs (K : PySem.W.Frag) : Sp := fun vs H Q _ => vs = [] ∧ Q (.str SG) H
def sp_law_scalar (K : PySem.W.Frag) : Sp := fun vs H Q _ => ∃ (b c : Addr) (ns : List Int), vs = [.ref b] ∧ BoxS K b c ns H ∧ ∀ (x : V) (s : Sc) (H' : Hp), Bs K b c ns H H' → s.fit → Con K H' x s → Q x H'
def sp_law_members (K : PySem.W.Frag) : Sp := fun vs H Q _ => ∃ (b c : Addr) (ns : List Int) (m : Int), vs = [.ref b, .int m] ∧ BoxS K b c ns H ∧ (0 ≤ m ∧ m ≤ 64) ∧ ∀ (l : Addr) (xs : List V) (cs : List Sc) (H' : Hp), Bs K b c ns H H' → SqL K H' l xs → (cs.length : Int) = m → (∀ s ∈ cs, s.fit) → ConL K H' xs cs → Q (.ref l) H'
def sp_law_lines (K : PySem.W.Frag) : Sp := fun vs H Q _ => ∃ (b c : Addr) (ns : List Int) (lim near : Int), vs = [.ref b, .int lim, .int near] ∧ BoxS K b c ns H ∧ (1 ≤ lim ∧ lim ≤ 20) ∧ (0 ≤ near ∧ near ≤ 100) ∧ ∀ (n : Int) (H' : Hp), Bs K b c ns H H' → 1 ≤ n → n ≤ lim → Q (.int n) H'
def sp_law_value (K : PySem.W.Frag) : Sp := fun vs H Q _ => ∃ (b c : Addr) (ns : List Int) (h w : Nat), vs = [.ref b, .int h, .int w] ∧ BoxS K b c ns H ∧ (1 ≤ h ∧ h ≤ 20 ∧ 1 ≤ w ∧ w ≤ 20 ∧ h * w ≤ 64) ∧ ∀ (v : V) (A : Vl) (H' : Hp), Bs K b c ns H H' → A.ok → A.fit → A.h = h → A.w = w → Rep K H' v A → Q v H'
def sp_law_told (K : PySem.W.Frag) : Sp := fun vs H Q _ => ∃ (x : V) (s : Sc), vs = [x] ∧ Con K H x s ∧ s.isE = false ∧ s.fit ∧ Q (.str (told s)) H
def sp_law_both (K : PySem.W.Frag) : Sp := fun vs H Q _ => ∃ (x y : V) (s t : Sc), vs = [x, y] ∧ Con K H x s ∧ Con K H y t ∧ (s.isE = false ∧ t.isE = false) ∧ (s.fit ∧ t.fit) ∧ ∀ (r : V) (H' : Hp), Same H H' → Con K H' r (deedV 0 s t) → Q r H'
def sp_law_left (K : PySem.W.Frag) : Sp := fun vs H Q _ => ∃ (x y : V) (s t : Sc), vs = [x, y] ∧ Con K H x s ∧ Con K H y t ∧ (s.isE = false ∧ t.isE = false) ∧ (s.fit ∧ t.fit) ∧ ∀ (r : V) (H' : Hp), Same H H' → Con K H' r (deedV 1 s t) → Q r H'
def sp_law_right (K : PySem.W.Frag) : Sp := fun vs H Q _ => ∃ (x y : V) (s t : Sc), vs = [x, y] ∧ Con K H x s ∧ Con K H y t ∧ (s.isE = false ∧ t.isE = false) ∧ (s.fit ∧ t.fit) ∧ ∀ (r : V) (H' : Hp), Same H H' → Con K H' r (deedV 2 s t) → Q r H'
def sp_law_alike (K : PySem.W.Frag) : Sp := fun vs H Q _ => ∃ (x y : V) (s t : Sc), vs = [x, y] ∧ Con K H x s ∧ Con K H y t ∧ (s.isE = false ∧ t.isE = false) ∧ (s.fit ∧ t.fit) ∧ ∀ (r : V) (H' : Hp), Same H H' → Con K H' r (deedV 3 s t) → Q r H'
def sp_law_odd (K : PySem.W.Frag) : Sp := fun vs H Q _ => ∃ (x y : V) (s t : Sc), vs = [x, y] ∧ Con K H x s ∧ Con K H y t ∧ (s.isE = false ∧ t.isE = false) ∧ (s.fit ∧ t.fit) ∧ ∀ (r : V) (H' : Hp), Same H H' → Con K H' r (deedV 4 s t) → Q r H'
def sp_law_deed (K : PySem.W.Frag) : Sp := fun vs H Q _ => ∃ (dw : Nat) (x y : V) (s t : Sc), vs = [.int (dw : Int), x, y] ∧ dw < 5 ∧ Con K H x s ∧ Con K H y t ∧ (s.isE = false ∧ t.isE = false) ∧ (s.fit ∧ t.fit) ∧ ∀ (r : V) (H' : Hp), Same H H' → Con K H' r (deedV dw s t) → Q r H'
def sp_law_asked (K : PySem.W.Frag) (dd : Nat → Addr) (tb : List (Addr × Str)) : Sp := fun vs H Q _ => ∃ (dw : Nat) (x y : V) (A B : Vl), vs = [.int (dw : Int), x, y] ∧ dw < 5 ∧ Rep K H x A ∧ Rep K H y B ∧ A.ok ∧ B.ok ∧ A.fit ∧ B.fit ∧ LamX.Tabs tb H ∧ ∀ (r : V) (H' : Hp), LamX.ExtN H H' → LamX.Tabs tb H' → Rep K H' r (bcV (deedV dw) A B) → Q r H'
def sp_law_member (K : PySem.W.Frag) : Sp := fun vs H Q _ => ∃ (v : V) (A : Vl) (i j : Nat), vs = [v, .int (i : Int), .int (j : Int)] ∧ Rep K H v A ∧ A.ok ∧ (∀ x s, A.at i j = some s → Con K H x s → Q x H) ∧ (A.at i j = none → Q .non H)
def sp_law_lengths (K : PySem.W.Frag) : Sp := fun vs H Q _ => ∃ (v : V) (A : Vl), vs = [v] ∧ Rep K H v A ∧ A.ok ∧ ∀ (p : Addr) (H' : Hp), Same H H' → SqT K H' p [.int (A.h : Int), .int (A.w : Int)] → Q (.ref p) H'
def sp_law_due (K : PySem.W.Frag) : Sp := fun vs H Q _ => ∃ (dw : Nat) (x y : V) (A B : Vl), vs = [.int (dw : Int), x, y] ∧ dw < 5 ∧ Rep K H x A ∧ Rep K H y B ∧ A.ok ∧ B.ok ∧ A.fit ∧ B.fit ∧ ∀ (r : V) (H' : Hp), Same H H' → Rep K H' r (bcV (deedV dw) A B) → Q r H'
def splaw (K : PySem.W.Frag) (dd : Nat → Addr) (tb : List (Addr × Str)) : Sp := fun vs H Q _ => ∃ (a : Addr) (ns : List Int), vs = [.ref a] ∧ SqL K H a (ns.map V.int) ∧ ns.length ≤ 63 ∧ LamX.Tabs tb H ∧ ∀ H', Q (.bl true) H'
section
variable {P : Program} {w : World} {K : PySem.W.Frag} {mg : Str → Option Value} {base : Heap}
theorem okfits (T : Txt K mg) : FnOk P w K mg base CX0 1 T.afits T.dfits Pfits (spfits K) := by
  refine T.Ffits.ok scfits (fun vs H Q E h => ?_) (fun cdv A outer s H vs Q E hr h => ?_)
  · obtain ⟨h, w, rfl, _⟩ := h
    rfl
  · obtain ⟨h, w, rfl, hb, q⟩ := h
    refine ⟨_, (pss_one (ps_ret (pe_and (pe_cmpR op_le (pv 0) (pe_glob (v := .int 20) (by rfl) T.m_MOST_ROWS ⟨_, rfl⟩) (by first | exact nomark _ | rfl)) (pe_and (pe_cmpR op_le (pv 1) (pe_glob (v := .int 20) (by rfl) T.m_MOST_COLUMNS ⟨_, rfl⟩) (by first | exact nomark _ | rfl)) (pe_one (pe_cmpR op_le (pe_op op_mul (pv 0) (pv 1)) (pe_glob (v := .int 64) (by rfl) T.m_MOST_MEMBERS ⟨_, rfl⟩) (by first | exact nomark _ | rfl))))))), ?_⟩
    walk_at "run"
    all_goals refine q _ ?_
    all_goals (try simp only [decide_eq_true_eq] at *)
    all_goals (constructor <;> intro hh)
    all_goals (first | (cases hh; done) | (refine ⟨?_, ?_, ?_⟩ <;> omega) | omega)

theorem okarray (T : Txt K mg) : FnOk P w K mg base CX0 2 T.aarray T.darray Parray (sparray K) := by
  refine T.Farray.ok scarray (fun vs H Q E h => ?_) (fun cdv A outer s H vs Q E hr h => ?_)
  · obtain ⟨A, l, xs, rfl, _⟩ := h
    rfl
  · obtain ⟨A, l, xs, rfl, ok, hl, hc, q⟩ := h
    refine ⟨_, (pss_cons (ps_if (pt_not (pt_val (pe_call (okfits T) (hr.mono (by decide)) (by rfl) T.gfits T.Ffits.kp (T.bfits) .nil pass0 (pa_cons (pv 0) (pa_cons (pv 1) pa_nil)))))
      (pss_one (ps_ret (pe_tup (pa_cons pe_str (pa_cons pe_str pa_nil)))))
      pss_nil)
    (pss_cons (ps_if (pt_cmpR op_eq (pe_op op_mul (pv 0) (pv 1)) pe_int (by first | exact nomark _ | rfl))
      (pss_one (ps_ret (pe_ix ix_list (pv 2) pe_int (fun _ _ => rfl))))
      pss_nil)
    (pss_one (ps_ret (pe_tup (pa_cons pe_str (pa_cons (pv 0) (pa_cons (pv 1) (pa_cons (pe_callTy call_tuple_of (by rfl) T.z_tuple (by decide +kernel) (pa_cons (pv 2) pa_nil)) pa_nil))))))))), ?_⟩
    obtain ⟨⟨k1, k2, k3, k4, k5⟩, k6⟩ := id ok
    have hm : (A.h : Int) * (A.w : Int) = ((A.h * A.w : Nat) : Int) := (Int.natCast_mul _ _).symm
    walk_at "run"
    · rename_i bb hb hx p hp
      rw [hb.mpr ⟨by omega, by omega, by omega⟩] at hx
      cases hx
    · have e2 : A.h * A.w = 1 := by omega
      obtain ⟨s, es⟩ : ∃ s, A.cs = [s] := by
        match A.cs, (show A.cs.length = 1 by omega) with
        | [s], _ => exact ⟨s, rfl⟩
      rw [es] at hc
      obtain ⟨x, rfl⟩ : ∃ x, xs = [x] := by
        match xs, (show xs.length = 1 from hc.1) with
        | [x], _ => exact ⟨x, rfl⟩
      walk_at "run"
      exact q _ _ (Same.refl _) (Or.inl ⟨e2, s, es, hc.2 0 x s rfl rfl⟩)
    · have e2 : A.h * A.w ≠ 1 := by omega
      refine ⟨_, _, rfl, Or.inl (And.intro hl fun p hp => ?_)⟩
      walk_at "run"
      rename_i p2 hp2
      exact q _ _ (by walk_at "same") (Or.inr ⟨e2, _, _, xs, rfl, SqT.of upd_same, SqT.of ((same_upd hp2) _ _ upd_same), hc.keep (same_tk ((same_upd hp).trans (same_upd hp2)))⟩)

theorem okheight (T : Txt K mg) : FnOk P w K mg base CX0 1 T.aheight T.dheight Pheight (spheight K) := by
  refine T.Fheight.ok scheight (fun vs H Q E h => ?_) (fun cdv A outer s H vs Q E hr h => ?_)
  · obtain ⟨v, A, rfl, _⟩ := h
    rfl
  · obtain ⟨v, A, rfl, rp, ok, q⟩ := h
    refine ⟨_, (pss_one (ps_ret (pe_ifExp (pt_cmpR op_eq (pe_ix ix_tup (pv 0) pe_int (fun _ _ => rfl)) pe_str (by first | exact nomark _ | rfl)) (pe_ix ix_tup (pv 0) pe_int (fun _ _ => rfl)) pe_int))), ?_⟩
    rcases rp with ⟨e, s, _, hc⟩ | ⟨e, p, p2, xs, rfl, hp, hp2, hc⟩
    · obtain ⟨p, k, rest, rfl, hp, hk, _, _⟩ := hc.sca
      have e1 : A.h = 1 := by
        have := Nat.eq_one_of_mul_eq_one_right e
        omega
      rw [e1] at q
      walk_at "run"
      exact q
    · walk_at "run"
      exact q

theorem okwidth (T : Txt K mg) : FnOk P w K mg base CX0 1 T.awidth T.dwidth Pwidth (spwidth K) := by
  refine T.Fwidth.ok scwidth (fun vs H Q E h => ?_) (fun cdv A outer s H vs Q E hr h => ?_)
  · obtain ⟨v, A, rfl, _⟩ := h
    rfl
  · obtain ⟨v, A, rfl, rp, ok, q⟩ := h
    refine ⟨_, (pss_one (ps_ret (pe_ifExp (pt_cmpR op_eq (pe_ix ix_tup (pv 0) pe_int (fun _ _ => rfl)) pe_str (by first | exact nomark _ | rfl)) (pe_ix ix_tup (pv 0) pe_int (fun _ _ => rfl)) pe_int))), ?_⟩
    rcases rp with ⟨e, s, _, hc⟩ | ⟨e, p, p2, xs, rfl, hp, hp2, hc⟩
    · obtain ⟨p, k, rest, rfl, hp, hk, _, _⟩ := hc.sca
      have e1 : A.w = 1 := by
        have := Nat.eq_one_of_mul_eq_one_left e
        omega
      rw [e1] at q
      walk_at "run"
      exact q
    · walk_at "run"
      exact q

theorem okmember (T : Txt K mg) : FnOk P w K mg base CX0 1 T.amember T.dmember Pmember (spmember K) := by
  refine T.Fmember.ok scmember (fun vs H Q E h => ?_) (fun cdv A outer s H vs Q E hr h => ?_)
  · obtain ⟨v, A, i, j, s, rfl, _⟩ := h
    rfl
  · obtain ⟨v, A, i, j, s, rfl, rp, ok, hij, es, q⟩ := h
    refine ⟨_, (pss_cons (ps_if (pt_cmpR op_ne (pe_ix ix_tup (pv 0) pe_int (fun _ _ => rfl)) pe_str (by first | exact nomark _ | rfl))
      (pss_one (ps_ret (pv 0)))
      pss_nil)
    (pss_one (ps_ret (pe_ix ix_tup (pe_ix ix_tup (pv 0) pe_int (fun _ _ => rfl)) (pe_op op_add (pe_op op_mul (pv 1) (pe_ix ix_tup (pv 0) pe_int (fun _ _ => rfl))) (pv 2)) (fun _ _ => rfl))))), ?_⟩
    obtain ⟨⟨k1, k2, k3, k4, k5⟩, k6⟩ := id ok
    rcases rp with ⟨e, s2, e2, hc⟩ | ⟨e, p, p2, xs, rfl, hp, hp2, hc⟩
    · rw [e2] at es
      have z : i * A.w + j = 0 := by
        have := (List.getElem?_eq_some_iff.mp es).1
        simp only [List.length_cons, List.length_nil] at this
        omega
      rw [z] at es
      cases es
      have hc2 := hc
      obtain ⟨p, k, rest, rfl, hp, hk, _, _⟩ := hc.sca
      walk_at "run"
      exact q _ hc2
    · have hx : i * A.w + j < xs.length := by
        rw [hc.1]
        exact (List.getElem?_eq_some_iff.mp es).1
      have hm : (i : Int) * (A.w : Int) = ((i * A.w : Nat) : Int) := (Int.natCast_mul _ _).symm
      have ex : atI xs ((i : Int) * (A.w : Int) + (j : Int)) = some xs[i * A.w + j] := atI_at (n := i * A.w + j) (by omega) (List.getElem?_eq_getElem hx)
      walk_at "run"
      exact q _ (hc.2 _ _ _ (List.getElem?_eq_getElem hx) es)

theorem oksize_of (T : Txt K mg) : FnOk P w K mg base CX0 2 T.asize_of T.dsize_of Psize_of (spsize_of K) := by
  refine T.Fsize_of.ok scsize_of (fun vs H Q E h => ?_) (fun cdv A outer s H vs Q E hr h => ?_)
  · obtain ⟨l, x, y, A, B, rfl, _⟩ := h
    rfl
  · obtain ⟨l, x, y, A, B, rfl, hl, ra, rb, oa, ob, q⟩ := h
    refine ⟨_, (pss_one (ps_ret (pe_tup (pa_cons (pe_callB (cr_max rfl) (by rfl) T.z_max (by decide +kernel) (pa_cons (pe_lc (own := [("v", 1)]) (g := gName 1) (tt := tYes) rfl scsize_of.nd (pi_list (pv 0)) (blkOk_by (N := Nsize_of) (sc := defScope ssize_of) (by decide +kernel)) (fun _ _ _ _ _ => pg_name (i := 1) scsize_of.nd rfl (Or.inl rfl)) (fun _ _ _ _ _ => pts_nil) (fun _ _ _ _ _ => (pe_call (okheight T) (hr.mono (by decide)) (by rfl) T.gheight T.Fheight.kp (T.bheight) .nil pass0 (pa_cons (pv 1) pa_nil)))) pa_nil)) (pa_cons (pe_callB (cr_max rfl) (by rfl) T.z_max (by decide +kernel) (pa_cons (pe_lc (own := [("v", 1)]) (g := gName 1) (tt := tYes) rfl scsize_of.nd (pi_list (pv 0)) (blkOk_by (N := Nsize_of) (sc := defScope ssize_of) (by decide +kernel)) (fun _ _ _ _ _ => pg_name (i := 1) scsize_of.nd rfl (Or.inl rfl)) (fun _ _ _ _ _ => pts_nil) (fun _ _ _ _ _ => (pe_call (okwidth T) (hr.mono (by decide)) (by rfl) T.gwidth T.Fwidth.kp (T.bwidth) .nil pass0 (pa_cons (pv 1) pa_nil)))) pa_nil)) pa_nil))))), ?_⟩
    walk_at "run"
    refine And.intro ⟨_, (Same.refl H).seq hl⟩ (fun D hD => ?_)
    refine lc_it (walk_list (xs := [x, y])) (fun i H' => Hd (Same H H' ∧ H' D = some (.lst ((([A.h, B.h].take i).map fun n : Nat => V.int (n : Int)))))) (.mk ⟨same_upd hD, upd_same⟩) (fun i H' hi hp => ((Same.refl H).trans hp.get.1).seq hl) (fun i z H1 H2 hi hp hy => ?_) (fun H5 hp => ?_)
    · obtain ⟨s1, hz⟩ := hp.get
      obtain ⟨rfl, ez⟩ := hy
      have i2 : i = 0 ∨ i = 1 := by
        simp only [List.length_cons, List.length_nil] at hi
        omega
      have ra1 := ra.keep (same_tk ((Same.refl H).trans s1))
      have rb1 := rb.keep (same_tk ((Same.refl H).trans s1))
      rcases i2 with rfl | rfl
      all_goals (
        cases ez
        walk_at "run"
        refine ⟨_, hz, small1000 (Nat.le_of_ble_eq_true rfl), .mk ⟨same_put s1 hD, upd_same⟩⟩)
    obtain ⟨s_H5, hz⟩ := hp.get
    refine ⟨D, [(A.h : Int), (B.h : Int)], rfl, SqL.of hz, Nat.succ_pos _, fun mh mem1 big1 => ?_⟩
    have eh : mh = ((max A.h B.h : Nat) : Int) := by
      have b1 := big1 _ (List.mem_cons_self ..)
      have b2 := big1 _ (List.mem_cons_of_mem _ (List.mem_cons_self ..))
      rcases List.mem_cons.mp mem1 with e | e
      · omega
      · rw [List.mem_singleton] at e
        omega
    subst eh
    walk_at "run"
    refine And.intro ⟨_, (s_H5).seq hl⟩ (fun D hD => ?_)
    refine lc_it (walk_list (xs := [x, y])) (fun i H' => Hd (Same H5 H' ∧ H' D = some (.lst ((([A.w, B.w].take i).map fun n : Nat => V.int (n : Int)))))) (.mk ⟨same_upd hD, upd_same⟩) (fun i H' hi hp => ((s_H5).trans hp.get.1).seq hl) (fun i z H1 H2 hi hp hy => ?_) (fun H6 hp => ?_)
    · obtain ⟨s1, hz⟩ := hp.get
      obtain ⟨rfl, ez⟩ := hy
      have i2 : i = 0 ∨ i = 1 := by
        simp only [List.length_cons, List.length_nil] at hi
        omega
      have ra1 := ra.keep (same_tk ((s_H5).trans s1))
      have rb1 := rb.keep (same_tk ((s_H5).trans s1))
      rcases i2 with rfl | rfl
      all_goals (
        cases ez
        walk_at "run"
        refine ⟨_, hz, small1000 (Nat.le_of_ble_eq_true rfl), .mk ⟨same_put s1 hD, upd_same⟩⟩)
    obtain ⟨s_H6, hz⟩ := hp.get
    refine ⟨D, [(A.w : Int), (B.w : Int)], rfl, SqL.of hz, Nat.succ_pos _, fun mh mem1 big1 => ?_⟩
    have eh : mh = ((max A.w B.w : Nat) : Int) := by
      have b1 := big1 _ (List.mem_cons_self ..)
      have b2 := big1 _ (List.mem_cons_of_mem _ (List.mem_cons_self ..))
      rcases List.mem_cons.mp mem1 with e | e
      · omega
      · rw [List.mem_singleton] at e
        omega
    subst eh
    walk_at "run"
    rename_i p hp
    exact q _ _ ((s_H5.trans s_H6).trans (same_upd hp)) (SqT.of upd_same)

theorem okrepeated (T : Txt K mg) : FnOk P w K mg base CX0 2 T.arepeated T.drepeated Prepeated (sprepeated K) := by
  refine T.Frepeated.ok screpeated (fun vs H Q E h => ?_) (fun cdv A outer s H vs Q E hr h => ?_)
  · obtain ⟨v, A, i, j, rfl, _⟩ := h
    rfl
  · obtain ⟨v, A, i, j, rfl, rp, ok, q, qn⟩ := h
    refine ⟨_, (pss_cons (ps_par (i := 3) (j := 4) rfl screpeated.nd rfl rfl (by decide) rfl rfl (pa_cons (pe_call (okheight T) (hr.mono (by decide)) (by rfl) T.gheight T.Fheight.kp (T.bheight) .nil pass0 (pa_cons (pv 0) pa_nil)) (pa_cons (pe_call (okwidth T) (hr.mono (by decide)) (by rfl) T.gwidth T.Fwidth.kp (T.bwidth) .nil pass0 (pa_cons (pv 0) pa_nil)) pa_nil)) rfl)
    (pss_cons (ps_set (i := 5) screpeated.nd rfl (by first | exact Or.inl rfl | exact Or.inr rfl) (pe_ifExp (pt_cmpR op_eq (pv 3) pe_int (by first | exact nomark _ | rfl)) pe_int (pv 1)))
    (pss_cons (ps_set (i := 6) screpeated.nd rfl (by first | exact Or.inl rfl | exact Or.inr rfl) (pe_ifExp (pt_cmpR op_eq (pv 4) pe_int (by first | exact nomark _ | rfl)) pe_int (pv 2)))
    (pss_cons (ps_if (PW.pt (pw_or (pt_cmpR op_ge (pv 5) (pv 3) (by first | exact nomark _ | rfl)) (pw_or1 (pt_cmpR op_ge (pv 6) (pv 4) (by first | exact nomark _ | rfl)))))
      (pss_one (ps_ret pe_non))
      pss_nil)
    (pss_one (ps_ret (pe_call (okmember T) (hr.mono (by decide)) (by rfl) T.gmember T.Fmember.kp (T.bmember) .nil pass0 (pa_cons (pv 0) (pa_cons (pv 5) (pa_cons (pv 6) pa_nil)))))))))), ?_⟩
    walk_at "run"
    all_goals first
      | (refine qn (Vl.at_none ?_); ((repeat' split) <;> omega))
      | skip
    · obtain ⟨s, es⟩ : ∃ s, A.cs[0 * A.w + 0]? = some s := ok.get (by omega) (by omega)
      exact ⟨v, A, 0, 0, s, rfl, rp, ok, ⟨by omega, by omega⟩, es, fun x cx => q x s (Vl.at_eq (if_pos (by omega)).symm (if_pos (by omega)).symm (by omega) (by omega) es) cx⟩
    · obtain ⟨s, es⟩ : ∃ s, A.cs[0 * A.w + j]? = some s := ok.get (by omega) (by omega)
      exact ⟨v, A, 0, j, s, rfl, rp, ok, ⟨by omega, by omega⟩, es, fun x cx => q x s (Vl.at_eq (if_pos (by omega)).symm (if_neg (by omega)).symm (by omega) (by omega) es) cx⟩
    · obtain ⟨s, es⟩ : ∃ s, A.cs[i * A.w + 0]? = some s := ok.get (by omega) (by omega)
      exact ⟨v, A, i, 0, s, rfl, rp, ok, ⟨by omega, by omega⟩, es, fun x cx => q x s (Vl.at_eq (if_neg (by omega)).symm (if_pos (by omega)).symm (by omega) (by omega) es) cx⟩
    · obtain ⟨s, es⟩ : ∃ s, A.cs[i * A.w + j]? = some s := ok.get (by omega) (by omega)
      exact ⟨v, A, i, j, s, rfl, rp, ok, ⟨by omega, by omega⟩, es, fun x cx => q x s (Vl.at_eq (if_neg (by omega)).symm (if_neg (by omega)).symm (by omega) (by omega) es) cx⟩

theorem okfirst_error (T : Txt K mg) : FnOk P w K mg base CX0 1 T.afirst_error T.dfirst_error Pfirst_error (spfirst_error K) := by
  refine T.Ffirst_error.ok scfirst_error (fun vs H Q E h => ?_) (fun cdv A outer s H vs Q E hr h => ?_)
  · obtain ⟨l, x, y, s, t, rfl, _⟩ := h
    rfl
  · obtain ⟨l, x, y, s, t, rfl, hl, cs, ct, q1, q2, q3⟩ := h
    refine ⟨_, (pss_cons (ps_for PassesOwn.never rfl (pi_list (pv 0)) (pg_name (i := 1) scfirst_error.nd rfl (by first | exact Or.inl rfl | exact Or.inr rfl))
      (pss_one (ps_if (pt_cmpR op_eq (pe_ix ix_tup (pv 1) pe_int (fun _ _ => rfl)) pe_str (by first | exact nomark _ | rfl))
      (pss_one (ps_ret (pv 1)))
      pss_nil)))
    (pss_one (ps_ret pe_non))), ?_⟩
    walk_at "run"
    refine And.intro ⟨_, hl⟩ (for_it (walk_list (xs := [x, y])) (fun i σ H' => Hd (H' = H ∧ (0 < i → s.isE = false) ∧ (1 < i → t.isE = false) ∧ ∃ u : Option V, σ = [some (.ref l), u])) (.mk ⟨rfl, fun h => absurd h (by decide), fun h => absurd h (by decide), none, rfl⟩) (fun i σ H' hi hp => by rw [hp.get.1]; exact hl) (fun i z σ H1 H2 hi hp hy => ?_) (fun σ H' hp => ?_))
    · obtain ⟨rfl, n1, n2, u, rfl⟩ := hp.get
      obtain ⟨rfl, ez⟩ := hy
      have i2 : i = 0 ∨ i = 1 := by
        simp only [List.length_cons, List.length_nil] at hi
        omega
      rcases i2 with rfl | rfl
      all_goals cases ez
      · obtain ⟨p, rfl, hp1⟩ := id cs
        rcases s with _ | m | z | z | z
        all_goals walk_at "run"
        all_goals first
          | exact q1 rfl
          | exact .mk ⟨rfl, fun _ => rfl, fun h => absurd h (by decide), _, rfl⟩
          | skip
      · obtain ⟨p, rfl, hp1⟩ := id ct
        rcases t with _ | m | z | z | z
        all_goals walk_at "run"
        all_goals first
          | exact q2 (n1 (by decide)) rfl
          | exact .mk ⟨rfl, fun _ => n1 (by decide), fun _ => rfl, _, rfl⟩
          | skip
    · obtain ⟨rfl, n1, n2, u, rfl⟩ := hp.get
      exact q3 (n1 (Nat.succ_pos _)) (n2 (Nat.le_refl 2))

theorem ok_law_told (T : Txt K mg) : FnOk P w K mg base CX0 1 T.a_law_told T.d_law_told P_law_told (sp_law_told K) := by
  refine T.F_law_told.ok sc_law_told (fun vs H Q E h => ?_) (fun cdv A outer s H vs Q E hr h => ?_)
  · obtain ⟨x, s, rfl, _⟩ := h
    rfl
  · obtain ⟨x, s, rfl, cs, es, fs, q⟩ := h
    refine ⟨_, (pss_cons (ps_if (pt_cmpR op_eq (pe_ix ix_tup (pv 0) pe_int (fun _ _ => rfl)) pe_str (by first | exact nomark _ | rfl))
      (pss_one (ps_ret pe_str))
      pss_nil)
    (pss_cons (ps_if (pt_cmpR op_eq (pe_ix ix_tup (pv 0) pe_int (fun _ _ => rfl)) pe_str (by first | exact nomark _ | rfl))
      (pss_one (ps_ret (pe_op op_add_str pe_str (pe_callTy call_str_int (by rfl) T.z_str (by decide +kernel) (pa_cons (pe_callTy call_int1 (by rfl) T.z_int (by decide +kernel) (pa_cons (pe_ix ix_tup (pv 0) pe_int (fun _ _ => rfl)) pa_nil)) pa_nil)))))
      pss_nil)
    (pss_cons (ps_if (pt_cmpR op_eq (pe_ix ix_tup (pv 0) pe_int (fun _ _ => rfl)) pe_str (by first | exact nomark _ | rfl))
      (pss_one (ps_ret (pe_callTy call_str_int (by rfl) T.z_str (by decide +kernel) (pa_cons (pe_ix ix_tup (pv 0) pe_int (fun _ _ => rfl)) pa_nil))))
      pss_nil)
    (pss_one (ps_ret (pe_op op_add_str (pe_op op_add_str pe_str (pe_callTy call_str_int (by rfl) T.z_str (by decide +kernel) (pa_cons (pe_callB call_len_str (by rfl) T.z_len (by decide +kernel) (pa_cons (pe_ix ix_tup (pv 0) pe_int (fun _ _ => rfl)) pa_nil)) pa_nil))) (pe_slice sl_str (pe_ix ix_tup (pv 0) pe_int (fun _ _ => rfl)) po_none (po_some pe_int)))))))), ?_⟩
    obtain ⟨p, rfl, hp⟩ := id cs
    rcases s with _ | m | z | z | z
    all_goals (try (cases es; done))
    all_goals walk_at "run"
    · exact q
    · refine And.intro (ts_lg fs) ?_
      exact q
    · refine And.intro (ts_lg (by split <;> decide)) ?_
      have e1 : ("truth " : Str).length = 6 := by decide +kernel
      have e2 := ts_len (i := if z = true then (1 : Int) else 0) (by split <;> decide)
      refine ⟨_, _, rfl, rfl, Nat.le_trans (show _ ≤ 1000 from by omega) (by decide), ?_⟩
      exact q
    · have f2 : z.length ≤ 500 := fs.1
      have e1 : ("text " : Str).length = 5 := by decide +kernel
      have e2 := ts_len (i := (z.length : Int)) (by omega)
      have e3 : (("text " : Str) ++ Str.ofString (toString (z.length : Int))).length = ("text " : Str).length + (Str.ofString (toString (z.length : Int))).length := Str.length_append ..
      have e4 := cut_le z none (some 20)
      refine And.intro (Nat.le_trans f2 (by decide)) ?_
      walk_at "run"
      refine And.intro (ts_lg (by omega)) ?_
      refine ⟨_, _, rfl, rfl, Nat.le_trans (show _ ≤ 1000 from by omega) (by decide), ?_⟩
      walk_at "run"
      refine And.intro (Nat.le_trans f2 (by decide)) ?_
      refine ⟨_, _, rfl, rfl, Nat.le_trans (show _ ≤ 1000 from by omega) (by decide), ?_⟩
      exact q

theorem ok_law_both (T : Txt K mg) : FnOk P w K mg base CX0 2 T.a_law_both T.d_law_both P_law_both (sp_law_both K) := by
  refine T.F_law_both.ok sc_law_both (fun vs H Q E h => ?_) (fun cdv A outer s H vs Q E hr h => ?_)
  · obtain ⟨x, y, s, t, rfl, _⟩ := h
    rfl
  · obtain ⟨x, y, s, t, rfl, cs, ct, ⟨es, et⟩, ⟨fs, ft⟩, q⟩ := h
    refine ⟨_, (pss_cons (ps_if (PW.pt (pw_or (pt_cmpR op_eq (pe_ix ix_tup (pv 0) pe_int (fun _ _ => rfl)) pe_str (by first | exact nomark _ | rfl)) (pw_or1 (pt_cmpR op_eq (pe_ix ix_tup (pv 1) pe_int (fun _ _ => rfl)) pe_str (by first | exact nomark _ | rfl)))))
      (pss_one (ps_ret (pe_tup (pa_cons pe_str (pa_cons pe_str pa_nil)))))
      pss_nil)
    (pss_one (ps_ret (pe_tup (pa_cons pe_str (pa_cons (pe_op op_add_str (pe_op op_add_str (pe_call (ok_law_told T) (hr.mono (by decide)) (by rfl) T.g_law_told T.F_law_told.kp (T.b_law_told) .nil pass0 (pa_cons (pv 0) pa_nil)) pe_str) (pe_call (ok_law_told T) (hr.mono (by decide)) (by rfl) T.g_law_told T.F_law_told.kp (T.b_law_told) .nil pass0 (pa_cons (pv 1) pa_nil))) pa_nil)))))), ?_⟩
    obtain ⟨p, rfl, hp⟩ := id cs
    obtain ⟨p2, rfl, hp2⟩ := id ct
    have h1 := told_len s es fs
    have h2 := told_len t et ft
    have h3 : ("/" : Str).length = 1 := by decide +kernel
    obtain ⟨k1, r1, e1, n1⟩ := s.head es
    obtain ⟨k2, r2, e2, n2⟩ := t.head et
    rw [e1] at hp
    rw [e2] at hp2
    walk_at "run"
    refine ⟨_, s, rfl, cs, es, fs, ?_⟩
    walk_at "run"
    refine And.intro (Nat.le_trans (show _ ≤ 3000 by omega) (by decide)) ?_
    walk_at "run"
    refine ⟨_, t, rfl, ct, et, ft, ?_⟩
    walk_at "run"
    refine And.intro (Nat.le_trans (show Str.length (told s ++ ("/" : Str)) + Str.length (told t) ≤ 5000 from by rw [show (told s ++ ("/" : Str)).length = (told s).length + ("/" : Str).length from Str.length_append ..]; omega) (by decide)) ?_
    walk_at "run"
    exact q _ _ (by walk_at "same") ⟨_, rfl, SqT.of upd_same⟩

theorem ok_law_left (T : Txt K mg) : FnOk P w K mg base CX0 1 T.a_law_left T.d_law_left P_law_left (sp_law_left K) := by
  refine T.F_law_left.ok sc_law_left (fun vs H Q E h => ?_) (fun cdv A outer s H vs Q E hr h => ?_)
  · obtain ⟨x, y, s, t, rfl, _⟩ := h
    rfl
  · obtain ⟨x, y, s, t, rfl, cs, ct, ⟨es, et⟩, ⟨fs, ft⟩, q⟩ := h
    refine ⟨_, (pss_cons (ps_if (PW.pt (pw_or (pt_cmpR op_eq (pe_ix ix_tup (pv 0) pe_int (fun _ _ => rfl)) pe_str (by first | exact nomark _ | rfl)) (pw_or1 (pt_cmpR op_eq (pe_ix ix_tup (pv 1) pe_int (fun _ _ => rfl)) pe_str (by first | exact nomark _ | rfl)))))
      (pss_one (ps_ret (pe_tup (pa_cons pe_str pa_nil))))
      pss_nil)
    (pss_one (ps_ret (pv 0)))), ?_⟩
    obtain ⟨p, rfl, hp⟩ := id cs
    obtain ⟨p2, rfl, hp2⟩ := id ct
    obtain ⟨k1, r1, e1, n1⟩ := s.head es
    obtain ⟨k2, r2, e2, n2⟩ := t.head et
    rw [e1] at hp
    rw [e2] at hp2
    walk_at "run"
    exact q _ _ (Same.refl _) cs

theorem ok_law_right (T : Txt K mg) : FnOk P w K mg base CX0 1 T.a_law_right T.d_law_right P_law_right (sp_law_right K) := by
  refine T.F_law_right.ok sc_law_right (fun vs H Q E h => ?_) (fun cdv A outer s H vs Q E hr h => ?_)
  · obtain ⟨x, y, s, t, rfl, _⟩ := h
    rfl
  · obtain ⟨x, y, s, t, rfl, cs, ct, ⟨es, et⟩, ⟨fs, ft⟩, q⟩ := h
    refine ⟨_, (pss_cons (ps_if (PW.pt (pw_or (pt_cmpR op_eq (pe_ix ix_tup (pv 0) pe_int (fun _ _ => rfl)) pe_str (by first | exact nomark _ | rfl)) (pw_or1 (pt_cmpR op_eq (pe_ix ix_tup (pv 1) pe_int (fun _ _ => rfl)) pe_str (by first | exact nomark _ | rfl)))))
      (pss_one (ps_ret (pe_tup (pa_cons pe_str pa_nil))))
      pss_nil)
    (pss_one (ps_ret (pv 1)))), ?_⟩
    obtain ⟨p, rfl, hp⟩ := id cs
    obtain ⟨p2, rfl, hp2⟩ := id ct
    obtain ⟨k1, r1, e1, n1⟩ := s.head es
    obtain ⟨k2, r2, e2, n2⟩ := t.head et
    rw [e1] at hp
    rw [e2] at hp2
    walk_at "run"
    exact q _ _ (Same.refl _) ct

theorem ok_law_alike (T : Txt K mg) : FnOk P w K mg base CX0 1 T.a_law_alike T.d_law_alike P_law_alike (sp_law_alike K) := by
  refine T.F_law_alike.ok sc_law_alike (fun vs H Q E h => ?_) (fun cdv A outer s H vs Q E hr h => ?_)
  · obtain ⟨x, y, s, t, rfl, _⟩ := h
    rfl
  · obtain ⟨x, y, s, t, rfl, cs, ct, ⟨es, et⟩, ⟨fs, ft⟩, q⟩ := h
    refine ⟨_, (pss_one (ps_ret (pe_tup (pa_cons pe_str (pa_cons (pe_cmpR (op_eqD (hu64 hr)) (pv 0) (pv 1) (by first | exact nomark _ | rfl)) pa_nil))))), ?_⟩
    walk_at "run"
    refine ⟨_, _, cs.dp, ct.dp, s.shp fs, t.shp ft, ?_⟩
    walk_at "run"
    exact q _ _ (by walk_at "same") ⟨_, rfl, SqT.of upd_same⟩

theorem ok_law_odd (T : Txt K mg) : FnOk P w K mg base CX0 1 T.a_law_odd T.d_law_odd P_law_odd (sp_law_odd K) := by
  refine T.F_law_odd.ok sc_law_odd (fun vs H Q E h => ?_) (fun cdv A outer s H vs Q E hr h => ?_)
  · obtain ⟨x, y, s, t, rfl, _⟩ := h
    rfl
  · obtain ⟨x, y, s, t, rfl, cs, ct, ⟨es, et⟩, ⟨fs, ft⟩, q⟩ := h
    refine ⟨_, (pss_cons (ps_if (pt_cmpR op_eq (pe_ix ix_tup (pv 0) pe_int (fun _ _ => rfl)) (pe_ix ix_tup (pv 1) pe_int (fun _ _ => rfl)) (by first | exact nomark _ | rfl))
      (pss_one (ps_ret (pe_tup (pa_cons pe_str (pa_cons pe_str pa_nil)))))
      pss_nil)
    (pss_one (ps_ret (pe_tup (pa_cons pe_str pa_nil))))), ?_⟩
    obtain ⟨p, rfl, hp⟩ := id cs
    obtain ⟨p2, rfl, hp2⟩ := id ct
    rcases s with _ | m | z | z | z
    all_goals (try (cases es; done))
    all_goals rcases t with _ | m2 | z2 | z2 | z2
    all_goals (try (cases et; done))
    all_goals walk_at "run"
    all_goals first
      | exact q _ _ (by walk_at "same") ⟨_, rfl, SqT.of upd_same⟩
      | skip

theorem okLam (T : Txt K mg) : CloOk P w K mg base 5 mkL lamB ["pair"] ["deed"] (spL K T.dd) := by
  refine clo_of (scope := lamS) (fun _ _ => rfl) (fun _ _ => rfl) (fun _ _ => rfl) lamScp (fun cl c' pm ctv us hl => match us, hl with | [_], _ => rfl) (fun A outer s H vs ws f c' cl Q E hr out hw hv h => ?_)
  obtain ⟨dw, l, x, y, s1, t1, rfl, rfl, hd, hl, cs, ct, fs, ft, q⟩ := h
  have fin : ∀ (r : V) (H' : Hp), s1.isE = false → t1.isE = false → Same H H' → Con K H' r (deedV dw s1 t1) → Q r H' := fun r H' e1 e2 s' c' => q r H' s' (by rw [if_neg (by rw [e1]; decide), if_neg (by rw [e2]; decide)]; exact c')
  have f1 : s1.isE = true → Q x H := fun e => q x H (Same.refl _) (by rw [if_pos e]; exact cs)
  have f2 : s1.isE = false → t1.isE = true → Q y H := fun e1 e2 => q y H (Same.refl _) (by rw [if_neg (by rw [e1]; decide), if_pos e2]; exact ct)
  clear q
  have d5 : dw = 0 ∨ dw = 1 ∨ dw = 2 ∨ dw = 3 ∨ dw = 4 := by omega
  rcases d5 with rfl | rfl | rfl | rfl | rfl
  · refine ⟨_, pe_orT (pe_call (okfirst_error T) (hr.mono (by decide)) (by rfl) T.gfirst_error T.Ffirst_error.kp (T.bfirst_error) .nil pass0 (pa_cons (pv 0) pa_nil)) (pe_one (pe_callL (i := 1) (dvs := []) (E := E0) (ok_law_both T) (hr.mono (by decide)) rfl (Or.inr (Or.inr rfl)) T.F_law_both.kp T.b_law_both .nil pass0 (pa_cons (pe_ix ix_list (pv 0) pe_int (fun _ _ => rfl)) (pa_cons (pe_ix ix_list (pv 0) pe_int (fun _ _ => rfl)) pa_nil)))), ?_⟩
    refine ⟨_, rfl, l, x, y, s1, t1, rfl, hl, cs, ct, fun e => ⟨true, tru_con cs, f1 e⟩, fun e1 e2 => ⟨true, tru_con ct, f2 e1 e2⟩, fun e1 e2 => ⟨false, rfl, ?_⟩⟩
    refine ⟨rfl, ?_⟩
    refine ⟨_, rfl, _, _, _, _, rfl, rfl, hl, rfl, ?_⟩
    refine ⟨_, rfl, _, _, _, _, rfl, rfl, hl, rfl, ?_⟩
    exact ⟨x, y, s1, t1, rfl, cs, ct, ⟨e1, e2⟩, ⟨fs, ft⟩, fun r H' s' c' => fin r H' e1 e2 s' c'⟩
  · refine ⟨_, pe_orT (pe_call (okfirst_error T) (hr.mono (by decide)) (by rfl) T.gfirst_error T.Ffirst_error.kp (T.bfirst_error) .nil pass0 (pa_cons (pv 0) pa_nil)) (pe_one (pe_callL (i := 1) (dvs := []) (E := E0) (ok_law_left T) (hr.mono (by decide)) rfl (Or.inr (Or.inr rfl)) T.F_law_left.kp T.b_law_left .nil pass0 (pa_cons (pe_ix ix_list (pv 0) pe_int (fun _ _ => rfl)) (pa_cons (pe_ix ix_list (pv 0) pe_int (fun _ _ => rfl)) pa_nil)))), ?_⟩
    refine ⟨_, rfl, l, x, y, s1, t1, rfl, hl, cs, ct, fun e => ⟨true, tru_con cs, f1 e⟩, fun e1 e2 => ⟨true, tru_con ct, f2 e1 e2⟩, fun e1 e2 => ⟨false, rfl, ?_⟩⟩
    refine ⟨rfl, ?_⟩
    refine ⟨_, rfl, _, _, _, _, rfl, rfl, hl, rfl, ?_⟩
    refine ⟨_, rfl, _, _, _, _, rfl, rfl, hl, rfl, ?_⟩
    exact ⟨x, y, s1, t1, rfl, cs, ct, ⟨e1, e2⟩, ⟨fs, ft⟩, fun r H' s' c' => fin r H' e1 e2 s' c'⟩
  · refine ⟨_, pe_orT (pe_call (okfirst_error T) (hr.mono (by decide)) (by rfl) T.gfirst_error T.Ffirst_error.kp (T.bfirst_error) .nil pass0 (pa_cons (pv 0) pa_nil)) (pe_one (pe_callL (i := 1) (dvs := []) (E := E0) (ok_law_right T) (hr.mono (by decide)) rfl (Or.inr (Or.inr rfl)) T.F_law_right.kp T.b_law_right .nil pass0 (pa_cons (pe_ix ix_list (pv 0) pe_int (fun _ _ => rfl)) (pa_cons (pe_ix ix_list (pv 0) pe_int (fun _ _ => rfl)) pa_nil)))), ?_⟩
    refine ⟨_, rfl, l, x, y, s1, t1, rfl, hl, cs, ct, fun e => ⟨true, tru_con cs, f1 e⟩, fun e1 e2 => ⟨true, tru_con ct, f2 e1 e2⟩, fun e1 e2 => ⟨false, rfl, ?_⟩⟩
    refine ⟨rfl, ?_⟩
    refine ⟨_, rfl, _, _, _, _, rfl, rfl, hl, rfl, ?_⟩
    refine ⟨_, rfl, _, _, _, _, rfl, rfl, hl, rfl, ?_⟩
    exact ⟨x, y, s1, t1, rfl, cs, ct, ⟨e1, e2⟩, ⟨fs, ft⟩, fun r H' s' c' => fin r H' e1 e2 s' c'⟩
  · refine ⟨_, pe_orT (pe_call (okfirst_error T) (hr.mono (by decide)) (by rfl) T.gfirst_error T.Ffirst_error.kp (T.bfirst_error) .nil pass0 (pa_cons (pv 0) pa_nil)) (pe_one (pe_callL (i := 1) (dvs := []) (E := E0) (ok_law_alike T) (hr.mono (by decide)) rfl (Or.inr (Or.inr rfl)) T.F_law_alike.kp T.b_law_alike .nil pass0 (pa_cons (pe_ix ix_list (pv 0) pe_int (fun _ _ => rfl)) (pa_cons (pe_ix ix_list (pv 0) pe_int (fun _ _ => rfl)) pa_nil)))), ?_⟩
    refine ⟨_, rfl, l, x, y, s1, t1, rfl, hl, cs, ct, fun e => ⟨true, tru_con cs, f1 e⟩, fun e1 e2 => ⟨true, tru_con ct, f2 e1 e2⟩, fun e1 e2 => ⟨false, rfl, ?_⟩⟩
    refine ⟨rfl, ?_⟩
    refine ⟨_, rfl, _, _, _, _, rfl, rfl, hl, rfl, ?_⟩
    refine ⟨_, rfl, _, _, _, _, rfl, rfl, hl, rfl, ?_⟩
    exact ⟨x, y, s1, t1, rfl, cs, ct, ⟨e1, e2⟩, ⟨fs, ft⟩, fun r H' s' c' => fin r H' e1 e2 s' c'⟩
  · refine ⟨_, pe_orT (pe_call (okfirst_error T) (hr.mono (by decide)) (by rfl) T.gfirst_error T.Ffirst_error.kp (T.bfirst_error) .nil pass0 (pa_cons (pv 0) pa_nil)) (pe_one (pe_callL (i := 1) (dvs := []) (E := E0) (ok_law_odd T) (hr.mono (by decide)) rfl (Or.inr (Or.inr rfl)) T.F_law_odd.kp T.b_law_odd .nil pass0 (pa_cons (pe_ix ix_list (pv 0) pe_int (fun _ _ => rfl)) (pa_cons (pe_ix ix_list (pv 0) pe_int (fun _ _ => rfl)) pa_nil)))), ?_⟩
    refine ⟨_, rfl, l, x, y, s1, t1, rfl, hl, cs, ct, fun e => ⟨true, tru_con cs, f1 e⟩, fun e1 e2 => ⟨true, tru_con ct, f2 e1 e2⟩, fun e1 e2 => ⟨false, rfl, ?_⟩⟩
    refine ⟨rfl, ?_⟩
    refine ⟨_, rfl, _, _, _, _, rfl, rfl, hl, rfl, ?_⟩
    refine ⟨_, rfl, _, _, _, _, rfl, rfl, hl, rfl, ?_⟩
    exact ⟨x, y, s1, t1, rfl, cs, ct, ⟨e1, e2⟩, ⟨fs, ft⟩, fun r H' s' c' => fin r H' e1 e2 s' c'⟩
theorem oktogether (T : Txt K mg) : FnOk P w K mg base CX0 6 T.atogether T.dtogether Ptogether (sptogether K T.dd T.tb) := by
  refine T.Ftogether.ok sctogether (fun vs H Q E h => ?_) (fun cdv A outer s H vs Q E hr h => ?_)
  · obtain ⟨f, l, c', cl, dw, x, y, A, B, rfl, _⟩ := h
    rfl
  · obtain ⟨f, l, c', cl, dw, x, y, A, B, rfl, hl, ra, rb, oa, ob, fa, fb, hdw, hf, hc, ht, q⟩ := h
    refine ⟨_, (pss_cons (ps_asg (pe_call (oksize_of T) (hr.mono (by decide)) (by rfl) T.gsize_of T.Fsize_of.kp (T.bsize_of) .nil pass0 (pa_cons (pv 1) pa_nil)) (pg_tup (by rfl) (pgs_cons (pg_name (i := 2) sctogether.nd rfl (by first | exact Or.inl rfl | exact Or.inr rfl)) (pgs_cons (pg_name (i := 3) sctogether.nd rfl (by first | exact Or.inl rfl | exact Or.inr rfl)) pgs_nil))))
    (pss_cons (ps_if (pt_cmpR op_gt (pe_op op_mul (pv 2) (pv 3)) (pe_glob (v := .int 64) (by rfl) T.m_MOST_MEMBERS ⟨_, rfl⟩) (by first | exact nomark _ | rfl))
      (pss_one (ps_ret (pe_tup (pa_cons pe_str (pa_cons pe_str pa_nil)))))
      pss_nil)
    (pss_cons (ps_set (i := 4) sctogether.nd rfl (by first | exact Or.inl rfl | exact Or.inr rfl) (pe_lst pa_nil))
    (pss_cons (ps_for PassesOwn.never rfl (pi_range1 (by rfl) T.z_range (pa_cons (pv 2) pa_nil)) (pg_name (i := 5) sctogether.nd rfl (by first | exact Or.inl rfl | exact Or.inr rfl))
      (pss_one (ps_for PassesOwn.never rfl (pi_range1 (by rfl) T.z_range (pa_cons (pv 3) pa_nil)) (pg_name (i := 6) sctogether.nd rfl (by first | exact Or.inl rfl | exact Or.inr rfl))
      (pss_cons (ps_setLc (i := 7) (own := [("v", 8)]) (g := gName 8) (tt := tYes) rfl sctogether.nd rfl rfl (sw_true rfl rfl rfl (by decide +kernel)) (pi_list (pv 1)) (blkOk_by (N := Ntogether) (sc := defScope stogether) (by decide +kernel)) (fun _ _ _ _ _ => pg_name (i := 8) sctogether.nd rfl (Or.inl rfl)) (fun _ _ _ _ _ => pts_nil) (fun _ _ _ _ _ => (pe_call (okrepeated T) (hr.mono (by decide)) (by rfl) T.grepeated T.Frepeated.kp (T.brepeated) .nil pass0 (pa_cons (pv 8) (pa_cons (pv 5) (pa_cons (pv 6) pa_nil))))))
    (pss_one (ps_expr (pe_bm PySem.F.plainAttrs_list PySem.F.slot_list_append PySem.F.type_list_append mt_append (pv 4) (pa_cons (pe_ifExp (pt_cmpR (op_inD (hu65 hr)) pe_non (pv 7) (by first | exact nomark _ | rfl)) (pe_glob (v := .ref T.o_NOT_THERE) (by rfl) T.m_NOT_THERE rfl) ((pe_callX (E := E0) (i := 0) (okLam T) (hr.mono (by decide)) rfl (Or.inl rfl) (pa_cons (pv 7) pa_nil)))) pa_nil))))))))
    (pss_one (ps_ret (pe_call (okarray T) (hr.mono (by decide)) (by rfl) T.garray T.Farray.kp (T.barray) .nil pass0 (pa_cons (pv 2) (pa_cons (pv 3) (pa_cons (pv 4) pa_nil)))))))))), ?_⟩
    walk_at "run"
    refine ⟨l, x, y, A, B, rfl, hl, ra, rb, oa, ob, fun p H1 s1 hp => ?_⟩
    obtain ⟨⟨a1, a2, a3, a4, a5⟩, a6⟩ := id oa
    obtain ⟨⟨b1, b2, b3, b4, b5⟩, b6⟩ := id ob
    walk_at "run"
    refine ⟨_, _, rfl, hp, rfl, ?_⟩
    walk_at "run"
    · rename_i hbig
      have hm : ((max A.h B.h : Nat) : Int) * ((max A.w B.w : Nat) : Int) = ((max A.h B.h * max A.w B.w : Nat) : Int) := (Int.natCast_mul _ _).symm
      rw [bcV_out (by omega)] at q
      exact q _ _ (by walk_at "same") (Or.inl ⟨rfl, _, rfl, _, rfl, SqT.of upd_same⟩)
    rename_i hsm F hF
    have hm : ((max A.h B.h : Nat) : Int) * ((max A.w B.w : Nat) : Int) = ((max A.h B.h * max A.w B.w : Nat) : Int) := (Int.natCast_mul _ _).symm
    have hn : ¬ 64 < max A.h B.h * max A.w B.w := by omega
    have hF0 : H F = none := same_none s1 hF
    refine for_range (lo := 0) (n := _) (fun i σ H' => Hd (Same H H' ∧ ∃ xs u1 u2 u3 u4, H' F = some (.lst xs) ∧ ConL K H' xs (cellsT (deedV dw) A B (i * max A.w B.w)) ∧ σ = [some (.ref f), some (.ref l), some (.int (max A.h B.h : Nat)), some (.int (max A.w B.w : Nat)), some (.ref F), u1, u2, u3, u4])) (.mk ⟨s1.trans (same_upd hF), [], _, _, _, _, upd_same, by rw [Nat.zero_mul]; exact ConL.nil, rfl⟩) (fun i σ H' hi hp2 => ?_) (fun σ H' hp2 => ?_)
    · obtain ⟨s2, xs, u1, u2, u3, u4, hz, hc2, rfl⟩ := hp2.get
      walk_at "run"
      refine for_range (lo := 0) (n := _) (fun j σ H' => Hd (Same H H' ∧ ∃ xs u2 u3 u4, H' F = some (.lst xs) ∧ ConL K H' xs (cellsT (deedV dw) A B (i * max A.w B.w + j)) ∧ σ = [some (.ref f), some (.ref l), some (.int (max A.h B.h : Nat)), some (.int (max A.w B.w : Nat)), some (.ref F), some (.int (0 + (i : Int))), u2, u3, u4])) (.mk ⟨s2, xs, u2, u3, u4, hz, hc2, rfl⟩) (fun j σ H3 hj hp3 => ?_) (fun σ H3 hp3 => ?_)
      · obtain ⟨s3, xs, u2, u3, u4, hz, hc3, rfl⟩ := hp3.get
        have jw : j < max A.w B.w := by omega
        have hxl : xs.length < sizeLine := small1000 (by
          rw [hc3.1, cellsT_len]
          have := idx_lt (r := i) (c := j) (h := max A.h B.h) (w := max A.w B.w) (by omega) jw
          omega)
        walk_at "run"
        refine And.intro ⟨_, s3.seq hl⟩ (fun D hD => ?_)
        have hDF : F ≠ D := ne_of_none hz hD
        refine lc_it (walk_list (xs := [x, y])) (fun t H' => Hd (Same H3 H' ∧ ∃ ms, H' D = some (.lst ms) ∧ ms.length = t ∧ Mts K H' ms (A.at i j) (B.at i j))) (.mk ⟨same_upd hD, [], upd_same, rfl, fun k z e => by simp at e⟩) (fun t H' ht hp => (s3.trans hp.get.1).seq hl) (fun t z Ha Hb ht hp hy => ?_) (fun H4 hp => ?_)
        · obtain ⟨s4, ms, hms, lms, hmt⟩ := hp.get
          obtain ⟨rfl, ez⟩ := hy
          have t2 : t = 0 ∨ t = 1 := by
            simp only [List.length_cons, List.length_nil] at ht
            omega
          have ra1 := ra.keep (same_tk (s3.trans s4))
          have rb1 := rb.keep (same_tk (s3.trans s4))
          have fin : ∀ z, Mt K Hb z (if t = 0 then A.at i j else B.at i j) → Hd (Same H3 (upd Hb D (.lst (ms ++ [z]))) ∧ ∃ ms', (upd Hb D (.lst (ms ++ [z]))) D = some (.lst ms') ∧ ms'.length = t + 1 ∧ Mts K (upd Hb D (.lst (ms ++ [z]))) ms' (A.at i j) (B.at i j)) := fun z mz => .mk ⟨same_put s4 hD, ms ++ [z], upd_same, by rw [List.length_append, lms]; rfl, (hmt.snoc (by rw [lms]; exact mz)).keep (lst_tk hms)⟩
          rcases t2 with rfl | rfl
          all_goals cases ez
          · walk_at "run"
            refine ⟨x, A, 0 + i, 0 + j, rfl, ra1, oa, fun z s e c => ?_, fun e => ?_⟩
            all_goals rw [Nat.zero_add, Nat.zero_add] at e
            · exact ⟨ms, hms, small1000 (by omega), fin z (by rw [if_pos rfl, e]; exact c)⟩
            · exact ⟨ms, hms, small1000 (by omega), fin .non (by rw [if_pos rfl, e]; rfl)⟩
          · walk_at "run"
            refine ⟨y, B, 0 + i, 0 + j, rfl, rb1, ob, fun z s e c => ?_, fun e => ?_⟩
            all_goals rw [Nat.zero_add, Nat.zero_add] at e
            · exact ⟨ms, hms, small1000 (by omega), fin z (by rw [if_neg (by decide), e]; exact c)⟩
            · exact ⟨ms, hms, small1000 (by omega), fin .non (by rw [if_neg (by decide), e]; rfl)⟩
        · obtain ⟨s4, ms, hms, lms, hmt⟩ := hp.get
          obtain ⟨z1, z2, rfl⟩ : ∃ z1 z2, ms = [z1, z2] := by
            match ms, (show ms.length = 2 from lms) with
            | [z1, z2], _ => exact ⟨z1, z2, rfl⟩
          have m1 : Mt K H4 z1 (A.at i j) := hmt 0 z1 rfl
          have m2 : Mt K H4 z2 (B.at i j) := hmt 1 z2 rfl
          have hz4 := s4 _ _ hz
          have ec := cellK_at (G := deedV dw) (A := A) (B := B) (i := i) jw
          walk_at "run"
          refine ⟨.inl ⟨rfl, _, SqL.of hz4⟩, ?_⟩
          walk_at "run"
          refine ⟨.none, [dO (A.at i j), dO (B.at i j)], .non, .lst (SqL.of hms) (.cons m1.dp (.cons m2.dp .nil)), rfl, shp2 (fun s e => fa.at e) (fun s e => fb.at e), ?_⟩
          refine ⟨_, rfl, ?_⟩
          have e0 : ([dO (A.at i j), dO (B.at i j)].any fun z => PyData.eqv z PyData.none) = ((A.at i j).isNone || (B.at i j).isNone) := by
            rw [List.any_cons, List.any_cons, List.any_nil, Bool.or_false, dO_eqv, dO_eqv]
          by_cases hb : ((A.at i j).isNone || (B.at i j).isNone) = true
          · refine (if_pos (e0.trans hb)).mpr ?_
            refine ⟨_, _, _, rfl, rfl, hz4, hxl, ?_⟩
            obtain ⟨g1, g2, g3⟩ := step24 s3 hF0 s4 hz hc3 (r := .ref T.o_NOT_THERE) (by rw [ec, cellV_none hb]; exact ⟨_, rfl, T.q_NOT_THERE _⟩)
            exact .mk ⟨g1, _, _, _, _, g2, g3, rfl⟩
          · obtain ⟨s, ea⟩ : ∃ s, A.at i j = some s := by
              cases e : A.at i j with
              | none => rw [e] at hb; exact absurd rfl hb
              | some s => exact ⟨s, rfl⟩
            obtain ⟨t, eb⟩ : ∃ t, B.at i j = some t := by
              cases e : B.at i j with
              | none => rw [e, ea] at hb; exact absurd rfl hb
              | some s => exact ⟨s, rfl⟩
            rw [ea] at m1
            rw [eb] at m2
            rw [cellV_some ea eb] at ec
            have htt := ht.same (s3.trans s4)
            refine (if_neg (fun z => hb (e0.symm.trans z))).mpr ?_
            refine ⟨f, rfl, ⟨_, (s3.trans s4) _ _ hf⟩, _, rfl, cl, c', [some (.ref (T.dd dw))], (s3.trans s4) _ _ hf, (s3.trans s4) _ _ hc, htt, rfl, ?_⟩
            refine ⟨dw, D, z1, z2, s, t, rfl, rfl, hdw, SqL.of (unt_keep htt hms (fun φ z => by cases z)), Con.keep (unt_tk htt) m1, Con.keep (unt_tk htt) m2, fa.at ea, fb.at eb, fun r H5 s5 c5 hn5 => ?_⟩
            have sR := ret_same s5
            refine ⟨_, _, _, rfl, rfl, sR _ _ hz4, hxl, ?_⟩
            obtain ⟨g1, g2, g3⟩ := step24 s3 hF0 (s4.trans sR) hz hc3 (r := r) (by rw [ec]; exact c5.keep (ret_tk hn5))
            exact .mk ⟨g1, _, _, _, _, g2, g3, rfl⟩
      · obtain ⟨s3, xs, u2, u3, u4, hz, hc3, rfl⟩ := hp3.get
        refine .mk ⟨s3, xs, _, _, _, _, hz, ?_, rfl⟩
        rw [Nat.add_mul, Nat.one_mul]
        exact hc3
    · obtain ⟨s2, xs, u1, u2, u3, u4, hz, hc2, rfl⟩ := hp2.get
      walk_at "run"
      refine ⟨⟨max A.h B.h, max A.w B.w, cellsT (deedV dw) A B (max A.h B.h * max A.w B.w)⟩, F, xs, rfl, ?_, SqL.of hz, hc2, fun r H5 s5 r5 => q r H5 (s2.trans s5) (by rw [bcV_in hn]; exact r5)⟩
      have ok := bcV_ok (G := deedV dw) oa ob
      rw [bcV_in hn] at ok
      exact ok

theorem okbroadcast (T : Txt K mg) [hB : TabsB mg base T.cT T.pT] : FnOk P w K mg base CX0 7 T.abroadcast T.dbroadcast Pbroadcast (spbroadcast K T.dd T.tb) := by
  refine Fun.okC T.Fbroadcast scbroadcast (fun vs H Q E h => ?_) (fun cdv A outer s H vs Q E hcd hr h => ?_)
  · obtain ⟨dw, x, y, A, B, rfl, _⟩ := h
    rfl
  · obtain ⟨dw, x, y, A, B, rfl, hdw, ra, rb, oa, ob, fa, fb, hT, q⟩ := h
    refine ⟨_, (pss_one (ps_ret (pe_callC (E := E0) (oktogether T) (hr.mono (by decide)) (by rfl) T.gtogether T.Ftogether.kp (T.btogether) (fun ok => NdefX.Caps.made (js := [0]) ok lamFree lamDeed rfl) (fun ok => away_own ok lamFree (fun y => rfl)) (pa_cons (pe_lam hB.e (hcd.symm.trans T.hc) (T := T.tb) (List.mem_cons_self ..) (fun p hp _ => by rw [List.mem_singleton.mp hp]; rfl) rfl lamFree) (pa_cons (pe_lst (pa_cons (pv 1) (pa_cons (pv 2) pa_nil))) pa_nil))))), ?_⟩
    walk_at "run"
    intro f c' H1 e1 T1 f0 f1 c1
    walk_at "run"
    rename_i l hl0
    intro H2 n2 o2 t2
    have s12 : Same (upd H1 l (.lst [x, y])) H2 := fun b o e => by
      rw [o2 b (fun hi => by rw [n2 b hi] at e; cases e)]
      exact e
    have tk01 := ext_tk (K := K) e1
    have tk12 := (same_tk (K := K) (same_upd (o := .lst [x, y]) hl0)).trans (same_tk s12)
    refine ⟨f, l, c', _, dw, x, y, A, B, rfl, SqL.of (s12 _ _ upd_same), ra.keep (tk01.trans tk12), rb.keep (tk01.trans tk12), oa, ob, fa, fb, hdw, s12 _ _ ((same_upd hl0) _ _ f1), s12 _ _ ((same_upd hl0) _ _ c1), t2, fun r H3 s3 r3 => ?_⟩
    have t3 := t2.same s3
    refine ⟨fun b hi => ?_, ?_⟩
    · obtain ⟨y', hy⟩ := hi
      obtain ⟨o, v, h1, _⟩ := t2.all y' b hy
      rw [h1]
      exact s3 _ _ h1
    · have s4 := unt_same n2 o2 s3
      have s5 := (same_upd (o := .lst [x, y]) hl0).trans s4
      exact q r _ (e1.trans (LamX.ExtN.of s5)) (T1.ext s5) (r3.keep (unt_tk t3))

theorem ok_law_mixed (T : Txt K mg) : FnOk P w K mg base CX0 1 T.a_law_mixed T.d_law_mixed P_law_mixed (sp_law_mixed K) := by
  refine T.F_law_mixed.ok sc_law_mixed (fun vs H Q E h => ?_) (fun cdv A outer s H vs Q E hr h => ?_)
  · obtain ⟨c, t, rfl, _⟩ := h
    rfl
  · obtain ⟨c, t, rfl, q⟩ := h
    refine ⟨_, (pss_cons (ps_set (i := 2) sc_law_mixed.nd rfl (by first | exact Or.inl rfl | exact Or.inr rfl) (pe_op op_mod (pe_callTy call_int1 (by rfl) T.z_int (by decide +kernel) (pa_cons (pe_op op_add (pe_op op_add (pe_op op_mul (pv 0) pe_int) (pe_op op_mul (pv 1) pe_int)) pe_int) pa_nil)) pe_int))
    (pss_cons (ps_set (i := 3) sc_law_mixed.nd rfl (by first | exact Or.inl rfl | exact Or.inr rfl) (pe_op op_mod (pe_callTy call_int1 (by rfl) T.z_int (by decide +kernel) (pa_cons (pe_op op_add (pe_op op_add (pe_op op_mul (pv 2) (pe_op op_add (pe_op op_add (pv 2) (pe_op op_mul pe_int (pv 1))) pe_int)) (pe_op op_mul (pv 1) pe_int)) pe_int) pa_nil)) pe_int))
    (pss_one (ps_ret (pe_op op_mod (pe_callTy call_int1 (by rfl) T.z_int (by decide +kernel) (pa_cons (pe_op op_add (pe_op op_mul (pv 3) pe_int) (pv 2)) pa_nil)) pe_int))))), ?_⟩
    walk_at "run"
    exact q _ (Int.emod_nonneg _ (by decide)) (Int.emod_lt_of_pos _ (by decide))

theorem ok_law_start (T : Txt K mg) : FnOk P w K mg base CX0 2 T.a_law_start T.d_law_start P_law_start (sp_law_start K) := by
  refine T.F_law_start.ok sc_law_start (fun vs H Q E h => ?_) (fun cdv A outer s H vs Q E hr h => ?_)
  · obtain ⟨a, ns, rfl, _⟩ := h
    rfl
  · obtain ⟨a, ns, rfl, hS, hl, q⟩ := h
    refine ⟨_, (pss_cons (ps_set (i := 1) sc_law_start.nd rfl (by first | exact Or.inl rfl | exact Or.inr rfl) (pe_callB call_len_seq (by rfl) T.z_len (by decide +kernel) (pa_cons (pv 0) pa_nil)))
    (pss_cons (ps_for PassesOwn.never rfl (pi_list (pv 0)) (pg_name (i := 2) sc_law_start.nd rfl (by first | exact Or.inl rfl | exact Or.inr rfl))
      (pss_one (ps_set (i := 1) sc_law_start.nd rfl (by first | exact Or.inl rfl | exact Or.inr rfl) (pe_call (ok_law_mixed T) (hr.mono (by decide)) (by rfl) T.g_law_mixed T.F_law_mixed.kp (T.b_law_mixed) .nil pass0 (pa_cons (pe_op op_add (pv 1) (pv 2)) (pa_cons pe_int pa_nil))))))
    (pss_one (ps_ret (pe_lst (pa_cons pe_int (pa_cons pe_int (pa_cons pe_int (pa_cons (pv 1) (pa_cons (pe_callTy call_list_of (by rfl) T.z_list (by decide +kernel) (pa_cons (pv 0) pa_nil)) (pa_cons pe_int pa_nil))))))))))), ?_⟩
    walk_at "run"
    refine And.intro ⟨_, hS⟩ (for_it (walk_list (xs := ns.map V.int)) (fun i σ H' => H' = H ∧ ∃ (n : Int) (u : Option V), σ = [some (.ref a), some (.int n), u]) ⟨rfl, _, none, rfl⟩ (fun i σ H' hi hp => by rw [hp.1]; exact hS) (fun i x σ H1 H2 hi hp hy => ?_) (fun σ H' hp => ?_))
    · obtain ⟨rfl, n, u, rfl⟩ := hp
      obtain ⟨rfl, ex⟩ := hy
      obtain ⟨m, _, rfl⟩ := List.mem_map.mp (List.mem_of_getElem? ex)
      walk_at "run"
      exact ⟨_, _, rfl⟩
    · obtain ⟨rfl, n, u, rfl⟩ := hp
      walk_at "run"
      intro l hl0
      walk_at "run"
      rename_i b hb
      exact q b l _ (by walk_at "same") ⟨⟨0, 0, 0, n, 0, upd_same, by decide, by decide⟩, SqL.of ((same_upd hb) _ _ upd_same), hl⟩

theorem ok_law_take (T : Txt K mg) : FnOk P w K mg base CX0 2 T.a_law_take T.d_law_take P_law_take (sp_law_take K) := by
  refine T.F_law_take.ok sc_law_take (fun vs H Q E h => ?_) (fun cdv A outer s H vs Q E hr h => ?_)
  · obtain ⟨b, c, ns, l, rfl, _⟩ := h
    rfl
  · obtain ⟨b, c, ns, l, rfl, hb, hl, q⟩ := h
    refine ⟨_, (pss_cons (ps_set (i := 2) sc_law_take.nd rfl (by first | exact Or.inl rfl | exact Or.inr rfl) (pe_ix ix_list (pv 0) pe_int (fun _ _ => rfl)))
    (pss_cons (ps_augS (pv 0) pe_int get_list pe_int ip_add set_list)
    (pss_cons (ps_if (PW.pt (pw_and (pt_cmpR op_eq (pe_ix ix_list (pv 0) pe_int (fun _ _ => rfl)) pe_int (by first | exact nomark _ | rfl)) (pw_and1 (pt_cmpR op_lt (pe_ix ix_list (pv 0) pe_int (fun _ _ => rfl)) (pe_callB call_len_seq (by rfl) T.z_len (by decide +kernel) (pa_cons (pv 2) pa_nil)) (by first | exact nomark _ | rfl)))))
      (pss_cons (ps_set (i := 3) sc_law_take.nd rfl (by first | exact Or.inl rfl | exact Or.inr rfl) (pe_ix ix_list (pv 2) (pe_ix ix_list (pv 0) pe_int (fun _ _ => rfl)) (fun _ _ => rfl)))
    (pss_cons (ps_augS (pv 0) pe_int get_list pe_int ip_add set_list)
    (pss_cons (ps_if (PW.pt (pw_or (pt_cmpR op_eq (pe_op op_mod (pe_callB call_len_seq (by rfl) T.z_len (by decide +kernel) (pa_cons (pv 2) pa_nil)) pe_int) pe_int (by first | exact nomark _ | rfl)) (pw_or1 (pt_cmpR op_lt (pe_callB call_abs (by rfl) T.z_abs (by decide +kernel) (pa_cons (pv 3) pa_nil)) (pe_powc (c := 1000000000000000000) (by decide) (by decide +kernel)) (by first | exact nomark _ | rfl)))))
      (pss_one (ps_ret (pe_op op_mod (pe_callTy call_int1 (by rfl) T.z_int (by decide +kernel) (pa_cons (pe_call (ok_law_mixed T) (hr.mono (by decide)) (by rfl) T.g_law_mixed T.F_law_mixed.kp (T.b_law_mixed) .nil pass0 (pa_cons (pv 3) (pa_cons (pe_ix ix_list (pv 0) pe_int (fun _ _ => rfl)) pa_nil))) pa_nil)) (pv 1))))
      pss_nil)
    (pss_cons (ps_asg (pe_callB call_abs (by rfl) T.z_abs (by decide +kernel) (pa_cons (pv 3) pa_nil)) (pg_sub (pv 0) pe_int set_list))
    (pss_one (ps_asg pe_int (pg_sub (pv 0) pe_int set_list)))))))
      pss_nil)
    (pss_cons (ps_if (pt_cmpR op_eq (pe_ix ix_list (pv 0) pe_int (fun _ _ => rfl)) pe_int (by first | exact nomark _ | rfl))
      (pss_one (ps_ret (pe_op op_mod (pe_callTy call_int1 (by rfl) T.z_int (by decide +kernel) (pa_cons (pe_call (ok_law_mixed T) (hr.mono (by decide)) (by rfl) T.g_law_mixed T.F_law_mixed.kp (T.b_law_mixed) .nil pass0 (pa_cons (pe_ix ix_list (pv 0) pe_int (fun _ _ => rfl)) (pa_cons (pe_ix ix_list (pv 0) pe_int (fun _ _ => rfl)) pa_nil))) pa_nil)) (pv 1))))
      pss_nil)
    (pss_cons (ps_set (i := 4) sc_law_take.nd rfl (by first | exact Or.inl rfl | exact Or.inr rfl) (pe_op op_mod (pe_callTy call_int1 (by rfl) T.z_int (by decide +kernel) (pa_cons (pe_ix ix_list (pv 0) pe_int (fun _ _ => rfl)) pa_nil)) (pv 1)))
    (pss_cons (ps_augS (pv 0) pe_int get_list pe_int ip_sub set_list)
    (pss_cons (ps_asg (pe_op op_mul (pe_op op_fdivB (pe_ix ix_list (pv 0) pe_int (fun _ _ => rfl)) (pv 1)) (pe_callTy call_int1 (by rfl) T.z_int (by decide +kernel) (pa_cons (pe_cmpR op_gt (pe_ix ix_list (pv 0) pe_int (fun _ _ => rfl)) pe_int (by first | exact nomark _ | rfl)) pa_nil))) (pg_sub (pv 0) pe_int set_list))
    (pss_one (ps_ret (pv 4)))))))))), ?_⟩
    obtain ⟨⟨i0, i1, i2, i3, i5, e, h0, h1⟩, hc, hn⟩ := hb
    have bx : BoxS K b c ns H := ⟨⟨i0, i1, i2, i3, i5, e, h0, h1⟩, hc, hn⟩
    unfold StS at e
    walk_at "run"
    · rename_i ha hb2
      refine atI_go (but_sqlS e upd_but hc) h1 hb2 fun v hv => ?_
      obtain ⟨m, _, rfl⟩ := List.mem_map.mp hv
      walk_at "run"
      all_goals exact q _ _ (Bs.put (fun _ _ _ h => h) (BoxS.put e bx (by first | omega | exact absnn m | exact dn (absnn m) hl.1) (by first | omega | (show 0 ≤ i1 + 1; omega)))) (Int.emod_nonneg _ (by omega)) (Int.emod_lt_of_pos _ hl.1)
    all_goals exact q _ _ (Bs.put (fun _ _ _ h => h) (BoxS.put e bx (by first | omega | exact dn h0 hl.1) (by first | omega | (show 0 ≤ i1 + 1; omega)))) (Int.emod_nonneg _ (by omega)) (Int.emod_lt_of_pos _ hl.1)

theorem okR_law_same (T : Txt K mg) : ∀ n : Nat, FnOk P w K mg base CX0 (n + 1) T.a_law_same T.d_law_same P_law_same (spR_law_same K n)
  | 0 => ⟨fun _ _ _ _ h => h.elim, fun _ _ _ _ _ _ _ _ _ _ _ _ _ h => h.elim⟩
  | n + 1 => by
    have F' := okR_law_same T n
    refine FnOk.mono (j := (n + 1) + 1) ?_ (by omega)
    refine T.F_law_same.ok sc_law_same (fun vs H Q E h => ?_) (fun cdv A outer s H vs Q E hr h => ?_)
    · obtain ⟨x, y, rfl, _⟩ := h
      rfl
    · obtain ⟨x, y, rfl, ha, q⟩ := h
      refine ⟨_, (pss_cons (ps_if (pt_cmpR op_isN (pv 1) pe_non (by first | exact nomark _ | rfl))
      (pss_one (ps_ret (pe_cmpR op_isN (pv 0) pe_non (by first | exact nomark _ | rfl))))
      pss_nil)
    (pss_cons (ps_if (pt_val (pe_callB call_isiR (by rfl) T.z_isinstance (by decide +kernel) (pa_cons (pv 1) (pa_cons (pe_bltn (v := .ty "bool") (by rfl) T.z_bool (by decide +kernel) rfl) pa_nil))))
      (pss_one (ps_ret (pe_and (pe_callB call_isiR (by rfl) T.z_isinstance (by decide +kernel) (pa_cons (pv 0) (pa_cons (pe_bltn (v := .ty "bool") (by rfl) T.z_bool (by decide +kernel) rfl) pa_nil))) (pe_one (pe_cmpR op_eq (pv 0) (pv 1) (by first | exact nomark _ | rfl))))))
      pss_nil)
    (pss_cons (ps_if (pt_val (pe_callB call_isiR (by rfl) T.z_isinstance (by decide +kernel) (pa_cons (pv 1) (pa_cons (pe_bltn (v := .ty "int") (by rfl) T.z_int (by decide +kernel) rfl) pa_nil))))
      (pss_one (ps_ret (pe_and (pe_callB call_isiR (by rfl) T.z_isinstance (by decide +kernel) (pa_cons (pv 0) (pa_cons (pe_bltn (v := .ty "int") (by rfl) T.z_int (by decide +kernel) rfl) pa_nil))) (pe_and (pe_not (pe_callB call_isiR (by rfl) T.z_isinstance (by decide +kernel) (pa_cons (pv 0) (pa_cons (pe_bltn (v := .ty "bool") (by rfl) T.z_bool (by decide +kernel) rfl) pa_nil)))) (pe_one (pe_cmpR op_eq (pv 0) (pv 1) (by first | exact nomark _ | rfl)))))))
      pss_nil)
    (pss_cons (ps_if (pt_val (pe_callB call_isiR (by rfl) T.z_isinstance (by decide +kernel) (pa_cons (pv 1) (pa_cons (pe_bltn (v := .ty "str") (by rfl) T.z_str (by decide +kernel) rfl) pa_nil))))
      (pss_one (ps_ret (pe_and (pe_callB call_isiR (by rfl) T.z_isinstance (by decide +kernel) (pa_cons (pv 0) (pa_cons (pe_bltn (v := .ty "str") (by rfl) T.z_str (by decide +kernel) rfl) pa_nil))) (pe_one (pe_cmpR op_eq (pv 0) (pv 1) (by first | exact nomark _ | rfl))))))
      pss_nil)
    (pss_cons (ps_if (PW.pt (pw_or (pt_not (pt_val (pe_callB call_isiR (by rfl) T.z_isinstance (by decide +kernel) (pa_cons (pv 0) (pa_cons (pe_bltn (v := .ty "tuple") (by rfl) T.z_tuple (by decide +kernel) rfl) pa_nil))))) (pw_or1 (pt_cmpR op_ne (pe_callB call_len_seq (by rfl) T.z_len (by decide +kernel) (pa_cons (pv 0) pa_nil)) (pe_callB call_len_seq (by rfl) T.z_len (by decide +kernel) (pa_cons (pv 1) pa_nil)) (by first | exact nomark _ | rfl)))))
      (pss_one (ps_ret pe_bl))
      pss_nil)
    (pss_cons (ps_for PassesOwn.never rfl (pi_range1 (by rfl) T.z_range (pa_cons (pe_callB call_len_seq (by rfl) T.z_len (by decide +kernel) (pa_cons (pv 1) pa_nil)) pa_nil)) (pg_name (i := 2) sc_law_same.nd rfl (by first | exact Or.inl rfl | exact Or.inr rfl))
      (pss_one (ps_if (pt_not (pt_val (pe_call F' (hr.mono (by omega)) (by rfl) T.g_law_same T.F_law_same.kp (T.b_law_same) .nil pass0 (pa_cons (pe_ix ix_tup (pv 0) (pv 2) (fun _ _ => rfl)) (pa_cons (pe_ix ix_tup (pv 1) (pv 2) (fun _ _ => rfl)) pa_nil)))))
      (pss_one (ps_ret pe_bl))
      pss_nil)))
    (pss_one (ps_ret pe_bl)))))))), ?_⟩
      obtain ⟨d, dx, dy, hf⟩ := ha
      rcases hf with hf | ⟨ds, rfl, hdl, hds⟩
      · rcases hf with rfl | ⟨z, rfl⟩ | ⟨z, rfl⟩ | ⟨z, rfl⟩
        all_goals (cases dx; cases dy)
        all_goals walk_at "run"
        all_goals first
          | exact q
          | (rw [decide_eq_true rfl]; exact q)
      · obtain ⟨p1, xs, rfl, hx, ax⟩ := dp_tup_get dx
        obtain ⟨p2, ys, rfl, hy, ay⟩ := dp_tup_get dy
        obtain ⟨l1, g1⟩ := dp_get ax
        obtain ⟨l2, g2⟩ := dp_get ay
        walk_at "run"
        · omega
        refine for_range (lo := 0) (n := (ys.length : Int).toNat) (fun i σ H' => Hd (H' = H ∧ ∃ u, σ = [some (.ref p1), some (.ref p2), u])) (.mk ⟨rfl, none, rfl⟩) (fun i σ H' hi hp => ?_) (fun σ H' hp => ?_)
        · obtain ⟨rfl, u, rfl⟩ := hp.get
          have i1 : i < ys.length := by omega
          have i2 : i < xs.length := by omega
          have i3 : i < ds.length := by omega
          have e1 : atI xs (0 + (i : Int)) = some xs[i] := atI_at (by omega) (List.getElem?_eq_getElem i2)
          have e2 : atI ys (0 + (i : Int)) = some ys[i] := atI_at (by omega) (List.getElem?_eq_getElem i1)
          have ak : Lk K n H' xs[i] ys[i] := ⟨ds[i], g1 i _ _ (List.getElem?_eq_getElem i2) (List.getElem?_eq_getElem i3), g2 i _ _ (List.getElem?_eq_getElem i1) (List.getElem?_eq_getElem i3), hds _ (List.getElem_mem i3)⟩
          cases n with
          | zero =>
            obtain ⟨_, _, _, z⟩ := ak
            exact z.elim
          | succ n =>
            walk_at "run"
            all_goals exact .mk ⟨rfl, _, rfl⟩
        · obtain ⟨rfl, u, rfl⟩ := hp.get
          exact q
theorem ok_law_same (T : Txt K mg) : FnOk P w K mg base CX0 5 T.a_law_same T.d_law_same P_law_same (sp_law_same K) := okR_law_same T 4

theorem ok_law_amount (T : Txt K mg) : FnOk P w K mg base CX0 3 T.a_law_amount T.d_law_amount P_law_amount (sp_law_amount K) := by
  refine T.F_law_amount.ok sc_law_amount (fun vs H Q E h => ?_) (fun cdv A outer s H vs Q E hr h => ?_)
  · obtain ⟨b, c, ns, rfl, _⟩ := h
    rfl
  · obtain ⟨b, c, ns, rfl, hb, q⟩ := h
    refine ⟨_, (pss_cons (ps_set (i := 1) sc_law_amount.nd rfl (by first | exact Or.inl rfl | exact Or.inr rfl) (pe_op op_add (pe_op op_add (pe_op op_mul (pe_call (ok_law_take T) (hr.mono (by decide)) (by rfl) T.g_law_take T.F_law_take.kp (T.b_law_take) .nil pass0 (pa_cons (pv 0) (pa_cons (pe_powc (c := 10000000) (by decide) (by decide +kernel)) pa_nil))) (pe_powc (c := 100000000000000) (by decide) (by decide +kernel))) (pe_op op_mul (pe_call (ok_law_take T) (hr.mono (by decide)) (by rfl) T.g_law_take T.F_law_take.kp (T.b_law_take) .nil pass0 (pa_cons (pv 0) (pa_cons (pe_powc (c := 10000000) (by decide) (by decide +kernel)) pa_nil))) (pe_powc (c := 10000000) (by decide) (by decide +kernel)))) (pe_call (ok_law_take T) (hr.mono (by decide)) (by rfl) T.g_law_take T.F_law_take.kp (T.b_law_take) .nil pass0 (pa_cons (pv 0) (pa_cons (pe_powc (c := 10000000) (by decide) (by decide +kernel)) pa_nil)))))
    (pss_cons (ps_for PassesOwn.never rfl (pi_range1 (by rfl) T.z_range (pa_cons (pe_call (ok_law_take T) (hr.mono (by decide)) (by rfl) T.g_law_take T.F_law_take.kp (T.b_law_take) .nil pass0 (pa_cons (pv 0) (pa_cons pe_int pa_nil))) pa_nil)) (pg_name (i := 2) sc_law_amount.nd rfl (by first | exact Or.inl rfl | exact Or.inr rfl))
      (pss_one (ps_set (i := 1) sc_law_amount.nd rfl (by first | exact Or.inl rfl | exact Or.inr rfl) (pe_op op_fdiv (pv 1) pe_int))))
    (pss_one (ps_ret (pv 1))))), ?_⟩
    walk_at "run"
    rename_i n0 H0 b0 n00 n01 n1 H1 b1 n10 n11 n2 H2 b2 n20 n21 n3 H3 b3 n30 n31
    refine for_range (lo := 0) (n := n3.toNat) (fun i σ H' => Hd (H' = H3 ∧ ∃ (m : Int) (u : Option V), σ = [some (.ref b), some (.int m), u] ∧ 0 ≤ m ∧ m < 1000000000000000000000)) (.mk ⟨rfl, _, none, rfl, by omega, by omega⟩) (fun i σ H' hi hp => ?_) (fun σ H' hp => ?_)
    · obtain ⟨rfl, m, u, rfl, m0, m1⟩ := hp.get
      walk_at "run"
      exact .mk ⟨rfl, _, _, rfl, by omega, by omega⟩
    · obtain ⟨rfl, m, u, rfl, m0, m1⟩ := hp.get
      walk_at "run"
      exact q _ _ (by walk_at "bx") m0 m1

theorem ok_law_signs (T : Txt K mg) : FnOk P w K mg base CX0 1 T.a_law_signs T.d_law_signs P_law_signs (sp_law_signs K) := by
  refine T.F_law_signs.ok sc_law_signs (fun vs H Q E h => ?_) (fun cdv A outer s H vs Q E hr h => ?_)
  · obtain ⟨rfl, _⟩ := h
    rfl
  · obtain ⟨rfl, q⟩ := h
    refine ⟨_, (pss_cons (ps_set (i := 0) sc_law_signs.nd rfl (by first | exact Or.inl rfl | exact Or.inr rfl) pe_str)
    (pss_one (ps_ret (pe_op op_add_str (pv 0) pe_str)))), ?_⟩
    walk_at "run"
    exact ⟨by decide +kernel, q⟩

theorem ok_law_scalar (T : Txt K mg) : FnOk P w K mg base CX0 4 T.a_law_scalar T.d_law_scalar P_law_scalar (sp_law_scalar K) := by
  refine T.F_law_scalar.ok sc_law_scalar (fun vs H Q E h => ?_) (fun cdv A outer s H vs Q E hr h => ?_)
  · obtain ⟨b, c, ns, rfl, _⟩ := h
    rfl
  · obtain ⟨b, c, ns, rfl, hb, q⟩ := h
    refine ⟨_, (pss_cons (ps_set (i := 1) sc_law_scalar.nd rfl (by first | exact Or.inl rfl | exact Or.inr rfl) (pe_call0 (ok_law_signs T) (hr.mono (by decide)) (by rfl) T.g_law_signs T.F_law_signs.kp (T.b_law_signs) .nil pass0))
    (pss_cons (ps_set (i := 2) sc_law_scalar.nd rfl (by first | exact Or.inl rfl | exact Or.inr rfl) (pe_call (ok_law_take T) (hr.mono (by decide)) (by rfl) T.g_law_take T.F_law_take.kp (T.b_law_take) .nil pass0 (pa_cons (pv 0) (pa_cons pe_int pa_nil))))
    (pss_cons (ps_if (pt_cmpR op_eq (pv 2) pe_int (by first | exact nomark _ | rfl))
      (pss_one (ps_ret (pe_tup (pa_cons pe_str pa_nil))))
      pss_nil)
    (pss_cons (ps_if (pt_cmpR op_lt (pv 2) pe_int (by first | exact nomark _ | rfl))
      (pss_one (ps_ret (pe_tup (pa_cons pe_str (pa_cons (pe_op op_mul (pe_call (ok_law_amount T) (hr.mono (by decide)) (by rfl) T.g_law_amount T.F_law_amount.kp (T.b_law_amount) .nil pass0 (pa_cons (pv 0) pa_nil)) (pe_ix ix_list (pe_lst (pa_cons pe_int (pa_cons (pe_un un_neg pe_int) pa_nil))) (pe_op op_sub (pv 2) pe_int) (fun _ _ => rfl))) pa_nil)))))
      pss_nil)
    (pss_cons (ps_if (pt_cmpR op_eq (pv 2) pe_int (by first | exact nomark _ | rfl))
      (pss_one (ps_ret (pe_tup (pa_cons pe_str (pa_cons (pe_cmpR op_eq (pe_call (ok_law_take T) (hr.mono (by decide)) (by rfl) T.g_law_take T.F_law_take.kp (T.b_law_take) .nil pass0 (pa_cons (pv 0) (pa_cons pe_int pa_nil))) pe_int (by first | exact nomark _ | rfl)) pa_nil)))))
      pss_nil)
    (pss_cons (ps_if (pt_cmpR op_eq (pv 2) pe_int (by first | exact nomark _ | rfl))
      (pss_one (ps_ret (pe_tup (pa_cons pe_str (pa_cons (pe_ix ix_seq (pe_bm PySem.F.plainAttrs_str PySem.F.slot_str_split PySem.F.type_str_split mt_split pe_str (pa_cons pe_str pa_nil)) (pe_call (ok_law_take T) (hr.mono (by decide)) (by rfl) T.g_law_take T.F_law_take.kp (T.b_law_take) .nil pass0 (pa_cons (pv 0) (pa_cons pe_int pa_nil))) (fun _ _ => rfl)) pa_nil)))))
      pss_nil)
    (pss_cons (ps_set (i := 3) sc_law_scalar.nd rfl (by first | exact Or.inl rfl | exact Or.inr rfl) (pe_call (ok_law_take T) (hr.mono (by decide)) (by rfl) T.g_law_take T.F_law_take.kp (T.b_law_take) .nil pass0 (pa_cons (pv 0) (pa_cons pe_int pa_nil))))
    (pss_cons (ps_if (pt_cmpR op_eq (pe_call (ok_law_take T) (hr.mono (by decide)) (by rfl) T.g_law_take T.F_law_take.kp (T.b_law_take) .nil pass0 (pa_cons (pv 0) (pa_cons pe_int pa_nil))) pe_int (by first | exact nomark _ | rfl))
      (pss_one (ps_set (i := 3) sc_law_scalar.nd rfl (by first | exact Or.inl rfl | exact Or.inr rfl) (pe_call (ok_law_take T) (hr.mono (by decide)) (by rfl) T.g_law_take T.F_law_take.kp (T.b_law_take) .nil pass0 (pa_cons (pv 0) (pa_cons pe_int pa_nil)))))
      pss_nil)
    (pss_one (ps_ret (pe_tup (pa_cons pe_str (pa_cons (pe_bm PySem.F.plainAttrs_str PySem.F.slot_str_join PySem.F.type_str_join mt_join pe_str (pa_cons (pe_lc (own := [("k", 4)]) (g := gName 4) (tt := tYes) rfl sc_law_scalar.nd (pi_range1 (by rfl) T.z_range (pa_cons (pv 3) pa_nil)) (blkOk_by (N := N_law_scalar) (sc := defScope s_law_scalar) (by decide +kernel)) (fun _ _ _ _ _ => pg_name (i := 4) sc_law_scalar.nd rfl (Or.inl rfl)) (fun _ _ _ _ _ => pts_nil) (fun _ _ _ _ _ => (pe_ix ix_str (pv 1) (pe_call (ok_law_take T) (hr.mono (by decide)) (by rfl) T.g_law_take T.F_law_take.kp (T.b_law_take) .nil pass0 (pa_cons (pv 0) (pa_cons pe_int pa_nil))) (fun _ _ => rfl)))) pa_nil)) pa_nil))))))))))))), ?_⟩
    walk_at "run"
    · exact q _ .empty _ (by walk_at "bx") trivial ⟨_, rfl, SqT.of upd_same⟩
    · refine atI_go (SqL.of upd_same) (by omega) (by show _ < (2 : Int); omega) fun v hv => ?_
      simp only [List.mem_cons, List.not_mem_nil, or_false] at hv
      rcases hv with rfl | rfl
      all_goals walk_at "run"
      all_goals exact q _ (.num _) _ (by walk_at "bx") (And.intro (by omega) (by omega)) ⟨_, rfl, SqT.of upd_same⟩
    · exact q _ (.tru _) _ (by walk_at "bx") trivial ⟨_, rfl, SqT.of upd_same⟩
    · rename_i p hp
      refine ⟨b, c, ns, 9, rfl, by walk_at "bat", by decide, fun n H1 b1 h0 h1 => ?_⟩
      have hpb : p ≠ b := Ne.symm (BoxS.ne (Bs.bat (by assumption)) hp)
      refine Or.inl ?_
      refine atI_go (SqL.of (b1.1 _ _ hpb upd_same)) h0 (by rw [List.length_map, show (Txt.split (Str.ofString "DIV VALUE REF NAME NUM NA CALC SIZE LIMIT") (Str.ofString " ")).length = 9 by decide +kernel]; exact h1) fun v hv => ?_
      obtain ⟨z, hz, rfl⟩ := List.mem_map.mp hv
      have fz := words_ok z hz
      walk_at "run"
      exact q _ (.err z) _ (by walk_at "bx") fz ⟨_, rfl, SqT.of upd_same⟩
    · rename_i cnt H1 b1 n0 n1 D hD
      have hx1 := b1.bat
      have hne := hx1.ne hD
      refine lc_range (lo := 0) (n := cnt.toNat) (fun i H' => Hd (Bs K b c ns H1 H' ∧ ∃ zs : List Str, H' D = some (.lst (zs.map V.str)) ∧ zs.length = i ∧ ∀ z ∈ zs, z.length = 1 ∧ OkS z)) (.mk ⟨(by walk_at "bx"), [], upd_same, rfl, fun z h => absurd h List.not_mem_nil⟩) (fun i H' hi hp => ?_) (fun H' hp => ?_)
      · obtain ⟨hb2, zs, hz, hl, h1⟩ := hp.get
        walk_at "run"
        rename_i n2 H2 b2 m0 m1
        obtain ⟨ch, ec⟩ := sg_at m0 m1
        refine ⟨SG, _, ch, rfl, rfl, sg_line, ec, zs.map V.str, b2.1 _ _ (Ne.symm hne) hz, ?_, .mk ⟨(hb2.trans b2).more hx1 hD hne, zs ++ [⟨#[ch]⟩], ?_, ?_, ?_⟩⟩
        · rw [List.length_map]
          exact small1000 (by omega)
        · rw [List.map_append]
          exact upd_same
        · rw [List.length_append, hl]
          rfl
        · intro z hz
          rcases List.mem_append.mp hz with hz | hz
          · exact h1 z hz
          · rw [List.mem_singleton.mp hz]
            refine ⟨rfl, fun d hd => ?_⟩
            rw [List.mem_singleton.mp (show d ∈ [ch] from hd)]
            exact sg_ok ec
      · obtain ⟨hb2, zs, hz, hl, h1⟩ := hp.get
        refine ⟨_, D, zs, rfl, rfl, Or.inl (SqL.of hz), ones_join (fun z hz => (h1 z hz).1) (by omega), ?_⟩
        walk_at "run"
        refine q _ (.txt _) _ (by walk_at "bx") ?_ ⟨_, rfl, SqT.of upd_same⟩
        refine And.intro ?_ (OkS.join fun z hz => (h1 z hz).2).ok
        rw [len_join1 (fun z hz => (h1 z hz).1)]
        omega
    · rename_i cnt Ha ba n0 n1 n12 H1 b1 q0 q1 hx D hD
      have hx1 := b1.bat
      have hne := hx1.ne hD
      refine lc_range (lo := 0) (n := cnt.toNat) (fun i H' => Hd (Bs K b c ns H1 H' ∧ ∃ zs : List Str, H' D = some (.lst (zs.map V.str)) ∧ zs.length = i ∧ ∀ z ∈ zs, z.length = 1 ∧ OkS z)) (.mk ⟨(by walk_at "bx"), [], upd_same, rfl, fun z h => absurd h List.not_mem_nil⟩) (fun i H' hi hp => ?_) (fun H' hp => ?_)
      · obtain ⟨hb2, zs, hz, hl, h1⟩ := hp.get
        walk_at "run"
        rename_i n2 H2 b2 m0 m1
        obtain ⟨ch, ec⟩ := sg_at m0 m1
        refine ⟨SG, _, ch, rfl, rfl, sg_line, ec, zs.map V.str, b2.1 _ _ (Ne.symm hne) hz, ?_, .mk ⟨(hb2.trans b2).more hx1 hD hne, zs ++ [⟨#[ch]⟩], ?_, ?_, ?_⟩⟩
        · rw [List.length_map]
          exact small1000 (by omega)
        · rw [List.map_append]
          exact upd_same
        · rw [List.length_append, hl]
          rfl
        · intro z hz
          rcases List.mem_append.mp hz with hz | hz
          · exact h1 z hz
          · rw [List.mem_singleton.mp hz]
            refine ⟨rfl, fun d hd => ?_⟩
            rw [List.mem_singleton.mp (show d ∈ [ch] from hd)]
            exact sg_ok ec
      · obtain ⟨hb2, zs, hz, hl, h1⟩ := hp.get
        refine ⟨_, D, zs, rfl, rfl, Or.inl (SqL.of hz), ones_join (fun z hz => (h1 z hz).1) (by omega), ?_⟩
        walk_at "run"
        refine q _ (.txt _) _ (by walk_at "bx") ?_ ⟨_, rfl, SqT.of upd_same⟩
        refine And.intro ?_ (OkS.join fun z hz => (h1 z hz).2).ok
        rw [len_join1 (fun z hz => (h1 z hz).1)]
        omega

theorem ok_law_members (T : Txt K mg) : FnOk P w K mg base CX0 5 T.a_law_members T.d_law_members P_law_members (sp_law_members K) := by
  refine T.F_law_members.ok sc_law_members (fun vs H Q E h => ?_) (fun cdv A outer s H vs Q E hr h => ?_)
  · obtain ⟨b, c, ns, m, rfl, _⟩ := h
    rfl
  · obtain ⟨b, c, ns, m, rfl, hb, hm, q⟩ := h
    refine ⟨_, (pss_cons (ps_setLc (i := 2) (own := [("k", 3)]) (g := gName 3) (tt := tYes) rfl sc_law_members.nd rfl rfl (sw_true rfl rfl rfl (by decide +kernel)) (pi_range1 (by rfl) T.z_range (pa_cons pe_int pa_nil)) (blkOk_by (N := N_law_members) (sc := defScope s_law_members) (by decide +kernel)) (fun _ _ _ _ _ => pg_name (i := 3) sc_law_members.nd rfl (Or.inl rfl)) (fun _ _ _ _ _ => pts_nil) (fun _ _ _ _ _ => (pe_call (ok_law_scalar T) (hr.mono (by decide)) (by rfl) T.g_law_scalar T.F_law_scalar.kp (T.b_law_scalar) .nil pass0 (pa_cons (pv 0) pa_nil))))
    (pss_cons (ps_set (i := 4) sc_law_members.nd rfl (by first | exact Or.inl rfl | exact Or.inr rfl) (pe_lst pa_nil))
    (pss_cons (ps_for PassesOwn.never rfl (pi_range1 (by rfl) T.z_range (pa_cons (pv 1) pa_nil)) (pg_name (i := 3) sc_law_members.nd rfl (by first | exact Or.inl rfl | exact Or.inr rfl))
      (pss_cons (ps_set (i := 5) sc_law_members.nd rfl (by first | exact Or.inl rfl | exact Or.inr rfl) (pe_call (ok_law_take T) (hr.mono (by decide)) (by rfl) T.g_law_take T.F_law_take.kp (T.b_law_take) .nil pass0 (pa_cons (pv 0) (pa_cons pe_int pa_nil))))
    (pss_one (ps_if (pt_cmpR op_lt (pv 5) pe_int (by first | exact nomark _ | rfl))
      (pss_one (ps_expr (pe_bm PySem.F.plainAttrs_list PySem.F.slot_list_append PySem.F.type_list_append mt_append (pv 4) (pa_cons (pe_ix ix_list (pv 2) (pv 5) (fun _ _ => rfl)) pa_nil))))
      (pss_one (ps_if (pt_cmpR op_eq (pv 5) pe_int (by first | exact nomark _ | rfl))
      (pss_one (ps_expr (pe_bm PySem.F.plainAttrs_list PySem.F.slot_list_append PySem.F.type_list_append mt_append (pv 4) (pa_cons (pe_tup (pa_cons pe_str (pa_cons (pe_op op_mul (pv 3) (pe_powc (c := 1000000) (by decide) (by decide +kernel))) pa_nil))) pa_nil))))
      (pss_one (ps_expr (pe_bm PySem.F.plainAttrs_list PySem.F.slot_list_append PySem.F.type_list_append mt_append (pv 4) (pa_cons (pe_call (ok_law_scalar T) (hr.mono (by decide)) (by rfl) T.g_law_scalar T.F_law_scalar.kp (T.b_law_scalar) .nil pass0 (pa_cons (pv 0) pa_nil)) pa_nil))))))))))
    (pss_one (ps_ret (pv 4)))))), ?_⟩
    walk_at "run"
    rename_i D hD
    have hne := hb.ne hD
    refine lc_range (lo := 0) (n := Int.toNat 3) (fun i H' => Hd (Bs K b c ns H H' ∧ ∃ xs cs, H' D = some (.lst xs) ∧ xs.length = i ∧ (∀ s ∈ cs, Sc.fit s) ∧ ConL K H' xs cs)) (.mk ⟨(by walk_at "bx"), [], [], upd_same, rfl, fun s h => absurd h List.not_mem_nil, ConL.nil⟩) (fun i H' hi hp => ?_) (fun H' hp => ?_)
    · obtain ⟨hb2, xs, cs, hz, hl, hf, hc⟩ := hp.get
      walk_at "run"
      rename_i x s H4 b4 f4
      intro c4
      have hz4 := b4.1 _ _ (Ne.symm hne) hz
      refine ⟨xs, hz4, small1000 (by omega), .mk ⟨(hb2.trans b4).more hb hD hne, xs ++ [x], cs ++ [s], upd_same, ?_, ?_, ?_⟩⟩
      · rw [List.length_append, hl]
        rfl
      · intro t ht
        rcases List.mem_append.mp ht with ht | ht
        · exact hf t ht
        · rw [List.mem_singleton.mp ht]
          exact f4
      · exact ((hc.keep (b4.tk hb2.2)).snoc c4).keep (lst_tk hz4)
    · obtain ⟨hb2, xs, cs, hz, hl, hf, hc⟩ := hp.get
      walk_at "run"
      rename_i M hM
      have hMb : b ≠ M := (hb2.2).ne hM
      have hMD : D ≠ M := ne_of_none hz hM
      have hM0 := (hb2.back hM).1
      refine for_range (lo := 0) (n := m.toNat) (fun i σ H2 => Hd (MInv K b c D M ns m H xs cs i σ H2)) (.mk ⟨hb2.new hM, (same_upd hM) _ _ hz, hc.keep (same_tk (same_upd hM)), [], [], _, _, upd_same, rfl, fun s h => absurd h List.not_mem_nil, ConL.nil, rfl⟩) (fun i σ H2 hi hp2 => ?_) (fun σ H2 hp2 => ?_)
      · obtain ⟨hb3, hzD, hcD, ms, ds, u1, u2, hzM, hl2, hf2, hc2, rfl⟩ := hp2.get
        have hms : ms.length < sizeLine := small1000 (by rw [hc2.1]; omega)
        walk_at "run"
        · rename_i n H4 b4 h0 h1 hn
          have zM := b4.1 _ _ (Ne.symm hMb) hzM
          have zD := b4.1 _ _ (Ne.symm hne) hzD
          have tk := b4.tk (K := K) hb3.2
          refine ⟨.inl ⟨rfl, _, SqL.of zM⟩, ?_⟩
          walk_at "run"
          refine atI_go (SqL.of zD) h0 (by rw [hl]; exact hn) fun v hv => ?_
          obtain ⟨t, ht, ct⟩ := (hcD.keep tk).mem hv
          walk_at "run"
          refine ⟨_, _, _, rfl, rfl, zM, hms, ?_⟩
          exact MInv.snoc hb hM0 hMb hMD (hb3.trans b4) zD (hcD.keep tk) zM hl2 hf2 (hc2.keep tk) ct (hf t ht)
        · rename_i n H4 b4 h0 h1 hn1 hn
          have zM := b4.1 _ _ (Ne.symm hMb) hzM
          have zD := b4.1 _ _ (Ne.symm hne) hzD
          have tk := b4.tk (K := K) hb3.2
          refine ⟨.inl ⟨rfl, _, SqL.of zM⟩, ?_⟩
          walk_at "run"
          rename_i p hp
          have tk2 := tk.trans (same_tk (K := K) (same_upd (o := .tup [.str "number", .int ((0 + (i : Int)) * 1000000)]) hp))
          refine ⟨_, _, _, rfl, rfl, (same_upd hp) _ _ zM, hms, ?_⟩
          exact MInv.snoc hb hM0 hMb hMD ((hb3.trans b4).new hp) ((same_upd hp) _ _ zD) (hcD.keep tk2) ((same_upd hp) _ _ zM) hl2 hf2 (hc2.keep tk2) (s := .num ((0 + (i : Int)) * 1000000)) ⟨_, rfl, SqT.of upd_same⟩ (And.intro (by omega) (by omega))
        · rename_i n H4 b4 h0 h1 hn1 hn
          have zM := b4.1 _ _ (Ne.symm hMb) hzM
          have zD := b4.1 _ _ (Ne.symm hne) hzD
          have tk := b4.tk (K := K) hb3.2
          refine ⟨.inl ⟨rfl, _, SqL.of zM⟩, ?_⟩
          walk_at "run"
          rename_i x s H5 b5 f5
          intro c5
          have zM5 := b5.1 _ _ (Ne.symm hMb) zM
          have zD5 := b5.1 _ _ (Ne.symm hne) zD
          have tk5 := tk.trans (b5.tk (K := K) b4.2)
          refine ⟨_, _, _, rfl, rfl, zM5, hms, ?_⟩
          exact MInv.snoc hb hM0 hMb hMD ((hb3.trans b4).trans b5) zD5 (hcD.keep tk5) zM5 hl2 hf2 (hc2.keep tk5) c5 f5
      · obtain ⟨hb3, hzD, hcD, ms, ds, u1, u2, hzM, hl2, hf2, hc2, rfl⟩ := hp2.get
        walk_at "run"
        exact q _ ms ds _ hb3 (SqL.of hzM) (by omega) hf2 hc2

theorem ok_law_lines (T : Txt K mg) : FnOk P w K mg base CX0 3 T.a_law_lines T.d_law_lines P_law_lines (sp_law_lines K) := by
  refine T.F_law_lines.ok sc_law_lines (fun vs H Q E h => ?_) (fun cdv A outer s H vs Q E hr h => ?_)
  · obtain ⟨b, c, ns, lim, near, rfl, _⟩ := h
    rfl
  · obtain ⟨b, c, ns, lim, near, rfl, hb, hl, hn, q⟩ := h
    refine ⟨_, (pss_cons (ps_set (i := 3) sc_law_lines.nd rfl (by first | exact Or.inl rfl | exact Or.inr rfl) (pe_call (ok_law_take T) (hr.mono (by decide)) (by rfl) T.g_law_take T.F_law_take.kp (T.b_law_take) .nil pass0 (pa_cons (pv 0) (pa_cons pe_int pa_nil))))
    (pss_cons (ps_set (i := 4) sc_law_lines.nd rfl (by first | exact Or.inl rfl | exact Or.inr rfl) (pe_ix ix_list (pe_lst (pa_cons pe_int (pa_cons (pv 2) (pa_cons (pe_op op_add (pv 2) pe_int) (pa_cons (pe_op op_sub (pv 2) pe_int) (pa_cons (pe_op op_add pe_int (pe_call (ok_law_take T) (hr.mono (by decide)) (by rfl) T.g_law_take T.F_law_take.kp (T.b_law_take) .nil pass0 (pa_cons (pv 0) (pa_cons pe_int pa_nil)))) (pa_cons (pe_op op_add pe_int (pe_call (ok_law_take T) (hr.mono (by decide)) (by rfl) T.g_law_take T.F_law_take.kp (T.b_law_take) .nil pass0 (pa_cons (pv 0) (pa_cons pe_int pa_nil)))) pa_nil))))))) (pv 3) (fun _ _ => rfl)))
    (pss_one (ps_ret (pe_callB (call_min2 rfl) (by rfl) T.z_min (by decide +kernel) (pa_cons (pe_callTy call_int1 (by rfl) T.z_int (by decide +kernel) (pa_cons (pe_callB (call_max2 rfl) (by rfl) T.z_max (by decide +kernel) (pa_cons (pv 4) (pa_cons pe_int pa_nil))) pa_nil)) (pa_cons (pv 1) pa_nil))))))), ?_⟩
    walk_at "run"
    refine atI_go (SqL.of upd_same) (by omega) (by show _ < (6 : Int); omega) fun v hv => ?_
    simp only [List.mem_cons, List.not_mem_nil, or_false] at hv
    rcases hv with rfl | rfl | rfl | rfl | rfl | rfl
    all_goals walk_at "run"
    all_goals refine q _ _ (by walk_at "bx") ?_ ?_
    all_goals ((repeat' split) <;> omega)

theorem ok_law_value (T : Txt K mg) : FnOk P w K mg base CX0 6 T.a_law_value T.d_law_value P_law_value (sp_law_value K) := by
  refine T.F_law_value.ok sc_law_value (fun vs H Q E h => ?_) (fun cdv A outer s H vs Q E hr h => ?_)
  · obtain ⟨b, c, ns, h, w, rfl, _⟩ := h
    rfl
  · obtain ⟨b, c, ns, h, w, rfl, hb, hw, q⟩ := h
    refine ⟨_, (pss_cons (ps_set (i := 3) sc_law_value.nd rfl (by first | exact Or.inl rfl | exact Or.inr rfl) (pe_call (ok_law_members T) (hr.mono (by decide)) (by rfl) T.g_law_members T.F_law_members.kp (T.b_law_members) .nil pass0 (pa_cons (pv 0) (pa_cons (pe_op op_mul (pv 1) (pv 2)) pa_nil))))
    (pss_cons (ps_if (pt_cmpR op_eq (pe_op op_mul (pv 1) (pv 2)) pe_int (by first | exact nomark _ | rfl))
      (pss_one (ps_ret (pe_ix ix_list (pv 3) pe_int (fun _ _ => rfl))))
      pss_nil)
    (pss_one (ps_ret (pe_tup (pa_cons pe_str (pa_cons (pv 1) (pa_cons (pv 2) (pa_cons (pe_callTy call_tuple_of (by rfl) T.z_tuple (by decide +kernel) (pa_cons (pv 3) pa_nil)) pa_nil))))))))), ?_⟩
    have hm : (h : Int) * (w : Int) = ((h * w : Nat) : Int) := (Int.natCast_mul h w).symm
    walk_at "run"
    rename_i l xs cs H1 b1
    intro hs hlen hfit hcon
    have hlen2 : cs.length = h * w := by omega
    have ok : (⟨h, w, cs⟩ : Vl).ok := ⟨hw, hlen2⟩
    have ft : (⟨h, w, cs⟩ : Vl).fit := hfit
    walk_at "run"
    · rename_i e1
      have e2 : h * w = 1 := by omega
      obtain ⟨s, rfl⟩ : ∃ s, cs = [s] := by
        match cs, (show cs.length = 1 by omega) with
        | [s], _ => exact ⟨s, rfl⟩
      have xl := hcon.1
      obtain ⟨x, rfl⟩ : ∃ x, xs = [x] := by
        match xs, (show xs.length = 1 from xl) with
        | [x], _ => exact ⟨x, rfl⟩
      walk_at "run"
      exact q _ _ _ b1 ok ft rfl rfl (Or.inl ⟨e2, s, rfl, hcon.2 0 x s rfl rfl⟩)
    · rename_i e1
      have e2 : h * w ≠ 1 := by omega
      refine ⟨_, _, rfl, Or.inl (And.intro hs fun p hp => ?_)⟩
      walk_at "run"
      rename_i p2 hp2
      refine q _ _ _ (by walk_at "bx") ok ft rfl rfl (Or.inr ⟨e2, _, _, xs, rfl, SqT.of upd_same, SqT.of ((same_upd hp2) _ _ upd_same), hcon.keep (same_tk ((same_upd hp).trans (same_upd hp2)))⟩)

theorem ok_law_deed (T : Txt K mg) : FnOk P w K mg base CX0 3 T.a_law_deed T.d_law_deed P_law_deed (sp_law_deed K) := by
  refine T.F_law_deed.ok sc_law_deed (fun vs H Q E h => ?_) (fun cdv A outer s H vs Q E hr h => ?_)
  · obtain ⟨dw, x, y, s, t, rfl, _⟩ := h
    rfl
  · obtain ⟨dw, x, y, s, t, rfl, hdw, cs, ct, es, fs, q⟩ := h
    refine ⟨_, (pss_cons (ps_if (pt_cmpR op_eq (pv 0) pe_int (by first | exact nomark _ | rfl))
      (pss_one (ps_ret (pe_call (ok_law_both T) (hr.mono (by decide)) (by rfl) T.g_law_both T.F_law_both.kp (T.b_law_both) .nil pass0 (pa_cons (pv 1) (pa_cons (pv 2) pa_nil)))))
      pss_nil)
    (pss_cons (ps_if (pt_cmpR op_eq (pv 0) pe_int (by first | exact nomark _ | rfl))
      (pss_one (ps_ret (pe_call (ok_law_left T) (hr.mono (by decide)) (by rfl) T.g_law_left T.F_law_left.kp (T.b_law_left) .nil pass0 (pa_cons (pv 1) (pa_cons (pv 2) pa_nil)))))
      pss_nil)
    (pss_cons (ps_if (pt_cmpR op_eq (pv 0) pe_int (by first | exact nomark _ | rfl))
      (pss_one (ps_ret (pe_call (ok_law_right T) (hr.mono (by decide)) (by rfl) T.g_law_right T.F_law_right.kp (T.b_law_right) .nil pass0 (pa_cons (pv 1) (pa_cons (pv 2) pa_nil)))))
      pss_nil)
    (pss_cons (ps_if (pt_cmpR op_eq (pv 0) pe_int (by first | exact nomark _ | rfl))
      (pss_one (ps_ret (pe_call (ok_law_alike T) (hr.mono (by decide)) (by rfl) T.g_law_alike T.F_law_alike.kp (T.b_law_alike) .nil pass0 (pa_cons (pv 1) (pa_cons (pv 2) pa_nil)))))
      pss_nil)
    (pss_one (ps_ret (pe_call (ok_law_odd T) (hr.mono (by decide)) (by rfl) T.g_law_odd T.F_law_odd.kp (T.b_law_odd) .nil pass0 (pa_cons (pv 1) (pa_cons (pv 2) pa_nil))))))))), ?_⟩
    have d5 : dw = 0 ∨ dw = 1 ∨ dw = 2 ∨ dw = 3 ∨ dw = 4 := by omega
    rcases d5 with rfl | rfl | rfl | rfl | rfl
    all_goals walk_at "run"
    all_goals (try omega)
    all_goals exact ⟨x, y, s, t, rfl, cs, ct, es, fs, q⟩

theorem ok_law_asked (T : Txt K mg) [hB : TabsB mg base T.cT T.pT] : FnOk P w K mg base CX0 8 T.a_law_asked T.d_law_asked P_law_asked (sp_law_asked K T.dd T.tb) := by
  refine T.F_law_asked.ok sc_law_asked (fun vs H Q E h => ?_) (fun cdv A outer s H vs Q E hr h => ?_)
  · obtain ⟨dw, x, y, A, B, rfl, _⟩ := h
    rfl
  · obtain ⟨dw, x, y, A, B, rfl, hdw, ra, rb, oa, ob, fa, fb, hT, q⟩ := h
    refine ⟨_, (pss_cons (ps_if (pt_cmpR op_eq (pv 0) pe_int (by first | exact nomark _ | rfl))
      (pss_one (ps_ret (pe_call (okbroadcast (base := base) T) (hr.mono (by decide)) (by rfl) T.gbroadcast T.Fbroadcast.kp (T.bbroadcast) .nil pass0 (pa_cons (pe_glob (v := .ref T.a_law_both) (by rfl) T.g_law_both rfl) (pa_cons (pv 1) (pa_cons (pv 2) pa_nil))))))
      pss_nil)
    (pss_cons (ps_if (pt_cmpR op_eq (pv 0) pe_int (by first | exact nomark _ | rfl))
      (pss_one (ps_ret (pe_call (okbroadcast (base := base) T) (hr.mono (by decide)) (by rfl) T.gbroadcast T.Fbroadcast.kp (T.bbroadcast) .nil pass0 (pa_cons (pe_glob (v := .ref T.a_law_left) (by rfl) T.g_law_left rfl) (pa_cons (pv 1) (pa_cons (pv 2) pa_nil))))))
      pss_nil)
    (pss_cons (ps_if (pt_cmpR op_eq (pv 0) pe_int (by first | exact nomark _ | rfl))
      (pss_one (ps_ret (pe_call (okbroadcast (base := base) T) (hr.mono (by decide)) (by rfl) T.gbroadcast T.Fbroadcast.kp (T.bbroadcast) .nil pass0 (pa_cons (pe_glob (v := .ref T.a_law_right) (by rfl) T.g_law_right rfl) (pa_cons (pv 1) (pa_cons (pv 2) pa_nil))))))
      pss_nil)
    (pss_cons (ps_if (pt_cmpR op_eq (pv 0) pe_int (by first | exact nomark _ | rfl))
      (pss_one (ps_ret (pe_call (okbroadcast (base := base) T) (hr.mono (by decide)) (by rfl) T.gbroadcast T.Fbroadcast.kp (T.bbroadcast) .nil pass0 (pa_cons (pe_glob (v := .ref T.a_law_alike) (by rfl) T.g_law_alike rfl) (pa_cons (pv 1) (pa_cons (pv 2) pa_nil))))))
      pss_nil)
    (pss_one (ps_ret (pe_call (okbroadcast (base := base) T) (hr.mono (by decide)) (by rfl) T.gbroadcast T.Fbroadcast.kp (T.bbroadcast) .nil pass0 (pa_cons (pe_glob (v := .ref T.a_law_odd) (by rfl) T.g_law_odd rfl) (pa_cons (pv 1) (pa_cons (pv 2) pa_nil)))))))))), ?_⟩
    have d5 : dw = 0 ∨ dw = 1 ∨ dw = 2 ∨ dw = 3 ∨ dw = 4 := by omega
    rcases d5 with rfl | rfl | rfl | rfl | rfl
    all_goals walk_at "run"
    all_goals (try omega)
    · exact ⟨0, x, y, A, B, rfl, hdw, ra, rb, oa, ob, fa, fb, hT, q⟩
    · exact ⟨1, x, y, A, B, rfl, hdw, ra, rb, oa, ob, fa, fb, hT, q⟩
    · exact ⟨2, x, y, A, B, rfl, hdw, ra, rb, oa, ob, fa, fb, hT, q⟩
    · exact ⟨3, x, y, A, B, rfl, hdw, ra, rb, oa, ob, fa, fb, hT, q⟩
    · exact ⟨4, x, y, A, B, rfl, hdw, ra, rb, oa, ob, fa, fb, hT, q⟩

theorem ok_law_member (T : Txt K mg) : FnOk P w K mg base CX0 1 T.a_law_member T.d_law_member P_law_member (sp_law_member K) := by
  refine T.F_law_member.ok sc_law_member (fun vs H Q E h => ?_) (fun cdv A outer s H vs Q E hr h => ?_)
  · obtain ⟨v, A, i, j, rfl, _⟩ := h
    rfl
  · obtain ⟨v, A, i, j, rfl, rp, ok, q, qn⟩ := h
    refine ⟨_, (pss_cons (ps_if (pt_cmpR op_ne (pe_ix ix_tup (pv 0) pe_int (fun _ _ => rfl)) pe_str (by first | exact nomark _ | rfl))
      (pss_one (ps_ret (pv 0)))
      pss_nil)
    (pss_cons (ps_set (i := 3) sc_law_member.nd rfl (by first | exact Or.inl rfl | exact Or.inr rfl) (pv 1))
    (pss_cons (ps_if (pt_cmpR op_eq (pe_ix ix_tup (pv 0) pe_int (fun _ _ => rfl)) pe_int (by first | exact nomark _ | rfl))
      (pss_one (ps_set (i := 3) sc_law_member.nd rfl (by first | exact Or.inl rfl | exact Or.inr rfl) pe_int))
      pss_nil)
    (pss_cons (ps_set (i := 4) sc_law_member.nd rfl (by first | exact Or.inl rfl | exact Or.inr rfl) (pv 2))
    (pss_cons (ps_if (pt_cmpR op_eq (pe_ix ix_tup (pv 0) pe_int (fun _ _ => rfl)) pe_int (by first | exact nomark _ | rfl))
      (pss_one (ps_set (i := 4) sc_law_member.nd rfl (by first | exact Or.inl rfl | exact Or.inr rfl) pe_int))
      pss_nil)
    (pss_cons (ps_if (PW.pt (pw_or (pt_cmpR op_ge (pv 3) (pe_ix ix_tup (pv 0) pe_int (fun _ _ => rfl)) (by first | exact nomark _ | rfl)) (pw_or1 (pt_cmpR op_ge (pv 4) (pe_ix ix_tup (pv 0) pe_int (fun _ _ => rfl)) (by first | exact nomark _ | rfl)))))
      (pss_one (ps_ret pe_non))
      pss_nil)
    (pss_one (ps_ret (pe_ix ix_tup (pe_ix ix_tup (pv 0) pe_int (fun _ _ => rfl)) (pe_op op_add (pe_op op_mul (pv 3) (pe_ix ix_tup (pv 0) pe_int (fun _ _ => rfl))) (pv 4)) (fun _ _ => rfl)))))))))), ?_⟩
    obtain ⟨⟨k1, k2, k3, k4, k5⟩, k6⟩ := id ok
    rcases rp with ⟨e, s2, e2, hc⟩ | ⟨e, p, p2, xs, rfl, hp, hp2, hc⟩
    · have eh : A.h = 1 := Nat.eq_one_of_mul_eq_one_right e
      have ew : A.w = 1 := Nat.eq_one_of_mul_eq_one_left e
      have hc2 := hc
      obtain ⟨p, k, rest, rfl, hp, hk, _, _⟩ := hc.sca
      have ea : A.at i j = some s2 := Vl.at_eq (r := 0) (c := 0) (if_pos eh).symm (if_pos ew).symm (by omega) (by omega) (by rw [e2]; simp)
      walk_at "run"
      exact q _ _ ea hc2
    · have m1 : ((0 : Nat) : Int) * (A.w : Int) = ((0 * A.w : Nat) : Int) := (Int.natCast_mul _ _).symm
      have m2 : (i : Int) * (A.w : Int) = ((i * A.w : Nat) : Int) := (Int.natCast_mul _ _).symm
      walk_at "run"
      all_goals first
        | (refine qn (Vl.at_none ?_); ((repeat' split) <;> omega))
        | skip
      · obtain ⟨s, es⟩ : ∃ s, A.cs[0 * A.w + 0]? = some s := ok.get (by omega) (by omega)
        have hx : 0 * A.w + 0 < xs.length := by
          rw [hc.1]
          exact (List.getElem?_eq_some_iff.mp es).1
        have ex : atI xs (((0 : Nat) : Int) * (A.w : Int) + ((0 : Nat) : Int)) = some xs[0 * A.w + 0] := atI_at (n := 0 * A.w + 0) (by omega) (List.getElem?_eq_getElem hx)
        exact ⟨p2, xs, _, _, rfl, rfl, hp2, ex, q _ s (Vl.at_eq (if_pos (by omega)).symm (if_pos (by omega)).symm (by omega) (by omega) es) (hc.2 _ _ _ (List.getElem?_eq_getElem hx) es)⟩
      · obtain ⟨s, es⟩ : ∃ s, A.cs[0 * A.w + j]? = some s := ok.get (by omega) (by omega)
        have hx : 0 * A.w + j < xs.length := by
          rw [hc.1]
          exact (List.getElem?_eq_some_iff.mp es).1
        have ex : atI xs (((0 : Nat) : Int) * (A.w : Int) + ((j : Nat) : Int)) = some xs[0 * A.w + j] := atI_at (n := 0 * A.w + j) (by omega) (List.getElem?_eq_getElem hx)
        exact ⟨p2, xs, _, _, rfl, rfl, hp2, ex, q _ s (Vl.at_eq (if_pos (by omega)).symm (if_neg (by omega)).symm (by omega) (by omega) es) (hc.2 _ _ _ (List.getElem?_eq_getElem hx) es)⟩
      · obtain ⟨s, es⟩ : ∃ s, A.cs[i * A.w + 0]? = some s := ok.get (by omega) (by omega)
        have hx : i * A.w + 0 < xs.length := by
          rw [hc.1]
          exact (List.getElem?_eq_some_iff.mp es).1
        have ex : atI xs (((i : Nat) : Int) * (A.w : Int) + ((0 : Nat) : Int)) = some xs[i * A.w + 0] := atI_at (n := i * A.w + 0) (by omega) (List.getElem?_eq_getElem hx)
        exact ⟨p2, xs, _, _, rfl, rfl, hp2, ex, q _ s (Vl.at_eq (if_neg (by omega)).symm (if_pos (by omega)).symm (by omega) (by omega) es) (hc.2 _ _ _ (List.getElem?_eq_getElem hx) es)⟩
      · obtain ⟨s, es⟩ : ∃ s, A.cs[i * A.w + j]? = some s := ok.get (by omega) (by omega)
        have hx : i * A.w + j < xs.length := by
          rw [hc.1]
          exact (List.getElem?_eq_some_iff.mp es).1
        have ex : atI xs (((i : Nat) : Int) * (A.w : Int) + ((j : Nat) : Int)) = some xs[i * A.w + j] := atI_at (n := i * A.w + j) (by omega) (List.getElem?_eq_getElem hx)
        exact ⟨p2, xs, _, _, rfl, rfl, hp2, ex, q _ s (Vl.at_eq (if_neg (by omega)).symm (if_neg (by omega)).symm (by omega) (by omega) es) (hc.2 _ _ _ (List.getElem?_eq_getElem hx) es)⟩

theorem ok_law_lengths (T : Txt K mg) : FnOk P w K mg base CX0 1 T.a_law_lengths T.d_law_lengths P_law_lengths (sp_law_lengths K) := by
  refine T.F_law_lengths.ok sc_law_lengths (fun vs H Q E h => ?_) (fun cdv A outer s H vs Q E hr h => ?_)
  · obtain ⟨v, A, rfl, _⟩ := h
    rfl
  · obtain ⟨v, A, rfl, rp, ok, q⟩ := h
    refine ⟨_, (pss_cons (ps_if (pt_cmpR op_eq (pe_ix ix_tup (pv 0) pe_int (fun _ _ => rfl)) pe_str (by first | exact nomark _ | rfl))
      (pss_one (ps_ret (pe_tup (pa_cons (pe_ix ix_tup (pv 0) pe_int (fun _ _ => rfl)) (pa_cons (pe_ix ix_tup (pv 0) pe_int (fun _ _ => rfl)) pa_nil)))))
      pss_nil)
    (pss_one (ps_ret (pe_tup (pa_cons pe_int (pa_cons pe_int pa_nil)))))), ?_⟩
    rcases rp with ⟨e, s, _, hc⟩ | ⟨e, p, p2, xs, rfl, hp, hp2, hc⟩
    · have eh : A.h = 1 := Nat.eq_one_of_mul_eq_one_right e
      have ew : A.w = 1 := Nat.eq_one_of_mul_eq_one_left e
      rw [eh, ew] at q
      obtain ⟨p, k, rest, rfl, hp, hk, _, _⟩ := hc.sca
      walk_at "run"
      exact q _ _ (by walk_at "same") (SqT.of upd_same)
    · walk_at "run"
      exact q _ _ (by walk_at "same") (SqT.of upd_same)

theorem ok_law_due (T : Txt K mg) : FnOk P w K mg base CX0 4 T.a_law_due T.d_law_due P_law_due (sp_law_due K) := by
  refine T.F_law_due.ok sc_law_due (fun vs H Q E h => ?_) (fun cdv A outer s H vs Q E hr h => ?_)
  · obtain ⟨dw, x, y, A, B, rfl, _⟩ := h
    rfl
  · obtain ⟨dw, x, y, A, B, rfl, hdw, ra, rb, oa, ob, fa, fb, q⟩ := h
    refine ⟨_, (pss_cons (ps_set (i := 3) sc_law_due.nd rfl (by first | exact Or.inl rfl | exact Or.inr rfl) (pe_callB (call_max2 rfl) (by rfl) T.z_max (by decide +kernel) (pa_cons (pe_callTy call_int1 (by rfl) T.z_int (by decide +kernel) (pa_cons (pe_ix ix_tup (pe_call (ok_law_lengths T) (hr.mono (by decide)) (by rfl) T.g_law_lengths T.F_law_lengths.kp (T.b_law_lengths) .nil pass0 (pa_cons (pv 1) pa_nil)) pe_int (fun _ _ => rfl)) pa_nil)) (pa_cons (pe_ix ix_tup (pe_call (ok_law_lengths T) (hr.mono (by decide)) (by rfl) T.g_law_lengths T.F_law_lengths.kp (T.b_law_lengths) .nil pass0 (pa_cons (pv 2) pa_nil)) pe_int (fun _ _ => rfl)) pa_nil))))
    (pss_cons (ps_set (i := 4) sc_law_due.nd rfl (by first | exact Or.inl rfl | exact Or.inr rfl) (pe_callB (call_max2 rfl) (by rfl) T.z_max (by decide +kernel) (pa_cons (pe_callTy call_int1 (by rfl) T.z_int (by decide +kernel) (pa_cons (pe_ix ix_tup (pe_call (ok_law_lengths T) (hr.mono (by decide)) (by rfl) T.g_law_lengths T.F_law_lengths.kp (T.b_law_lengths) .nil pass0 (pa_cons (pv 1) pa_nil)) pe_int (fun _ _ => rfl)) pa_nil)) (pa_cons (pe_ix ix_tup (pe_call (ok_law_lengths T) (hr.mono (by decide)) (by rfl) T.g_law_lengths T.F_law_lengths.kp (T.b_law_lengths) .nil pass0 (pa_cons (pv 2) pa_nil)) pe_int (fun _ _ => rfl)) pa_nil))))
    (pss_cons (ps_if (pt_cmpR op_gt (pe_op op_mul (pv 3) (pv 4)) pe_int (by first | exact nomark _ | rfl))
      (pss_one (ps_ret (pe_tup (pa_cons pe_str (pa_cons pe_str pa_nil)))))
      pss_nil)
    (pss_cons (ps_set (i := 5) sc_law_due.nd rfl (by first | exact Or.inl rfl | exact Or.inr rfl) (pe_lst pa_nil))
    (pss_cons (ps_for PassesOwn.never rfl (pi_range1 (by rfl) T.z_range (pa_cons (pv 3) pa_nil)) (pg_name (i := 6) sc_law_due.nd rfl (by first | exact Or.inl rfl | exact Or.inr rfl))
      (pss_one (ps_for PassesOwn.never rfl (pi_range1 (by rfl) T.z_range (pa_cons (pv 4) pa_nil)) (pg_name (i := 7) sc_law_due.nd rfl (by first | exact Or.inl rfl | exact Or.inr rfl))
      (pss_cons (ps_set (i := 8) sc_law_due.nd rfl (by first | exact Or.inl rfl | exact Or.inr rfl) (pe_call (ok_law_member T) (hr.mono (by decide)) (by rfl) T.g_law_member T.F_law_member.kp (T.b_law_member) .nil pass0 (pa_cons (pv 1) (pa_cons (pv 6) (pa_cons (pv 7) pa_nil)))))
    (pss_cons (ps_set (i := 9) sc_law_due.nd rfl (by first | exact Or.inl rfl | exact Or.inr rfl) (pe_call (ok_law_member T) (hr.mono (by decide)) (by rfl) T.g_law_member T.F_law_member.kp (T.b_law_member) .nil pass0 (pa_cons (pv 2) (pa_cons (pv 6) (pa_cons (pv 7) pa_nil)))))
    (pss_one (ps_if (PW.pt (pw_or (pt_cmpR op_isN (pv 8) pe_non (by first | exact nomark _ | rfl)) (pw_or1 (pt_cmpR op_isN (pv 9) pe_non (by first | exact nomark _ | rfl)))))
      (pss_one (ps_expr (pe_bm PySem.F.plainAttrs_list PySem.F.slot_list_append PySem.F.type_list_append mt_append (pv 5) (pa_cons (pe_tup (pa_cons pe_str (pa_cons pe_str pa_nil))) pa_nil))))
      (pss_one (ps_if (pt_cmpR op_eq (pe_ix ix_tup (pv 8) pe_int (fun _ _ => rfl)) pe_str (by first | exact nomark _ | rfl))
      (pss_one (ps_expr (pe_bm PySem.F.plainAttrs_list PySem.F.slot_list_append PySem.F.type_list_append mt_append (pv 5) (pa_cons (pv 8) pa_nil))))
      (pss_one (ps_if (pt_cmpR op_eq (pe_ix ix_tup (pv 9) pe_int (fun _ _ => rfl)) pe_str (by first | exact nomark _ | rfl))
      (pss_one (ps_expr (pe_bm PySem.F.plainAttrs_list PySem.F.slot_list_append PySem.F.type_list_append mt_append (pv 5) (pa_cons (pv 9) pa_nil))))
      (pss_one (ps_expr (pe_bm PySem.F.plainAttrs_list PySem.F.slot_list_append PySem.F.type_list_append mt_append (pv 5) (pa_cons (pe_call (ok_law_deed T) (hr.mono (by decide)) (by rfl) T.g_law_deed T.F_law_deed.kp (T.b_law_deed) .nil pass0 (pa_cons (pv 0) (pa_cons (pv 8) (pa_cons (pv 9) pa_nil)))) pa_nil)))))))))))))))
    (pss_cons (ps_if (pt_cmpR op_eq (pe_op op_mul (pv 3) (pv 4)) pe_int (by first | exact nomark _ | rfl))
      (pss_one (ps_ret (pe_ix ix_list (pv 5) pe_int (fun _ _ => rfl))))
      pss_nil)
    (pss_one (ps_ret (pe_tup (pa_cons pe_str (pa_cons (pv 3) (pa_cons (pv 4) (pa_cons (pe_callTy call_tuple_of (by rfl) T.z_tuple (by decide +kernel) (pa_cons (pv 5) pa_nil)) pa_nil))))))))))))), ?_⟩
    obtain ⟨⟨a1, a2, a3, a4, a5⟩, a6⟩ := id oa
    obtain ⟨⟨b1, b2, b3, b4, b5⟩, b6⟩ := id ob
    have eh : (if (B.h : Int) > (A.h : Int) then (B.h : Int) else (A.h : Int)) = ((max A.h B.h : Nat) : Int) := by split <;> omega
    have ew : (if (B.w : Int) > (A.w : Int) then (B.w : Int) else (A.w : Int)) = ((max A.w B.w : Nat) : Int) := by split <;> omega
    have hm : ((max A.h B.h : Nat) : Int) * ((max A.w B.w : Nat) : Int) = ((max A.h B.h * max A.w B.w : Nat) : Int) := (Int.natCast_mul _ _).symm
    walk_at "run"
    intro p1 H1 s1 w1
    have rb1 := rb.keep (same_tk s1)
    walk_at "run"
    intro p2 H2 s2 w2
    walk_at "run"
    rw [eh]
    walk_at "run"
    have ra2 := ra.keep (same_tk (s1.trans s2))
    walk_at "run"
    intro p3 H3 s3 w3
    have rb3 := rb.keep (same_tk ((s1.trans s2).trans s3))
    walk_at "run"
    intro p4 H4 s4 w4
    walk_at "run"
    · rename_i hbig p hp
      rw [ew] at hbig
      rw [bcV_out (by omega)] at q
      exact q _ _ (by walk_at "same") (Or.inl ⟨rfl, _, rfl, _, rfl, SqT.of upd_same⟩)
    rename_i hsm F hF
    rw [ew] at hsm
    rw [ew]
    have hn : ¬ 64 < max A.h B.h * max A.w B.w := by omega
    have s14 := (s1.trans s2).trans (s3.trans s4)
    have hF0 : H F = none := same_none s14 hF
    refine for_range (lo := 0) (n := _) (fun i σ H' => Hd (Same H H' ∧ ∃ xs u1 u2 u3 u4, H' F = some (.lst xs) ∧ ConL K H' xs (cellsT (deedV dw) A B (i * max A.w B.w)) ∧ σ = [some (.int (dw : Int)), some x, some y, some (.int (max A.h B.h : Nat)), some (.int (max A.w B.w : Nat)), some (.ref F), u1, u2, u3, u4])) (.mk ⟨s14.trans (same_upd hF), [], _, _, _, _, upd_same, by rw [Nat.zero_mul]; exact ConL.nil, rfl⟩) (fun i σ H' hi hp2 => ?_) (fun σ H' hp2 => ?_)
    · obtain ⟨s5, xs, u1, u2, u3, u4, hz, hc2, rfl⟩ := hp2.get
      walk_at "run"
      refine for_range (lo := 0) (n := _) (fun j σ H' => Hd (Same H H' ∧ ∃ xs u2 u3 u4, H' F = some (.lst xs) ∧ ConL K H' xs (cellsT (deedV dw) A B (i * max A.w B.w + j)) ∧ σ = [some (.int (dw : Int)), some x, some y, some (.int (max A.h B.h : Nat)), some (.int (max A.w B.w : Nat)), some (.ref F), some (.int (0 + (i : Int))), u2, u3, u4])) (.mk ⟨s5, xs, u2, u3, u4, hz, hc2, rfl⟩) (fun j σ H5 hj hp3 => ?_) (fun σ H5 hp3 => ?_)
      · obtain ⟨s5, xs, u2, u3, u4, hz, hc3, rfl⟩ := hp3.get
        have jw : j < max A.w B.w := by omega
        have hxl : xs.length < sizeLine := small1000 (by
          rw [hc3.1, cellsT_len]
          have := idx_lt (r := i) (c := j) (h := max A.h B.h) (w := max A.w B.w) (by omega) jw
          omega)
        have ec := cellK_at (G := deedV dw) (A := A) (B := B) (i := i) jw
        have ra5 := ra.keep (same_tk s5)
        have rb5 := rb.keep (same_tk s5)
        have hF5 : SqL K H5 F xs := SqL.of hz
        walk_at "run"
        refine ⟨x, A, 0 + i, 0 + j, rfl, ra5, oa, fun z1 s e1 c1 => ?_, fun e1 => ?_⟩
        all_goals rw [Nat.zero_add, Nat.zero_add] at e1
        all_goals walk_at "run"
        all_goals refine ⟨y, B, 0 + i, 0 + j, rfl, rb5, ob, fun z2 t e2 c2 => ?_, fun e2 => ?_⟩
        all_goals rw [Nat.zero_add, Nat.zero_add] at e2
        · rw [cellV_some e1 e2] at ec
          have f1 := fa.at e1
          have f2 := fb.at e2
          by_cases is1 : s.isE = true
          · rw [if_pos is1] at ec
            rcases s with _ | m | z | z | z
            all_goals (try (cases is1; done))
            have c1' := c1
            obtain ⟨q1, rfl, h1⟩ := c1
            obtain ⟨q2, rfl, h2⟩ := c2
            walk_at "run"
            refine ⟨.inl ⟨rfl, _, SqL.of hz⟩, ?_⟩
            walk_at "run"
            refine ⟨_, _, _, rfl, rfl, hz, hxl, ?_⟩
            obtain ⟨g1, g2, g3⟩ := step24 s5 hF0 (Same.refl _) hz hc3 (r := .ref q1) (by rw [ec]; exact c1')
            exact .mk ⟨g1, _, _, _, _, g2, g3, rfl⟩
          · rw [if_neg is1] at ec
            have is1' : s.isE = false := by
              cases e : s.isE with
              | true => exact absurd e is1
              | false => rfl
            by_cases is2 : t.isE = true
            · rw [if_pos is2] at ec
              rcases t with _ | m | z | z | z
              all_goals (try (cases is2; done))
              have c2' := c2
              obtain ⟨q1, rfl, h1⟩ := c1
              obtain ⟨q2, rfl, h2⟩ := c2
              obtain ⟨k1, r1, ek1, n1⟩ := s.head is1'
              rw [ek1] at h1
              walk_at "run"
              refine ⟨.inl ⟨rfl, _, SqL.of hz⟩, ?_⟩
              walk_at "run"
              refine ⟨_, _, _, rfl, rfl, hz, hxl, ?_⟩
              obtain ⟨g1, g2, g3⟩ := step24 s5 hF0 (Same.refl _) hz hc3 (r := .ref q2) (by rw [ec]; exact c2')
              exact .mk ⟨g1, _, _, _, _, g2, g3, rfl⟩
            · rw [if_neg is2] at ec
              have is2' : t.isE = false := by
                cases e : t.isE with
                | true => exact absurd e is2
                | false => rfl
              have c1' := c1
              have c2' := c2
              obtain ⟨q1, rfl, h1⟩ := c1
              obtain ⟨q2, rfl, h2⟩ := c2
              obtain ⟨k1, r1, ek1, n1⟩ := s.head is1'
              obtain ⟨k2, r2, ek2, n2⟩ := t.head is2'
              rw [ek1] at h1
              rw [ek2] at h2
              walk_at "run"
              refine ⟨.inl ⟨rfl, _, SqL.of hz⟩, ?_⟩
              refine ⟨_, rfl, _, rfl, _, rfl, dw, .ref q1, .ref q2, s, t, rfl, hdw, c1', c2', ⟨is1', is2'⟩, ⟨f1, f2⟩, fun r HR sR cR => ?_⟩
              refine ⟨_, _, _, rfl, rfl, (sR _ _ hz), hxl, ?_⟩
              obtain ⟨g1, g2, g3⟩ := step24 s5 hF0 sR hz hc3 (r := r) (by rw [ec]; exact cR)
              exact .mk ⟨g1, _, _, _, _, g2, g3, rfl⟩
        · rw [cellV_none (by rw [e2]; simp)] at ec
          obtain ⟨q1, rfl, h1⟩ := c1
          walk_at "run"
          refine ⟨.inl ⟨rfl, _, SqL.of hz⟩, ?_⟩
          walk_at "run"
          rename_i p hp
          refine ⟨_, _, _, rfl, rfl, (same_upd hp) _ _ hz, hxl, ?_⟩
          obtain ⟨g1, g2, g3⟩ := step24 s5 hF0 (same_upd hp) hz hc3 (r := .ref p) (by rw [ec]; exact ⟨_, rfl, SqT.of upd_same⟩)
          exact .mk ⟨g1, _, _, _, _, g2, g3, rfl⟩
        · rw [cellV_none (by rw [e1]; rfl)] at ec
          obtain ⟨q2, rfl, h2⟩ := c2
          walk_at "run"
          refine ⟨.inl ⟨rfl, _, SqL.of hz⟩, ?_⟩
          walk_at "run"
          rename_i p hp
          refine ⟨_, _, _, rfl, rfl, (same_upd hp) _ _ hz, hxl, ?_⟩
          obtain ⟨g1, g2, g3⟩ := step24 s5 hF0 (same_upd hp) hz hc3 (r := .ref p) (by rw [ec]; exact ⟨_, rfl, SqT.of upd_same⟩)
          exact .mk ⟨g1, _, _, _, _, g2, g3, rfl⟩
        · rw [cellV_none (by rw [e1]; rfl)] at ec
          walk_at "run"
          refine ⟨.inl ⟨rfl, _, SqL.of hz⟩, ?_⟩
          walk_at "run"
          rename_i p hp
          refine ⟨_, _, _, rfl, rfl, (same_upd hp) _ _ hz, hxl, ?_⟩
          obtain ⟨g1, g2, g3⟩ := step24 s5 hF0 (same_upd hp) hz hc3 (r := .ref p) (by rw [ec]; exact ⟨_, rfl, SqT.of upd_same⟩)
          exact .mk ⟨g1, _, _, _, _, g2, g3, rfl⟩
      · obtain ⟨s5, xs, u2, u3, u4, hz, hc3, rfl⟩ := hp3.get
        refine .mk ⟨s5, xs, _, _, _, _, hz, ?_, rfl⟩
        rw [Nat.add_mul, Nat.one_mul]
        exact hc3
    · obtain ⟨s5, xs, u1, u2, u3, u4, hz, hc2, rfl⟩ := hp2.get
      have hcc : ConL K H' xs (cellsT (deedV dw) A B (max A.h B.h * max A.w B.w)) := hc2
      rw [bcV_in hn] at q
      walk_at "run"
      · rename_i e1
        have e2 : max A.h B.h * max A.w B.w = 1 := by omega
        obtain ⟨s, es⟩ : ∃ s, cellsT (deedV dw) A B (max A.h B.h * max A.w B.w) = [s] := by
          match cellsT (deedV dw) A B (max A.h B.h * max A.w B.w), (show (cellsT (deedV dw) A B (max A.h B.h * max A.w B.w)).length = 1 by rw [cellsT_len]; exact e2) with
          | [s], _ => exact ⟨s, rfl⟩
        rw [es] at hcc
        obtain ⟨r, rfl⟩ : ∃ r, xs = [r] := by
          match xs, (show xs.length = 1 from hcc.1) with
          | [r], _ => exact ⟨r, rfl⟩
        refine ⟨_, _, _, _, rfl, rfl, SqL.of hz, rfl, ?_⟩
        exact q _ _ s5 (Or.inl ⟨e2, s, es, hcc.2 0 r s rfl rfl⟩)
      · rename_i e1
        refine ⟨_, _, rfl, Or.inl (And.intro (SqL.of hz) fun p hp => ?_)⟩
        walk_at "run"
        rename_i p2 hp2
        exact q _ _ (s5.trans ((same_upd hp).trans (same_upd hp2))) (Or.inr ⟨fun z => e1 (by rw [hm, show max A.h B.h * max A.w B.w = 1 from z]; rfl), _, _, xs, rfl, SqT.of upd_same, SqT.of ((same_upd hp2) _ _ upd_same), hcc.keep (same_tk ((same_upd hp).trans (same_upd hp2)))⟩)

theorem oklaw (T : Txt K mg) [hB : TabsB mg base T.cT T.pT] : FnOk P w K mg base CX0 9 T.alaw T.dlaw Plaw (splaw K T.dd T.tb) := by
  refine T.Flaw.ok sclaw (fun vs H Q E h => ?_) (fun cdv A outer s H vs Q E hr h => ?_)
  · obtain ⟨a, ns, rfl, _⟩ := h
    rfl
  · obtain ⟨a, ns, rfl, hS, hl, hT, q⟩ := h
    refine ⟨_, (pss_cons (ps_set (i := 1) sclaw.nd rfl (by first | exact Or.inl rfl | exact Or.inr rfl) (pe_call (ok_law_start T) (hr.mono (by decide)) (by rfl) T.g_law_start T.F_law_start.kp (T.b_law_start) .nil pass0 (pa_cons (pv 0) pa_nil)))
    (pss_cons (ps_set (i := 2) sclaw.nd rfl (by first | exact Or.inl rfl | exact Or.inr rfl) (pe_call (ok_law_lines T) (hr.mono (by decide)) (by rfl) T.g_law_lines T.F_law_lines.kp (T.b_law_lines) .nil pass0 (pa_cons (pv 1) (pa_cons pe_int (pa_cons pe_int pa_nil)))))
    (pss_cons (ps_set (i := 3) sclaw.nd rfl (by first | exact Or.inl rfl | exact Or.inr rfl) (pe_call (ok_law_lines T) (hr.mono (by decide)) (by rfl) T.g_law_lines T.F_law_lines.kp (T.b_law_lines) .nil pass0 (pa_cons (pv 1) (pa_cons (pe_callB (call_min2 rfl) (by rfl) T.z_min (by decide +kernel) (pa_cons pe_int (pa_cons (pe_op op_fdivB pe_int (pv 2)) pa_nil))) (pa_cons pe_int pa_nil)))))
    (pss_cons (ps_set (i := 4) sclaw.nd rfl (by first | exact Or.inl rfl | exact Or.inr rfl) (pe_call (ok_law_value T) (hr.mono (by decide)) (by rfl) T.g_law_value T.F_law_value.kp (T.b_law_value) .nil pass0 (pa_cons (pv 1) (pa_cons (pv 2) (pa_cons (pv 3) pa_nil)))))
    (pss_cons (ps_set (i := 2) sclaw.nd rfl (by first | exact Or.inl rfl | exact Or.inr rfl) (pe_call (ok_law_lines T) (hr.mono (by decide)) (by rfl) T.g_law_lines T.F_law_lines.kp (T.b_law_lines) .nil pass0 (pa_cons (pv 1) (pa_cons pe_int (pa_cons (pv 2) pa_nil)))))
    (pss_cons (ps_set (i := 3) sclaw.nd rfl (by first | exact Or.inl rfl | exact Or.inr rfl) (pe_call (ok_law_lines T) (hr.mono (by decide)) (by rfl) T.g_law_lines T.F_law_lines.kp (T.b_law_lines) .nil pass0 (pa_cons (pv 1) (pa_cons (pe_callB (call_min2 rfl) (by rfl) T.z_min (by decide +kernel) (pa_cons pe_int (pa_cons (pe_op op_fdivB pe_int (pv 2)) pa_nil))) (pa_cons (pv 3) pa_nil)))))
    (pss_cons (ps_if (pt_cmpR op_eq (pe_call (ok_law_take T) (hr.mono (by decide)) (by rfl) T.g_law_take T.F_law_take.kp (T.b_law_take) .nil pass0 (pa_cons (pv 1) (pa_cons pe_int pa_nil))) pe_int (by first | exact nomark _ | rfl))
      (pss_cons (ps_set (i := 5) sclaw.nd rfl (by first | exact Or.inl rfl | exact Or.inr rfl) (pe_lst (pa_cons (pe_tup (pa_cons pe_int (pa_cons pe_int pa_nil))) (pa_cons (pe_tup (pa_cons pe_int (pa_cons pe_int pa_nil))) (pa_cons (pe_tup (pa_cons pe_int (pa_cons pe_int pa_nil))) (pa_cons (pe_tup (pa_cons pe_int (pa_cons pe_int pa_nil))) (pa_cons (pe_tup (pa_cons pe_int (pa_cons pe_int pa_nil))) (pa_cons (pe_tup (pa_cons pe_int (pa_cons pe_int pa_nil))) (pa_cons (pe_tup (pa_cons pe_int (pa_cons pe_int pa_nil))) (pa_cons (pe_tup (pa_cons pe_int (pa_cons pe_int pa_nil))) (pa_cons (pe_tup (pa_cons pe_int (pa_cons pe_int pa_nil))) (pa_cons (pe_tup (pa_cons pe_int (pa_cons pe_int pa_nil))) pa_nil))))))))))))
    (pss_cons (ps_asg (pe_ix ix_list (pv 5) (pe_call (ok_law_take T) (hr.mono (by decide)) (by rfl) T.g_law_take T.F_law_take.kp (T.b_law_take) .nil pass0 (pa_cons (pv 1) (pa_cons pe_int pa_nil))) (fun _ _ => rfl)) (pg_tup (by rfl) (pgs_cons (pg_name (i := 2) sclaw.nd rfl (by first | exact Or.inl rfl | exact Or.inr rfl)) (pgs_cons (pg_name (i := 3) sclaw.nd rfl (by first | exact Or.inl rfl | exact Or.inr rfl)) pgs_nil))))
    (pss_cons (ps_set (i := 4) sclaw.nd rfl (by first | exact Or.inl rfl | exact Or.inr rfl) (pe_call (ok_law_value T) (hr.mono (by decide)) (by rfl) T.g_law_value T.F_law_value.kp (T.b_law_value) .nil pass0 (pa_cons (pv 1) (pa_cons (pv 2) (pa_cons pe_int pa_nil)))))
    (pss_one (ps_set (i := 2) sclaw.nd rfl (by first | exact Or.inl rfl | exact Or.inr rfl) pe_int)))))
      pss_nil)
    (pss_cons (ps_set (i := 6) sclaw.nd rfl (by first | exact Or.inl rfl | exact Or.inr rfl) (pe_call (ok_law_value T) (hr.mono (by decide)) (by rfl) T.g_law_value T.F_law_value.kp (T.b_law_value) .nil pass0 (pa_cons (pv 1) (pa_cons (pv 2) (pa_cons (pv 3) pa_nil)))))
    (pss_cons (ps_set (i := 7) sclaw.nd rfl (by first | exact Or.inl rfl | exact Or.inr rfl) (pe_call (ok_law_take T) (hr.mono (by decide)) (by rfl) T.g_law_take T.F_law_take.kp (T.b_law_take) .nil pass0 (pa_cons (pv 1) (pa_cons pe_int pa_nil))))
    (pss_cons (ps_set (i := 8) sclaw.nd rfl (by first | exact Or.inl rfl | exact Or.inr rfl) (pe_call (ok_law_take T) (hr.mono (by decide)) (by rfl) T.g_law_take T.F_law_take.kp (T.b_law_take) .nil pass0 (pa_cons (pv 1) (pa_cons pe_int pa_nil))))
    (pss_cons (ps_set (i := 9) sclaw.nd rfl (by first | exact Or.inl rfl | exact Or.inr rfl) (pe_call (ok_law_due T) (hr.mono (by decide)) (by rfl) T.g_law_due T.F_law_due.kp (T.b_law_due) .nil pass0 (pa_cons (pv 7) (pa_cons (pv 4) (pa_cons (pv 6) pa_nil)))))
    (pss_cons (ps_if (pt_not (pt_val (pe_call (ok_law_same T) (hr.mono (by decide)) (by rfl) T.g_law_same T.F_law_same.kp (T.b_law_same) .nil pass0 (pa_cons (pe_call (ok_law_asked (base := base) T) (hr.mono (by decide)) (by rfl) T.g_law_asked T.F_law_asked.kp (T.b_law_asked) .nil pass0 (pa_cons (pv 7) (pa_cons (pv 4) (pa_cons (pv 6) pa_nil)))) (pa_cons (pv 9) pa_nil)))))
      (pss_one (ps_ret pe_bl))
      pss_nil)
    (pss_cons (ps_if (pt_not (pt_val (pe_call (ok_law_same T) (hr.mono (by decide)) (by rfl) T.g_law_same T.F_law_same.kp (T.b_law_same) .nil pass0 (pa_cons (pe_call (ok_law_asked (base := base) T) (hr.mono (by decide)) (by rfl) T.g_law_asked T.F_law_asked.kp (T.b_law_asked) .nil pass0 (pa_cons (pv 8) (pa_cons (pv 6) (pa_cons (pv 4) pa_nil)))) (pa_cons (pe_call (ok_law_due T) (hr.mono (by decide)) (by rfl) T.g_law_due T.F_law_due.kp (T.b_law_due) .nil pass0 (pa_cons (pv 8) (pa_cons (pv 6) (pa_cons (pv 4) pa_nil)))) pa_nil)))))
      (pss_one (ps_ret pe_bl))
      pss_nil)
    (pss_one (ps_ret (pe_call (ok_law_same T) (hr.mono (by decide)) (by rfl) T.g_law_same T.F_law_same.kp (T.b_law_same) .nil pass0 (pa_cons (pe_call (ok_law_asked (base := base) T) (hr.mono (by decide)) (by rfl) T.g_law_asked T.F_law_asked.kp (T.b_law_asked) .nil pass0 (pa_cons (pv 7) (pa_cons (pv 4) (pa_cons (pv 6) pa_nil)))) (pa_cons (pv 9) pa_nil)))))))))))))))))), ?_⟩
    walk_at "run"
    refine ⟨a, ns, rfl, hS, hl, fun b c H1 s1 bx1 => ?_⟩
    have T1 := hT.ext s1
    walk_at "run"
    refine ⟨b, c, ns, 20, 2, rfl, bx1, by decide, by decide, fun n2 H2 b2 l2 u2 => ?_⟩
    have T2 := Tabs.box T1 bx1 b2
    obtain ⟨h1, rfl⟩ : ∃ h : Nat, n2 = (h : Int) := ⟨n2.toNat, by omega⟩
    obtain ⟨d1, d2, d3⟩ := div64' l2 u2
    walk_at "run"
    refine ⟨b, c, ns, _, 3, rfl, b2.bat, (by split <;> omega), (by decide), fun n3 H3 b3 l3 u3 => ?_⟩
    have T3 := Tabs.box T2 b2.bat b3
    obtain ⟨w1, rfl⟩ : ∃ w : Nat, n3 = (w : Int) := ⟨n3.toNat, by omega⟩
    have u3a : (w1 : Int) ≤ 64 / (h1 : Int) := by split at u3 <;> omega
    have u3b : w1 ≤ 20 := by split at u3 <;> omega
    walk_at "run"
    refine ⟨b, c, ns, h1, w1, rfl, b3.bat, ⟨by omega, by omega, by omega, u3b, prod64 d3 u3a⟩, fun v1 A1 H4 b4 o1 f1 eh1 ew1 r1 => ?_⟩
    have T4 := Tabs.box T3 b3.bat b4
    walk_at "run"
    refine ⟨b, c, ns, 20, _, rfl, b4.bat, by decide, by omega, fun n5 H5 b5 l5 u5 => ?_⟩
    have T5 := Tabs.box T4 b4.bat b5
    obtain ⟨h2, rfl⟩ : ∃ h : Nat, n5 = (h : Int) := ⟨n5.toNat, by omega⟩
    obtain ⟨e1, e2, e3⟩ := div64' l5 u5
    walk_at "run"
    refine ⟨b, c, ns, _, _, rfl, b5.bat, (by split <;> omega), (by omega), fun n6 H6 b6 l6 u6 => ?_⟩
    have T6 := Tabs.box T5 b5.bat b6
    obtain ⟨w2, rfl⟩ : ∃ w : Nat, n6 = (w : Int) := ⟨n6.toNat, by omega⟩
    have u6a : (w2 : Int) ≤ 64 / (h2 : Int) := by split at u6 <;> omega
    have u6b : w2 ≤ 20 := by split at u6 <;> omega
    have r6 := r1.keep ((b5.tk (K := K) b4.bat).trans (b6.tk b5.bat))
    walk_at "run"
    · rename_i n7 H7 b7 l7 u7 z7 p1 q1 p2 q2 p3 q3 p4 q4 p5 q5 p6 q6 p7 q7 p8 q8 p9 q9 p10 q10 D qD
      have sL : Same H7 _ := ((((((((((same_upd (o := .tup [.int 13, .int 5]) q1).trans (same_upd (o := .tup [.int 5, .int 13]) q2)).trans (same_upd (o := .tup [.int 11, .int 6]) q3)).trans (same_upd (o := .tup [.int 6, .int 11]) q4)).trans (same_upd (o := .tup [.int 17, .int 4]) q5)).trans (same_upd (o := .tup [.int 4, .int 17]) q6)).trans (same_upd (o := .tup [.int 16, .int 4]) q7)).trans (same_upd (o := .tup [.int 8, .int 8]) q8)).trans (same_upd (o := .tup [.int 9, .int 7]) q9)).trans (same_upd (o := .tup [.int 20, .int 3]) q10)).trans (same_upd (o := .lst [.ref p1, .ref p2, .ref p3, .ref p4, .ref p5, .ref p6, .ref p7, .ref p8, .ref p9, .ref p10]) qD)
      have bxL := (b7.bat).same sL
      have TL := (Tabs.box T6 b6.bat b7).ext sL
      have rL := (r6.keep (b7.tk (K := K) b6.bat)).keep (same_tk sL)
      refine ⟨b, c, ns, 10, rfl, bxL, by decide, fun n8 H8 b8 l8 u8 => ?_⟩
      walk_at "run"
      obtain ⟨⟨i0, i1, i2, i3, i5, eL, _⟩, _⟩ := id bxL
      have neD : D ≠ b := ne_of upd_same eL (fun z => by cases z)
      refine atI_go (SqL.of (b8.1 _ _ neD upd_same)) l8 (by show _ < (10 : Int); omega) fun v hv => ?_
      have hv2 : ∃ (p : Addr) (h w : Nat), v = .ref p ∧ SqT K H8 p [.int (h : Int), .int (w : Int)] ∧ (1 ≤ h ∧ h ≤ 20 ∧ 1 ≤ w ∧ w ≤ 20) := by
        have kt := b8.tk (K := K) bxL
        simp only [List.mem_cons, List.not_mem_nil, or_false] at hv
        rcases hv with rfl | rfl | rfl | rfl | rfl | rfl | rfl | rfl | rfl | rfl
        · exact ⟨_, 13, 5, rfl, kt _ _ (SqT.of (by walk_at "look")), by decide⟩
        · exact ⟨_, 5, 13, rfl, kt _ _ (SqT.of (by walk_at "look")), by decide⟩
        · exact ⟨_, 11, 6, rfl, kt _ _ (SqT.of (by walk_at "look")), by decide⟩
        · exact ⟨_, 6, 11, rfl, kt _ _ (SqT.of (by walk_at "look")), by decide⟩
        · exact ⟨_, 17, 4, rfl, kt _ _ (SqT.of (by walk_at "look")), by decide⟩
        · exact ⟨_, 4, 17, rfl, kt _ _ (SqT.of (by walk_at "look")), by decide⟩
        · exact ⟨_, 16, 4, rfl, kt _ _ (SqT.of (by walk_at "look")), by decide⟩
        · exact ⟨_, 8, 8, rfl, kt _ _ (SqT.of (by walk_at "look")), by decide⟩
        · exact ⟨_, 9, 7, rfl, kt _ _ (SqT.of (by walk_at "look")), by decide⟩
        · exact ⟨_, 20, 3, rfl, kt _ _ (SqT.of (by walk_at "look")), by decide⟩
      have T7 := Tabs.box TL bxL b8
      obtain ⟨p, hh, ww, rfl, hp, hb1, hb2, hb3, hb4⟩ := hv2
      have bx8 := b8.bat
      clear b8 hv sL bxL TL rL eL neD q1 q2 q3 q4 q5 q6 q7 q8 q9 q10 qD r6 r1 b7
      walk_at "run"
      have e0 : L2.start Nlaw [V.ref a] = [some (V.ref a), none, none, none, none, none, none, none, none, none] := rfl
      simp only [e0, List.set_cons_zero, List.set_cons_succ]
      refine ⟨_, _, rfl, hp, rfl, ?_⟩
      walk_at "run"
      refine ⟨b, c, ns, hh, 1, rfl, bx8, ⟨by omega, by omega, by decide, by decide, by omega⟩, fun v3 A3 H8b b8b o3 f3 eh3 ew3 r3 => ?_⟩
      have T8 := Tabs.box T7 bx8 b8b
      refine ⟨_, rfl, _, rfl, _, rfl, b, c, ns, 1, ww, rfl, b8b.bat, ⟨by decide, by decide, by omega, by omega, by omega⟩, fun v2 A2 H9 b9 o2 f2 eh2 ew2 r2 => ?_⟩
      have T9 := Tabs.box T8 (b8b.bat) b9
      have ra9 := Rep.keep (b9.tk (K := K) (b8b.bat)) r3
      refine ⟨_, rfl, b, c, ns, 5, rfl, b9.bat, by decide, fun n10 H10 b10 l10 u10 => ?_⟩
      refine ⟨_, rfl, b, c, ns, 5, rfl, b10.bat, by decide, fun n11 H11 b11 l11 u11 => ?_⟩
      obtain ⟨d1, rfl⟩ : ∃ d : Nat, n10 = (d : Int) := ⟨n10.toNat, by omega⟩
      obtain ⟨d2, rfl⟩ : ∃ d : Nat, n11 = (d : Int) := ⟨n11.toNat, by omega⟩
      have hd1 : d1 < 5 := by omega
      have hd2 : d2 < 5 := by omega
      have k11 := (b10.tk (K := K) b9.bat).trans (b11.tk b10.bat)
      have T11 := Tabs.box (Tabs.box T9 b9.bat b10) b10.bat b11
      have ra := ra9.keep k11
      have rb := r2.keep k11
      simp only [List.set_cons_zero, List.set_cons_succ]
      refine ⟨_, rfl, _, rfl, _, rfl, d1, v3, v2, A3, A2, rfl, hd1, ra, rb, o3, o2, f3, f2, fun rd H12 s12 rd12 => ?_⟩
      refine ⟨_, rfl, _, rfl, _, rfl, d1, v3, v2, A3, A2, rfl, hd1, ra.keep (same_tk s12), rb.keep (same_tk s12), o3, o2, f3, f2, T11.ext s12, fun ra1 H13 e13 T13 rr13 => ?_⟩
      have k13 := (same_tk (K := K) s12).trans (ext_tk e13)
      refine ⟨_, rfl, _, _, rfl, Rep.lk (bcV_ok o3 o2) rr13 (rd12.keep (ext_tk e13)), true, rfl, (if_neg (by decide)).mpr ?_⟩
      refine ⟨_, rfl, _, rfl, _, rfl, d2, v2, v3, A2, A3, rfl, hd2, rb.keep k13, ra.keep k13, o2, o3, f2, f3, T13, fun ra2 H14 e14 T14 rr14 => ?_⟩
      have k14 := k13.trans (ext_tk e14)
      refine ⟨_, rfl, _, rfl, _, rfl, d2, v2, v3, A2, A3, rfl, hd2, rb.keep k14, ra.keep k14, o2, o3, f2, f3, fun rd2 H15 s15 rr15 => ?_⟩
      have k15 := k14.trans (same_tk s15)
      refine ⟨_, _, rfl, Rep.lk (bcV_ok o2 o3) (rr14.keep (same_tk s15)) rr15, true, rfl, (if_neg (by decide)).mpr ?_⟩
      refine ⟨_, rfl, _, rfl, _, rfl, d1, v3, v2, A3, A2, rfl, hd1, ra.keep k15, rb.keep k15, o3, o2, f3, f2, T14.ext s15, fun ra3 H16 e16 T16 rr16 => ?_⟩
      exact ⟨_, rfl, _, _, rfl, Rep.lk (bcV_ok o3 o2) rr16 (rd12.keep ((((ext_tk (K := K) e13).trans (ext_tk e14)).trans (same_tk s15)).trans (ext_tk e16))), q _⟩
    · rename_i n7 H7 b7 l7 u7 z7
      have T7 := Tabs.box T6 b6.bat b7
      have r7 := r6.keep (b7.tk (K := K) b6.bat)
      refine ⟨b, c, ns, h2, w2, rfl, b7.bat, ⟨by omega, by omega, by omega, u6b, prod64 e3 u6a⟩, fun v2 A2 H9 b9 o2 f2 eh2 ew2 r2 => ?_⟩
      have T9 := Tabs.box T7 (b7.bat) b9
      have ra9 := Rep.keep (b9.tk (K := K) (b7.bat)) r7
      refine ⟨_, rfl, b, c, ns, 5, rfl, b9.bat, by decide, fun n10 H10 b10 l10 u10 => ?_⟩
      refine ⟨_, rfl, b, c, ns, 5, rfl, b10.bat, by decide, fun n11 H11 b11 l11 u11 => ?_⟩
      obtain ⟨d1, rfl⟩ : ∃ d : Nat, n10 = (d : Int) := ⟨n10.toNat, by omega⟩
      obtain ⟨d2, rfl⟩ : ∃ d : Nat, n11 = (d : Int) := ⟨n11.toNat, by omega⟩
      have hd1 : d1 < 5 := by omega
      have hd2 : d2 < 5 := by omega
      have k11 := (b10.tk (K := K) b9.bat).trans (b11.tk b10.bat)
      have T11 := Tabs.box (Tabs.box T9 b9.bat b10) b10.bat b11
      have ra := ra9.keep k11
      have rb := r2.keep k11
      refine ⟨_, rfl, _, rfl, _, rfl, d1, v1, v2, A1, A2, rfl, hd1, ra, rb, o1, o2, f1, f2, fun rd H12 s12 rd12 => ?_⟩
      refine ⟨_, rfl, _, rfl, _, rfl, d1, v1, v2, A1, A2, rfl, hd1, ra.keep (same_tk s12), rb.keep (same_tk s12), o1, o2, f1, f2, T11.ext s12, fun ra1 H13 e13 T13 rr13 => ?_⟩
      have k13 := (same_tk (K := K) s12).trans (ext_tk e13)
      refine ⟨_, rfl, _, _, rfl, Rep.lk (bcV_ok o1 o2) rr13 (rd12.keep (ext_tk e13)), true, rfl, (if_neg (by decide)).mpr ?_⟩
      refine ⟨_, rfl, _, rfl, _, rfl, d2, v2, v1, A2, A1, rfl, hd2, rb.keep k13, ra.keep k13, o2, o1, f2, f1, T13, fun ra2 H14 e14 T14 rr14 => ?_⟩
      have k14 := k13.trans (ext_tk e14)
      refine ⟨_, rfl, _, rfl, _, rfl, d2, v2, v1, A2, A1, rfl, hd2, rb.keep k14, ra.keep k14, o2, o1, f2, f1, fun rd2 H15 s15 rr15 => ?_⟩
      have k15 := k14.trans (same_tk s15)
      refine ⟨_, _, rfl, Rep.lk (bcV_ok o2 o1) (rr14.keep (same_tk s15)) rr15, true, rfl, (if_neg (by decide)).mpr ?_⟩
      refine ⟨_, rfl, _, rfl, _, rfl, d1, v1, v2, A1, A2, rfl, hd1, ra.keep k15, rb.keep k15, o1, o2, f1, f2, T14.ext s15, fun ra3 H16 e16 T16 rr16 => ?_⟩
      exact ⟨_, rfl, _, _, rfl, Rep.lk (bcV_ok o1 o2) rr16 (rd12.keep ((((ext_tk (K := K) e13).trans (ext_tk e14)).trans (same_tk s15)).trans (ext_tk e16))), q _⟩

end
def tabK (K : PySem.W.Frag) (c : Addr) : Addr := match K.lookup c with
  | some ⟨_, _, .fields vs, _⟩ => (match vs.getD 11 .none with
    | .ref P => P
    | _ => 0)
  | _ => 0
/-! ### the top -/
theorem all_mk {l : PySem.W.OpenLaw} {w : World} {K : PySem.W.Frag} {h : Heap} {mg : Str → Option Value} {fa : Addr} (X : K.In h) (G : h.Ns mainGlobals mg) (hfa : mg "law" = some (.ref fa))
    {od0 an0 : Option Addr} {sl0 : Array (Option Value)} {oc0 kV0 dc0 pm0 cd0 ct0 : Value} {f0 : Addr}
    (a0 : PySem.W.nsIn K mainGlobals "fits" = some (some (.ref f0))) (l0 : K.lookup f0 = some ⟨oc0, od0, .func (PySem.W.fnOf "fits" "fits" (defArgs sfits) (defBody sfits) (defScope sfits) .none kV0 dc0 pm0 an0 cd0 ct0), sl0⟩) (c0 : PySem.W.codeIn K cd0 "fits" = true) (k0 : PySem.W.keepIn K (.ref f0) = true)
    {od1 an1 : Option Addr} {sl1 : Array (Option Value)} {oc1 kV1 dc1 pm1 cd1 ct1 : Value} {f1 : Addr}
    (a1 : PySem.W.nsIn K mainGlobals "array" = some (some (.ref f1))) (l1 : K.lookup f1 = some ⟨oc1, od1, .func (PySem.W.fnOf "array" "array" (defArgs sarray) (defBody sarray) (defScope sarray) .none kV1 dc1 pm1 an1 cd1 ct1), sl1⟩) (c1 : PySem.W.codeIn K cd1 "array" = true) (k1 : PySem.W.keepIn K (.ref f1) = true)
    {od2 an2 : Option Addr} {sl2 : Array (Option Value)} {oc2 kV2 dc2 pm2 cd2 ct2 : Value} {f2 : Addr}
    (a2 : PySem.W.nsIn K mainGlobals "height" = some (some (.ref f2))) (l2 : K.lookup f2 = some ⟨oc2, od2, .func (PySem.W.fnOf "height" "height" (defArgs sheight) (defBody sheight) (defScope sheight) .none kV2 dc2 pm2 an2 cd2 ct2), sl2⟩) (c2 : PySem.W.codeIn K cd2 "height" = true) (k2 : PySem.W.keepIn K (.ref f2) = true)
    {od3 an3 : Option Addr} {sl3 : Array (Option Value)} {oc3 kV3 dc3 pm3 cd3 ct3 : Value} {f3 : Addr}
    (a3 : PySem.W.nsIn K mainGlobals "width" = some (some (.ref f3))) (l3 : K.lookup f3 = some ⟨oc3, od3, .func (PySem.W.fnOf "width" "width" (defArgs swidth) (defBody swidth) (defScope swidth) .none kV3 dc3 pm3 an3 cd3 ct3), sl3⟩) (c3 : PySem.W.codeIn K cd3 "width" = true) (k3 : PySem.W.keepIn K (.ref f3) = true)
    {od4 an4 : Option Addr} {sl4 : Array (Option Value)} {oc4 kV4 dc4 pm4 cd4 ct4 : Value} {f4 : Addr}
    (a4 : PySem.W.nsIn K mainGlobals "member" = some (some (.ref f4))) (l4 : K.lookup f4 = some ⟨oc4, od4, .func (PySem.W.fnOf "member" "member" (defArgs smember) (defBody smember) (defScope smember) .none kV4 dc4 pm4 an4 cd4 ct4), sl4⟩) (c4 : PySem.W.codeIn K cd4 "member" = true) (k4 : PySem.W.keepIn K (.ref f4) = true)
    {od5 an5 : Option Addr} {sl5 : Array (Option Value)} {oc5 kV5 dc5 pm5 cd5 ct5 : Value} {f5 : Addr}
    (a5 : PySem.W.nsIn K mainGlobals "size_of" = some (some (.ref f5))) (l5 : K.lookup f5 = some ⟨oc5, od5, .func (PySem.W.fnOf "size_of" "size_of" (defArgs ssize_of) (defBody ssize_of) (defScope ssize_of) .none kV5 dc5 pm5 an5 cd5 ct5), sl5⟩) (c5 : PySem.W.codeIn K cd5 "size_of" = true) (k5 : PySem.W.keepIn K (.ref f5) = true)
    {od6 an6 : Option Addr} {sl6 : Array (Option Value)} {oc6 kV6 dc6 pm6 cd6 ct6 : Value} {f6 : Addr}
    (a6 : PySem.W.nsIn K mainGlobals "repeated" = some (some (.ref f6))) (l6 : K.lookup f6 = some ⟨oc6, od6, .func (PySem.W.fnOf "repeated" "repeated" (defArgs srepeated) (defBody srepeated) (defScope srepeated) .none kV6 dc6 pm6 an6 cd6 ct6), sl6⟩) (c6 : PySem.W.codeIn K cd6 "repeated" = true) (k6 : PySem.W.keepIn K (.ref f6) = true)
    {od7 an7 : Option Addr} {sl7 : Array (Option Value)} {oc7 kV7 dc7 pm7 cd7 ct7 : Value} {f7 : Addr}
    (a7 : PySem.W.nsIn K mainGlobals "together" = some (some (.ref f7))) (l7 : K.lookup f7 = some ⟨oc7, od7, .func (PySem.W.fnOf "together" "together" (defArgs stogether) (defBody stogether) (defScope stogether) .none kV7 dc7 pm7 an7 cd7 ct7), sl7⟩) (c7 : PySem.W.codeIn K cd7 "together" = true) (k7 : PySem.W.keepIn K (.ref f7) = true)
    {od8 an8 : Option Addr} {sl8 : Array (Option Value)} {oc8 kV8 dc8 pm8 cd8 ct8 : Value} {f8 : Addr}
    (a8 : PySem.W.nsIn K mainGlobals "first_error" = some (some (.ref f8))) (l8 : K.lookup f8 = some ⟨oc8, od8, .func (PySem.W.fnOf "first_error" "first_error" (defArgs sfirst_error) (defBody sfirst_error) (defScope sfirst_error) .none kV8 dc8 pm8 an8 cd8 ct8), sl8⟩) (c8 : PySem.W.codeIn K cd8 "first_error" = true) (k8 : PySem.W.keepIn K (.ref f8) = true)
    {od9 an9 : Option Addr} {sl9 : Array (Option Value)} {oc9 kV9 dc9 pm9 cd9 ct9 : Value} {f9 : Addr}
    (a9 : PySem.W.nsIn K mainGlobals "broadcast" = some (some (.ref f9))) (l9 : K.lookup f9 = some ⟨oc9, od9, .func (PySem.W.fnOf "broadcast" "broadcast" (defArgs sbroadcast) (defBody sbroadcast) (defScope sbroadcast) .none kV9 dc9 pm9 an9 cd9 ct9), sl9⟩) (c9 : PySem.W.codeIn K cd9 "broadcast" = true) (k9 : PySem.W.keepIn K (.ref f9) = true)
    {od10 an10 : Option Addr} {sl10 : Array (Option Value)} {oc10 kV10 dc10 pm10 cd10 ct10 : Value} {f10 : Addr}
    (a10 : PySem.W.nsIn K mainGlobals "_law_mixed" = some (some (.ref f10))) (l10 : K.lookup f10 = some ⟨oc10, od10, .func (PySem.W.fnOf "_law_mixed" "_law_mixed" (defArgs s_law_mixed) (defBody s_law_mixed) (defScope s_law_mixed) .none kV10 dc10 pm10 an10 cd10 ct10), sl10⟩) (c10 : PySem.W.codeIn K cd10 "_law_mixed" = true) (k10 : PySem.W.keepIn K (.ref f10) = true)
    {od11 an11 : Option Addr} {sl11 : Array (Option Value)} {oc11 kV11 dc11 pm11 cd11 ct11 : Value} {f11 : Addr}
    (a11 : PySem.W.nsIn K mainGlobals "_law_start" = some (some (.ref f11))) (l11 : K.lookup f11 = some ⟨oc11, od11, .func (PySem.W.fnOf "_law_start" "_law_start" (defArgs s_law_start) (defBody s_law_start) (defScope s_law_start) .none kV11 dc11 pm11 an11 cd11 ct11), sl11⟩) (c11 : PySem.W.codeIn K cd11 "_law_start" = true) (k11 : PySem.W.keepIn K (.ref f11) = true)
    {od12 an12 : Option Addr} {sl12 : Array (Option Value)} {oc12 kV12 dc12 pm12 cd12 ct12 : Value} {f12 : Addr}
    (a12 : PySem.W.nsIn K mainGlobals "_law_take" = some (some (.ref f12))) (l12 : K.lookup f12 = some ⟨oc12, od12, .func (PySem.W.fnOf "_law_take" "_law_take" (defArgs s_law_take) (defBody s_law_take) (defScope s_law_take) .none kV12 dc12 pm12 an12 cd12 ct12), sl12⟩) (c12 : PySem.W.codeIn K cd12 "_law_take" = true) (k12 : PySem.W.keepIn K (.ref f12) = true)
    {od13 an13 : Option Addr} {sl13 : Array (Option Value)} {oc13 kV13 dc13 pm13 cd13 ct13 : Value} {f13 : Addr}
    (a13 : PySem.W.nsIn K mainGlobals "_law_same" = some (some (.ref f13))) (l13 : K.lookup f13 = some ⟨oc13, od13, .func (PySem.W.fnOf "_law_same" "_law_same" (defArgs s_law_same) (defBody s_law_same) (defScope s_law_same) .none kV13 dc13 pm13 an13 cd13 ct13), sl13⟩) (c13 : PySem.W.codeIn K cd13 "_law_same" = true) (k13 : PySem.W.keepIn K (.ref f13) = true)
    {od14 an14 : Option Addr} {sl14 : Array (Option Value)} {oc14 kV14 dc14 pm14 cd14 ct14 : Value} {f14 : Addr}
    (a14 : PySem.W.nsIn K mainGlobals "_law_amount" = some (some (.ref f14))) (l14 : K.lookup f14 = some ⟨oc14, od14, .func (PySem.W.fnOf "_law_amount" "_law_amount" (defArgs s_law_amount) (defBody s_law_amount) (defScope s_law_amount) .none kV14 dc14 pm14 an14 cd14 ct14), sl14⟩) (c14 : PySem.W.codeIn K cd14 "_law_amount" = true) (k14 : PySem.W.keepIn K (.ref f14) = true)
    {od15 an15 : Option Addr} {sl15 : Array (Option Value)} {oc15 kV15 dc15 pm15 cd15 ct15 : Value} {f15 : Addr}
    (a15 : PySem.W.nsIn K mainGlobals "_law_signs" = some (some (.ref f15))) (l15 : K.lookup f15 = some ⟨oc15, od15, .func (PySem.W.fnOf "_law_signs" "_law_signs" (defArgs s_law_signs) (defBody s_law_signs) (defScope s_law_signs) .none kV15 dc15 pm15 an15 cd15 ct15), sl15⟩) (c15 : PySem.W.codeIn K cd15 "_law_signs" = true) (k15 : PySem.W.keepIn K (.ref f15) = true)
    {od16 an16 : Option Addr} {sl16 : Array (Option Value)} {oc16 kV16 dc16 pm16 cd16 ct16 : Value} {f16 : Addr}
    (a16 : PySem.W.nsIn K mainGlobals "_law_scalar" = some (some (.ref f16))) (l16 : K.lookup f16 = some ⟨oc16, od16, .func (PySem.W.fnOf "_law_scalar" "_law_scalar" (defArgs s_law_scalar) (defBody s_law_scalar) (defScope s_law_scalar) .none kV16 dc16 pm16 an16 cd16 ct16), sl16⟩) (c16 : PySem.W.codeIn K cd16 "_law_scalar" = true) (k16 : PySem.W.keepIn K (.ref f16) = true)
    {od17 an17 : Option Addr} {sl17 : Array (Option Value)} {oc17 kV17 dc17 pm17 cd17 ct17 : Value} {f17 : Addr}
    (a17 : PySem.W.nsIn K mainGlobals "_law_members" = some (some (.ref f17))) (l17 : K.lookup f17 = some ⟨oc17, od17, .func (PySem.W.fnOf "_law_members" "_law_members" (defArgs s_law_members) (defBody s_law_members) (defScope s_law_members) .none kV17 dc17 pm17 an17 cd17 ct17), sl17⟩) (c17 : PySem.W.codeIn K cd17 "_law_members" = true) (k17 : PySem.W.keepIn K (.ref f17) = true)
    {od18 an18 : Option Addr} {sl18 : Array (Option Value)} {oc18 kV18 dc18 pm18 cd18 ct18 : Value} {f18 : Addr}
    (a18 : PySem.W.nsIn K mainGlobals "_law_lines" = some (some (.ref f18))) (l18 : K.lookup f18 = some ⟨oc18, od18, .func (PySem.W.fnOf "_law_lines" "_law_lines" (defArgs s_law_lines) (defBody s_law_lines) (defScope s_law_lines) .none kV18 dc18 pm18 an18 cd18 ct18), sl18⟩) (c18 : PySem.W.codeIn K cd18 "_law_lines" = true) (k18 : PySem.W.keepIn K (.ref f18) = true)
    {od19 an19 : Option Addr} {sl19 : Array (Option Value)} {oc19 kV19 dc19 pm19 cd19 ct19 : Value} {f19 : Addr}
    (a19 : PySem.W.nsIn K mainGlobals "_law_value" = some (some (.ref f19))) (l19 : K.lookup f19 = some ⟨oc19, od19, .func (PySem.W.fnOf "_law_value" "_law_value" (defArgs s_law_value) (defBody s_law_value) (defScope s_law_value) .none kV19 dc19 pm19 an19 cd19 ct19), sl19⟩) (c19 : PySem.W.codeIn K cd19 "_law_value" = true) (k19 : PySem.W.keepIn K (.ref f19) = true)
    {od20 an20 : Option Addr} {sl20 : Array (Option Value)} {oc20 kV20 dc20 pm20 cd20 ct20 : Value} {f20 : Addr}
    (a20 : PySem.W.nsIn K mainGlobals "_law_told" = some (some (.ref f20))) (l20 : K.lookup f20 = some ⟨oc20, od20, .func (PySem.W.fnOf "_law_told" "_law_told" (defArgs s_law_told) (defBody s_law_told) (defScope s_law_told) .none kV20 dc20 pm20 an20 cd20 ct20), sl20⟩) (c20 : PySem.W.codeIn K cd20 "_law_told" = true) (k20 : PySem.W.keepIn K (.ref f20) = true)
    {od21 an21 : Option Addr} {sl21 : Array (Option Value)} {oc21 kV21 dc21 pm21 cd21 ct21 : Value} {f21 : Addr}
    (a21 : PySem.W.nsIn K mainGlobals "_law_both" = some (some (.ref f21))) (l21 : K.lookup f21 = some ⟨oc21, od21, .func (PySem.W.fnOf "_law_both" "_law_both" (defArgs s_law_both) (defBody s_law_both) (defScope s_law_both) .none kV21 dc21 pm21 an21 cd21 ct21), sl21⟩) (c21 : PySem.W.codeIn K cd21 "_law_both" = true) (k21 : PySem.W.keepIn K (.ref f21) = true)
    {od22 an22 : Option Addr} {sl22 : Array (Option Value)} {oc22 kV22 dc22 pm22 cd22 ct22 : Value} {f22 : Addr}
    (a22 : PySem.W.nsIn K mainGlobals "_law_left" = some (some (.ref f22))) (l22 : K.lookup f22 = some ⟨oc22, od22, .func (PySem.W.fnOf "_law_left" "_law_left" (defArgs s_law_left) (defBody s_law_left) (defScope s_law_left) .none kV22 dc22 pm22 an22 cd22 ct22), sl22⟩) (c22 : PySem.W.codeIn K cd22 "_law_left" = true) (k22 : PySem.W.keepIn K (.ref f22) = true)
    {od23 an23 : Option Addr} {sl23 : Array (Option Value)} {oc23 kV23 dc23 pm23 cd23 ct23 : Value} {f23 : Addr}
    (a23 : PySem.W.nsIn K mainGlobals "_law_right" = some (some (.ref f23))) (l23 : K.lookup f23 = some ⟨oc23, od23, .func (PySem.W.fnOf "_law_right" "_law_right" (defArgs s_law_right) (defBody s_law_right) (defScope s_law_right) .none kV23 dc23 pm23 an23 cd23 ct23), sl23⟩) (c23 : PySem.W.codeIn K cd23 "_law_right" = true) (k23 : PySem.W.keepIn K (.ref f23) = true)
    {od24 an24 : Option Addr} {sl24 : Array (Option Value)} {oc24 kV24 dc24 pm24 cd24 ct24 : Value} {f24 : Addr}
    (a24 : PySem.W.nsIn K mainGlobals "_law_alike" = some (some (.ref f24))) (l24 : K.lookup f24 = some ⟨oc24, od24, .func (PySem.W.fnOf "_law_alike" "_law_alike" (defArgs s_law_alike) (defBody s_law_alike) (defScope s_law_alike) .none kV24 dc24 pm24 an24 cd24 ct24), sl24⟩) (c24 : PySem.W.codeIn K cd24 "_law_alike" = true) (k24 : PySem.W.keepIn K (.ref f24) = true)
    {od25 an25 : Option Addr} {sl25 : Array (Option Value)} {oc25 kV25 dc25 pm25 cd25 ct25 : Value} {f25 : Addr}
    (a25 : PySem.W.nsIn K mainGlobals "_law_odd" = some (some (.ref f25))) (l25 : K.lookup f25 = some ⟨oc25, od25, .func (PySem.W.fnOf "_law_odd" "_law_odd" (defArgs s_law_odd) (defBody s_law_odd) (defScope s_law_odd) .none kV25 dc25 pm25 an25 cd25 ct25), sl25⟩) (c25 : PySem.W.codeIn K cd25 "_law_odd" = true) (k25 : PySem.W.keepIn K (.ref f25) = true)
    {od26 an26 : Option Addr} {sl26 : Array (Option Value)} {oc26 kV26 dc26 pm26 cd26 ct26 : Value} {f26 : Addr}
    (a26 : PySem.W.nsIn K mainGlobals "_law_deed" = some (some (.ref f26))) (l26 : K.lookup f26 = some ⟨oc26, od26, .func (PySem.W.fnOf "_law_deed" "_law_deed" (defArgs s_law_deed) (defBody s_law_deed) (defScope s_law_deed) .none kV26 dc26 pm26 an26 cd26 ct26), sl26⟩) (c26 : PySem.W.codeIn K cd26 "_law_deed" = true) (k26 : PySem.W.keepIn K (.ref f26) = true)
    {od27 an27 : Option Addr} {sl27 : Array (Option Value)} {oc27 kV27 dc27 pm27 cd27 ct27 : Value} {f27 : Addr}
    (a27 : PySem.W.nsIn K mainGlobals "_law_asked" = some (some (.ref f27))) (l27 : K.lookup f27 = some ⟨oc27, od27, .func (PySem.W.fnOf "_law_asked" "_law_asked" (defArgs s_law_asked) (defBody s_law_asked) (defScope s_law_asked) .none kV27 dc27 pm27 an27 cd27 ct27), sl27⟩) (c27 : PySem.W.codeIn K cd27 "_law_asked" = true) (k27 : PySem.W.keepIn K (.ref f27) = true)
    {od28 an28 : Option Addr} {sl28 : Array (Option Value)} {oc28 kV28 dc28 pm28 cd28 ct28 : Value} {f28 : Addr}
    (a28 : PySem.W.nsIn K mainGlobals "_law_member" = some (some (.ref f28))) (l28 : K.lookup f28 = some ⟨oc28, od28, .func (PySem.W.fnOf "_law_member" "_law_member" (defArgs s_law_member) (defBody s_law_member) (defScope s_law_member) .none kV28 dc28 pm28 an28 cd28 ct28), sl28⟩) (c28 : PySem.W.codeIn K cd28 "_law_member" = true) (k28 : PySem.W.keepIn K (.ref f28) = true)
    {od29 an29 : Option Addr} {sl29 : Array (Option Value)} {oc29 kV29 dc29 pm29 cd29 ct29 : Value} {f29 : Addr}
    (a29 : PySem.W.nsIn K mainGlobals "_law_lengths" = some (some (.ref f29))) (l29 : K.lookup f29 = some ⟨oc29, od29, .func (PySem.W.fnOf "_law_lengths" "_law_lengths" (defArgs s_law_lengths) (defBody s_law_lengths) (defScope s_law_lengths) .none kV29 dc29 pm29 an29 cd29 ct29), sl29⟩) (c29 : PySem.W.codeIn K cd29 "_law_lengths" = true) (k29 : PySem.W.keepIn K (.ref f29) = true)
    {od30 an30 : Option Addr} {sl30 : Array (Option Value)} {oc30 kV30 dc30 pm30 cd30 ct30 : Value} {f30 : Addr}
    (a30 : PySem.W.nsIn K mainGlobals "_law_due" = some (some (.ref f30))) (l30 : K.lookup f30 = some ⟨oc30, od30, .func (PySem.W.fnOf "_law_due" "_law_due" (defArgs s_law_due) (defBody s_law_due) (defScope s_law_due) .none kV30 dc30 pm30 an30 cd30 ct30), sl30⟩) (c30 : PySem.W.codeIn K cd30 "_law_due" = true) (k30 : PySem.W.keepIn K (.ref f30) = true)
    {od31 an31 : Option Addr} {sl31 : Array (Option Value)} {oc31 kV31 dc31 pm31 cd31 ct31 : Value} {f31 : Addr}
    (a31 : PySem.W.nsIn K mainGlobals "law" = some (some (.ref f31))) (l31 : K.lookup f31 = some ⟨oc31, od31, .func (PySem.W.fnOf "law" "law" (defArgs slaw) (defBody slaw) (defScope slaw) .none kV31 dc31 pm31 an31 cd31 ct31), sl31⟩) (c31 : PySem.W.codeIn K cd31 "law" = true) (k31 : PySem.W.keepIn K (.ref f31) = true)
    {t_MOST_MEMBERS : Tok} (v_MOST_MEMBERS : PySem.W.nsIn K mainGlobals "MOST_MEMBERS" = some (some (.int 64 t_MOST_MEMBERS)))
    {t_MOST_ROWS : Tok} (v_MOST_ROWS : PySem.W.nsIn K mainGlobals "MOST_ROWS" = some (some (.int 20 t_MOST_ROWS)))
    {t_MOST_COLUMNS : Tok} (v_MOST_COLUMNS : PySem.W.nsIn K mainGlobals "MOST_COLUMNS" = some (some (.int 20 t_MOST_COLUMNS)))
    {o_NOT_THERE : Addr} {od_NOT_THERE : Option Addr} {n_NOT_THERE : Nat} {sl_NOT_THERE : Array (Option Value)} {t0_NOT_THERE t1_NOT_THERE : Tok} (v_NOT_THERE : PySem.W.nsIn K mainGlobals "NOT_THERE" = some (some (.ref o_NOT_THERE))) (u_NOT_THERE : K.lookup o_NOT_THERE = some ⟨.type "tuple", od_NOT_THERE, .seq #[.str "error" t0_NOT_THERE, .str "NA" t1_NOT_THERE] n_NOT_THERE, sl_NOT_THERE⟩)
    (z_abs : PySem.W.nsIn K mainGlobals "abs" = some none)
    (z_bool : PySem.W.nsIn K mainGlobals "bool" = some none)
    (z_int : PySem.W.nsIn K mainGlobals "int" = some none)
    (z_isinstance : PySem.W.nsIn K mainGlobals "isinstance" = some none)
    (z_len : PySem.W.nsIn K mainGlobals "len" = some none)
    (z_list : PySem.W.nsIn K mainGlobals "list" = some none)
    (z_max : PySem.W.nsIn K mainGlobals "max" = some none)
    (z_min : PySem.W.nsIn K mainGlobals "min" = some none)
    (z_range : PySem.W.nsIn K mainGlobals "range" = some none)
    (z_str : PySem.W.nsIn K mainGlobals "str" = some none)
    (z_tuple : PySem.W.nsIn K mainGlobals "tuple" = some none)
    {cc : Addr} (ec : cd9 = .ref cc) (hd : PySem.W.codeHdIn K cc (tabK K cc) = true) (hn : K.lookup (tabK K cc) = none) (he : h.get? (tabK K cc) = some { cls := .none, data := .fields #[] }) :
    LamX.LawAtS l w K CX0 9 63 "script" mg fa h := by
  have e := hfa.symm.trans (PySem.W.mg_of X G a31)
  cases e
  have F0 := fun_mk (st := sfits) l0 c0 k0
  have b0 := F0.binds (ps := Pfits) fun _ _ _ _ _ _ us hl => match us, hl with | [_, _], _ => rfl
  have F1 := fun_mk (st := sarray) l1 c1 k1
  have b1 := F1.binds (ps := Parray) fun _ _ _ _ _ _ us hl => match us, hl with | [_, _, _], _ => rfl
  have F2 := fun_mk (st := sheight) l2 c2 k2
  have b2 := F2.binds (ps := Pheight) fun _ _ _ _ _ _ us hl => match us, hl with | [_], _ => rfl
  have F3 := fun_mk (st := swidth) l3 c3 k3
  have b3 := F3.binds (ps := Pwidth) fun _ _ _ _ _ _ us hl => match us, hl with | [_], _ => rfl
  have F4 := fun_mk (st := smember) l4 c4 k4
  have b4 := F4.binds (ps := Pmember) fun _ _ _ _ _ _ us hl => match us, hl with | [_, _, _], _ => rfl
  have F5 := fun_mk (st := ssize_of) l5 c5 k5
  have b5 := F5.binds (ps := Psize_of) fun _ _ _ _ _ _ us hl => match us, hl with | [_], _ => rfl
  have F6 := fun_mk (st := srepeated) l6 c6 k6
  have b6 := F6.binds (ps := Prepeated) fun _ _ _ _ _ _ us hl => match us, hl with | [_, _, _], _ => rfl
  have F7 := fun_mk (st := stogether) l7 c7 k7
  have b7 := F7.binds (ps := Ptogether) fun _ _ _ _ _ _ us hl => match us, hl with | [_, _], _ => rfl
  have F8 := fun_mk (st := sfirst_error) l8 c8 k8
  have b8 := F8.binds (ps := Pfirst_error) fun _ _ _ _ _ _ us hl => match us, hl with | [_], _ => rfl
  have F9 := fun_mk (st := sbroadcast) l9 c9 k9
  have b9 := F9.binds (ps := Pbroadcast) fun _ _ _ _ _ _ us hl => match us, hl with | [_, _, _], _ => rfl
  have F10 := fun_mk (st := s_law_mixed) l10 c10 k10
  have b10 := F10.binds (ps := P_law_mixed) fun _ _ _ _ _ _ us hl => match us, hl with | [_, _], _ => rfl
  have F11 := fun_mk (st := s_law_start) l11 c11 k11
  have b11 := F11.binds (ps := P_law_start) fun _ _ _ _ _ _ us hl => match us, hl with | [_], _ => rfl
  have F12 := fun_mk (st := s_law_take) l12 c12 k12
  have b12 := F12.binds (ps := P_law_take) fun _ _ _ _ _ _ us hl => match us, hl with | [_, _], _ => rfl
  have F13 := fun_mk (st := s_law_same) l13 c13 k13
  have b13 := F13.binds (ps := P_law_same) fun _ _ _ _ _ _ us hl => match us, hl with | [_, _], _ => rfl
  have F14 := fun_mk (st := s_law_amount) l14 c14 k14
  have b14 := F14.binds (ps := P_law_amount) fun _ _ _ _ _ _ us hl => match us, hl with | [_], _ => rfl
  have F15 := fun_mk (st := s_law_signs) l15 c15 k15
  have b15 := F15.binds (ps := P_law_signs) fun _ _ _ _ _ _ us hl => match us, hl with | [], _ => rfl
  have F16 := fun_mk (st := s_law_scalar) l16 c16 k16
  have b16 := F16.binds (ps := P_law_scalar) fun _ _ _ _ _ _ us hl => match us, hl with | [_], _ => rfl
  have F17 := fun_mk (st := s_law_members) l17 c17 k17
  have b17 := F17.binds (ps := P_law_members) fun _ _ _ _ _ _ us hl => match us, hl with | [_, _], _ => rfl
  have F18 := fun_mk (st := s_law_lines) l18 c18 k18
  have b18 := F18.binds (ps := P_law_lines) fun _ _ _ _ _ _ us hl => match us, hl with | [_, _, _], _ => rfl
  have F19 := fun_mk (st := s_law_value) l19 c19 k19
  have b19 := F19.binds (ps := P_law_value) fun _ _ _ _ _ _ us hl => match us, hl with | [_, _, _], _ => rfl
  have F20 := fun_mk (st := s_law_told) l20 c20 k20
  have b20 := F20.binds (ps := P_law_told) fun _ _ _ _ _ _ us hl => match us, hl with | [_], _ => rfl
  have F21 := fun_mk (st := s_law_both) l21 c21 k21
  have b21 := F21.binds (ps := P_law_both) fun _ _ _ _ _ _ us hl => match us, hl with | [_, _], _ => rfl
  have F22 := fun_mk (st := s_law_left) l22 c22 k22
  have b22 := F22.binds (ps := P_law_left) fun _ _ _ _ _ _ us hl => match us, hl with | [_, _], _ => rfl
  have F23 := fun_mk (st := s_law_right) l23 c23 k23
  have b23 := F23.binds (ps := P_law_right) fun _ _ _ _ _ _ us hl => match us, hl with | [_, _], _ => rfl
  have F24 := fun_mk (st := s_law_alike) l24 c24 k24
  have b24 := F24.binds (ps := P_law_alike) fun _ _ _ _ _ _ us hl => match us, hl with | [_, _], _ => rfl
  have F25 := fun_mk (st := s_law_odd) l25 c25 k25
  have b25 := F25.binds (ps := P_law_odd) fun _ _ _ _ _ _ us hl => match us, hl with | [_, _], _ => rfl
  have F26 := fun_mk (st := s_law_deed) l26 c26 k26
  have b26 := F26.binds (ps := P_law_deed) fun _ _ _ _ _ _ us hl => match us, hl with | [_, _, _], _ => rfl
  have F27 := fun_mk (st := s_law_asked) l27 c27 k27
  have b27 := F27.binds (ps := P_law_asked) fun _ _ _ _ _ _ us hl => match us, hl with | [_, _, _], _ => rfl
  have F28 := fun_mk (st := s_law_member) l28 c28 k28
  have b28 := F28.binds (ps := P_law_member) fun _ _ _ _ _ _ us hl => match us, hl with | [_, _, _], _ => rfl
  have F29 := fun_mk (st := s_law_lengths) l29 c29 k29
  have b29 := F29.binds (ps := P_law_lengths) fun _ _ _ _ _ _ us hl => match us, hl with | [_], _ => rfl
  have F30 := fun_mk (st := s_law_due) l30 c30 k30
  have b30 := F30.binds (ps := P_law_due) fun _ _ _ _ _ _ us hl => match us, hl with | [_, _, _], _ => rfl
  have F31 := fun_mk (st := slaw) l31 c31 k31
  have b31 := F31.binds (ps := Plaw) fun _ _ _ _ _ _ us hl => match us, hl with | [_], _ => rfl
  let T : Txt K mg := { afits := f0, dfits := _, Ffits := F0, gfits := PySem.W.mg_of X G a0, bfits := b0, aarray := f1, darray := _, Farray := F1, garray := PySem.W.mg_of X G a1, barray := b1, aheight := f2, dheight := _, Fheight := F2, gheight := PySem.W.mg_of X G a2, bheight := b2, awidth := f3, dwidth := _, Fwidth := F3, gwidth := PySem.W.mg_of X G a3, bwidth := b3, amember := f4, dmember := _, Fmember := F4, gmember := PySem.W.mg_of X G a4, bmember := b4, asize_of := f5, dsize_of := _, Fsize_of := F5, gsize_of := PySem.W.mg_of X G a5, bsize_of := b5, arepeated := f6, drepeated := _, Frepeated := F6, grepeated := PySem.W.mg_of X G a6, brepeated := b6, atogether := f7, dtogether := _, Ftogether := F7, gtogether := PySem.W.mg_of X G a7, btogether := b7, afirst_error := f8, dfirst_error := _, Ffirst_error := F8, gfirst_error := PySem.W.mg_of X G a8, bfirst_error := b8, abroadcast := f9, dbroadcast := _, Fbroadcast := F9, gbroadcast := PySem.W.mg_of X G a9, bbroadcast := b9, a_law_mixed := f10, d_law_mixed := _, F_law_mixed := F10, g_law_mixed := PySem.W.mg_of X G a10, b_law_mixed := b10, a_law_start := f11, d_law_start := _, F_law_start := F11, g_law_start := PySem.W.mg_of X G a11, b_law_start := b11, a_law_take := f12, d_law_take := _, F_law_take := F12, g_law_take := PySem.W.mg_of X G a12, b_law_take := b12, a_law_same := f13, d_law_same := _, F_law_same := F13, g_law_same := PySem.W.mg_of X G a13, b_law_same := b13, a_law_amount := f14, d_law_amount := _, F_law_amount := F14, g_law_amount := PySem.W.mg_of X G a14, b_law_amount := b14, a_law_signs := f15, d_law_signs := _, F_law_signs := F15, g_law_signs := PySem.W.mg_of X G a15, b_law_signs := b15, a_law_scalar := f16, d_law_scalar := _, F_law_scalar := F16, g_law_scalar := PySem.W.mg_of X G a16, b_law_scalar := b16, a_law_members := f17, d_law_members := _, F_law_members := F17, g_law_members := PySem.W.mg_of X G a17, b_law_members := b17, a_law_lines := f18, d_law_lines := _, F_law_lines := F18, g_law_lines := PySem.W.mg_of X G a18, b_law_lines := b18, a_law_value := f19, d_law_value := _, F_law_value := F19, g_law_value := PySem.W.mg_of X G a19, b_law_value := b19, a_law_told := f20, d_law_told := _, F_law_told := F20, g_law_told := PySem.W.mg_of X G a20, b_law_told := b20, a_law_both := f21, d_law_both := _, F_law_both := F21, g_law_both := PySem.W.mg_of X G a21, b_law_both := b21, a_law_left := f22, d_law_left := _, F_law_left := F22, g_law_left := PySem.W.mg_of X G a22, b_law_left := b22, a_law_right := f23, d_law_right := _, F_law_right := F23, g_law_right := PySem.W.mg_of X G a23, b_law_right := b23, a_law_alike := f24, d_law_alike := _, F_law_alike := F24, g_law_alike := PySem.W.mg_of X G a24, b_law_alike := b24, a_law_odd := f25, d_law_odd := _, F_law_odd := F25, g_law_odd := PySem.W.mg_of X G a25, b_law_odd := b25, a_law_deed := f26, d_law_deed := _, F_law_deed := F26, g_law_deed := PySem.W.mg_of X G a26, b_law_deed := b26, a_law_asked := f27, d_law_asked := _, F_law_asked := F27, g_law_asked := PySem.W.mg_of X G a27, b_law_asked := b27, a_law_member := f28, d_law_member := _, F_law_member := F28, g_law_member := PySem.W.mg_of X G a28, b_law_member := b28, a_law_lengths := f29, d_law_lengths := _, F_law_lengths := F29, g_law_lengths := PySem.W.mg_of X G a29, b_law_lengths := b29, a_law_due := f30, d_law_due := _, F_law_due := F30, g_law_due := PySem.W.mg_of X G a30, b_law_due := b30, alaw := fa, dlaw := _, Flaw := F31, glaw := PySem.W.mg_of X G a31, blaw := b31, t_MOST_MEMBERS := t_MOST_MEMBERS, m_MOST_MEMBERS := PySem.W.mg_of X G v_MOST_MEMBERS, t_MOST_ROWS := t_MOST_ROWS, m_MOST_ROWS := PySem.W.mg_of X G v_MOST_ROWS, t_MOST_COLUMNS := t_MOST_COLUMNS, m_MOST_COLUMNS := PySem.W.mg_of X G v_MOST_COLUMNS, o_NOT_THERE := o_NOT_THERE, m_NOT_THERE := PySem.W.mg_of X G v_NOT_THERE, q_NOT_THERE := fun _ => .inr ⟨_, _, _, u_NOT_THERE, rfl, rfl, (show 2 ≤ sizeLine by decide), (.cons ⟨_, rfl⟩ (.cons ⟨_, rfl⟩ .nil))⟩, z_abs := PySem.W.mg_none_of X G z_abs, z_bool := PySem.W.mg_none_of X G z_bool, z_int := PySem.W.mg_none_of X G z_int, z_isinstance := PySem.W.mg_none_of X G z_isinstance, z_len := PySem.W.mg_none_of X G z_len, z_list := PySem.W.mg_none_of X G z_list, z_max := PySem.W.mg_none_of X G z_max, z_min := PySem.W.mg_none_of X G z_min, z_range := PySem.W.mg_none_of X G z_range, z_str := PySem.W.mg_none_of X G z_str, z_tuple := PySem.W.mg_none_of X G z_tuple, cT := cc, pT := tabK K cc, hc := ec }
  refine ⟨T.dlaw, [(cc, tabK K cc)], splaw K T.dd T.tb, fun p hp => by rw [List.mem_singleton.mp hp]; exact he, fun p hp => by rw [List.mem_singleton.mp hp]; exact hn, fun p hp => by rw [List.mem_singleton.mp hp]; exact PySem.W.codeHd_of_K X hd, fun s v => .of_eq rfl, fun H a ns hl hb hT hS => ⟨a, ns, rfl, hS, hl, fun p hp => ?_, fun _ => rfl⟩, fun base KB gB TB => ?_⟩
  · obtain rfl := List.mem_singleton.mp hp
    exact LamX.TabS.nil (hT _ (List.mem_singleton.mpr rfl))
  · haveI : TabsB mg base T.cT T.pT := ⟨TB _ (List.mem_singleton.mpr rfl)⟩
    exact oklaw (base := base) T

end Mysheetworks_k24_broadcasting
open PySem PySem.W PyProof.Rows
set_option maxHeartbeats 0 in
theorem PySem.Challenge.cw_sheetworks_k24_broadcasting_holds : PySem.Challenge.rw_sheetworks_k24_broadcasting.Holds := by
  w_on; o_law; k_head; (case hw => w_witness2)
  k_fill
  refine LamX.walk_ofTs (l := PySem.Challenge.rw_sheetworks_k24_broadcasting) (n := 63) (k := 9) (x := "script") (CX := fun _ => L2.CX0) rfl (by decide) rfl ⟨rfl, by decide, by decide⟩ (fun w h Y => PySem.W.km_in_of Y) ?F (fun _ _ _ _ _ h => h)
  case F =>
    intro w mg fa h Y KX G hmg
    refine' Mysheetworks_k24_broadcasting.all_mk KX G hmg ?a0 ?l0 ?c0 ?k0 ?a1 ?l1 ?c1 ?k1 ?a2 ?l2 ?c2 ?k2 ?a3 ?l3 ?c3 ?k3 ?a4 ?l4 ?c4 ?k4 ?a5 ?l5 ?c5 ?k5 ?a6 ?l6 ?c6 ?k6 ?a7 ?l7 ?c7 ?k7 ?a8 ?l8 ?c8 ?k8 ?a9 ?l9 ?c9 ?k9 ?a10 ?l10 ?c10 ?k10 ?a11 ?l11 ?c11 ?k11 ?a12 ?l12 ?c12 ?k12 ?a13 ?l13 ?c13 ?k13 ?a14 ?l14 ?c14 ?k14 ?a15 ?l15 ?c15 ?k15 ?a16 ?l16 ?c16 ?k16 ?a17 ?l17 ?c17 ?k17 ?a18 ?l18 ?c18 ?k18 ?a19 ?l19 ?c19 ?k19 ?a20 ?l20 ?c20 ?k20 ?a21 ?l21 ?c21 ?k21 ?a22 ?l22 ?c22 ?k22 ?a23 ?l23 ?c23 ?k23 ?a24 ?l24 ?c24 ?k24 ?a25 ?l25 ?c25 ?k25 ?a26 ?l26 ?c26 ?k26 ?a27 ?l27 ?c27 ?k27 ?a28 ?l28 ?c28 ?k28 ?a29 ?l29 ?c29 ?k29 ?a30 ?l30 ?c30 ?k30 ?a31 ?l31 ?c31 ?k31 ?v_MOST_MEMBERS ?v_MOST_ROWS ?v_MOST_COLUMNS ?v_NOT_THERE ?u_NOT_THERE ?z_abs ?z_bool ?z_int ?z_isinstance ?z_len ?z_list ?z_max ?z_min ?z_range ?z_str ?z_tuple ?ec ?hd ?hn ?he
    (case a0 => k_is); (case l0 => k_is); (case c0 => k_is); (case k0 => k_is); (case a1 => k_is); (case l1 => k_is); (case c1 => k_is); (case k1 => k_is); (case a2 => k_is); (case l2 => k_is); (case c2 => k_is); (case k2 => k_is); (case a3 => k_is); (case l3 => k_is); (case c3 => k_is); (case k3 => k_is); (case a4 => k_is); (case l4 => k_is); (case c4 => k_is); (case k4 => k_is); (case a5 => k_is); (case l5 => k_is); (case c5 => k_is); (case k5 => k_is); (case a6 => k_is); (case l6 => k_is); (case c6 => k_is); (case k6 => k_is); (case a7 => k_is); (case l7 => k_is); (case c7 => k_is); (case k7 => k_is); (case a8 => k_is); (case l8 => k_is); (case c8 => k_is); (case k8 => k_is); (case a9 => k_is); (case l9 => k_is); (case c9 => k_is); (case k9 => k_is); (case a10 => k_is); (case l10 => k_is); (case c10 => k_is); (case k10 => k_is); (case a11 => k_is); (case l11 => k_is); (case c11 => k_is); (case k11 => k_is); (case a12 => k_is); (case l12 => k_is); (case c12 => k_is); (case k12 => k_is); (case a13 => k_is); (case l13 => k_is); (case c13 => k_is); (case k13 => k_is); (case a14 => k_is); (case l14 => k_is); (case c14 => k_is); (case k14 => k_is); (case a15 => k_is); (case l15 => k_is); (case c15 => k_is); (case k15 => k_is); (case a16 => k_is); (case l16 => k_is); (case c16 => k_is); (case k16 => k_is); (case a17 => k_is); (case l17 => k_is); (case c17 => k_is); (case k17 => k_is); (case a18 => k_is); (case l18 => k_is); (case c18 => k_is); (case k18 => k_is); (case a19 => k_is); (case l19 => k_is); (case c19 => k_is); (case k19 => k_is); (case a20 => k_is); (case l20 => k_is); (case c20 => k_is); (case k20 => k_is); (case a21 => k_is); (case l21 => k_is); (case c21 => k_is); (case k21 => k_is); (case a22 => k_is); (case l22 => k_is); (case c22 => k_is); (case k22 => k_is); (case a23 => k_is); (case l23 => k_is); (case c23 => k_is); (case k23 => k_is); (case a24 => k_is); (case l24 => k_is); (case c24 => k_is); (case k24 => k_is); (case a25 => k_is); (case l25 => k_is); (case c25 => k_is); (case k25 => k_is); (case a26 => k_is); (case l26 => k_is); (case c26 => k_is); (case k26 => k_is); (case a27 => k_is); (case l27 => k_is); (case c27 => k_is); (case k27 => k_is); (case a28 => k_is); (case l28 => k_is); (case c28 => k_is); (case k28 => k_is); (case a29 => k_is); (case l29 => k_is); (case c29 => k_is); (case k29 => k_is); (case a30 => k_is); (case l30 => k_is); (case c30 => k_is); (case k30 => k_is); (case a31 => k_is); (case l31 => k_is); (case c31 => k_is); (case k31 => k_is); (case v_MOST_MEMBERS => k_is); (case v_MOST_ROWS => k_is); (case v_MOST_COLUMNS => k_is); (case v_NOT_THERE => k_is); (case u_NOT_THERE => k_is); (case z_abs => k_is); (case z_bool => k_is); (case z_int => k_is); (case z_isinstance => k_is); (case z_len => k_is); (case z_list => k_is); (case z_max => k_is); (case z_min => k_is); (case z_range => k_is); (case z_str => k_is); (case z_tuple => k_is); (case ec => exact rfl); (case hd => kernel_rfl); (case hn => kernel_rfl); (case he => exact PySem.W.km_tabs_of Y _ (List.mem_cons.mpr (.inl (by kernel_rfl))))

