import PyProof.Rows.All
import Wide.All
import OpenK.AllK
import Wide.FinOn
import HandS.ForMost
import HandS.Gcd
import Flt.RightSqrt
import KE.KMathG
import HandS.IsInst
import HandS.Wide
import HandS.WideBits
import HandS.StrMore
import HandS.FStr
import HandS.EndBits
import PySem.Challenge.RW_sheetworks_k05_roots_and_powers
set_option Elab.async false
set_option linter.all false
set_option maxRecDepth 100000
set_option maxHeartbeats 4000000
namespace Mysheetworks_k05_roots_and_powers
open PySem PySem.Spec PyProof.Rows L2
def topS (i : Nat) : Stmt := PySem.Challenge.pw_sheetworks_k05_roots_and_powers.main.body.getD i (.Pass ⟨0, 0, 0, 0⟩)
abbrev shalf_even : Stmt := topS 5
abbrev Nhalf_even : List Str := ["a", "b", "below", "rest"]
abbrev Phalf_even : List Str := ["a", "b"]
theorem schalf_even : FnScope Nhalf_even Phalf_even (defScope shalf_even) := ⟨rfl, rfl, rfl, by decide +kernel, rfl, by decide +kernel, by decide +kernel⟩
abbrev sfitting : Stmt := topS 6
abbrev Nfitting : List Str := ["m"]
abbrev Pfitting : List Str := ["m"]
theorem scfitting : FnScope Nfitting Pfitting (defScope sfitting) := ⟨rfl, rfl, rfl, by decide +kernel, rfl, by decide +kernel, by decide +kernel⟩
abbrev smultiplied : Stmt := topS 7
abbrev Nmultiplied : List Str := ["m", "n"]
abbrev Pmultiplied : List Str := ["m", "n"]
theorem scmultiplied : FnScope Nmultiplied Pmultiplied (defScope smultiplied) := ⟨rfl, rfl, rfl, by decide +kernel, rfl, by decide +kernel, by decide +kernel⟩
abbrev sdivided : Stmt := topS 8
abbrev Ndivided : List Str := ["m", "n"]
abbrev Pdivided : List Str := ["m", "n"]
theorem scdivided : FnScope Ndivided Pdivided (defScope sdivided) := ⟨rfl, rfl, rfl, by decide +kernel, rfl, by decide +kernel, by decide +kernel⟩
abbrev sroot : Stmt := topS 9
abbrev Nroot : List Str := ["m"]
abbrev Proot : List Str := ["m"]
theorem scroot : FnScope Nroot Proot (defScope sroot) := ⟨rfl, rfl, rfl, by decide +kernel, rfl, by decide +kernel, by decide +kernel⟩
abbrev sraised : Stmt := topS 10
abbrev Nraised : List Str := ["m", "n", "power"]
abbrev Praised : List Str := ["m", "n"]
theorem scraised : FnScope Nraised Praised (defScope sraised) := ⟨rfl, rfl, rfl, by decide +kernel, rfl, by decide +kernel, by decide +kernel⟩
abbrev smultiplied_often : Stmt := topS 11
abbrev Nmultiplied_often : List Str := ["m", "times", "power", "_"]
abbrev Pmultiplied_often : List Str := ["m", "times"]
theorem scmultiplied_often : FnScope Nmultiplied_often Pmultiplied_often (defScope smultiplied_often) := ⟨rfl, rfl, rfl, by decide +kernel, rfl, by decide +kernel, by decide +kernel⟩
abbrev s_law_cell : Stmt := topS 13
abbrev N_law_cell : List Str := ["script", "k"]
abbrev P_law_cell : List Str := ["script", "k"]
theorem sc_law_cell : FnScope N_law_cell P_law_cell (defScope s_law_cell) := ⟨rfl, rfl, rfl, by decide +kernel, rfl, by decide +kernel, by decide +kernel⟩
abbrev s_law_mix : Stmt := topS 14
abbrev N_law_mix : List Str := ["cell", "salt", "one"]
abbrev P_law_mix : List Str := ["cell", "salt"]
theorem sc_law_mix : FnScope N_law_mix P_law_mix (defScope s_law_mix) := ⟨rfl, rfl, rfl, by decide +kernel, rfl, by decide +kernel, by decide +kernel⟩
abbrev s_law_amount : Stmt := topS 15
abbrev N_law_amount : List Str := ["cell", "salt", "bound", "choice", "one", "edges", "wide"]
abbrev P_law_amount : List Str := ["cell", "salt"]
theorem sc_law_amount : FnScope N_law_amount P_law_amount (defScope s_law_amount) := ⟨rfl, rfl, rfl, by decide +kernel, rfl, by decide +kernel, by decide +kernel⟩
abbrev s_law_same : Stmt := topS 16
abbrev N_law_same : List Str := ["actual", "due"]
abbrev P_law_same : List Str := ["actual", "due"]
theorem sc_law_same : FnScope N_law_same P_law_same (defScope s_law_same) := ⟨rfl, rfl, rfl, by decide +kernel, rfl, by decide +kernel, by decide +kernel⟩
abbrev s_law_limited : Stmt := topS 17
abbrev N_law_limited : List Str := ["number"]
abbrev P_law_limited : List Str := ["number"]
theorem sc_law_limited : FnScope N_law_limited P_law_limited (defScope s_law_limited) := ⟨rfl, rfl, rfl, by decide +kernel, rfl, by decide +kernel, by decide +kernel⟩
abbrev s_law_nearest : Stmt := topS 18
abbrev N_law_nearest : List Str := ["a", "b", "whole", "twice"]
abbrev P_law_nearest : List Str := ["a", "b"]
theorem sc_law_nearest : FnScope N_law_nearest P_law_nearest (defScope s_law_nearest) := ⟨rfl, rfl, rfl, by decide +kernel, rfl, by decide +kernel, by decide +kernel⟩
abbrev s_law_product : Stmt := topS 19
abbrev N_law_product : List Str := ["m", "n"]
abbrev P_law_product : List Str := ["m", "n"]
theorem sc_law_product : FnScope N_law_product P_law_product (defScope s_law_product) := ⟨rfl, rfl, rfl, by decide +kernel, rfl, by decide +kernel, by decide +kernel⟩
abbrev s_law_rooted : Stmt := topS 20
abbrev N_law_rooted : List Str := ["cell", "far", "mode", "wide", "side", "least"]
abbrev P_law_rooted : List Str := ["cell", "far"]
theorem sc_law_rooted : FnScope N_law_rooted P_law_rooted (defScope s_law_rooted) := ⟨rfl, rfl, rfl, by decide +kernel, rfl, by decide +kernel, by decide +kernel⟩
abbrev s_law_base : Stmt := topS 21
abbrev N_law_base : List Str := ["cell", "far", "mode", "one", "sizes"]
abbrev P_law_base : List Str := ["cell", "far"]
theorem sc_law_base : FnScope N_law_base P_law_base (defScope s_law_base) := ⟨rfl, rfl, rfl, by decide +kernel, rfl, by decide +kernel, by decide +kernel⟩
abbrev s_law_exponent : Stmt := topS 22
abbrev N_law_exponent : List Str := ["cell", "far", "mode", "whole"]
abbrev P_law_exponent : List Str := ["cell", "far"]
theorem sc_law_exponent : FnScope N_law_exponent P_law_exponent (defScope s_law_exponent) := ⟨rfl, rfl, rfl, by decide +kernel, rfl, by decide +kernel, by decide +kernel⟩
abbrev s_law_power : Stmt := topS 23
abbrev N_law_power : List Str := ["m", "n", "times", "power", "k"]
abbrev P_law_power : List Str := ["m", "n"]
theorem sc_law_power : FnScope N_law_power P_law_power (defScope s_law_power) := ⟨rfl, rfl, rfl, by decide +kernel, rfl, by decide +kernel, by decide +kernel⟩
abbrev s_law_is_root : Stmt := topS 24
abbrev N_law_is_root : List Str := ["actual", "m", "side"]
abbrev P_law_is_root : List Str := ["actual", "m"]
theorem sc_law_is_root : FnScope N_law_is_root P_law_is_root (defScope s_law_is_root) := ⟨rfl, rfl, rfl, by decide +kernel, rfl, by decide +kernel, by decide +kernel⟩
abbrev slaw : Stmt := topS 25
abbrev Nlaw : List Str := ["script", "m", "base", "exponent"]
abbrev Plaw : List Str := ["script"]
theorem sclaw : FnScope Nlaw Plaw (defScope slaw) := ⟨rfl, rfl, rfl, by decide +kernel, rfl, by decide +kernel, by decide +kernel⟩

/-! ### own rules -/
theorem pe_powc {X : Cx} {a b c : Int} {j k : Nat} {p q pos : Pos} (hb : 0 ≤ b ∧ b ≤ 1000000 ∧ a.natAbs < 2 ^ 64) (h : a ^ b.toNat = c) : PE X (.BinOp (.Constant (.int a) j p) .Pow (.Constant (.int b) k q) pos) (tC (.int c)) :=
  ⟨fun pins s σ H Q I hq => (pe_op op_pow pe_int pe_int).run pins s σ H Q I ⟨a, b, rfl, rfl, hb, by
    show Q (.int (a ^ b.toNat)) H
    rw [h]
    exact hq⟩⟩
/-- isinstance of a flat value: told by its kind -/
def isiV : V → String → Option Bool
  | .int _, "int" => some true | .bl _, "int" => some true | .str _, "int" => some false | .non, "int" => some false
  | .int _, "bool" => some false | .bl _, "bool" => some true | .str _, "bool" => some false | .non, "bool" => some false
  | .int _, "str" => some false | .bl _, "str" => some false | .str _, "str" => some true | .non, "str" => some false
  | .int _, "tuple" => some false | .bl _, "tuple" => some false | .str _, "tuple" => some false | .non, "tuple" => some false
  | _, _ => none
theorem call_isiV {X : Cx} : CallR X (.builtin "isinstance") (fun xs H Q => ∃ x n b, xs = [x, .ty n] ∧ isiV x n = some b ∧ Q (.bl b) H) := by
  intro pins s σ H xs us Q I r h
  obtain ⟨x, n, b, rfl, e, q⟩ := h
  refine call_isi pins s σ H _ us Q I r ?_
  unfold isiV at e
  split at e
  case h_17 => cases e
  all_goals (cases e)
  all_goals first
    | exact ⟨_, _, .type "int", _, _, rfl, .ty _, .base (.int _), kit_ty (by decide +kernel), q⟩
    | exact ⟨_, _, .type "bool", _, _, rfl, .ty _, .base (.bl _), kit_ty (by decide +kernel), q⟩
    | exact ⟨_, _, .type "str", _, _, rfl, .ty _, .base (.str _), kit_ty (by decide +kernel), q⟩
    | exact ⟨_, _, .type "NoneType", _, _, rfl, .ty _, .base .non, kit_ty (by decide +kernel), q⟩
/-- how a call by keywords alone binds -/
structure KB0 (K : PySem.W.Frag) (fd : FuncData) (ps ks : List Str) (g : List Value → List Value) (gV : List V → List V) : Prop where
  to : ∀ (s : Shared) (ws : List Value), ws.length = ks.length → BindsTo s fd ⟨[], ks.zip ws⟩ (ps.zip (g ws))
  rel : ∀ {zs : List V} {ws : List Value}, Vals zs ws → Vals (gV zs) (g ws)
def tCallK0 (n : Nat) (sp : Sp) (gV : List V → List V) (E : XK) (tk : TA) : TE := fun σ H Q => tk σ H fun zs H2 => zs.length = n ∧ sp (gV zs) H2 Q E
theorem pe_callK0 {X : Cx} {CX : CXT} {k : Nat} {f : Addr} {fd : FuncData} {ps ks : List Str} {sp : Sp} {E : XK} {x : Str} {p pos : Pos} {kws : List Keyword} {tk : TA} {g : List Value → List Value} {gV : List V → List V}
    (F : FnOk X.prog X.w X.K X.mg X.base CX k f fd ps sp) (hr : Room k X.A) (hg : Gl X x) (hm : X.mg x = some (.ref f)) (hk : PySem.W.keepIn X.K (.ref f) = true) (hb : KB0 X.K fd ps ks g gV) (hx : Passes CX X E)
    (hkw : PK X kws tk) (hall : (backToKw pos (keywordEach kws X.env)).all (·.1.isSome) = true := by rfl) (hks : (backToKw pos (keywordEach kws X.env)).filterMap (·.1) = ks := by rfl)
    (hdb : (x == ("__debug__" : Str)) = false := by decide)
    (hpl : ((backTo pos (starEach [] X.env)).any (·.1) || (backToKw pos (keywordEach kws X.env)).any (·.1.isNone)) = false := by rfl) :
    PE X (.Call (.Name x p) [] kws pos) (tCallK0 ks.length sp gV E tk) := by
  refine ⟨fun pins s σ H Q I h => ?_⟩
  refine wpAny_Call_Name_kw (ld_glob I hg hm ?_ hdb)
  refine PySem.W.callWith_KW0 (h₀ := X.base) I.ok.mod.kin hk hall (thn (hkw.run pos pins s σ H _ I h) fun ws s2 ⟨zs, H2, I2, rz, l2, q2⟩ => ⟨I2.kIn, ?_⟩) hpl
  rw [hks]
  have r2 := hb.rel rz
  refine wpAny_call (codeAny_mono (F.run X.A X.stack s2 H2 ⟨[], ks.zip ws⟩ (g ws) (gV zs) Q E hr I2.env0 (hb.to s2 ws (rz.length.symm.trans l2)) r2 q2) fun r s' hq => ?_)
  cases r with
  | error e => exact hx pins σ H2 s2 e s' I2 hq
  | ok fl =>
    cases fl with
    | ret u => exact I2.after hq
    | next => exact False.elim hq
    | brk => exact False.elim hq
    | cont => exact False.elim hq
theorem atI_mem {xs : List V} {i : Int} (h0 : 0 ≤ i) (h1 : i < (xs.length : Int)) : ∃ v, v ∈ xs ∧ atI xs i = some v := by
  obtain ⟨n, rfl⟩ := Int.eq_ofNat_of_zero_le h0
  have h2 : n < xs.length := by omega
  exact ⟨xs[n], List.getElem_mem h2, atI_nat (List.getElem?_eq_getElem h2)⟩
/-- rules with conditions that are linear -/
theorem opr_imp {X : Cx} {f : Value → Value → Sem Value} {C C' : Int → Int → Prop} {g : Int → Int → V} (h : OpR X f (rI C g)) (k : ∀ i j, C' i j → C i j) : OpR X f (rI C' g) := fun pins s σ H x y v u Q I rx ry hq => by
  obtain ⟨i, j, ex, ey, hc, q⟩ := hq
  exact h pins s σ H x y v u Q I rx ry ⟨i, j, ex, ey, k i j hc, q⟩
def CB (_ j : Int) : Prop := 0 < j ∧ j < 1267650600228229401496703205376
def CMB (i j : Int) : Prop := (-1000000000000000000000000000000000000000000000000000000000000 < i ∧ i < 1000000000000000000000000000000000000000000000000000000000000) ∧ (-1000000000000000000000000000000000000000000000000000000000000 < j ∧ j < 1000000000000000000000000000000000000000000000000000000000000)
theorem abs200 {i : Int} (h : -1000000000000000000000000000000000000000000000000000000000000 < i ∧ i < 1000000000000000000000000000000000000000000000000000000000000) : i.natAbs < 2 ^ 200 := by
  have e : (2 : Nat) ^ 200 = 1606938044258990275541962092341162602522202993782792835301376 := by decide
  rw [e]
  omega
theorem abs100 {i : Int} (h : 0 < i ∧ i < 1267650600228229401496703205376) : i.natAbs < 2 ^ 100 := by
  have e : (2 : Nat) ^ 100 = 1267650600228229401496703205376 := by decide
  rw [e]
  omega
theorem op_mulB {X : Cx} : OpR X (binaryOp .Mult) (rI CMB fun i j => .int (i * j)) := opr_imp op_mulW fun i j h => wide_mul (abs200 h.1) (abs200 h.2) (by decide) (by decide) (by decide)
theorem op_fdivB {X : Cx} : OpR X (binaryOp .FloorDiv) (rI CB fun i j => .int (i / j)) := opr_imp op_fdivW fun i j h => wide_div h.1 (abs100 h) (by decide) (by decide)
theorem ediv_up {i j : Int} (h : 0 < j) (h0 : 0 ≤ i) : 0 ≤ i / j ∧ i / j ≤ i := ⟨Int.ediv_nonneg h0 (Int.le_of_lt h), Int.ediv_le_self j h0⟩
theorem ediv_dn {i j : Int} (h : 0 < j) (h0 : i < 0) : i ≤ i / j ∧ i / j < 0 := by
  refine ⟨?_, Int.ediv_neg_of_neg_of_pos h0 h⟩
  rw [Int.le_ediv_iff_mul_le h]
  have a : i * (j - 1) ≤ 0 := Int.mul_nonpos_of_nonpos_of_nonneg (Int.le_of_lt h0) (by omega)
  rw [Int.mul_sub, Int.mul_one] at a
  omega
/-- the quotient as a letter, with its bounds -/
theorem op_fdivL {X : Cx} : OpR X (binaryOp .FloorDiv) (fun x y H Q => ∃ i j, x = .int i ∧ y = .int j ∧ CB i j ∧ ∀ d, d = i / j → (0 ≤ i → 0 ≤ d ∧ d ≤ i) → (i < 0 → i ≤ d ∧ d < 0) → Q (.int d) H) := fun pins s σ H x y v u Q I rx ry hq => by
  obtain ⟨i, j, ex, ey, hc, q⟩ := hq
  exact op_fdivB pins s σ H x y v u Q I rx ry ⟨i, j, ex, ey, hc, q _ rfl (ediv_up hc.1) (ediv_dn hc.1)⟩
theorem call_divmodB {X : Cx} : CallR X (.builtin "divmod") (fun xs H Q => ∃ i j, xs = [.int i, .int j] ∧ CB i j ∧ ∀ p, H p = none → Q (.ref p) (upd H p (.tup [.int (i / j), .int (i % j)]))) := fun pins s σ H xs us Q I r hq => by
  obtain ⟨i, j, ex, hc, q⟩ := hq
  have w := wide_div (i := i) hc.1 (abs100 hc) (by decide) (by decide)
  exact call_divmodW pins s σ H xs us Q I r ⟨i, j, ex, ⟨hc.1, PyProof.noPylong_of_log2 w.2⟩, q⟩
theorem iteEqI {i j : Int} {A B : Prop} (h1 : i = j → A) (h2 : ¬ i = j → B) : if decide (V.int i = V.int j) = true then A else B := by
  by_cases h : i = j
  · rw [if_pos (decide_eq_true (congrArg V.int h))]
    exact h1 h
  · rw [if_neg (fun z => h (V.int.inj (of_decide_eq_true z)))]
    exact h2 h
theorem iteNeI {i j : Int} {A B : Prop} (h1 : ¬ i = j → A) (h2 : i = j → B) : if (!decide (V.int i = V.int j)) = true then A else B := by
  by_cases h : i = j
  · rw [decide_eq_true (congrArg V.int h)]
    exact iteF (h2 h)
  · rw [decide_eq_false (fun z => h (V.int.inj z))]
    exact iteT (h1 h)
theorem iteSS {x : Str} {A B : Prop} (h : A) : if decide (V.str x = V.str x) = true then A else B := by
  rw [if_pos (decide_eq_true rfl)]
  exact h
theorem iteIS {i : Int} {x : Str} {A B : Prop} (h : B) : if decide (V.int i = V.str x) = true then A else B := by
  rw [if_neg (fun z => V.noConfusion (of_decide_eq_true z))]
  exact h
theorem iteD {c A B : Prop} [Decidable c] (h1 : c → A) (h2 : ¬ c → B) : if decide c = true then A else B := by
  by_cases h : c
  · rw [if_pos (decide_eq_true h)]
    exact h1 h
  · rw [if_neg (fun z => h (of_decide_eq_true z))]
    exact h2 h
theorem same_upd {H : Hp} {p : Addr} {o : HO} (h : H p = none) : Same H (upd H p o) := fun b x e => by
  rw [upd_ne (ne_of_none e h)]
  exact e
theorem ix_listK {X : Cx} {K : PySem.W.Frag} (e : X.K = K) : IxR X (rIxL K) := e ▸ ix_list
theorem ix_tupK {X : Cx} {K : PySem.W.Frag} (e : X.K = K) : IxR X (rIxT K) := e ▸ ix_tup
theorem ix_seqK {X : Cx} {K : PySem.W.Frag} (e : X.K = K) : IxR X (rIx K) := e ▸ ix_seq
theorem call_len_seqK {X : Cx} {K : PySem.W.Frag} (e : X.K = K) : CallR X (.builtin "len") (fun xs H Q => ∃ p ys, xs = [.ref p] ∧ (SqL K H p ys ∨ SqT K H p ys) ∧ Q (.int ys.length) H) := e ▸ call_len_seq
/-- an item of a list, whichever -/
theorem atI_go {K : PySem.W.Frag} {p : Addr} {xs : List V} {i : Int} {H : Hp} {Q : VK} (h : SqL K H p xs) (h0 : 0 ≤ i) (h1 : i < (xs.length : Int)) (q : ∀ v, v ∈ xs → Q v H) : rIxL K (.ref p) (.int i) H Q := by
  obtain ⟨v, hv, e⟩ := atI_mem h0 h1
  exact ⟨_, _, _, v, rfl, rfl, h, e, q v hv⟩

/-- the product as a letter, with its bounds -/
theorem op_mulL {X : Cx} : OpR X (binaryOp .Mult) (fun x y H Q => ∃ i j, x = .int i ∧ y = .int j ∧ CMul i j ∧ ∀ d, d = i * j → (0 ≤ i → 0 ≤ j → 0 ≤ d) → (0 ≤ i → i ≤ 100000000000000 → 0 ≤ j → j ≤ 100000000000000 → d ≤ 10000000000000000000000000000) → Q (.int d) H) := fun pins s σ H x y v u Q I rx ry hq => by
  obtain ⟨i, j, ex, ey, hc, q⟩ := hq
  exact op_mul pins s σ H x y v u Q I rx ry ⟨i, j, ex, ey, hc, q _ rfl (fun a b => Int.mul_nonneg a b) (fun a b c d => Int.le_trans (Int.mul_le_mul b d c (by decide)) (by decide))⟩

/-- math.isqrt: the root as a letter -/
theorem call_isqrtB {X : Cx} : CallR X (.builtin "math.isqrt") (fun xs H Q => ∃ i, xs = [.int i] ∧ (0 ≤ i ∧ i < 1000000000000000000000000000000000000000000000000000000000000) ∧ ∀ r : Int, 0 ≤ r → r * r ≤ i → i < (r + 1) * (r + 1) → Q (.int r) H) := by
  intro pins s σ H xs us Q I r h
  obtain ⟨i, rfl, hb, q⟩ := h
  obtain ⟨u, rfl, t, rfl⟩ : ∃ u, us = [u] ∧ ∃ t, u = Value.int i t := by
    rcases r with _ | ⟨r0, r⟩
    rcases r with _ | ⟨r1, r⟩
    exact ⟨_, rfl, r0⟩
  have hl : i.toNat.log2 < 200 := by
    have e : (2 : Nat) ^ 200 = 1606938044258990275541962092341162602522202993782792835301376 := by decide
    exact PySem.Flt.log2_lt_of (by decide) (by rw [e]; omega)
  have sp := PySem.Float64.isqrt_spec i.toNat
  refine PySem.call_function_meets PySem.W.MGF.kind_isqrt PySem.W.MGF.plain_isqrt PySem.W.MGF.entry_isqrt (PySem.W.MGF.args_isqrt _) (PySem.W.mg_run_isqrt i t (by omega) (by omega) (by omega)).meets ?_
  refine ⟨.int _, H, I.tok _, ⟨_, rfl⟩, q _ (Int.natCast_nonneg _) ?_ ?_⟩
  · have b : ((Float64.isqrt i.toNat * Float64.isqrt i.toNat : Nat) : Int) ≤ (i.toNat : Int) := Int.ofNat_le.mpr sp.1
    rw [Int.natCast_mul, Int.toNat_of_nonneg hb.1] at b
    exact b
  · have b : (i.toNat : Int) < (((Float64.isqrt i.toNat + 1) * (Float64.isqrt i.toNat + 1) : Nat) : Int) := Int.ofNat_lt.mpr sp.2
    rw [Int.natCast_mul, Int.toNat_of_nonneg hb.1, Int.natCast_add] at b
    exact b

/-! ### what the top has left -/
structure Txt (K : PySem.W.Frag) (mg : Str → Option Value) where
  ahalf_even : Addr
  dhalf_even : FuncData
  Fhalf_even : Fun K "half_even" "half_even" shalf_even ahalf_even dhalf_even
  ghalf_even : mg "half_even" = some (.ref ahalf_even)
  bhalf_even : Binds K dhalf_even Phalf_even []
  afitting : Addr
  dfitting : FuncData
  Ffitting : Fun K "fitting" "fitting" sfitting afitting dfitting
  gfitting : mg "fitting" = some (.ref afitting)
  bfitting : Binds K dfitting Pfitting []
  amultiplied : Addr
  dmultiplied : FuncData
  Fmultiplied : Fun K "multiplied" "multiplied" smultiplied amultiplied dmultiplied
  gmultiplied : mg "multiplied" = some (.ref amultiplied)
  bmultiplied : Binds K dmultiplied Pmultiplied []
  adivided : Addr
  ddivided : FuncData
  Fdivided : Fun K "divided" "divided" sdivided adivided ddivided
  gdivided : mg "divided" = some (.ref adivided)
  bdivided : Binds K ddivided Pdivided []
  aroot : Addr
  droot : FuncData
  Froot : Fun K "root" "root" sroot aroot droot
  groot : mg "root" = some (.ref aroot)
  broot : Binds K droot Proot []
  araised : Addr
  draised : FuncData
  Fraised : Fun K "raised" "raised" sraised araised draised
  graised : mg "raised" = some (.ref araised)
  braised : Binds K draised Praised []
  amultiplied_often : Addr
  dmultiplied_often : FuncData
  Fmultiplied_often : Fun K "multiplied_often" "multiplied_often" smultiplied_often amultiplied_often dmultiplied_often
  gmultiplied_often : mg "multiplied_often" = some (.ref amultiplied_often)
  bmultiplied_often : Binds K dmultiplied_often Pmultiplied_often []
  a_law_cell : Addr
  d_law_cell : FuncData
  F_law_cell : Fun K "_law_cell" "_law_cell" s_law_cell a_law_cell d_law_cell
  g_law_cell : mg "_law_cell" = some (.ref a_law_cell)
  b_law_cell : Binds K d_law_cell P_law_cell []
  a_law_mix : Addr
  d_law_mix : FuncData
  F_law_mix : Fun K "_law_mix" "_law_mix" s_law_mix a_law_mix d_law_mix
  g_law_mix : mg "_law_mix" = some (.ref a_law_mix)
  b_law_mix : Binds K d_law_mix P_law_mix []
  a_law_amount : Addr
  d_law_amount : FuncData
  F_law_amount : Fun K "_law_amount" "_law_amount" s_law_amount a_law_amount d_law_amount
  g_law_amount : mg "_law_amount" = some (.ref a_law_amount)
  b_law_amount : Binds K d_law_amount P_law_amount []
  a_law_same : Addr
  d_law_same : FuncData
  F_law_same : Fun K "_law_same" "_law_same" s_law_same a_law_same d_law_same
  g_law_same : mg "_law_same" = some (.ref a_law_same)
  b_law_same : Binds K d_law_same P_law_same []
  a_law_limited : Addr
  d_law_limited : FuncData
  F_law_limited : Fun K "_law_limited" "_law_limited" s_law_limited a_law_limited d_law_limited
  g_law_limited : mg "_law_limited" = some (.ref a_law_limited)
  b_law_limited : Binds K d_law_limited P_law_limited []
  a_law_nearest : Addr
  d_law_nearest : FuncData
  F_law_nearest : Fun K "_law_nearest" "_law_nearest" s_law_nearest a_law_nearest d_law_nearest
  g_law_nearest : mg "_law_nearest" = some (.ref a_law_nearest)
  b_law_nearest : Binds K d_law_nearest P_law_nearest []
  a_law_product : Addr
  d_law_product : FuncData
  F_law_product : Fun K "_law_product" "_law_product" s_law_product a_law_product d_law_product
  g_law_product : mg "_law_product" = some (.ref a_law_product)
  b_law_product : Binds K d_law_product P_law_product []
  a_law_rooted : Addr
  d_law_rooted : FuncData
  F_law_rooted : Fun K "_law_rooted" "_law_rooted" s_law_rooted a_law_rooted d_law_rooted
  g_law_rooted : mg "_law_rooted" = some (.ref a_law_rooted)
  b_law_rooted : Binds K d_law_rooted P_law_rooted []
  a_law_base : Addr
  d_law_base : FuncData
  F_law_base : Fun K "_law_base" "_law_base" s_law_base a_law_base d_law_base
  g_law_base : mg "_law_base" = some (.ref a_law_base)
  b_law_base : Binds K d_law_base P_law_base []
  a_law_exponent : Addr
  d_law_exponent : FuncData
  F_law_exponent : Fun K "_law_exponent" "_law_exponent" s_law_exponent a_law_exponent d_law_exponent
  g_law_exponent : mg "_law_exponent" = some (.ref a_law_exponent)
  b_law_exponent : Binds K d_law_exponent P_law_exponent []
  a_law_power : Addr
  d_law_power : FuncData
  F_law_power : Fun K "_law_power" "_law_power" s_law_power a_law_power d_law_power
  g_law_power : mg "_law_power" = some (.ref a_law_power)
  b_law_power : Binds K d_law_power P_law_power []
  a_law_is_root : Addr
  d_law_is_root : FuncData
  F_law_is_root : Fun K "_law_is_root" "_law_is_root" s_law_is_root a_law_is_root d_law_is_root
  g_law_is_root : mg "_law_is_root" = some (.ref a_law_is_root)
  b_law_is_root : Binds K d_law_is_root P_law_is_root []
  alaw : Addr
  dlaw : FuncData
  Flaw : Fun K "law" "law" slaw alaw dlaw
  glaw : mg "law" = some (.ref alaw)
  blaw : Binds K dlaw Plaw []
  t_SCALE : Tok
  m_SCALE : mg "SCALE" = some (.int 1000000 t_SCALE)
  t_GREATEST : Tok
  m_GREATEST : mg "GREATEST" = some (.int 999999999999999999999 t_GREATEST)
  t_GREATEST_POWER : Tok
  m_GREATEST_POWER : mg "GREATEST_POWER" = some (.int 64 t_GREATEST_POWER)
  m_isqrt : mg "isqrt" = some (.builtin "math.isqrt")
  z_abs : mg "abs" = none
  z_bool : mg "bool" = none
  z_divmod : mg "divmod" = none
  z_int : mg "int" = none
  z_isinstance : mg "isinstance" = none
  z_len : mg "len" = none
  z_min : mg "min" = none
  z_range : mg "range" = none
  z_str : mg "str" = none
/-! ### the mathematics -/

/-- an amount, or NUM -/
def lim (n : Int) : V := if -1000000000000000000000 < n ∧ n < 1000000000000000000000 then .int n else .str "NUM"
theorem lim_in {n : Int} (h : -1000000000000000000000 < n ∧ n < 1000000000000000000000) : lim n = .int n := if_pos h
theorem lim_out {n : Int} (h : ¬ (-1000000000000000000000 < n ∧ n < 1000000000000000000000)) : lim n = .str "NUM" := if_neg h
def Flat (x : V) : Prop := (∃ i, x = .int i) ∨ ∃ s, x = .str s
theorem lim_flat (n : Int) : Flat (lim n) := by
  unfold lim
  split
  · exact Or.inl ⟨_, rfl⟩
  · exact Or.inr ⟨_, rfl⟩

/-- the integer nearest to a / b, of two equally near ones the even one -/
def near (a b : Int) : Int := if 2 * (a % b) > b then a / b + 1 else if 2 * (a % b) = b then a / b + a / b % 2 else a / b
def quo (m n : Int) : V := if n = 0 then .str "DIV" else if n < 0 then lim (near (-m * 1000000) (-n)) else lim (near (m * 1000000) n)
theorem quo_flat (m n : Int) : Flat (quo m n) := by
  unfold quo
  split
  · exact Or.inr ⟨_, rfl⟩
  · split <;> exact lim_flat _
def Big (m : Int) : Prop := -1000000000000000000000000000000 < m ∧ m < 1000000000000000000000000000000
theorem big_small {x y : Int} (hx : 0 ≤ x ∧ x ≤ 1000000000000) (hy : 0 ≤ y ∧ y ≤ 1000000000000) : Big (x * y) := by
  have a : 0 ≤ x * y := Int.mul_nonneg hx.1 hy.1
  have b : x * y ≤ 1000000000000 * 1000000000000 := Int.mul_le_mul hx.2 hy.2 hy.1 (by decide)
  unfold Big
  omega
theorem big01 {x y : Int} (h0 : -1000000000000000000000 < x) (h1 : x < 1000000000000000000000) : Big (x * (y % 2)) := by
  unfold Big
  rcases (show y % 2 = 0 ∨ y % 2 = 1 by omega) with h | h
  · rw [h]
    omega
  · rw [h]
    omega
theorem mul_big {m n : Int} (hm : Big m) (hn : Big n) : -1000000000000000000000000000000000000000000000000000000000000 < m * n ∧ m * n < 1000000000000000000000000000000000000000000000000000000000000 := by
  have a : (m * n).natAbs < 1000000000000000000000000000000 * 1000000000000000000000000000000 := by
    rw [Int.natAbs_mul]
    exact Nat.mul_lt_mul'' (by unfold Big at hm; omega) (by unfold Big at hn; omega)
  omega

def Amt (m : Int) : Prop := -1000000000000000000000 < m ∧ m < 1000000000000000000000
def stepV (m : Int) (x : V) : V := match x with | .int p => lim (near (p * m) 1000000) | _ => x
def powV (m : Int) : Nat → V
  | 0 => lim m
  | k + 1 => stepV m (powV m k)
theorem lim_cases (n : Int) : (∃ p, Amt p ∧ lim n = .int p) ∨ lim n = .str "NUM" := by
  unfold lim
  split
  · rename_i h
    exact Or.inl ⟨n, h, rfl⟩
  · exact Or.inr rfl
theorem powV_cases (m : Int) : ∀ k, (∃ p, Amt p ∧ powV m k = .int p) ∨ powV m k = .str "NUM"
  | 0 => lim_cases m
  | k + 1 => by
    rcases powV_cases m k with ⟨p, _, e⟩ | e
    · show (∃ q, Amt q ∧ stepV m (powV m k) = .int q) ∨ stepV m (powV m k) = .str "NUM"
      rw [e]
      exact lim_cases _
    · show (∃ q, Amt q ∧ stepV m (powV m k) = .int q) ∨ stepV m (powV m k) = .str "NUM"
      rw [e]
      exact Or.inr rfl
theorem powV_int {m : Int} {k : Nat} {p : Int} (e : powV m k = .int p) : powV m (k + 1) = lim (near (p * m) 1000000) := by
  show stepV m (powV m k) = _
  rw [e]
  rfl
theorem powV_num {m : Int} {i : Nat} (e : powV m i = .str "NUM") : ∀ j, i ≤ j → powV m j = .str "NUM"
  | 0, h => by
    have z : i = 0 := by omega
    rw [← z]
    exact e
  | j + 1, h => by
    by_cases z : i = j + 1
    · rw [← z]
      exact e
    · show stepV m (powV m j) = _
      rw [powV_num e j (by omega)]
      rfl
theorem powV_zero : ∀ k, powV 0 k = .int 0
  | 0 => by decide
  | k + 1 => by
    rw [powV_int (powV_zero k)]
    decide
def raiseV (m n : Int) : V :=
  if n % 1000000 ≠ 0 ∨ n / 1000000 < -64 ∨ 64 < n / 1000000 then .str "NUM"
  else if n / 1000000 = 0 then .int 1000000
  else if 0 < n / 1000000 then powV m (n / 1000000 - 1).toNat
  else match powV m (-(n / 1000000) - 1).toNat with
    | .int p => quo 1000000 p
    | v => v
theorem raise_bad {m n : Int} (h : n % 1000000 ≠ 0 ∨ n / 1000000 < -64 ∨ 64 < n / 1000000) : raiseV m n = .str "NUM" := if_pos h
theorem raise_zero {m n : Int} (h : n = 0) : raiseV m n = .int 1000000 := by
  rw [h]
  rfl
theorem raise_pos {m n : Int} (h : ¬ (n % 1000000 ≠ 0 ∨ n / 1000000 < -64 ∨ 64 < n / 1000000)) (h1 : 0 < n) {k : Nat} (hk : (k : Int) = n / 1000000 - 1) : raiseV m n = powV m k := by
  unfold raiseV
  rw [if_neg h, if_neg (by omega), if_pos (by omega), show (n / 1000000 - 1).toNat = k by omega]
theorem raise_neg {m n : Int} (h : ¬ (n % 1000000 ≠ 0 ∨ n / 1000000 < -64 ∨ 64 < n / 1000000)) (h1 : n < 0) {k : Nat} (hk : (k : Int) = -(n / 1000000) - 1) {p : Int} (e : powV m k = .int p) : raiseV m n = quo 1000000 p := by
  unfold raiseV
  rw [if_neg h, if_neg (by omega), if_neg (by omega), show (-(n / 1000000) - 1).toNat = k by omega, e]
theorem raise_numP {m n : Int} (h1 : 0 < n) {k : Nat} (hk : (k : Int) = n / 1000000 - 1) (e : powV m k = .str "NUM") : raiseV m n = .str "NUM" := by
  unfold raiseV
  split
  · rfl
  · rw [if_neg (by omega), if_pos (by omega), show (n / 1000000 - 1).toNat = k by omega, e]
theorem raise_numN {m n : Int} (h1 : n < 0) {k : Nat} (hk : (k : Int) = -(n / 1000000) - 1) (e : powV m k = .str "NUM") : raiseV m n = .str "NUM" := by
  unfold raiseV
  split
  · rfl
  · rw [if_neg (by omega), if_neg (by omega), show (-(n / 1000000) - 1).toNat = k by omega, e]
theorem raise_flat (m n : Int) : Flat (raiseV m n) := by
  unfold raiseV
  split
  · exact Or.inr ⟨_, rfl⟩
  · split
    · exact Or.inl ⟨_, rfl⟩
    · split
      · rcases powV_cases m (n / 1000000 - 1).toNat with ⟨p, _, e⟩ | e
        · exact Or.inl ⟨_, e⟩
        · exact Or.inr ⟨_, e⟩
      · rcases powV_cases m (-(n / 1000000) - 1).toNat with ⟨p, _, e⟩ | e
        · rw [e]
          exact quo_flat _ _
        · rw [e]
          exact Or.inr ⟨_, rfl⟩
theorem sq_lt {r m : Int} (h0 : 0 ≤ r) (h : r * r ≤ m) (hm : m < 1000000000000000000000000000000000000) : r < 1000000000000000000 := by
  rcases Int.lt_or_le r 1000000000000000000 with a | a
  · exact a
  · have b : 1000000000000000000 * 1000000000000000000 ≤ r * r := Int.mul_le_mul a a (by decide) h0
    omega

local macro_rules | `(tactic| walk_at "own") => `(tactic| first
  | refine ⟨_, _, rfl, (by first | assumption | (simp only [Big, Amt] at *; omega)), (by first | assumption | (simp only [Big, Amt] at *; omega)), fun H1 s1 => ?_⟩
  | refine ⟨_, _, rfl, (by first | assumption | (simp only [Big, Amt] at *; omega)), (by first | assumption | (simp only [Big, Amt] at *; omega)), fun p H1 s1 hp ep => ?_, fun H1 s1 ep => ?_⟩
  | refine ⟨_, rfl, (by first | assumption | (simp only [Big] at *; omega)), fun hneg => ?_, fun hpos r r0 r1 r2 r3 => ?_⟩
  | refine ⟨_, _, rfl, (by first | assumption | (simp only [Big] at *; omega)), Or.inl ⟨by assumption, rfl⟩, ?_⟩
  | refine ⟨_, _, rfl, (by first | assumption | (simp only [Big] at *; omega)), Or.inr ⟨by assumption, _, rfl, by assumption, by assumption, by assumption, by assumption⟩, ?_⟩
  | refine ⟨_, _, rfl, (by first | assumption | (simp only [Big, Amt] at *; omega)), (by first | assumption | (simp only [Big, Amt] at *; omega)), ?_⟩
  | refine ⟨raise_flat _ _, ?_⟩
  | refine ⟨_, rfl, by omega, fun r r0 r1 r2 => ?_⟩
  | refine ⟨_, _, rfl, fun n H1 s1 h0 h1 => ?_⟩
  | refine ⟨_, _, rfl, fun m H1 s1 hm => ?_⟩)

/-- a chain of heaps -/
local macro_rules | `(tactic| walk_at "same") => `(tactic| first
  | assumption
  | exact Same.refl _
  | exact same_upd (by assumption)
  | (refine Same.trans ?_ (same_upd (by assumption)); walk_at "same")
  | (refine Same.trans ?_ (by assumption); walk_at "same"))
/-- a step of a reading, by its shape -/
local macro_rules | `(tactic| walk_at "st") => `(tactic| first
  | walk_at "own"
  | refine ⟨_, rfl, fun n h0 h1 => ?_⟩
  | refine ⟨_, rfl, ?_⟩
  | refine ⟨_, _, rfl, rfl, (by first | exact Or.inl ⟨by decide, by decide⟩ | exact Or.inr ⟨by decide, by decide⟩ | exact Or.inl (by omega) | exact Or.inr (by omega)), fun d hd hu hn => ?_⟩
  | refine ⟨_, _, rfl, rfl, by first | exact Or.inl ⟨by decide, by decide⟩ | exact Or.inr ⟨by decide, by decide⟩ | exact Or.inl (by omega) | exact Or.inr (by omega), ?_⟩
  | refine ⟨_, _, rfl, rfl, by first | (show (0 : Int) < _; first | omega | decide | (split <;> omega)) | (show _ ≠ (0 : Int); omega), ?_⟩
  | refine ⟨_, _, rfl, rfl, ⟨by decide, by decide⟩, ?_⟩
  | refine ⟨_, _, rfl, rfl, (by show (_ ∧ _) ∧ (_ ∧ _); omega), ?_⟩
  | refine ⟨_, _, rfl, rfl, (by show _ ∧ _; first | omega | (split <;> omega)), fun d hd hu hn => ?_⟩
  | refine ⟨_, _, rfl, rfl, (by show (0 : Int) < _ ∧ _; first | omega | (split <;> omega)), ?_⟩
  | refine ⟨_, _, rfl, rfl, ?_⟩
  | refine ⟨_, _, _, rfl, rfl, ?_⟩
  | refine ⟨_, _, _, _, rfl, rfl, .inl (.inl (by assumption)), rfl, ?_⟩
  | refine Or.inl ⟨_, rfl, ?_⟩
  | refine ⟨_, _, rfl, fun n H1 s1 h0 h1 => ?_⟩
  | refine ⟨_, _, rfl, fun n h0 h1 => ?_⟩
  | refine ⟨_, _, rfl, ?_⟩
  | refine ⟨Nat.le_of_ble_eq_true rfl, fun p hp => ?_⟩
  | refine ⟨rfl, ?_⟩
  | refine ⟨lim_flat _, ?_⟩
  | refine ⟨⟨by assumption, by assumption⟩, ?_⟩
  | refine And.intro (by assumption) ?_
  | refine ⟨Or.inl ⟨_, rfl⟩, ?_⟩
  | refine And.intro (by omega) (fun H1 s1 => ?_)
  | refine And.intro (by omega) ?_
  | refine iteF ?_
  | refine iteT ?_
  | refine iteSS ?_
  | refine iteIS ?_
  | refine iteEqI (fun _ => ?_) (fun _ => ?_)
  | refine iteNeI (fun _ => ?_) (fun _ => ?_)
  | refine iteD (fun _ => ?_) (fun _ => ?_)
  | refine ite2 (fun _ => ?_) (fun _ => ?_))
local macro_rules | `(tactic| walk_at "run") => `(tactic| repeat' (walk_at "st"))

/-! ### the promises -/
def sphalf_even (K : PySem.W.Frag) : Sp := fun vs H Q _ => ∃ a b : Int, vs = [.int a, .int b] ∧ (0 < b ∧ b < 1267650600228229401496703205376) ∧ ∀ H' : Hp, Same H H' → Q (.int (near a b)) H'
def spfitting (K : PySem.W.Frag) : Sp := fun vs H Q _ => ∃ m : Int, vs = [.int m] ∧ Q (lim m) H
def spmultiplied (K : PySem.W.Frag) : Sp := fun vs H Q _ => ∃ m n : Int, vs = [.int m, .int n] ∧ Big m ∧ Big n ∧ ∀ H' : Hp, Same H H' → Q (lim (near (m * n) 1000000)) H'
def spdivided (K : PySem.W.Frag) : Sp := fun vs H Q _ => ∃ m n : Int, vs = [.int m, .int n] ∧ Big m ∧ Big n ∧ ∀ H' : Hp, Same H H' → Q (quo m n) H'
def sproot (K : PySem.W.Frag) : Sp := fun vs H Q _ => ∃ m : Int, vs = [.int m] ∧ Big m ∧ (m < 0 → Q (.str "NUM") H) ∧ (0 ≤ m → ∀ r : Int, 0 ≤ r → r * r ≤ m * 1000000 → m * 1000000 < (r + 1) * (r + 1) → r < 1000000000000000000 → Q (.int r) H)
def spraised (K : PySem.W.Frag) : Sp := fun vs H Q _ => ∃ m n : Int, vs = [.int m, .int n] ∧ Amt m ∧ Big n ∧ ∀ H' : Hp, Same H H' → Q (raiseV m n) H'
def spmultiplied_often (K : PySem.W.Frag) : Sp := fun vs H Q _ => ∃ m t : Int, vs = [.int m, .int t] ∧ Amt m ∧ (1 ≤ t ∧ t ≤ 64) ∧ (∀ (p : Int) (H' : Hp), Same H H' → Amt p → powV m (t - 1).toNat = .int p → Q (.int p) H') ∧ (∀ H' : Hp, Same H H' → powV m (t - 1).toNat = .str "NUM" → Q (.str "NUM") H')
def sp_law_cell (K : PySem.W.Frag) : Sp := fun vs H Q _ => ∃ (a : Addr) (ns : List Int) (j : Nat), vs = [.ref a, .int j] ∧ SqL K H a (ns.map V.int) ∧ Q (.int (ns.getD j 0)) H
def sp_law_mix (K : PySem.W.Frag) : Sp := fun vs H Q _ => ∃ (c s : Int), vs = [.int c, .int s] ∧ ∀ n : Int, 0 ≤ n → n < 2147483629 → Q (.int n) H
def sp_law_amount (K : PySem.W.Frag) : Sp := fun vs H Q _ => ∃ c s : Int, vs = [.int c, .int s] ∧ ∀ (n : Int) (H' : Hp), Same H H' → -1000000000000000000000 < n → n < 1000000000000000000000 → Q (.int n) H'
def sp_law_same (K : PySem.W.Frag) : Sp := fun vs H Q _ => ∃ x : V, vs = [x, x] ∧ Flat x ∧ Q (.bl true) H
def sp_law_limited (K : PySem.W.Frag) : Sp := fun vs H Q _ => ∃ m : Int, vs = [.int m] ∧ Q (lim m) H
def sp_law_nearest (K : PySem.W.Frag) : Sp := fun vs H Q _ => ∃ a b : Int, vs = [.int a, .int b] ∧ (0 < b ∧ b < 1267650600228229401496703205376) ∧ (-1000000000000000000000000000000000000000000000000000000000000 < a ∧ a < 1000000000000000000000000000000000000000000000000000000000000) ∧ Q (.int (near a b)) H
def sp_law_product (K : PySem.W.Frag) : Sp := fun vs H Q _ => ∃ m n : Int, vs = [.int m, .int n] ∧ Big m ∧ Big n ∧ Q (lim (near (m * n) 1000000)) H
def sp_law_rooted (K : PySem.W.Frag) : Sp := fun vs H Q _ => ∃ c f : Int, vs = [.int c, .int f] ∧ ∀ (n : Int) (H' : Hp), Same H H' → Big n → Q (.int n) H'
def sp_law_base (K : PySem.W.Frag) : Sp := fun vs H Q _ => ∃ c f : Int, vs = [.int c, .int f] ∧ ∀ (n : Int) (H' : Hp), Same H H' → Amt n → Q (.int n) H'
def sp_law_exponent (K : PySem.W.Frag) : Sp := fun vs H Q _ => ∃ c f : Int, vs = [.int c, .int f] ∧ ∀ (n : Int) (H' : Hp), Same H H' → Big n → Q (.int n) H'
def sp_law_power (K : PySem.W.Frag) : Sp := fun vs H Q _ => ∃ m n : Int, vs = [.int m, .int n] ∧ Amt m ∧ Big n ∧ Q (raiseV m n) H
def sp_law_is_root (K : PySem.W.Frag) : Sp := fun vs H Q _ => ∃ (x : V) (m : Int), vs = [x, .int m] ∧ Big m ∧ ((m < 0 ∧ x = .str "NUM") ∨ (0 ≤ m ∧ ∃ r : Int, x = .int r ∧ 0 ≤ r ∧ r * r ≤ m * 1000000 ∧ m * 1000000 < (r + 1) * (r + 1) ∧ r < 1000000000000000000)) ∧ Q (.bl true) H
def splaw (K : PySem.W.Frag) : Sp := fun vs H Q _ => ∃ (a : Addr) (ns : List Int), vs = [.ref a] ∧ SqL K H a (ns.map V.int) ∧ ns.length ≤ 63 ∧ ∀ H', Q (.bl true) H'
section
variable {P : Program} {w : World} {K : PySem.W.Frag} {mg : Str → Option Value} {base : Heap}
def gkroot_m {α : Type} : List α → List α := fun zs => match zs with | [z0] => [z0] | _ => zs
theorem krroot_m : ∀ {zs : List V} {ws : List Value}, Vals zs ws → Vals (gkroot_m zs) (gkroot_m ws) := fun {zs ws} r => by
  rcases r with _ | ⟨r0, r⟩
  · exact .nil
  rcases r with _ | ⟨r1, r⟩
  · exact (.cons r0 .nil)
  exact (.cons r0 (.cons r1 r))
theorem kbroot_m (T : Txt K mg) : KB0 K T.droot Proot ["m"] gkroot_m gkroot_m := by
  obtain ⟨oc, od, kV, doc, pm, an, cdv, ct, osl, e, lk, hcd⟩ := T.Froot.ex
  refine ⟨fun s ws hl => ?_, krroot_m⟩
  rw [e]
  match ws, hl with
  | [z0], _ => exact .of_eq rfl
def gkraised_n_m {α : Type} : List α → List α := fun zs => match zs with | [z0, z1] => [z1, z0] | _ => zs
theorem krraised_n_m : ∀ {zs : List V} {ws : List Value}, Vals zs ws → Vals (gkraised_n_m zs) (gkraised_n_m ws) := fun {zs ws} r => by
  rcases r with _ | ⟨r0, r⟩
  · exact .nil
  rcases r with _ | ⟨r1, r⟩
  · exact (.cons r0 .nil)
  rcases r with _ | ⟨r2, r⟩
  · exact (.cons r1 (.cons r0 .nil))
  exact (.cons r0 (.cons r1 (.cons r2 r)))
theorem kbraised_n_m (T : Txt K mg) : KB0 K T.draised Praised ["n", "m"] gkraised_n_m gkraised_n_m := by
  obtain ⟨oc, od, kV, doc, pm, an, cdv, ct, osl, e, lk, hcd⟩ := T.Fraised.ex
  refine ⟨fun s ws hl => ?_, krraised_n_m⟩
  rw [e]
  match ws, hl with
  | [z0, z1], _ => exact .of_eq rfl
theorem okhalf_even (T : Txt K mg) : FnOk P w K mg base CX0 1 T.ahalf_even T.dhalf_even Phalf_even (sphalf_even K) := by
  refine T.Fhalf_even.ok schalf_even (fun vs H Q E h => ?_) (fun cdv A outer s H vs Q E hr h => ?_)
  · obtain ⟨a, b, rfl, _⟩ := h
    rfl
  · obtain ⟨a, b, rfl, hb, q⟩ := h
    refine ⟨_, (pss_cons (ps_asg (pe_callB call_divmodB (by rfl) T.z_divmod (by decide +kernel) (pa_cons (pv 0) (pa_cons (pv 1) pa_nil))) (pg_tup (by rfl) (pgs_cons (pg_name (i := 2) schalf_even.nd rfl (by first | exact Or.inl rfl | exact Or.inr rfl)) (pgs_cons (pg_name (i := 3) schalf_even.nd rfl (by first | exact Or.inl rfl | exact Or.inr rfl)) pgs_nil))))
    (pss_cons (ps_if (pt_cmpR op_gt (pe_op op_mul pe_int (pv 3)) (pv 1) (by first | exact nomark _ | rfl))
      (pss_one (ps_ret (pe_op op_add (pv 2) pe_int)))
      pss_nil)
    (pss_cons (ps_if (pt_cmpR op_eq (pe_op op_mul pe_int (pv 3)) (pv 1) (by first | exact nomark _ | rfl))
      (pss_one (ps_ret (pe_op op_add (pv 2) (pe_op op_mod (pv 2) pe_int))))
      pss_nil)
    (pss_one (ps_ret (pv 2)))))), ?_⟩
    refine ⟨_, rfl, _, rfl, _, _, rfl, hb, fun p hp => ?_⟩
    refine ⟨p, _, rfl, .inl (.inl upd_same), rfl, _, _, rfl, _, _, rfl, rfl, ?_⟩
    walk_at "run"
    all_goals refine (congrArg (fun z => Q (V.int z) _) ?_).mp (q _ (same_upd hp))
    all_goals (unfold near; (repeat' split) <;> omega)

theorem okfitting (T : Txt K mg) : FnOk P w K mg base CX0 1 T.afitting T.dfitting Pfitting (spfitting K) := by
  refine T.Ffitting.ok scfitting (fun vs H Q E h => ?_) (fun cdv A outer s H vs Q E hr h => ?_)
  · obtain ⟨m, rfl, _⟩ := h
    rfl
  · obtain ⟨m, rfl, q⟩ := h
    refine ⟨_, (pss_cons (ps_if (pt_chain op_le op_le (pe_un un_neg (pe_glob (v := .int 999999999999999999999) (by rfl) T.m_GREATEST ⟨_, rfl⟩)) (pv 0) (pe_glob (v := .int 999999999999999999999) (by rfl) T.m_GREATEST ⟨_, rfl⟩))
      (pss_one (ps_ret (pv 0)))
      pss_nil)
    (pss_one (ps_ret pe_str))), ?_⟩
    walk_at "run"
    all_goals (try simp only [decide_eq_true_eq] at *)
    all_goals first
      | (rw [lim_in (by constructor <;> omega)] at q; exact q)
      | (rw [lim_out (by omega)] at q; exact q)

theorem okmultiplied (T : Txt K mg) : FnOk P w K mg base CX0 2 T.amultiplied T.dmultiplied Pmultiplied (spmultiplied K) := by
  refine T.Fmultiplied.ok scmultiplied (fun vs H Q E h => ?_) (fun cdv A outer s H vs Q E hr h => ?_)
  · obtain ⟨m, n, rfl, _⟩ := h
    rfl
  · obtain ⟨m, n, rfl, hm, hn, q⟩ := h
    refine ⟨_, (pss_one (ps_ret (pe_call (okfitting T) (hr.mono (by decide)) (by rfl) T.gfitting T.Ffitting.kp (T.bfitting) .nil pass0 (pa_cons (pe_call (okhalf_even T) (hr.mono (by decide)) (by rfl) T.ghalf_even T.Fhalf_even.kp (T.bhalf_even) .nil pass0 (pa_cons (pe_op op_mulB (pv 0) (pv 1)) (pa_cons (pe_glob (v := .int 1000000) (by rfl) T.m_SCALE ⟨_, rfl⟩) pa_nil))) pa_nil)))), ?_⟩
    unfold Big at hm hn
    walk_at "run"
    exact q _ (by walk_at "same")

theorem okdivided (T : Txt K mg) : FnOk P w K mg base CX0 2 T.adivided T.ddivided Pdivided (spdivided K) := by
  refine T.Fdivided.ok scdivided (fun vs H Q E h => ?_) (fun cdv A outer s H vs Q E hr h => ?_)
  · obtain ⟨m, n, rfl, _⟩ := h
    rfl
  · obtain ⟨m, n, rfl, hm, hn, q⟩ := h
    refine ⟨_, (pss_cons (ps_if (pt_cmpR op_eq (pv 1) pe_int (by first | exact nomark _ | rfl))
      (pss_one (ps_ret pe_str))
      pss_nil)
    (pss_cons (ps_if (pt_cmpR op_lt (pv 1) pe_int (by first | exact nomark _ | rfl))
      (pss_one (ps_ret (pe_call (okfitting T) (hr.mono (by decide)) (by rfl) T.gfitting T.Ffitting.kp (T.bfitting) .nil pass0 (pa_cons (pe_call (okhalf_even T) (hr.mono (by decide)) (by rfl) T.ghalf_even T.Fhalf_even.kp (T.bhalf_even) .nil pass0 (pa_cons (pe_op op_mulB (pe_un un_neg (pv 0)) (pe_glob (v := .int 1000000) (by rfl) T.m_SCALE ⟨_, rfl⟩)) (pa_cons (pe_un un_neg (pv 1)) pa_nil))) pa_nil))))
      pss_nil)
    (pss_one (ps_ret (pe_call (okfitting T) (hr.mono (by decide)) (by rfl) T.gfitting T.Ffitting.kp (T.bfitting) .nil pass0 (pa_cons (pe_call (okhalf_even T) (hr.mono (by decide)) (by rfl) T.ghalf_even T.Fhalf_even.kp (T.bhalf_even) .nil pass0 (pa_cons (pe_op op_mulB (pv 0) (pe_glob (v := .int 1000000) (by rfl) T.m_SCALE ⟨_, rfl⟩)) (pa_cons (pv 1) pa_nil))) pa_nil)))))), ?_⟩
    unfold Big at hm hn
    walk_at "run"
    all_goals refine (congrArg (fun z => Q z _) ?_).mp (q _ (by walk_at "same"))
    · unfold quo
      rw [if_pos (by assumption)]
    · unfold quo
      rw [if_neg (by assumption), if_pos (by assumption)]
    · unfold quo
      rw [if_neg (by assumption), if_neg (by assumption)]

theorem okroot (T : Txt K mg) : FnOk P w K mg base CX0 2 T.aroot T.droot Proot (sproot K) := by
  refine T.Froot.ok scroot (fun vs H Q E h => ?_) (fun cdv A outer s H vs Q E hr h => ?_)
  · obtain ⟨m, rfl, _⟩ := h
    rfl
  · obtain ⟨m, rfl, hm, q1, q2⟩ := h
    refine ⟨_, (pss_cons (ps_if (pt_cmpR op_lt (pv 0) pe_int (by first | exact nomark _ | rfl))
      (pss_one (ps_ret pe_str))
      pss_nil)
    (pss_one (ps_ret (pe_call (okfitting T) (hr.mono (by decide)) (by rfl) T.gfitting T.Ffitting.kp (T.bfitting) .nil pass0 (pa_cons (pe_callBfun call_isqrtB (by rfl) T.m_isqrt (pa_cons (pe_op op_mul (pv 0) (pe_glob (v := .int 1000000) (by rfl) T.m_SCALE ⟨_, rfl⟩)) pa_nil)) pa_nil))))), ?_⟩
    unfold Big at hm
    walk_at "run"
    · exact q1 (by assumption)
    · rename_i r r0 r1 r2
      have r3 : r < 1000000000000000000 := sq_lt r0 r1 (by omega)
      rw [lim_in (by omega)]
      exact q2 (by omega) r r0 r1 r2 r3

theorem okmultiplied_often (T : Txt K mg) : FnOk P w K mg base CX0 3 T.amultiplied_often T.dmultiplied_often Pmultiplied_often (spmultiplied_often K) := by
  refine T.Fmultiplied_often.ok scmultiplied_often (fun vs H Q E h => ?_) (fun cdv A outer s H vs Q E hr h => ?_)
  · obtain ⟨m, t, rfl, _⟩ := h
    rfl
  · obtain ⟨m, t, rfl, hm, ht, q1, q2⟩ := h
    refine ⟨_, (pss_cons (ps_set (i := 2) scmultiplied_often.nd rfl (by first | exact Or.inl rfl | exact Or.inr rfl) (pe_call (okfitting T) (hr.mono (by decide)) (by rfl) T.gfitting T.Ffitting.kp (T.bfitting) .nil pass0 (pa_cons (pv 0) pa_nil)))
    (pss_cons (ps_for PassesOwn.never rfl (pi_range1 (by rfl) T.z_range (pa_cons (pe_op op_sub (pv 1) pe_int) pa_nil)) (pg_name (i := 3) scmultiplied_often.nd rfl (by first | exact Or.inl rfl | exact Or.inr rfl))
      (pss_cons (ps_if (pt_cmpR op_eq (pv 2) pe_str (by first | exact nomark _ | rfl))
      (pss_one (ps_ret pe_str))
      pss_nil)
    (pss_one (ps_set (i := 2) scmultiplied_often.nd rfl (by first | exact Or.inl rfl | exact Or.inr rfl) (pe_call (okmultiplied T) (hr.mono (by decide)) (by rfl) T.gmultiplied T.Fmultiplied.kp (T.bmultiplied) .nil pass0 (pa_cons (pv 2) (pa_cons (pv 0) pa_nil)))))))
    (pss_one (ps_ret (pv 2))))), ?_⟩
    walk_at "run"
    refine for_range (lo := 0) (n := (t - 1).toNat) (fun i σ H' => Same H H' ∧ ∃ u : Option V, σ = [some (.int m), some (.int t), some (powV m i), u]) ⟨Same.refl _, none, rfl⟩ (fun i σ H1 hi hp => ?_) (fun σ H1 hp => ?_)
    · obtain ⟨s1, u, rfl⟩ := hp
      rcases powV_cases m i with ⟨p, hp, e⟩ | e
      · rw [e]
        walk_at "run"
        rw [← powV_int e]
        exact ⟨by walk_at "same", _, rfl⟩
      · rw [e]
        walk_at "run"
        exact q2 _ s1 (powV_num e _ (by omega))
    · obtain ⟨s1, u, rfl⟩ := hp
      rcases powV_cases m (t - 1).toNat with ⟨p, hp, e⟩ | e
      · rw [e]
        walk_at "run"
        exact q1 _ _ s1 hp e
      · rw [e]
        walk_at "run"
        exact q2 _ s1 e

theorem okraised (T : Txt K mg) : FnOk P w K mg base CX0 4 T.araised T.draised Praised (spraised K) := by
  refine T.Fraised.ok scraised (fun vs H Q E h => ?_) (fun cdv A outer s H vs Q E hr h => ?_)
  · obtain ⟨m, n, rfl, _⟩ := h
    rfl
  · obtain ⟨m, n, rfl, hm, hn, q⟩ := h
    refine ⟨_, (pss_cons (ps_if (PW.pt (pw_or (pt_cmpR op_ne (pe_op op_mod (pv 1) (pe_glob (v := .int 1000000) (by rfl) T.m_SCALE ⟨_, rfl⟩)) pe_int (by first | exact nomark _ | rfl)) (pw_or1 (pt_cmpR op_gt (pe_callB call_abs (by rfl) T.z_abs (by decide +kernel) (pa_cons (pv 1) pa_nil)) (pe_op op_mul (pe_glob (v := .int 64) (by rfl) T.m_GREATEST_POWER ⟨_, rfl⟩) (pe_glob (v := .int 1000000) (by rfl) T.m_SCALE ⟨_, rfl⟩)) (by first | exact nomark _ | rfl)))))
      (pss_one (ps_ret pe_str))
      pss_nil)
    (pss_cons (ps_if (pt_cmpR op_eq (pv 1) pe_int (by first | exact nomark _ | rfl))
      (pss_one (ps_ret (pe_glob (v := .int 1000000) (by rfl) T.m_SCALE ⟨_, rfl⟩)))
      pss_nil)
    (pss_cons (ps_if (pt_cmpR op_gt (pv 1) pe_int (by first | exact nomark _ | rfl))
      (pss_one (ps_ret (pe_call (okmultiplied_often T) (hr.mono (by decide)) (by rfl) T.gmultiplied_often T.Fmultiplied_often.kp (T.bmultiplied_often) .nil pass0 (pa_cons (pv 0) (pa_cons (pe_op op_fdiv (pv 1) (pe_glob (v := .int 1000000) (by rfl) T.m_SCALE ⟨_, rfl⟩)) pa_nil)))))
      pss_nil)
    (pss_cons (ps_set (i := 2) scraised.nd rfl (by first | exact Or.inl rfl | exact Or.inr rfl) (pe_call (okmultiplied_often T) (hr.mono (by decide)) (by rfl) T.gmultiplied_often T.Fmultiplied_often.kp (T.bmultiplied_often) .nil pass0 (pa_cons (pv 0) (pa_cons (pe_op op_fdiv (pe_un un_neg (pv 1)) (pe_glob (v := .int 1000000) (by rfl) T.m_SCALE ⟨_, rfl⟩)) pa_nil))))
    (pss_cons (ps_if (pt_cmpR op_eq (pv 2) pe_str (by first | exact nomark _ | rfl))
      (pss_one (ps_ret pe_str))
      pss_nil)
    (pss_one (ps_ret (pe_call (okdivided T) (hr.mono (by decide)) (by rfl) T.gdivided T.Fdivided.kp (T.bdivided) .nil pass0 (pa_cons (pe_glob (v := .int 1000000) (by rfl) T.m_SCALE ⟨_, rfl⟩) (pa_cons (pv 2) pa_nil)))))))))), ?_⟩
    unfold Big at hn
    walk_at "run"
    all_goals refine (congrArg (fun z => Q z _) ?_).mp (q _ (by walk_at "same"))
    all_goals first
      | exact raise_bad (by omega)
      | exact raise_zero (by assumption)
      | (rename_i ep; rw [← ep]; exact raise_pos (by omega) (by assumption) (by omega))
      | (rename_i ep _ _; exact raise_neg (k := (-n / 1000000 - 1).toNat) (by omega) (by omega) (by omega) ep)
      | (rename_i ep; exact raise_numP (k := (n / 1000000 - 1).toNat) (by omega) (by omega) ep)
      | (rename_i ep; exact raise_numN (k := (-n / 1000000 - 1).toNat) (by omega) (by omega) ep)

theorem ok_law_cell (T : Txt K mg) : FnOk P w K mg base CX0 1 T.a_law_cell T.d_law_cell P_law_cell (sp_law_cell K) := by
  refine T.F_law_cell.ok sc_law_cell (fun vs H Q E h => ?_) (fun cdv A outer s H vs Q E hr h => ?_)
  · obtain ⟨a, ns, j, rfl, _⟩ := h
    rfl
  · obtain ⟨a, ns, j, rfl, hS, q⟩ := h
    refine ⟨_, (pss_cons (ps_if (pt_cmpR op_lt (pv 1) (pe_callB call_len_seq (by rfl) T.z_len (by decide +kernel) (pa_cons (pv 0) pa_nil)) (by first | exact nomark _ | rfl))
      (pss_one (ps_ret (pe_ix ix_list (pv 0) (pv 1) (fun _ _ => rfl))))
      pss_nil)
    (pss_one (ps_ret pe_int))), ?_⟩
    refine ⟨_, rfl, _, rfl, a, _, rfl, .inl hS, _, _, rfl, rfl, _, rfl, ite2 (fun e => ?_) (fun e => ?_)⟩
    · have e1 : j < ns.length := by
        have e2 := of_decide_eq_true e
        rw [List.length_map] at e2
        omega
      refine ⟨_, rfl, _, rfl, a, _, _, .int (ns.getD j 0), rfl, rfl, hS, atI_nat ?_, q⟩
      rw [List.getElem?_map, List.getD_eq_getElem?_getD, List.getElem?_eq_getElem e1]
      rfl
    · have e1 : ¬ j < ns.length := fun z => e (decide_eq_true (by rw [List.length_map]; omega))
      have e2 : ns.getD j 0 = 0 := by
        rw [List.getD_eq_getElem?_getD, List.getElem?_eq_none (by omega)]
        rfl
      rw [e2] at q
      exact q

theorem ok_law_mix (T : Txt K mg) : FnOk P w K mg base CX0 1 T.a_law_mix T.d_law_mix P_law_mix (sp_law_mix K) := by
  refine T.F_law_mix.ok sc_law_mix (fun vs H Q E h => ?_) (fun cdv A outer s H vs Q E hr h => ?_)
  · obtain ⟨c, s, rfl, _⟩ := h
    rfl
  · obtain ⟨c, s, rfl, q⟩ := h
    refine ⟨_, (pss_cons (ps_set (i := 2) sc_law_mix.nd rfl (by first | exact Or.inl rfl | exact Or.inr rfl) (pe_op op_mod (pe_callTy call_int1 (by rfl) T.z_int (by decide +kernel) (pa_cons (pe_op op_add (pe_op op_add (pe_op op_mul (pv 0) pe_int) (pe_op op_mul (pv 1) pe_int)) pe_int) pa_nil)) pe_int))
    (pss_one (ps_ret (pe_op op_mod (pe_callTy call_int1 (by rfl) T.z_int (by decide +kernel) (pa_cons (pe_op op_add (pe_op op_add (pe_op op_mul (pv 2) (pv 2)) (pe_op op_mul (pv 2) pe_int)) (pe_op op_mul (pv 1) pe_int)) pa_nil)) pe_int)))), ?_⟩
    walk_at "run"
    generalize e1 : (c * 48271 + s * 69621 + 12345) % 2147483647 = one
    have h0 : 0 ≤ one := by omega
    have h1 : one < 2147483647 := by omega
    walk_at "run"
    refine q _ ?_ ?_
    · omega
    · omega

theorem ok_law_amount (T : Txt K mg) : FnOk P w K mg base CX0 2 T.a_law_amount T.d_law_amount P_law_amount (sp_law_amount K) := by
  refine T.F_law_amount.ok sc_law_amount (fun vs H Q E h => ?_) (fun cdv A outer s H vs Q E hr h => ?_)
  · obtain ⟨c, s, rfl, _⟩ := h
    rfl
  · obtain ⟨c, s, rfl, q⟩ := h
    refine ⟨_, (pss_cons (ps_set (i := 2) sc_law_amount.nd rfl (by first | exact Or.inl rfl | exact Or.inr rfl) (pe_op op_sub (pe_powc (c := 1000000000000000000000) (by decide) (by decide +kernel)) pe_int))
    (pss_cons (ps_if (pt_cmpR op_ge (pv 0) (pe_powc (c := 1000000000000000000) (by decide) (by decide +kernel)) (by first | exact nomark _ | rfl))
      (pss_one (ps_ret (pe_op op_sub (pe_op op_mod (pe_callTy call_int1 (by rfl) T.z_int (by decide +kernel) (pa_cons (pe_op op_sub (pv 0) (pe_powc (c := 1000000000000000000) (by decide) (by decide +kernel))) pa_nil)) (pe_op op_add (pe_op op_mul pe_int (pv 2)) pe_int)) (pv 2))))
      pss_nil)
    (pss_cons (ps_set (i := 3) sc_law_amount.nd rfl (by first | exact Or.inl rfl | exact Or.inr rfl) (pe_op op_mod (pe_callTy call_int1 (by rfl) T.z_int (by decide +kernel) (pa_cons (pe_call (ok_law_mix T) (hr.mono (by decide)) (by rfl) T.g_law_mix T.F_law_mix.kp (T.b_law_mix) .nil pass0 (pa_cons (pv 0) (pa_cons (pv 1) pa_nil))) pa_nil)) pe_int))
    (pss_cons (ps_set (i := 4) sc_law_amount.nd rfl (by first | exact Or.inl rfl | exact Or.inr rfl) (pe_call (ok_law_mix T) (hr.mono (by decide)) (by rfl) T.g_law_mix T.F_law_mix.kp (T.b_law_mix) .nil pass0 (pa_cons (pv 0) (pa_cons (pe_op op_add (pv 1) pe_int) pa_nil))))
    (pss_cons (ps_if (pt_cmpR op_eq (pv 3) pe_int (by first | exact nomark _ | rfl))
      (pss_cons (ps_set (i := 5) sc_law_amount.nd rfl (by first | exact Or.inl rfl | exact Or.inr rfl) (pe_lst (pa_cons pe_int (pa_cons pe_int (pa_cons pe_int (pa_cons (pe_un un_neg pe_int) (pa_cons pe_int (pa_cons pe_int (pa_cons pe_int (pa_cons (pe_un un_neg pe_int) (pa_cons pe_int (pa_cons pe_int (pa_cons pe_int (pa_cons (pe_un un_neg pe_int) (pa_cons (pv 2) (pa_cons (pe_un un_neg (pv 2)) pa_nil))))))))))))))))
    (pss_one (ps_ret (pe_ix ix_list (pv 5) (pe_op op_mod (pe_callTy call_int1 (by rfl) T.z_int (by decide +kernel) (pa_cons (pv 4) pa_nil)) pe_int) (fun _ _ => rfl)))))
      pss_nil)
    (pss_cons (ps_if (pt_cmpR op_eq (pv 3) pe_int (by first | exact nomark _ | rfl))
      (pss_one (ps_ret (pe_op op_sub (pe_op op_mod (pe_callTy call_int1 (by rfl) T.z_int (by decide +kernel) (pa_cons (pv 4) pa_nil)) pe_int) pe_int)))
      pss_nil)
    (pss_cons (ps_if (pt_cmpR op_eq (pv 3) pe_int (by first | exact nomark _ | rfl))
      (pss_one (ps_ret (pe_op op_mul (pe_op op_sub (pe_op op_mod (pe_callTy call_int1 (by rfl) T.z_int (by decide +kernel) (pa_cons (pv 4) pa_nil)) pe_int) pe_int) pe_int)))
      pss_nil)
    (pss_cons (ps_if (pt_cmpR op_eq (pv 3) pe_int (by first | exact nomark _ | rfl))
      (pss_one (ps_ret (pe_op op_mul (pe_op op_sub (pe_op op_mul pe_int (pe_op op_mod (pe_callTy call_int1 (by rfl) T.z_int (by decide +kernel) (pa_cons (pv 4) pa_nil)) pe_int)) pe_int) pe_int)))
      pss_nil)
    (pss_cons (ps_if (pt_cmpR op_eq (pv 3) pe_int (by first | exact nomark _ | rfl))
      (pss_one (ps_ret (pe_op op_sub (pv 2) (pe_op op_mod (pe_callTy call_int1 (by rfl) T.z_int (by decide +kernel) (pa_cons (pv 4) pa_nil)) pe_int))))
      pss_nil)
    (pss_cons (ps_if (pt_cmpR op_eq (pv 3) pe_int (by first | exact nomark _ | rfl))
      (pss_one (ps_ret (pe_op op_sub (pe_op op_mod (pe_callTy call_int1 (by rfl) T.z_int (by decide +kernel) (pa_cons (pv 4) pa_nil)) pe_int) (pv 2))))
      pss_nil)
    (pss_cons (ps_if (pt_cmpR op_eq (pv 3) pe_int (by first | exact nomark _ | rfl))
      (pss_one (ps_ret (pe_op op_sub (pe_op op_mod (pe_callTy call_int1 (by rfl) T.z_int (by decide +kernel) (pa_cons (pe_op op_mul (pv 4) (pv 4)) pa_nil)) (pe_op op_mul pe_int (pe_powc (c := 1000000000000) (by decide) (by decide +kernel)))) (pe_powc (c := 1000000000000) (by decide) (by decide +kernel)))))
      pss_nil)
    (pss_cons (ps_set (i := 6) sc_law_amount.nd rfl (by first | exact Or.inl rfl | exact Or.inr rfl) (pe_op op_add (pe_op op_add (pe_op op_mul (pv 4) (pe_powc (c := 1000000000000000000) (by decide) (by decide +kernel))) (pe_op op_mul (pe_call (ok_law_mix T) (hr.mono (by decide)) (by rfl) T.g_law_mix T.F_law_mix.kp (T.b_law_mix) .nil pass0 (pa_cons (pv 0) (pa_cons (pe_op op_add (pv 1) pe_int) pa_nil))) (pe_powc (c := 1000000000) (by decide) (by decide +kernel)))) (pe_call (ok_law_mix T) (hr.mono (by decide)) (by rfl) T.g_law_mix T.F_law_mix.kp (T.b_law_mix) .nil pass0 (pa_cons (pv 0) (pa_cons (pe_op op_add (pv 1) pe_int) pa_nil)))))
    (pss_one (ps_ret (pe_op op_sub (pe_op op_mod (pe_callTy call_int1 (by rfl) T.z_int (by decide +kernel) (pa_cons (pv 6) pa_nil)) (pe_op op_add (pe_op op_mul pe_int (pv 2)) pe_int)) (pv 2)))))))))))))))), ?_⟩
    walk_at "run"
    all_goals first
      | refine q _ _ (Same.refl _) ?_ ?_ <;> omega
      | skip
    rename_i p hp
    refine atI_go (.inl (.inl upd_same)) (by omega) (by show _ < (14 : Int); omega) fun v hv => ?_
    simp only [List.mem_cons, List.not_mem_nil, or_false] at hv
    rcases hv with rfl | rfl | rfl | rfl | rfl | rfl | rfl | rfl | rfl | rfl | rfl | rfl | rfl | rfl
    all_goals exact q _ _ (same_upd hp) (by decide) (by decide)

theorem ok_law_same (T : Txt K mg) : FnOk P w K mg base CX0 1 T.a_law_same T.d_law_same P_law_same (sp_law_same K) := by
  refine T.F_law_same.ok sc_law_same (fun vs H Q E h => ?_) (fun cdv A outer s H vs Q E hr h => ?_)
  · obtain ⟨x, rfl, _⟩ := h
    rfl
  · obtain ⟨x, rfl, hx, q⟩ := h
    refine ⟨_, (pss_cons (ps_if (pt_val (pe_callB call_isiV (by rfl) T.z_isinstance (by decide +kernel) (pa_cons (pv 1) (pa_cons (pe_bltn (v := .ty "str") (by rfl) T.z_str (by decide +kernel) rfl) pa_nil))))
      (pss_one (ps_ret (pe_and (pe_callB call_isiV (by rfl) T.z_isinstance (by decide +kernel) (pa_cons (pv 0) (pa_cons (pe_bltn (v := .ty "str") (by rfl) T.z_str (by decide +kernel) rfl) pa_nil))) (pe_one (pe_cmpR op_eq (pv 0) (pv 1) (by first | exact nomark _ | rfl))))))
      pss_nil)
    (pss_one (ps_ret (pe_and (pe_callB call_isiV (by rfl) T.z_isinstance (by decide +kernel) (pa_cons (pv 0) (pa_cons (pe_bltn (v := .ty "int") (by rfl) T.z_int (by decide +kernel) rfl) pa_nil))) (pe_and (pe_not (pe_callB call_isiV (by rfl) T.z_isinstance (by decide +kernel) (pa_cons (pv 0) (pa_cons (pe_bltn (v := .ty "bool") (by rfl) T.z_bool (by decide +kernel) rfl) pa_nil)))) (pe_one (pe_cmpR op_eq (pv 0) (pv 1) (by first | exact nomark _ | rfl)))))))), ?_⟩
    rcases hx with ⟨i, rfl⟩ | ⟨z, rfl⟩
    · walk_at "run"
      rw [decide_eq_true rfl]
      exact q
    · walk_at "run"
      rw [decide_eq_true rfl]
      exact q

theorem ok_law_limited (T : Txt K mg) : FnOk P w K mg base CX0 1 T.a_law_limited T.d_law_limited P_law_limited (sp_law_limited K) := by
  refine T.F_law_limited.ok sc_law_limited (fun vs H Q E h => ?_) (fun cdv A outer s H vs Q E hr h => ?_)
  · obtain ⟨m, rfl, _⟩ := h
    rfl
  · obtain ⟨m, rfl, q⟩ := h
    refine ⟨_, (pss_cons (ps_if (pt_chain op_lt op_lt (pe_un un_neg (pe_powc (c := 1000000000000000000000) (by decide) (by decide +kernel))) (pv 0) (pe_powc (c := 1000000000000000000000) (by decide) (by decide +kernel)))
      (pss_one (ps_ret (pv 0)))
      pss_nil)
    (pss_one (ps_ret pe_str))), ?_⟩
    walk_at "run"
    all_goals (try simp only [decide_eq_true_eq] at *)
    all_goals first
      | (rw [lim_in (by constructor <;> omega)] at q; exact q)
      | (rw [lim_out (by omega)] at q; exact q)

theorem ok_law_nearest (T : Txt K mg) : FnOk P w K mg base CX0 1 T.a_law_nearest T.d_law_nearest P_law_nearest (sp_law_nearest K) := by
  refine T.F_law_nearest.ok sc_law_nearest (fun vs H Q E h => ?_) (fun cdv A outer s H vs Q E hr h => ?_)
  · obtain ⟨a, b, rfl, _⟩ := h
    rfl
  · obtain ⟨a, b, rfl, hb, ha, q⟩ := h
    refine ⟨_, (pss_cons (ps_set (i := 2) sc_law_nearest.nd rfl (by first | exact Or.inl rfl | exact Or.inr rfl) (pe_op op_fdivB (pv 0) (pv 1)))
    (pss_cons (ps_set (i := 3) sc_law_nearest.nd rfl (by first | exact Or.inl rfl | exact Or.inr rfl) (pe_op op_mulB pe_int (pe_op op_sub (pv 0) (pe_op op_mulB (pv 2) (pv 1)))))
    (pss_cons (ps_if (PW.pt (pw_or (pt_cmpR op_gt (pv 3) (pv 1) (by first | exact nomark _ | rfl)) (pw_or1 (PW.pt (pw_and (pt_cmpR op_eq (pv 3) (pv 1) (by first | exact nomark _ | rfl)) (pw_and1 (pt_cmpR op_eq (pe_op op_mod (pe_callTy call_int1 (by rfl) T.z_int (by decide +kernel) (pa_cons (pv 2) pa_nil)) pe_int) pe_int (by first | exact nomark _ | rfl))))))))
      (pss_one (ps_ret (pe_op op_add (pv 2) pe_int)))
      pss_nil)
    (pss_one (ps_ret (pv 2)))))), ?_⟩
    have hu := ediv_up (i := a) hb.1
    have hd := ediv_dn (i := a) hb.1
    have em := Int.mul_ediv_add_emod a b
    have ec := Int.mul_comm b (a / b)
    have r0 := Int.emod_nonneg a (show b ≠ 0 by omega)
    have r1 := Int.emod_lt_of_pos a hb.1
    walk_at "run"
    all_goals refine (congrArg (fun z => Q (V.int z) _) ?_).mp q
    all_goals (unfold near; (repeat' split) <;> omega)

theorem ok_law_product (T : Txt K mg) : FnOk P w K mg base CX0 2 T.a_law_product T.d_law_product P_law_product (sp_law_product K) := by
  refine T.F_law_product.ok sc_law_product (fun vs H Q E h => ?_) (fun cdv A outer s H vs Q E hr h => ?_)
  · obtain ⟨m, n, rfl, _⟩ := h
    rfl
  · obtain ⟨m, n, rfl, hm, hn, q⟩ := h
    refine ⟨_, (pss_one (ps_ret (pe_call (ok_law_limited T) (hr.mono (by decide)) (by rfl) T.g_law_limited T.F_law_limited.kp (T.b_law_limited) .nil pass0 (pa_cons (pe_call (ok_law_nearest T) (hr.mono (by decide)) (by rfl) T.g_law_nearest T.F_law_nearest.kp (T.b_law_nearest) .nil pass0 (pa_cons (pe_op op_mulB (pv 0) (pv 1)) (pa_cons pe_int pa_nil))) pa_nil)))), ?_⟩
    have hp := mul_big hm hn
    unfold Big at hm hn
    walk_at "run"
    exact q

theorem ok_law_rooted (T : Txt K mg) : FnOk P w K mg base CX0 3 T.a_law_rooted T.d_law_rooted P_law_rooted (sp_law_rooted K) := by
  refine T.F_law_rooted.ok sc_law_rooted (fun vs H Q E h => ?_) (fun cdv A outer s H vs Q E hr h => ?_)
  · obtain ⟨c, f, rfl, _⟩ := h
    rfl
  · obtain ⟨c, f, rfl, q⟩ := h
    refine ⟨_, (pss_cons (ps_set (i := 2) sc_law_rooted.nd rfl (by first | exact Or.inl rfl | exact Or.inr rfl) (pe_op op_mod (pe_callTy call_int1 (by rfl) T.z_int (by decide +kernel) (pa_cons (pe_call (ok_law_mix T) (hr.mono (by decide)) (by rfl) T.g_law_mix T.F_law_mix.kp (T.b_law_mix) .nil pass0 (pa_cons (pv 1) (pa_cons pe_int pa_nil))) pa_nil)) pe_int))
    (pss_cons (ps_set (i := 3) sc_law_rooted.nd rfl (by first | exact Or.inl rfl | exact Or.inr rfl) (pe_op op_add (pe_op op_mulL (pe_call (ok_law_mix T) (hr.mono (by decide)) (by rfl) T.g_law_mix T.F_law_mix.kp (T.b_law_mix) .nil pass0 (pa_cons (pv 0) (pa_cons pe_int pa_nil))) (pe_powc (c := 1000000000) (by decide) (by decide +kernel))) (pe_call (ok_law_mix T) (hr.mono (by decide)) (by rfl) T.g_law_mix T.F_law_mix.kp (T.b_law_mix) .nil pass0 (pa_cons (pv 0) (pa_cons pe_int pa_nil)))))
    (pss_cons (ps_if (pt_cmpR op_eq (pv 2) pe_int (by first | exact nomark _ | rfl))
      (pss_cons (ps_set (i := 4) sc_law_rooted.nd rfl (by first | exact Or.inl rfl | exact Or.inr rfl) (pe_op op_mod (pe_callTy call_int1 (by rfl) T.z_int (by decide +kernel) (pa_cons (pv 3) pa_nil)) pe_int))
    (pss_cons (ps_if (pt_cmpR op_eq (pe_op op_mod (pe_callTy call_int1 (by rfl) T.z_int (by decide +kernel) (pa_cons (pv 3) pa_nil)) pe_int) pe_int (by first | exact nomark _ | rfl))
      (pss_one (ps_set (i := 4) sc_law_rooted.nd rfl (by first | exact Or.inl rfl | exact Or.inr rfl) (pe_op op_mod (pe_callTy call_int1 (by rfl) T.z_int (by decide +kernel) (pa_cons (pv 3) pa_nil)) pe_int)))
      pss_nil)
    (pss_one (ps_ret (pe_op op_sub (pe_op op_add (pe_op op_mulL (pv 4) (pv 4)) (pe_op op_mod (pe_callTy call_int1 (by rfl) T.z_int (by decide +kernel) (pa_cons (pe_call (ok_law_mix T) (hr.mono (by decide)) (by rfl) T.g_law_mix T.F_law_mix.kp (T.b_law_mix) .nil pass0 (pa_cons (pv 1) (pa_cons pe_int pa_nil))) pa_nil)) pe_int)) pe_int)))))
      pss_nil)
    (pss_cons (ps_if (pt_cmpR op_eq (pv 2) pe_int (by first | exact nomark _ | rfl))
      (pss_cons (ps_set (i := 4) sc_law_rooted.nd rfl (by first | exact Or.inl rfl | exact Or.inr rfl) (pe_op op_mod (pe_callTy call_int1 (by rfl) T.z_int (by decide +kernel) (pa_cons (pv 3) pa_nil)) pe_int))
    (pss_cons (ps_set (i := 5) sc_law_rooted.nd rfl (by first | exact Or.inl rfl | exact Or.inr rfl) (pe_op op_sub (pe_op op_fdiv (pe_op op_add (pe_op op_mulL (pv 4) (pv 4)) pe_int) pe_int) (pe_op op_mod (pe_callTy call_int1 (by rfl) T.z_int (by decide +kernel) (pa_cons (pe_call (ok_law_mix T) (hr.mono (by decide)) (by rfl) T.g_law_mix T.F_law_mix.kp (T.b_law_mix) .nil pass0 (pa_cons (pv 1) (pa_cons pe_int pa_nil))) pa_nil)) pe_int)))
    (pss_one (ps_ret (pe_callB (call_min2 rfl) (by rfl) T.z_min (by decide +kernel) (pa_cons (pe_callTy call_int1 (by rfl) T.z_int (by decide +kernel) (pa_cons (pe_op op_sub (pe_powc (c := 1000000000000000000000) (by decide) (by decide +kernel)) pe_int) pa_nil)) (pa_cons (pe_callTy call_int1 (by rfl) T.z_int (by decide +kernel) (pa_cons (pv 5) pa_nil)) pa_nil)))))))
      pss_nil)
    (pss_one (ps_ret (pe_call (ok_law_amount T) (hr.mono (by decide)) (by rfl) T.g_law_amount T.F_law_amount.kp (T.b_law_amount) .nil pass0 (pa_cons (pv 0) (pa_cons pe_int pa_nil))))))))), ?_⟩
    walk_at "run"
    all_goals refine q _ _ (by walk_at "same") ?_
    all_goals (unfold Big; (repeat' split) <;> omega)

theorem ok_law_base (T : Txt K mg) : FnOk P w K mg base CX0 3 T.a_law_base T.d_law_base P_law_base (sp_law_base K) := by
  refine T.F_law_base.ok sc_law_base (fun vs H Q E h => ?_) (fun cdv A outer s H vs Q E hr h => ?_)
  · obtain ⟨c, f, rfl, _⟩ := h
    rfl
  · obtain ⟨c, f, rfl, q⟩ := h
    refine ⟨_, (pss_cons (ps_set (i := 2) sc_law_base.nd rfl (by first | exact Or.inl rfl | exact Or.inr rfl) (pe_op op_mod (pe_callTy call_int1 (by rfl) T.z_int (by decide +kernel) (pa_cons (pe_call (ok_law_mix T) (hr.mono (by decide)) (by rfl) T.g_law_mix T.F_law_mix.kp (T.b_law_mix) .nil pass0 (pa_cons (pv 1) (pa_cons pe_int pa_nil))) pa_nil)) pe_int))
    (pss_cons (ps_set (i := 3) sc_law_base.nd rfl (by first | exact Or.inl rfl | exact Or.inr rfl) (pe_call (ok_law_mix T) (hr.mono (by decide)) (by rfl) T.g_law_mix T.F_law_mix.kp (T.b_law_mix) .nil pass0 (pa_cons (pv 0) (pa_cons pe_int pa_nil))))
    (pss_cons (ps_if (pt_cmpR op_eq (pv 2) pe_int (by first | exact nomark _ | rfl))
      (pss_one (ps_ret (pe_op op_sub (pe_op op_add pe_int (pe_op op_mod (pe_callTy call_int1 (by rfl) T.z_int (by decide +kernel) (pa_cons (pv 3) pa_nil)) pe_int)) pe_int)))
      pss_nil)
    (pss_cons (ps_if (pt_cmpR op_eq (pv 2) pe_int (by first | exact nomark _ | rfl))
      (pss_one (ps_ret (pe_op op_sub (pe_op op_mod (pe_callTy call_int1 (by rfl) T.z_int (by decide +kernel) (pa_cons (pv 3) pa_nil)) pe_int) pe_int)))
      pss_nil)
    (pss_cons (ps_if (pt_cmpR op_eq (pv 2) pe_int (by first | exact nomark _ | rfl))
      (pss_cons (ps_set (i := 4) sc_law_base.nd rfl (by first | exact Or.inl rfl | exact Or.inr rfl) (pe_lst (pa_cons pe_int (pa_cons pe_int (pa_cons pe_int (pa_cons pe_int (pa_cons pe_int (pa_cons pe_int (pa_cons pe_int (pa_cons pe_int (pa_cons pe_int (pa_cons pe_int (pa_cons pe_int (pa_cons pe_int pa_nil))))))))))))))
    (pss_one (ps_ret (pe_op op_mul (pe_ix ix_list (pv 4) (pe_op op_mod (pe_callTy call_int1 (by rfl) T.z_int (by decide +kernel) (pa_cons (pv 3) pa_nil)) pe_int) (fun _ _ => rfl)) (pe_op op_sub (pe_op op_mul pe_int (pe_op op_mod (pe_op op_fdiv (pe_callTy call_int1 (by rfl) T.z_int (by decide +kernel) (pa_cons (pv 3) pa_nil)) pe_int) pe_int)) pe_int)))))
      pss_nil)
    (pss_one (ps_ret (pe_call (ok_law_amount T) (hr.mono (by decide)) (by rfl) T.g_law_amount T.F_law_amount.kp (T.b_law_amount) .nil pass0 (pa_cons (pv 0) (pa_cons pe_int pa_nil)))))))))), ?_⟩
    walk_at "run"
    · refine q _ _ (by walk_at "same") ?_
      unfold Amt
      omega
    · refine q _ _ (by walk_at "same") ?_
      unfold Amt
      omega
    · refine atI_go (.inl (.inl upd_same)) (by omega) (by show _ < (12 : Int); omega) fun v hv => ?_
      simp only [List.mem_cons, List.not_mem_nil, or_false] at hv
      rcases hv with rfl | rfl | rfl | rfl | rfl | rfl | rfl | rfl | rfl | rfl | rfl | rfl
      all_goals walk_at "run"
      all_goals refine q _ _ (by walk_at "same") ?_
      all_goals (unfold Amt; omega)
    · refine q _ _ (by walk_at "same") ?_
      unfold Amt
      omega

theorem ok_law_exponent (T : Txt K mg) : FnOk P w K mg base CX0 3 T.a_law_exponent T.d_law_exponent P_law_exponent (sp_law_exponent K) := by
  refine T.F_law_exponent.ok sc_law_exponent (fun vs H Q E h => ?_) (fun cdv A outer s H vs Q E hr h => ?_)
  · obtain ⟨c, f, rfl, _⟩ := h
    rfl
  · obtain ⟨c, f, rfl, q⟩ := h
    refine ⟨_, (pss_cons (ps_set (i := 2) sc_law_exponent.nd rfl (by first | exact Or.inl rfl | exact Or.inr rfl) (pe_op op_mod (pe_callTy call_int1 (by rfl) T.z_int (by decide +kernel) (pa_cons (pe_call (ok_law_mix T) (hr.mono (by decide)) (by rfl) T.g_law_mix T.F_law_mix.kp (T.b_law_mix) .nil pass0 (pa_cons (pv 1) (pa_cons pe_int pa_nil))) pa_nil)) pe_int))
    (pss_cons (ps_set (i := 3) sc_law_exponent.nd rfl (by first | exact Or.inl rfl | exact Or.inr rfl) (pe_op op_mul (pe_op op_sub (pe_op op_mod (pe_callTy call_int1 (by rfl) T.z_int (by decide +kernel) (pa_cons (pv 0) pa_nil)) pe_int) pe_int) pe_int))
    (pss_cons (ps_if (pt_cmpR op_eq (pv 2) pe_int (by first | exact nomark _ | rfl))
      (pss_one (ps_ret (pe_op op_sub (pe_op op_add (pv 3) (pe_op op_mul pe_int (pe_op op_mod (pe_callTy call_int1 (by rfl) T.z_int (by decide +kernel) (pa_cons (pe_call (ok_law_mix T) (hr.mono (by decide)) (by rfl) T.g_law_mix T.F_law_mix.kp (T.b_law_mix) .nil pass0 (pa_cons (pv 1) (pa_cons pe_int pa_nil))) pa_nil)) pe_int))) pe_int)))
      pss_nil)
    (pss_cons (ps_if (pt_cmpR op_eq (pv 2) pe_int (by first | exact nomark _ | rfl))
      (pss_one (ps_ret (pe_call (ok_law_amount T) (hr.mono (by decide)) (by rfl) T.g_law_amount T.F_law_amount.kp (T.b_law_amount) .nil pass0 (pa_cons (pv 0) (pa_cons pe_int pa_nil)))))
      pss_nil)
    (pss_cons (ps_if (pt_cmpR op_eq (pv 2) pe_int (by first | exact nomark _ | rfl))
      (pss_one (ps_ret (pe_op op_mul (pe_op op_sub (pe_op op_mod (pe_callTy call_int1 (by rfl) T.z_int (by decide +kernel) (pa_cons (pv 0) pa_nil)) pe_int) pe_int) pe_int)))
      pss_nil)
    (pss_one (ps_ret (pv 3)))))))), ?_⟩
    walk_at "run"
    all_goals refine q _ _ (by walk_at "same") ?_
    all_goals (unfold Big; omega)

theorem ok_law_power (T : Txt K mg) : FnOk P w K mg base CX0 3 T.a_law_power T.d_law_power P_law_power (sp_law_power K) := by
  refine T.F_law_power.ok sc_law_power (fun vs H Q E h => ?_) (fun cdv A outer s H vs Q E hr h => ?_)
  · obtain ⟨m, n, rfl, _⟩ := h
    rfl
  · obtain ⟨m, n, rfl, hm, hn, q⟩ := h
    refine ⟨_, (pss_cons (ps_set (i := 2) sc_law_power.nd rfl (by first | exact Or.inl rfl | exact Or.inr rfl) (pe_op op_fdiv (pv 1) pe_int))
    (pss_cons (ps_if (PW.pt (pw_or (pt_cmpR op_ne (pv 1) (pe_op op_mul (pv 2) pe_int) (by first | exact nomark _ | rfl)) (pw_or (pt_cmpR op_lt (pv 2) (pe_un un_neg pe_int) (by first | exact nomark _ | rfl)) (pw_or1 (pt_cmpR op_gt (pv 2) pe_int (by first | exact nomark _ | rfl))))))
      (pss_one (ps_ret pe_str))
      pss_nil)
    (pss_cons (ps_if (pt_cmpR op_eq (pv 2) pe_int (by first | exact nomark _ | rfl))
      (pss_one (ps_ret pe_int))
      pss_nil)
    (pss_cons (ps_if (PW.pt (pw_and (pt_cmpR op_lt (pv 2) pe_int (by first | exact nomark _ | rfl)) (pw_and1 (pt_cmpR op_eq (pv 0) pe_int (by first | exact nomark _ | rfl)))))
      (pss_one (ps_ret pe_str))
      pss_nil)
    (pss_cons (ps_set (i := 3) sc_law_power.nd rfl (by first | exact Or.inl rfl | exact Or.inr rfl) (pv 0))
    (pss_cons (ps_for PassesOwn.never rfl (pi_range1 (by rfl) T.z_range (pa_cons (pe_op op_sub (pe_callB call_abs (by rfl) T.z_abs (by decide +kernel) (pa_cons (pv 2) pa_nil)) pe_int) pa_nil)) (pg_name (i := 4) sc_law_power.nd rfl (by first | exact Or.inl rfl | exact Or.inr rfl))
      (pss_cons (ps_set (i := 3) sc_law_power.nd rfl (by first | exact Or.inl rfl | exact Or.inr rfl) (pe_call (ok_law_product T) (hr.mono (by decide)) (by rfl) T.g_law_product T.F_law_product.kp (T.b_law_product) .nil pass0 (pa_cons (pv 3) (pa_cons (pv 0) pa_nil))))
    (pss_one (ps_if (pt_cmpR op_eq (pv 3) pe_str (by first | exact nomark _ | rfl))
      (pss_one (ps_ret pe_str))
      pss_nil))))
    (pss_cons (ps_if (pt_cmpR op_gt (pv 2) pe_int (by first | exact nomark _ | rfl))
      (pss_one (ps_ret (pv 3)))
      pss_nil)
    (pss_cons (ps_if (pt_cmpR op_eq (pv 3) pe_int (by first | exact nomark _ | rfl))
      (pss_one (ps_ret pe_str))
      pss_nil)
    (pss_cons (ps_if (pt_cmpR op_lt (pv 3) pe_int (by first | exact nomark _ | rfl))
      (pss_one (ps_ret (pe_call (ok_law_limited T) (hr.mono (by decide)) (by rfl) T.g_law_limited T.F_law_limited.kp (T.b_law_limited) .nil pass0 (pa_cons (pe_call (ok_law_nearest T) (hr.mono (by decide)) (by rfl) T.g_law_nearest T.F_law_nearest.kp (T.b_law_nearest) .nil pass0 (pa_cons (pe_un un_neg (pe_powc (c := 1000000000000) (by decide) (by decide +kernel))) (pa_cons (pe_un un_neg (pv 3)) pa_nil))) pa_nil))))
      pss_nil)
    (pss_one (ps_ret (pe_call (ok_law_limited T) (hr.mono (by decide)) (by rfl) T.g_law_limited T.F_law_limited.kp (T.b_law_limited) .nil pass0 (pa_cons (pe_call (ok_law_nearest T) (hr.mono (by decide)) (by rfl) T.g_law_nearest T.F_law_nearest.kp (T.b_law_nearest) .nil pass0 (pa_cons (pe_powc (c := 1000000000000) (by decide) (by decide +kernel)) (pa_cons (pv 3) pa_nil))) pa_nil))))))))))))), ?_⟩
    unfold Big at hn
    walk_at "run"
    · rw [raise_bad (by omega)] at q
      exact q
    · rw [raise_bad (by omega)] at q
      exact q
    · rw [raise_bad (by omega)] at q
      exact q
    · rw [raise_zero (by omega)] at q
      exact q
    · rename_i h0
      subst h0
      rw [raise_neg (k := (-(n / 1000000) - 1).toNat) (by omega) (by omega) (by omega) (powV_zero _)] at q
      exact q
    all_goals refine for_range (lo := 0) (n := ((if n / 1000000 < 0 then -(n / 1000000) else n / 1000000) - 1).toNat) (fun i σ H' => H' = H ∧ ∃ (u : Option V) (p : Int), powV m i = .int p ∧ Amt p ∧ σ = [some (.int m), some (.int n), some (.int (n / 1000000)), some (.int p), u]) ⟨rfl, none, m, lim_in hm, hm, rfl⟩ (fun i σ H1 hi hp => ?_) (fun σ H1 hp => ?_)
    all_goals obtain ⟨rfl, u, p, ep, hp, rfl⟩ := hp
    · walk_at "run"
      have ei := powV_int ep
      rcases powV_cases m (i + 1) with ⟨p2, hp2, e2⟩ | e2
      · rw [← ei, e2]
        walk_at "run"
        exact ⟨_, p2, rfl, hp2, rfl⟩
      · rw [← ei, e2]
        walk_at "run"
        rw [raise_numN (k := (-(n / 1000000) - 1).toNat) (by omega) (by omega) (powV_num e2 _ (by omega))] at q
        exact q
    · rw [if_pos (by assumption)] at ep
      rw [raise_neg (k := (-(n / 1000000) - 1).toNat) (by omega) (by omega) (by omega) ep] at q
      unfold quo at q
      walk_at "run"
      · omega
      · rw [if_pos (by assumption)] at q
        exact q
      · rw [if_neg (by assumption), if_pos (by assumption)] at q
        exact q
      · rw [if_neg (by assumption), if_neg (by assumption)] at q
        exact q
    · walk_at "run"
      have ei := powV_int ep
      rcases powV_cases m (i + 1) with ⟨p2, hp2, e2⟩ | e2
      · rw [← ei, e2]
        walk_at "run"
        exact ⟨_, p2, rfl, hp2, rfl⟩
      · rw [← ei, e2]
        walk_at "run"
        rw [raise_numP (k := (n / 1000000 - 1).toNat) (by omega) (by omega) (powV_num e2 _ (by omega))] at q
        exact q
    · rw [if_neg (by assumption)] at ep
      rw [raise_pos (k := (n / 1000000 - 1).toNat) (by omega) (by omega) (by omega), ep] at q
      walk_at "run"
      · exact q
      all_goals omega

theorem ok_law_is_root (T : Txt K mg) : FnOk P w K mg base CX0 1 T.a_law_is_root T.d_law_is_root P_law_is_root (sp_law_is_root K) := by
  refine T.F_law_is_root.ok sc_law_is_root (fun vs H Q E h => ?_) (fun cdv A outer s H vs Q E hr h => ?_)
  · obtain ⟨x, m, rfl, _⟩ := h
    rfl
  · obtain ⟨x, m, rfl, hm, hx, q⟩ := h
    refine ⟨_, (pss_cons (ps_if (pt_cmpR op_lt (pv 1) pe_int (by first | exact nomark _ | rfl))
      (pss_one (ps_ret (pe_and (pe_callB call_isiV (by rfl) T.z_isinstance (by decide +kernel) (pa_cons (pv 0) (pa_cons (pe_bltn (v := .ty "str") (by rfl) T.z_str (by decide +kernel) rfl) pa_nil))) (pe_one (pe_cmpR op_eq (pv 0) pe_str (by first | exact nomark _ | rfl))))))
      pss_nil)
    (pss_cons (ps_if (PW.pt (pw_or (pt_not (pt_val (pe_callB call_isiV (by rfl) T.z_isinstance (by decide +kernel) (pa_cons (pv 0) (pa_cons (pe_bltn (v := .ty "int") (by rfl) T.z_int (by decide +kernel) rfl) pa_nil))))) (pw_or1 (pt_val (pe_callB call_isiV (by rfl) T.z_isinstance (by decide +kernel) (pa_cons (pv 0) (pa_cons (pe_bltn (v := .ty "bool") (by rfl) T.z_bool (by decide +kernel) rfl) pa_nil)))))))
      (pss_one (ps_ret pe_bl))
      pss_nil)
    (pss_cons (ps_set (i := 2) sc_law_is_root.nd rfl (by first | exact Or.inl rfl | exact Or.inr rfl) (pe_callTy call_int1 (by rfl) T.z_int (by decide +kernel) (pa_cons (pv 0) pa_nil)))
    (pss_one (ps_ret (pe_and (pe_cmpR op_ge (pv 2) pe_int (by first | exact nomark _ | rfl)) (pe_one (pe_chain op_le op_lt (pe_op op_mul (pv 2) (pv 2)) (pe_op op_mul (pv 1) pe_int) (pe_op op_mul (pe_op op_add (pv 2) pe_int) (pe_op op_add (pv 2) pe_int)))))))))), ?_⟩
    rcases hx with ⟨hn, rfl⟩ | ⟨hp, r, rfl, r0, r1, r2, r3⟩
    · walk_at "run"
      · exact q
      · omega
    · walk_at "run"
      · omega
      · exact (congrArg (fun z => Q (V.bl z) H) (decide_eq_true r2)).mpr q
      · omega
      · omega

theorem oklaw (T : Txt K mg) : FnOk P w K mg base CX0 5 T.alaw T.dlaw Plaw (splaw K) := by
  refine T.Flaw.ok sclaw (fun vs H Q E h => ?_) (fun cdv A outer s H vs Q E hr h => ?_)
  · obtain ⟨a, ns, rfl, _⟩ := h
    rfl
  · obtain ⟨a, ns, rfl, hS, hl, q⟩ := h
    refine ⟨_, (pss_cons (ps_set (i := 1) sclaw.nd rfl (by first | exact Or.inl rfl | exact Or.inr rfl) (pe_call (ok_law_rooted T) (hr.mono (by decide)) (by rfl) T.g_law_rooted T.F_law_rooted.kp (T.b_law_rooted) .nil pass0 (pa_cons (pe_call (ok_law_cell T) (hr.mono (by decide)) (by rfl) T.g_law_cell T.F_law_cell.kp (T.b_law_cell) .nil pass0 (pa_cons (pv 0) (pa_cons pe_int pa_nil))) (pa_cons (pe_call (ok_law_cell T) (hr.mono (by decide)) (by rfl) T.g_law_cell T.F_law_cell.kp (T.b_law_cell) .nil pass0 (pa_cons (pv 0) (pa_cons pe_int pa_nil))) pa_nil))))
    (pss_cons (ps_if (pt_not (pt_val (pe_call (ok_law_is_root T) (hr.mono (by decide)) (by rfl) T.g_law_is_root T.F_law_is_root.kp (T.b_law_is_root) .nil pass0 (pa_cons (pe_call (okroot T) (hr.mono (by decide)) (by rfl) T.groot T.Froot.kp (T.broot) .nil pass0 (pa_cons (pv 1) pa_nil)) (pa_cons (pv 1) pa_nil)))))
      (pss_one (ps_ret pe_bl))
      pss_nil)
    (pss_cons (ps_if (pt_not (pt_val (pe_call (ok_law_is_root T) (hr.mono (by decide)) (by rfl) T.g_law_is_root T.F_law_is_root.kp (T.b_law_is_root) .nil pass0 (pa_cons (pe_callK0 (okroot T) (hr.mono (by decide)) (by rfl) T.groot T.Froot.kp (kbroot_m T) pass0 (pk_cons (pe_un un_neg (pv 1)) pk_nil)) (pa_cons (pe_un un_neg (pv 1)) pa_nil)))))
      (pss_one (ps_ret pe_bl))
      pss_nil)
    (pss_cons (ps_set (i := 2) sclaw.nd rfl (by first | exact Or.inl rfl | exact Or.inr rfl) (pe_call (ok_law_base T) (hr.mono (by decide)) (by rfl) T.g_law_base T.F_law_base.kp (T.b_law_base) .nil pass0 (pa_cons (pe_call (ok_law_cell T) (hr.mono (by decide)) (by rfl) T.g_law_cell T.F_law_cell.kp (T.b_law_cell) .nil pass0 (pa_cons (pv 0) (pa_cons pe_int pa_nil))) (pa_cons (pe_call (ok_law_cell T) (hr.mono (by decide)) (by rfl) T.g_law_cell T.F_law_cell.kp (T.b_law_cell) .nil pass0 (pa_cons (pv 0) (pa_cons pe_int pa_nil))) pa_nil))))
    (pss_cons (ps_set (i := 3) sclaw.nd rfl (by first | exact Or.inl rfl | exact Or.inr rfl) (pe_call (ok_law_exponent T) (hr.mono (by decide)) (by rfl) T.g_law_exponent T.F_law_exponent.kp (T.b_law_exponent) .nil pass0 (pa_cons (pe_call (ok_law_cell T) (hr.mono (by decide)) (by rfl) T.g_law_cell T.F_law_cell.kp (T.b_law_cell) .nil pass0 (pa_cons (pv 0) (pa_cons pe_int pa_nil))) (pa_cons (pe_call (ok_law_cell T) (hr.mono (by decide)) (by rfl) T.g_law_cell T.F_law_cell.kp (T.b_law_cell) .nil pass0 (pa_cons (pv 0) (pa_cons pe_int pa_nil))) pa_nil))))
    (pss_cons (ps_if (pt_not (pt_val (pe_call (ok_law_same T) (hr.mono (by decide)) (by rfl) T.g_law_same T.F_law_same.kp (T.b_law_same) .nil pass0 (pa_cons (pe_call (okraised T) (hr.mono (by decide)) (by rfl) T.graised T.Fraised.kp (T.braised) .nil pass0 (pa_cons (pv 2) (pa_cons (pv 3) pa_nil))) (pa_cons (pe_call (ok_law_power T) (hr.mono (by decide)) (by rfl) T.g_law_power T.F_law_power.kp (T.b_law_power) .nil pass0 (pa_cons (pv 2) (pa_cons (pv 3) pa_nil))) pa_nil)))))
      (pss_one (ps_ret pe_bl))
      pss_nil)
    (pss_one (ps_ret (pe_call (ok_law_same T) (hr.mono (by decide)) (by rfl) T.g_law_same T.F_law_same.kp (T.b_law_same) .nil pass0 (pa_cons (pe_callK0 (okraised T) (hr.mono (by decide)) (by rfl) T.graised T.Fraised.kp (kbraised_n_m T) pass0 (pk_cons (pe_un un_neg (pv 3)) (pk_cons (pv 2) pk_nil))) (pa_cons (pe_call (ok_law_power T) (hr.mono (by decide)) (by rfl) T.g_law_power T.F_law_power.kp (T.b_law_power) .nil pass0 (pa_cons (pv 2) (pa_cons (pe_un un_neg (pv 3)) pa_nil))) pa_nil))))))))))), ?_⟩
    refine ⟨_, rfl, _, ns, 0, rfl, hS, ?_⟩
    refine ⟨_, rfl, _, ns, 1, rfl, hS, ?_⟩
    walk_at "run"
    all_goals refine ⟨_, ns, 2, rfl, Same.seq (by assumption) hS, ?_⟩
    all_goals refine ⟨_, rfl, _, ns, 3, rfl, Same.seq (by assumption) hS, ?_⟩
    all_goals refine ⟨_, _, rfl, fun b H2 s2 hb => ?_⟩
    all_goals refine ⟨_, rfl, _, ns, 4, rfl, Same.seq (by walk_at "same") hS, ?_⟩
    all_goals refine ⟨_, rfl, _, ns, 3, rfl, Same.seq (by walk_at "same") hS, ?_⟩
    all_goals walk_at "run"
    all_goals exact q _

end
/-! ### the top -/
theorem all_mk {l : PySem.W.OpenLaw} {w : World} {K : PySem.W.Frag} {h : Heap} {mg : Str → Option Value} {fa : Addr} (X : K.In h) (G : h.Ns mainGlobals mg) (hfa : mg "law" = some (.ref fa))
    {od0 an0 : Option Addr} {sl0 : Array (Option Value)} {oc0 kV0 dc0 pm0 cd0 ct0 : Value} {f0 : Addr}
    (a0 : PySem.W.nsIn K mainGlobals "half_even" = some (some (.ref f0))) (l0 : K.lookup f0 = some ⟨oc0, od0, .func (PySem.W.fnOf "half_even" "half_even" (defArgs shalf_even) (defBody shalf_even) (defScope shalf_even) .none kV0 dc0 pm0 an0 cd0 ct0), sl0⟩) (c0 : PySem.W.codeIn K cd0 "half_even" = true) (k0 : PySem.W.keepIn K (.ref f0) = true)
    {od1 an1 : Option Addr} {sl1 : Array (Option Value)} {oc1 kV1 dc1 pm1 cd1 ct1 : Value} {f1 : Addr}
    (a1 : PySem.W.nsIn K mainGlobals "fitting" = some (some (.ref f1))) (l1 : K.lookup f1 = some ⟨oc1, od1, .func (PySem.W.fnOf "fitting" "fitting" (defArgs sfitting) (defBody sfitting) (defScope sfitting) .none kV1 dc1 pm1 an1 cd1 ct1), sl1⟩) (c1 : PySem.W.codeIn K cd1 "fitting" = true) (k1 : PySem.W.keepIn K (.ref f1) = true)
    {od2 an2 : Option Addr} {sl2 : Array (Option Value)} {oc2 kV2 dc2 pm2 cd2 ct2 : Value} {f2 : Addr}
    (a2 : PySem.W.nsIn K mainGlobals "multiplied" = some (some (.ref f2))) (l2 : K.lookup f2 = some ⟨oc2, od2, .func (PySem.W.fnOf "multiplied" "multiplied" (defArgs smultiplied) (defBody smultiplied) (defScope smultiplied) .none kV2 dc2 pm2 an2 cd2 ct2), sl2⟩) (c2 : PySem.W.codeIn K cd2 "multiplied" = true) (k2 : PySem.W.keepIn K (.ref f2) = true)
    {od3 an3 : Option Addr} {sl3 : Array (Option Value)} {oc3 kV3 dc3 pm3 cd3 ct3 : Value} {f3 : Addr}
    (a3 : PySem.W.nsIn K mainGlobals "divided" = some (some (.ref f3))) (l3 : K.lookup f3 = some ⟨oc3, od3, .func (PySem.W.fnOf "divided" "divided" (defArgs sdivided) (defBody sdivided) (defScope sdivided) .none kV3 dc3 pm3 an3 cd3 ct3), sl3⟩) (c3 : PySem.W.codeIn K cd3 "divided" = true) (k3 : PySem.W.keepIn K (.ref f3) = true)
    {od4 an4 : Option Addr} {sl4 : Array (Option Value)} {oc4 kV4 dc4 pm4 cd4 ct4 : Value} {f4 : Addr}
    (a4 : PySem.W.nsIn K mainGlobals "root" = some (some (.ref f4))) (l4 : K.lookup f4 = some ⟨oc4, od4, .func (PySem.W.fnOf "root" "root" (defArgs sroot) (defBody sroot) (defScope sroot) .none kV4 dc4 pm4 an4 cd4 ct4), sl4⟩) (c4 : PySem.W.codeIn K cd4 "root" = true) (k4 : PySem.W.keepIn K (.ref f4) = true)
    {od5 an5 : Option Addr} {sl5 : Array (Option Value)} {oc5 kV5 dc5 pm5 cd5 ct5 : Value} {f5 : Addr}
    (a5 : PySem.W.nsIn K mainGlobals "raised" = some (some (.ref f5))) (l5 : K.lookup f5 = some ⟨oc5, od5, .func (PySem.W.fnOf "raised" "raised" (defArgs sraised) (defBody sraised) (defScope sraised) .none kV5 dc5 pm5 an5 cd5 ct5), sl5⟩) (c5 : PySem.W.codeIn K cd5 "raised" = true) (k5 : PySem.W.keepIn K (.ref f5) = true)
    {od6 an6 : Option Addr} {sl6 : Array (Option Value)} {oc6 kV6 dc6 pm6 cd6 ct6 : Value} {f6 : Addr}
    (a6 : PySem.W.nsIn K mainGlobals "multiplied_often" = some (some (.ref f6))) (l6 : K.lookup f6 = some ⟨oc6, od6, .func (PySem.W.fnOf "multiplied_often" "multiplied_often" (defArgs smultiplied_often) (defBody smultiplied_often) (defScope smultiplied_often) .none kV6 dc6 pm6 an6 cd6 ct6), sl6⟩) (c6 : PySem.W.codeIn K cd6 "multiplied_often" = true) (k6 : PySem.W.keepIn K (.ref f6) = true)
    {od7 an7 : Option Addr} {sl7 : Array (Option Value)} {oc7 kV7 dc7 pm7 cd7 ct7 : Value} {f7 : Addr}
    (a7 : PySem.W.nsIn K mainGlobals "_law_cell" = some (some (.ref f7))) (l7 : K.lookup f7 = some ⟨oc7, od7, .func (PySem.W.fnOf "_law_cell" "_law_cell" (defArgs s_law_cell) (defBody s_law_cell) (defScope s_law_cell) .none kV7 dc7 pm7 an7 cd7 ct7), sl7⟩) (c7 : PySem.W.codeIn K cd7 "_law_cell" = true) (k7 : PySem.W.keepIn K (.ref f7) = true)
    {od8 an8 : Option Addr} {sl8 : Array (Option Value)} {oc8 kV8 dc8 pm8 cd8 ct8 : Value} {f8 : Addr}
    (a8 : PySem.W.nsIn K mainGlobals "_law_mix" = some (some (.ref f8))) (l8 : K.lookup f8 = some ⟨oc8, od8, .func (PySem.W.fnOf "_law_mix" "_law_mix" (defArgs s_law_mix) (defBody s_law_mix) (defScope s_law_mix) .none kV8 dc8 pm8 an8 cd8 ct8), sl8⟩) (c8 : PySem.W.codeIn K cd8 "_law_mix" = true) (k8 : PySem.W.keepIn K (.ref f8) = true)
    {od9 an9 : Option Addr} {sl9 : Array (Option Value)} {oc9 kV9 dc9 pm9 cd9 ct9 : Value} {f9 : Addr}
    (a9 : PySem.W.nsIn K mainGlobals "_law_amount" = some (some (.ref f9))) (l9 : K.lookup f9 = some ⟨oc9, od9, .func (PySem.W.fnOf "_law_amount" "_law_amount" (defArgs s_law_amount) (defBody s_law_amount) (defScope s_law_amount) .none kV9 dc9 pm9 an9 cd9 ct9), sl9⟩) (c9 : PySem.W.codeIn K cd9 "_law_amount" = true) (k9 : PySem.W.keepIn K (.ref f9) = true)
    {od10 an10 : Option Addr} {sl10 : Array (Option Value)} {oc10 kV10 dc10 pm10 cd10 ct10 : Value} {f10 : Addr}
    (a10 : PySem.W.nsIn K mainGlobals "_law_same" = some (some (.ref f10))) (l10 : K.lookup f10 = some ⟨oc10, od10, .func (PySem.W.fnOf "_law_same" "_law_same" (defArgs s_law_same) (defBody s_law_same) (defScope s_law_same) .none kV10 dc10 pm10 an10 cd10 ct10), sl10⟩) (c10 : PySem.W.codeIn K cd10 "_law_same" = true) (k10 : PySem.W.keepIn K (.ref f10) = true)
    {od11 an11 : Option Addr} {sl11 : Array (Option Value)} {oc11 kV11 dc11 pm11 cd11 ct11 : Value} {f11 : Addr}
    (a11 : PySem.W.nsIn K mainGlobals "_law_limited" = some (some (.ref f11))) (l11 : K.lookup f11 = some ⟨oc11, od11, .func (PySem.W.fnOf "_law_limited" "_law_limited" (defArgs s_law_limited) (defBody s_law_limited) (defScope s_law_limited) .none kV11 dc11 pm11 an11 cd11 ct11), sl11⟩) (c11 : PySem.W.codeIn K cd11 "_law_limited" = true) (k11 : PySem.W.keepIn K (.ref f11) = true)
    {od12 an12 : Option Addr} {sl12 : Array (Option Value)} {oc12 kV12 dc12 pm12 cd12 ct12 : Value} {f12 : Addr}
    (a12 : PySem.W.nsIn K mainGlobals "_law_nearest" = some (some (.ref f12))) (l12 : K.lookup f12 = some ⟨oc12, od12, .func (PySem.W.fnOf "_law_nearest" "_law_nearest" (defArgs s_law_nearest) (defBody s_law_nearest) (defScope s_law_nearest) .none kV12 dc12 pm12 an12 cd12 ct12), sl12⟩) (c12 : PySem.W.codeIn K cd12 "_law_nearest" = true) (k12 : PySem.W.keepIn K (.ref f12) = true)
    {od13 an13 : Option Addr} {sl13 : Array (Option Value)} {oc13 kV13 dc13 pm13 cd13 ct13 : Value} {f13 : Addr}
    (a13 : PySem.W.nsIn K mainGlobals "_law_product" = some (some (.ref f13))) (l13 : K.lookup f13 = some ⟨oc13, od13, .func (PySem.W.fnOf "_law_product" "_law_product" (defArgs s_law_product) (defBody s_law_product) (defScope s_law_product) .none kV13 dc13 pm13 an13 cd13 ct13), sl13⟩) (c13 : PySem.W.codeIn K cd13 "_law_product" = true) (k13 : PySem.W.keepIn K (.ref f13) = true)
    {od14 an14 : Option Addr} {sl14 : Array (Option Value)} {oc14 kV14 dc14 pm14 cd14 ct14 : Value} {f14 : Addr}
    (a14 : PySem.W.nsIn K mainGlobals "_law_rooted" = some (some (.ref f14))) (l14 : K.lookup f14 = some ⟨oc14, od14, .func (PySem.W.fnOf "_law_rooted" "_law_rooted" (defArgs s_law_rooted) (defBody s_law_rooted) (defScope s_law_rooted) .none kV14 dc14 pm14 an14 cd14 ct14), sl14⟩) (c14 : PySem.W.codeIn K cd14 "_law_rooted" = true) (k14 : PySem.W.keepIn K (.ref f14) = true)
    {od15 an15 : Option Addr} {sl15 : Array (Option Value)} {oc15 kV15 dc15 pm15 cd15 ct15 : Value} {f15 : Addr}
    (a15 : PySem.W.nsIn K mainGlobals "_law_base" = some (some (.ref f15))) (l15 : K.lookup f15 = some ⟨oc15, od15, .func (PySem.W.fnOf "_law_base" "_law_base" (defArgs s_law_base) (defBody s_law_base) (defScope s_law_base) .none kV15 dc15 pm15 an15 cd15 ct15), sl15⟩) (c15 : PySem.W.codeIn K cd15 "_law_base" = true) (k15 : PySem.W.keepIn K (.ref f15) = true)
    {od16 an16 : Option Addr} {sl16 : Array (Option Value)} {oc16 kV16 dc16 pm16 cd16 ct16 : Value} {f16 : Addr}
    (a16 : PySem.W.nsIn K mainGlobals "_law_exponent" = some (some (.ref f16))) (l16 : K.lookup f16 = some ⟨oc16, od16, .func (PySem.W.fnOf "_law_exponent" "_law_exponent" (defArgs s_law_exponent) (defBody s_law_exponent) (defScope s_law_exponent) .none kV16 dc16 pm16 an16 cd16 ct16), sl16⟩) (c16 : PySem.W.codeIn K cd16 "_law_exponent" = true) (k16 : PySem.W.keepIn K (.ref f16) = true)
    {od17 an17 : Option Addr} {sl17 : Array (Option Value)} {oc17 kV17 dc17 pm17 cd17 ct17 : Value} {f17 : Addr}
    (a17 : PySem.W.nsIn K mainGlobals "_law_power" = some (some (.ref f17))) (l17 : K.lookup f17 = some ⟨oc17, od17, .func (PySem.W.fnOf "_law_power" "_law_power" (defArgs s_law_power) (defBody s_law_power) (defScope s_law_power) .none kV17 dc17 pm17 an17 cd17 ct17), sl17⟩) (c17 : PySem.W.codeIn K cd17 "_law_power" = true) (k17 : PySem.W.keepIn K (.ref f17) = true)
    {od18 an18 : Option Addr} {sl18 : Array (Option Value)} {oc18 kV18 dc18 pm18 cd18 ct18 : Value} {f18 : Addr}
    (a18 : PySem.W.nsIn K mainGlobals "_law_is_root" = some (some (.ref f18))) (l18 : K.lookup f18 = some ⟨oc18, od18, .func (PySem.W.fnOf "_law_is_root" "_law_is_root" (defArgs s_law_is_root) (defBody s_law_is_root) (defScope s_law_is_root) .none kV18 dc18 pm18 an18 cd18 ct18), sl18⟩) (c18 : PySem.W.codeIn K cd18 "_law_is_root" = true) (k18 : PySem.W.keepIn K (.ref f18) = true)
    {od19 an19 : Option Addr} {sl19 : Array (Option Value)} {oc19 kV19 dc19 pm19 cd19 ct19 : Value} {f19 : Addr}
    (a19 : PySem.W.nsIn K mainGlobals "law" = some (some (.ref f19))) (l19 : K.lookup f19 = some ⟨oc19, od19, .func (PySem.W.fnOf "law" "law" (defArgs slaw) (defBody slaw) (defScope slaw) .none kV19 dc19 pm19 an19 cd19 ct19), sl19⟩) (c19 : PySem.W.codeIn K cd19 "law" = true) (k19 : PySem.W.keepIn K (.ref f19) = true)
    {t_SCALE : Tok} (v_SCALE : PySem.W.nsIn K mainGlobals "SCALE" = some (some (.int 1000000 t_SCALE)))
    {t_GREATEST : Tok} (v_GREATEST : PySem.W.nsIn K mainGlobals "GREATEST" = some (some (.int 999999999999999999999 t_GREATEST)))
    {t_GREATEST_POWER : Tok} (v_GREATEST_POWER : PySem.W.nsIn K mainGlobals "GREATEST_POWER" = some (some (.int 64 t_GREATEST_POWER)))
    (v_isqrt : PySem.W.nsIn K mainGlobals "isqrt" = some (some (.builtin "math.isqrt")))
    (z_abs : PySem.W.nsIn K mainGlobals "abs" = some none)
    (z_bool : PySem.W.nsIn K mainGlobals "bool" = some none)
    (z_divmod : PySem.W.nsIn K mainGlobals "divmod" = some none)
    (z_int : PySem.W.nsIn K mainGlobals "int" = some none)
    (z_isinstance : PySem.W.nsIn K mainGlobals "isinstance" = some none)
    (z_len : PySem.W.nsIn K mainGlobals "len" = some none)
    (z_min : PySem.W.nsIn K mainGlobals "min" = some none)
    (z_range : PySem.W.nsIn K mainGlobals "range" = some none)
    (z_str : PySem.W.nsIn K mainGlobals "str" = some none) :
    ∃ fd : FuncData, (∀ (s : Shared) (v : Value), BindsTo s fd ⟨[v], []⟩ [("script", v)]) ∧ ∀ base : Heap, K.In base → base.Ns mainGlobals mg → FnOk l.prog w K mg base CX0 5 fa fd ["script"] (splaw K) := by
  have e := hfa.symm.trans (PySem.W.mg_of X G a19)
  cases e
  have F0 := fun_mk (st := shalf_even) l0 c0 k0
  have b0 := F0.binds (ps := Phalf_even) fun _ _ _ _ _ _ us hl => match us, hl with | [_, _], _ => rfl
  have F1 := fun_mk (st := sfitting) l1 c1 k1
  have b1 := F1.binds (ps := Pfitting) fun _ _ _ _ _ _ us hl => match us, hl with | [_], _ => rfl
  have F2 := fun_mk (st := smultiplied) l2 c2 k2
  have b2 := F2.binds (ps := Pmultiplied) fun _ _ _ _ _ _ us hl => match us, hl with | [_, _], _ => rfl
  have F3 := fun_mk (st := sdivided) l3 c3 k3
  have b3 := F3.binds (ps := Pdivided) fun _ _ _ _ _ _ us hl => match us, hl with | [_, _], _ => rfl
  have F4 := fun_mk (st := sroot) l4 c4 k4
  have b4 := F4.binds (ps := Proot) fun _ _ _ _ _ _ us hl => match us, hl with | [_], _ => rfl
  have F5 := fun_mk (st := sraised) l5 c5 k5
  have b5 := F5.binds (ps := Praised) fun _ _ _ _ _ _ us hl => match us, hl with | [_, _], _ => rfl
  have F6 := fun_mk (st := smultiplied_often) l6 c6 k6
  have b6 := F6.binds (ps := Pmultiplied_often) fun _ _ _ _ _ _ us hl => match us, hl with | [_, _], _ => rfl
  have F7 := fun_mk (st := s_law_cell) l7 c7 k7
  have b7 := F7.binds (ps := P_law_cell) fun _ _ _ _ _ _ us hl => match us, hl with | [_, _], _ => rfl
  have F8 := fun_mk (st := s_law_mix) l8 c8 k8
  have b8 := F8.binds (ps := P_law_mix) fun _ _ _ _ _ _ us hl => match us, hl with | [_, _], _ => rfl
  have F9 := fun_mk (st := s_law_amount) l9 c9 k9
  have b9 := F9.binds (ps := P_law_amount) fun _ _ _ _ _ _ us hl => match us, hl with | [_, _], _ => rfl
  have F10 := fun_mk (st := s_law_same) l10 c10 k10
  have b10 := F10.binds (ps := P_law_same) fun _ _ _ _ _ _ us hl => match us, hl with | [_, _], _ => rfl
  have F11 := fun_mk (st := s_law_limited) l11 c11 k11
  have b11 := F11.binds (ps := P_law_limited) fun _ _ _ _ _ _ us hl => match us, hl with | [_], _ => rfl
  have F12 := fun_mk (st := s_law_nearest) l12 c12 k12
  have b12 := F12.binds (ps := P_law_nearest) fun _ _ _ _ _ _ us hl => match us, hl with | [_, _], _ => rfl
  have F13 := fun_mk (st := s_law_product) l13 c13 k13
  have b13 := F13.binds (ps := P_law_product) fun _ _ _ _ _ _ us hl => match us, hl with | [_, _], _ => rfl
  have F14 := fun_mk (st := s_law_rooted) l14 c14 k14
  have b14 := F14.binds (ps := P_law_rooted) fun _ _ _ _ _ _ us hl => match us, hl with | [_, _], _ => rfl
  have F15 := fun_mk (st := s_law_base) l15 c15 k15
  have b15 := F15.binds (ps := P_law_base) fun _ _ _ _ _ _ us hl => match us, hl with | [_, _], _ => rfl
  have F16 := fun_mk (st := s_law_exponent) l16 c16 k16
  have b16 := F16.binds (ps := P_law_exponent) fun _ _ _ _ _ _ us hl => match us, hl with | [_, _], _ => rfl
  have F17 := fun_mk (st := s_law_power) l17 c17 k17
  have b17 := F17.binds (ps := P_law_power) fun _ _ _ _ _ _ us hl => match us, hl with | [_, _], _ => rfl
  have F18 := fun_mk (st := s_law_is_root) l18 c18 k18
  have b18 := F18.binds (ps := P_law_is_root) fun _ _ _ _ _ _ us hl => match us, hl with | [_, _], _ => rfl
  have F19 := fun_mk (st := slaw) l19 c19 k19
  have b19 := F19.binds (ps := Plaw) fun _ _ _ _ _ _ us hl => match us, hl with | [_], _ => rfl
  let T : Txt K mg := { ahalf_even := f0, dhalf_even := _, Fhalf_even := F0, ghalf_even := PySem.W.mg_of X G a0, bhalf_even := b0, afitting := f1, dfitting := _, Ffitting := F1, gfitting := PySem.W.mg_of X G a1, bfitting := b1, amultiplied := f2, dmultiplied := _, Fmultiplied := F2, gmultiplied := PySem.W.mg_of X G a2, bmultiplied := b2, adivided := f3, ddivided := _, Fdivided := F3, gdivided := PySem.W.mg_of X G a3, bdivided := b3, aroot := f4, droot := _, Froot := F4, groot := PySem.W.mg_of X G a4, broot := b4, araised := f5, draised := _, Fraised := F5, graised := PySem.W.mg_of X G a5, braised := b5, amultiplied_often := f6, dmultiplied_often := _, Fmultiplied_often := F6, gmultiplied_often := PySem.W.mg_of X G a6, bmultiplied_often := b6, a_law_cell := f7, d_law_cell := _, F_law_cell := F7, g_law_cell := PySem.W.mg_of X G a7, b_law_cell := b7, a_law_mix := f8, d_law_mix := _, F_law_mix := F8, g_law_mix := PySem.W.mg_of X G a8, b_law_mix := b8, a_law_amount := f9, d_law_amount := _, F_law_amount := F9, g_law_amount := PySem.W.mg_of X G a9, b_law_amount := b9, a_law_same := f10, d_law_same := _, F_law_same := F10, g_law_same := PySem.W.mg_of X G a10, b_law_same := b10, a_law_limited := f11, d_law_limited := _, F_law_limited := F11, g_law_limited := PySem.W.mg_of X G a11, b_law_limited := b11, a_law_nearest := f12, d_law_nearest := _, F_law_nearest := F12, g_law_nearest := PySem.W.mg_of X G a12, b_law_nearest := b12, a_law_product := f13, d_law_product := _, F_law_product := F13, g_law_product := PySem.W.mg_of X G a13, b_law_product := b13, a_law_rooted := f14, d_law_rooted := _, F_law_rooted := F14, g_law_rooted := PySem.W.mg_of X G a14, b_law_rooted := b14, a_law_base := f15, d_law_base := _, F_law_base := F15, g_law_base := PySem.W.mg_of X G a15, b_law_base := b15, a_law_exponent := f16, d_law_exponent := _, F_law_exponent := F16, g_law_exponent := PySem.W.mg_of X G a16, b_law_exponent := b16, a_law_power := f17, d_law_power := _, F_law_power := F17, g_law_power := PySem.W.mg_of X G a17, b_law_power := b17, a_law_is_root := f18, d_law_is_root := _, F_law_is_root := F18, g_law_is_root := PySem.W.mg_of X G a18, b_law_is_root := b18, alaw := fa, dlaw := _, Flaw := F19, glaw := PySem.W.mg_of X G a19, blaw := b19, t_SCALE := t_SCALE, m_SCALE := PySem.W.mg_of X G v_SCALE, t_GREATEST := t_GREATEST, m_GREATEST := PySem.W.mg_of X G v_GREATEST, t_GREATEST_POWER := t_GREATEST_POWER, m_GREATEST_POWER := PySem.W.mg_of X G v_GREATEST_POWER, m_isqrt := PySem.W.mg_of X G v_isqrt, z_abs := PySem.W.mg_none_of X G z_abs, z_bool := PySem.W.mg_none_of X G z_bool, z_divmod := PySem.W.mg_none_of X G z_divmod, z_int := PySem.W.mg_none_of X G z_int, z_isinstance := PySem.W.mg_none_of X G z_isinstance, z_len := PySem.W.mg_none_of X G z_len, z_min := PySem.W.mg_none_of X G z_min, z_range := PySem.W.mg_none_of X G z_range, z_str := PySem.W.mg_none_of X G z_str }
  exact ⟨T.dlaw, fun s v => .of_eq rfl, fun base _ _ => oklaw T⟩

end Mysheetworks_k05_roots_and_powers
open PySem PySem.W PyProof.Rows
set_option maxHeartbeats 0 in
theorem PySem.Challenge.cw_sheetworks_k05_roots_and_powers_holds : PySem.Challenge.rw_sheetworks_k05_roots_and_powers.Holds := by
  w_on; o_law; k_head; (case hw => w_witness2)
  k_fill
  refine L2.walk_of (l := PySem.Challenge.rw_sheetworks_k05_roots_and_powers) (n := 63) (k := 5) (x := "script") (CX := fun _ => L2.CX0) (sp := fun w => Mysheetworks_k05_roots_and_powers.splaw _) rfl (by decide) rfl ⟨rfl, by decide, by decide⟩ (fun w h Y => PySem.W.kIn_of Y) ?F (fun _ _ a ns hl _ hS => ⟨a, ns, rfl, hS, hl, fun _ => rfl⟩) (fun _ _ _ _ _ h => h)
  case F =>
    intro w mg fa h KX G hmg
    refine' Mysheetworks_k05_roots_and_powers.all_mk KX G hmg ?a0 ?l0 ?c0 ?k0 ?a1 ?l1 ?c1 ?k1 ?a2 ?l2 ?c2 ?k2 ?a3 ?l3 ?c3 ?k3 ?a4 ?l4 ?c4 ?k4 ?a5 ?l5 ?c5 ?k5 ?a6 ?l6 ?c6 ?k6 ?a7 ?l7 ?c7 ?k7 ?a8 ?l8 ?c8 ?k8 ?a9 ?l9 ?c9 ?k9 ?a10 ?l10 ?c10 ?k10 ?a11 ?l11 ?c11 ?k11 ?a12 ?l12 ?c12 ?k12 ?a13 ?l13 ?c13 ?k13 ?a14 ?l14 ?c14 ?k14 ?a15 ?l15 ?c15 ?k15 ?a16 ?l16 ?c16 ?k16 ?a17 ?l17 ?c17 ?k17 ?a18 ?l18 ?c18 ?k18 ?a19 ?l19 ?c19 ?k19 ?v_SCALE ?v_GREATEST ?v_GREATEST_POWER ?v_isqrt ?z_abs ?z_bool ?z_divmod ?z_int ?z_isinstance ?z_len ?z_min ?z_range ?z_str
    (case a0 => k_is); (case l0 => k_is); (case c0 => k_is); (case k0 => k_is); (case a1 => k_is); (case l1 => k_is); (case c1 => k_is); (case k1 => k_is); (case a2 => k_is); (case l2 => k_is); (case c2 => k_is); (case k2 => k_is); (case a3 => k_is); (case l3 => k_is); (case c3 => k_is); (case k3 => k_is); (case a4 => k_is); (case l4 => k_is); (case c4 => k_is); (case k4 => k_is); (case a5 => k_is); (case l5 => k_is); (case c5 => k_is); (case k5 => k_is); (case a6 => k_is); (case l6 => k_is); (case c6 => k_is); (case k6 => k_is); (case a7 => k_is); (case l7 => k_is); (case c7 => k_is); (case k7 => k_is); (case a8 => k_is); (case l8 => k_is); (case c8 => k_is); (case k8 => k_is); (case a9 => k_is); (case l9 => k_is); (case c9 => k_is); (case k9 => k_is); (case a10 => k_is); (case l10 => k_is); (case c10 => k_is); (case k10 => k_is); (case a11 => k_is); (case l11 => k_is); (case c11 => k_is); (case k11 => k_is); (case a12 => k_is); (case l12 => k_is); (case c12 => k_is); (case k12 => k_is); (case a13 => k_is); (case l13 => k_is); (case c13 => k_is); (case k13 => k_is); (case a14 => k_is); (case l14 => k_is); (case c14 => k_is); (case k14 => k_is); (case a15 => k_is); (case l15 => k_is); (case c15 => k_is); (case k15 => k_is); (case a16 => k_is); (case l16 => k_is); (case c16 => k_is); (case k16 => k_is); (case a17 => k_is); (case l17 => k_is); (case c17 => k_is); (case k17 => k_is); (case a18 => k_is); (case l18 => k_is); (case c18 => k_is); (case k18 => k_is); (case a19 => k_is); (case l19 => k_is); (case c19 => k_is); (case k19 => k_is); (case v_SCALE => k_is); (case v_GREATEST => k_is); (case v_GREATEST_POWER => k_is); (case v_isqrt => k_is); (case z_abs => k_is); (case z_bool => k_is); (case z_divmod => k_is); (case z_int => k_is); (case z_isinstance => k_is); (case z_len => k_is); (case z_min => k_is); (case z_range => k_is); (case z_str => k_is)

