import PyProof.Rows.All
import Wide.All
import OpenK.AllK
import Wide.FinOn
import HandS.ForMost
import HandS.Gcd
import Flt.RightSqrt
import KE.KMathG
import HandS.IsInst
import HandS.Wide
import HandS.WideBits
import HandS.StrMore
import HandS.FStr
import HandS.EndBits
import HandS.Codes
import HandS.Walk
import HandS.Strs
import PyProof.Rows.StrPadFill
import PySem.Challenge.RW_sheetworks_k04_whole_amounts_read_back
set_option Elab.async false
set_option linter.all false
set_option maxRecDepth 100000
set_option maxHeartbeats 4000000
namespace Mysheetworks_k04_whole_amounts_read_back
open PySem PySem.Spec PyProof.Rows L2
def topS (i : Nat) : Stmt := PySem.Challenge.pw_sheetworks_k04_whole_amounts_read_back.main.body.getD i (.Pass ⟨0, 0, 0, 0⟩)
abbrev shalf_even : Stmt := topS 5
abbrev Nhalf_even : List Str := ["a", "b", "below", "rest"]
abbrev Phalf_even : List Str := ["a", "b"]
theorem schalf_even : FnScope Nhalf_even Phalf_even (defScope shalf_even) := ⟨rfl, rfl, rfl, by decide +kernel, rfl, by decide +kernel, by decide +kernel⟩
abbrev sfitting : Stmt := topS 6
abbrev Nfitting : List Str := ["m"]
abbrev Pfitting : List Str := ["m"]
theorem scfitting : FnScope Nfitting Pfitting (defScope sfitting) := ⟨rfl, rfl, rfl, by decide +kernel, rfl, by decide +kernel, by decide +kernel⟩
abbrev sshown_amount : Stmt := topS 7
abbrev Nshown_amount : List Str := ["m", "sign", "whole", "millionths", "behind"]
abbrev Pshown_amount : List Str := ["m"]
theorem scshown_amount : FnScope Nshown_amount Pshown_amount (defScope sshown_amount) := ⟨rfl, rfl, rfl, by decide +kernel, rfl, by decide +kernel, by decide +kernel⟩
abbrev sread_amount : Stmt := topS 8
abbrev Nread_amount : List Str := ["text", "unsigned", "is_below", "ahead", "point", "behind", "exact", "size"]
abbrev Pread_amount : List Str := ["text"]
theorem scread_amount : FnScope Nread_amount Pread_amount (defScope sread_amount) := ⟨rfl, rfl, rfl, by decide +kernel, rfl, by decide +kernel, by decide +kernel⟩
abbrev sare_figures : Stmt := topS 9
abbrev Nare_figures : List Str := ["text", "most"]
abbrev Pare_figures : List Str := ["text", "most"]
theorem scare_figures : FnScope Nare_figures Pare_figures (defScope sare_figures) := ⟨rfl, rfl, rfl, by decide +kernel, rfl, by decide +kernel, by decide +kernel⟩
abbrev s_law_cell : Stmt := topS 11
abbrev N_law_cell : List Str := ["script", "k"]
abbrev P_law_cell : List Str := ["script", "k"]
theorem sc_law_cell : FnScope N_law_cell P_law_cell (defScope s_law_cell) := ⟨rfl, rfl, rfl, by decide +kernel, rfl, by decide +kernel, by decide +kernel⟩
abbrev s_law_mix : Stmt := topS 12
abbrev N_law_mix : List Str := ["cell", "salt", "one"]
abbrev P_law_mix : List Str := ["cell", "salt"]
theorem sc_law_mix : FnScope N_law_mix P_law_mix (defScope s_law_mix) := ⟨rfl, rfl, rfl, by decide +kernel, rfl, by decide +kernel, by decide +kernel⟩
abbrev s_law_amount : Stmt := topS 13
abbrev N_law_amount : List Str := ["cell", "salt", "bound", "choice", "one", "edges", "wide"]
abbrev P_law_amount : List Str := ["cell", "salt"]
theorem sc_law_amount : FnScope N_law_amount P_law_amount (defScope s_law_amount) := ⟨rfl, rfl, rfl, by decide +kernel, rfl, by decide +kernel, by decide +kernel⟩
abbrev s_law_nearest : Stmt := topS 14
abbrev N_law_nearest : List Str := ["a", "b", "whole", "twice"]
abbrev P_law_nearest : List Str := ["a", "b"]
theorem sc_law_nearest : FnScope N_law_nearest P_law_nearest (defScope s_law_nearest) := ⟨rfl, rfl, rfl, by decide +kernel, rfl, by decide +kernel, by decide +kernel⟩
abbrev s_law_written : Stmt := topS 15
abbrev N_law_written : List Str := ["m", "size", "text", "rest"]
abbrev P_law_written : List Str := ["m"]
theorem sc_law_written : FnScope N_law_written P_law_written (defScope s_law_written) := ⟨rfl, rfl, rfl, by decide +kernel, rfl, by decide +kernel, by decide +kernel⟩
abbrev s_law_figures : Stmt := topS 16
abbrev N_law_figures : List Str := ["text", "most", "sign"]
abbrev P_law_figures : List Str := ["text", "most"]
theorem sc_law_figures : FnScope N_law_figures P_law_figures (defScope s_law_figures) := ⟨rfl, rfl, rfl, by decide +kernel, rfl, by decide +kernel, by decide +kernel⟩
abbrev s_law_read : Stmt := topS 17
abbrev N_law_read : List Str := ["text", "core", "negative", "parts", "number", "sign"]
abbrev P_law_read : List Str := ["text"]
theorem sc_law_read : FnScope N_law_read P_law_read (defScope s_law_read) := ⟨rfl, rfl, rfl, by decide +kernel, rfl, by decide +kernel, by decide +kernel⟩
abbrev s_law_signs : Stmt := topS 18
abbrev N_law_signs : List Str := ["cell", "salt", "signs", "row", "left", "k"]
abbrev P_law_signs : List Str := ["cell", "salt", "signs"]
theorem sc_law_signs : FnScope N_law_signs P_law_signs (defScope s_law_signs) := ⟨rfl, rfl, rfl, by decide +kernel, rfl, by decide +kernel, by decide +kernel⟩
abbrev s_law_alphabet : Stmt := topS 19
abbrev N_law_alphabet : List Str := ["signs"]
abbrev P_law_alphabet : List Str := []
theorem sc_law_alphabet : FnScope N_law_alphabet P_law_alphabet (defScope s_law_alphabet) := ⟨rfl, rfl, rfl, by decide +kernel, rfl, by decide +kernel, by decide +kernel⟩
abbrev s_law_free : Stmt := topS 20
abbrev N_law_free : List Str := ["script", "signs", "row", "k"]
abbrev P_law_free : List Str := ["script", "signs"]
theorem sc_law_free : FnScope N_law_free P_law_free (defScope s_law_free) := ⟨rfl, rfl, rfl, by decide +kernel, rfl, by decide +kernel, by decide +kernel⟩
abbrev s_law_whole_part : Stmt := topS 21
abbrev N_law_whole_part : List Str := ["cell", "choice", "one", "row", "k"]
abbrev P_law_whole_part : List Str := ["cell"]
theorem sc_law_whole_part : FnScope N_law_whole_part P_law_whole_part (defScope s_law_whole_part) := ⟨rfl, rfl, rfl, by decide +kernel, rfl, by decide +kernel, by decide +kernel⟩
abbrev s_law_rest : Stmt := topS 22
abbrev N_law_rest : List Str := ["cell", "choice", "one", "row", "k", "six", "tails"]
abbrev P_law_rest : List Str := ["cell"]
theorem sc_law_rest : FnScope N_law_rest P_law_rest (defScope s_law_rest) := ⟨rfl, rfl, rfl, by decide +kernel, rfl, by decide +kernel, by decide +kernel⟩
abbrev s_law_form : Stmt := topS 23
abbrev N_law_form : List Str := ["script", "cell", "one", "text"]
abbrev P_law_form : List Str := ["script", "cell"]
theorem sc_law_form : FnScope N_law_form P_law_form (defScope s_law_form) := ⟨rfl, rfl, rfl, by decide +kernel, rfl, by decide +kernel, by decide +kernel⟩
abbrev s_law_padded : Stmt := topS 24
abbrev N_law_padded : List Str := ["text", "number", "ahead", "behind"]
abbrev P_law_padded : List Str := ["text", "number"]
theorem sc_law_padded : FnScope N_law_padded P_law_padded (defScope s_law_padded) := ⟨rfl, rfl, rfl, by decide +kernel, rfl, by decide +kernel, by decide +kernel⟩
abbrev s_law_spoilt : Stmt := topS 25
abbrev N_law_spoilt : List Str := ["text", "mode", "cell", "signs", "sign", "at"]
abbrev P_law_spoilt : List Str := ["text", "mode", "cell"]
theorem sc_law_spoilt : FnScope N_law_spoilt P_law_spoilt (defScope s_law_spoilt) := ⟨rfl, rfl, rfl, by decide +kernel, rfl, by decide +kernel, by decide +kernel⟩
abbrev s_law_text : Stmt := topS 26
abbrev N_law_text : List Str := ["script", "m", "cell", "mode", "one", "text"]
abbrev P_law_text : List Str := ["script", "m", "cell"]
theorem sc_law_text : FnScope N_law_text P_law_text (defScope s_law_text) := ⟨rfl, rfl, rfl, by decide +kernel, rfl, by decide +kernel, by decide +kernel⟩
abbrev s_law_same : Stmt := topS 27
abbrev N_law_same : List Str := ["actual", "due"]
abbrev P_law_same : List Str := ["actual", "due"]
theorem sc_law_same : FnScope N_law_same P_law_same (defScope s_law_same) := ⟨rfl, rfl, rfl, by decide +kernel, rfl, by decide +kernel, by decide +kernel⟩
abbrev slaw : Stmt := topS 28
abbrev Nlaw : List Str := ["script", "m", "n", "text", "due"]
abbrev Plaw : List Str := ["script"]
theorem sclaw : FnScope Nlaw Plaw (defScope slaw) := ⟨rfl, rfl, rfl, by decide +kernel, rfl, by decide +kernel, by decide +kernel⟩

/-! ### own rules -/
theorem pe_powc {X : Cx} {a b c : Int} {j k : Nat} {p q pos : Pos} (hb : 0 ≤ b ∧ b ≤ 1000000 ∧ a.natAbs < 2 ^ 64) (h : a ^ b.toNat = c) : PE X (.BinOp (.Constant (.int a) j p) .Pow (.Constant (.int b) k q) pos) (tC (.int c)) :=
  ⟨fun pins s σ H Q I hq => (pe_op op_pow pe_int pe_int).run pins s σ H Q I ⟨a, b, rfl, rfl, hb, by
    show Q (.int (a ^ b.toNat)) H
    rw [h]
    exact hq⟩⟩
/-- isinstance of a flat value: told by its kind -/
def isiV : V → String → Option Bool
  | .int _, "int" => some true | .bl _, "int" => some true | .str _, "int" => some false | .non, "int" => some false
  | .int _, "bool" => some false | .bl _, "bool" => some true | .str _, "bool" => some false | .non, "bool" => some false
  | .int _, "str" => some false | .bl _, "str" => some false | .str _, "str" => some true | .non, "str" => some false
  | .int _, "tuple" => some false | .bl _, "tuple" => some false | .str _, "tuple" => some false | .non, "tuple" => some false
  | _, _ => none
theorem call_isiV {X : Cx} : CallR X (.builtin "isinstance") (fun xs H Q => ∃ x n b, xs = [x, .ty n] ∧ isiV x n = some b ∧ Q (.bl b) H) := by
  intro pins s σ H xs us Q I r h
  obtain ⟨x, n, b, rfl, e, q⟩ := h
  refine call_isi pins s σ H _ us Q I r ?_
  unfold isiV at e
  split at e
  case h_17 => cases e
  all_goals (cases e)
  all_goals first
    | exact ⟨_, _, .type "int", _, _, rfl, .ty _, .base (.int _), kit_ty (by decide +kernel), q⟩
    | exact ⟨_, _, .type "bool", _, _, rfl, .ty _, .base (.bl _), kit_ty (by decide +kernel), q⟩
    | exact ⟨_, _, .type "str", _, _, rfl, .ty _, .base (.str _), kit_ty (by decide +kernel), q⟩
    | exact ⟨_, _, .type "NoneType", _, _, rfl, .ty _, .base .non, kit_ty (by decide +kernel), q⟩
/-- how a call by keywords alone binds -/
structure KB0 (K : PySem.W.Frag) (fd : FuncData) (ps ks : List Str) (g : List Value → List Value) (gV : List V → List V) : Prop where
  to : ∀ (s : Shared) (ws : List Value), ws.length = ks.length → BindsTo s fd ⟨[], ks.zip ws⟩ (ps.zip (g ws))
  rel : ∀ {zs : List V} {ws : List Value}, Vals zs ws → Vals (gV zs) (g ws)
def tCallK0 (n : Nat) (sp : Sp) (gV : List V → List V) (E : XK) (tk : TA) : TE := fun σ H Q => tk σ H fun zs H2 => zs.length = n ∧ sp (gV zs) H2 Q E
theorem pe_callK0 {X : Cx} {CX : CXT} {k : Nat} {f : Addr} {fd : FuncData} {ps ks : List Str} {sp : Sp} {E : XK} {x : Str} {p pos : Pos} {kws : List Keyword} {tk : TA} {g : List Value → List Value} {gV : List V → List V}
    (F : FnOk X.prog X.w X.K X.mg X.base CX k f fd ps sp) (hr : Room k X.A) (hg : Gl X x) (hm : X.mg x = some (.ref f)) (hk : PySem.W.keepIn X.K (.ref f) = true) (hb : KB0 X.K fd ps ks g gV) (hx : Passes CX X E)
    (hkw : PK X kws tk) (hall : (backToKw pos (keywordEach kws X.env)).all (·.1.isSome) = true := by rfl) (hks : (backToKw pos (keywordEach kws X.env)).filterMap (·.1) = ks := by rfl)
    (hdb : (x == ("__debug__" : Str)) = false := by decide)
    (hpl : ((backTo pos (starEach [] X.env)).any (·.1) || (backToKw pos (keywordEach kws X.env)).any (·.1.isNone)) = false := by rfl) :
    PE X (.Call (.Name x p) [] kws pos) (tCallK0 ks.length sp gV E tk) := by
  refine ⟨fun pins s σ H Q I h => ?_⟩
  refine wpAny_Call_Name_kw (ld_glob I hg hm ?_ hdb)
  refine PySem.W.callWith_KW0 (h₀ := X.base) I.ok.mod.kin hk hall (thn (hkw.run pos pins s σ H _ I h) fun ws s2 ⟨zs, H2, I2, rz, l2, q2⟩ => ⟨I2.kIn, ?_⟩) hpl
  rw [hks]
  have r2 := hb.rel rz
  refine wpAny_call (codeAny_mono (F.run X.A X.stack s2 H2 ⟨[], ks.zip ws⟩ (g ws) (gV zs) Q E hr I2.env0 (hb.to s2 ws (rz.length.symm.trans l2)) r2 q2) fun r s' hq => ?_)
  cases r with
  | error e => exact hx pins σ H2 s2 e s' I2 hq
  | ok fl =>
    cases fl with
    | ret u => exact I2.after hq
    | next => exact False.elim hq
    | brk => exact False.elim hq
    | cont => exact False.elim hq
theorem atI_mem {xs : List V} {i : Int} (h0 : 0 ≤ i) (h1 : i < (xs.length : Int)) : ∃ v, v ∈ xs ∧ atI xs i = some v := by
  obtain ⟨n, rfl⟩ := Int.eq_ofNat_of_zero_le h0
  have h2 : n < xs.length := by omega
  exact ⟨xs[n], List.getElem_mem h2, atI_nat (List.getElem?_eq_getElem h2)⟩
/-- rules with conditions that are linear -/
theorem opr_imp {X : Cx} {f : Value → Value → Sem Value} {C C' : Int → Int → Prop} {g : Int → Int → V} (h : OpR X f (rI C g)) (k : ∀ i j, C' i j → C i j) : OpR X f (rI C' g) := fun pins s σ H x y v u Q I rx ry hq => by
  obtain ⟨i, j, ex, ey, hc, q⟩ := hq
  exact h pins s σ H x y v u Q I rx ry ⟨i, j, ex, ey, k i j hc, q⟩
def CB (_ j : Int) : Prop := 0 < j ∧ j < 1267650600228229401496703205376
def CMB (i j : Int) : Prop := (-1000000000000000000000000000000000000000000000000000000000000 < i ∧ i < 1000000000000000000000000000000000000000000000000000000000000) ∧ (-1000000000000000000000000000000000000000000000000000000000000 < j ∧ j < 1000000000000000000000000000000000000000000000000000000000000)
theorem abs200 {i : Int} (h : -1000000000000000000000000000000000000000000000000000000000000 < i ∧ i < 1000000000000000000000000000000000000000000000000000000000000) : i.natAbs < 2 ^ 200 := by
  have e : (2 : Nat) ^ 200 = 1606938044258990275541962092341162602522202993782792835301376 := by decide
  rw [e]
  omega
theorem abs100 {i : Int} (h : 0 < i ∧ i < 1267650600228229401496703205376) : i.natAbs < 2 ^ 100 := by
  have e : (2 : Nat) ^ 100 = 1267650600228229401496703205376 := by decide
  rw [e]
  omega
theorem op_mulB {X : Cx} : OpR X (binaryOp .Mult) (rI CMB fun i j => .int (i * j)) := opr_imp op_mulW fun i j h => wide_mul (abs200 h.1) (abs200 h.2) (by decide) (by decide) (by decide)
theorem op_fdivB {X : Cx} : OpR X (binaryOp .FloorDiv) (rI CB fun i j => .int (i / j)) := opr_imp op_fdivW fun i j h => wide_div h.1 (abs100 h) (by decide) (by decide)
theorem ediv_up {i j : Int} (h : 0 < j) (h0 : 0 ≤ i) : 0 ≤ i / j ∧ i / j ≤ i := ⟨Int.ediv_nonneg h0 (Int.le_of_lt h), Int.ediv_le_self j h0⟩
theorem ediv_dn {i j : Int} (h : 0 < j) (h0 : i < 0) : i ≤ i / j ∧ i / j < 0 := by
  refine ⟨?_, Int.ediv_neg_of_neg_of_pos h0 h⟩
  rw [Int.le_ediv_iff_mul_le h]
  have a : i * (j - 1) ≤ 0 := Int.mul_nonpos_of_nonpos_of_nonneg (Int.le_of_lt h0) (by omega)
  rw [Int.mul_sub, Int.mul_one] at a
  omega
/-- the quotient as a letter, with its bounds -/
theorem op_fdivL {X : Cx} : OpR X (binaryOp .FloorDiv) (fun x y H Q => ∃ i j, x = .int i ∧ y = .int j ∧ CB i j ∧ ∀ d, d = i / j → (0 ≤ i → 0 ≤ d ∧ d ≤ i) → (i < 0 → i ≤ d ∧ d < 0) → Q (.int d) H) := fun pins s σ H x y v u Q I rx ry hq => by
  obtain ⟨i, j, ex, ey, hc, q⟩ := hq
  exact op_fdivB pins s σ H x y v u Q I rx ry ⟨i, j, ex, ey, hc, q _ rfl (ediv_up hc.1) (ediv_dn hc.1)⟩
theorem call_divmodB {X : Cx} : CallR X (.builtin "divmod") (fun xs H Q => ∃ i j, xs = [.int i, .int j] ∧ CB i j ∧ ∀ p, H p = none → Q (.ref p) (upd H p (.tup [.int (i / j), .int (i % j)]))) := fun pins s σ H xs us Q I r hq => by
  obtain ⟨i, j, ex, hc, q⟩ := hq
  have w := wide_div (i := i) hc.1 (abs100 hc) (by decide) (by decide)
  exact call_divmodW pins s σ H xs us Q I r ⟨i, j, ex, ⟨hc.1, PyProof.noPylong_of_log2 w.2⟩, q⟩
theorem iteEqI {i j : Int} {A B : Prop} (h1 : i = j → A) (h2 : ¬ i = j → B) : if decide (V.int i = V.int j) = true then A else B := by
  by_cases h : i = j
  · rw [if_pos (decide_eq_true (congrArg V.int h))]
    exact h1 h
  · rw [if_neg (fun z => h (V.int.inj (of_decide_eq_true z)))]
    exact h2 h
theorem iteNeI {i j : Int} {A B : Prop} (h1 : ¬ i = j → A) (h2 : i = j → B) : if (!decide (V.int i = V.int j)) = true then A else B := by
  by_cases h : i = j
  · rw [decide_eq_true (congrArg V.int h)]
    exact iteF (h2 h)
  · rw [decide_eq_false (fun z => h (V.int.inj z))]
    exact iteT (h1 h)
theorem iteSS {x : Str} {A B : Prop} (h : A) : if decide (V.str x = V.str x) = true then A else B := by
  rw [if_pos (decide_eq_true rfl)]
  exact h
theorem iteIS {i : Int} {x : Str} {A B : Prop} (h : B) : if decide (V.int i = V.str x) = true then A else B := by
  rw [if_neg (fun z => V.noConfusion (of_decide_eq_true z))]
  exact h
theorem iteD {c A B : Prop} [Decidable c] (h1 : c → A) (h2 : ¬ c → B) : if decide c = true then A else B := by
  by_cases h : c
  · rw [if_pos (decide_eq_true h)]
    exact h1 h
  · rw [if_neg (fun z => h (of_decide_eq_true z))]
    exact h2 h
theorem same_upd {H : Hp} {p : Addr} {o : HO} (h : H p = none) : Same H (upd H p o) := fun b x e => by
  rw [upd_ne (ne_of_none e h)]
  exact e
theorem ix_listK {X : Cx} {K : PySem.W.Frag} (e : X.K = K) : IxR X (rIxL K) := e ▸ ix_list
theorem ix_tupK {X : Cx} {K : PySem.W.Frag} (e : X.K = K) : IxR X (rIxT K) := e ▸ ix_tup
theorem ix_seqK {X : Cx} {K : PySem.W.Frag} (e : X.K = K) : IxR X (rIx K) := e ▸ ix_seq
theorem call_len_seqK {X : Cx} {K : PySem.W.Frag} (e : X.K = K) : CallR X (.builtin "len") (fun xs H Q => ∃ p ys, xs = [.ref p] ∧ (SqL K H p ys ∨ SqT K H p ys) ∧ Q (.int ys.length) H) := e ▸ call_len_seq
/-- an item of a list, whichever -/
theorem atI_go {K : PySem.W.Frag} {p : Addr} {xs : List V} {i : Int} {H : Hp} {Q : VK} (h : SqL K H p xs) (h0 : 0 ≤ i) (h1 : i < (xs.length : Int)) (q : ∀ v, v ∈ xs → Q v H) : rIxL K (.ref p) (.int i) H Q := by
  obtain ⟨v, hv, e⟩ := atI_mem h0 h1
  exact ⟨_, _, _, v, rfl, rfl, h, e, q v hv⟩

/-- the product as a letter, with its bounds -/
theorem op_mulL {X : Cx} : OpR X (binaryOp .Mult) (fun x y H Q => ∃ i j, x = .int i ∧ y = .int j ∧ CMul i j ∧ ∀ d, d = i * j → (0 ≤ i → 0 ≤ j → 0 ≤ d) → (0 ≤ i → i ≤ 100000000000000 → 0 ≤ j → j ≤ 100000000000000 → d ≤ 10000000000000000000000000000) → Q (.int d) H) := fun pins s σ H x y v u Q I rx ry hq => by
  obtain ⟨i, j, ex, ey, hc, q⟩ := hq
  exact op_mul pins s σ H x y v u Q I rx ry ⟨i, j, ex, ey, hc, q _ rfl (fun a b => Int.mul_nonneg a b) (fun a b c d => Int.le_trans (Int.mul_le_mul b d c (by decide)) (by decide))⟩

/-! ### what the top has left -/
structure Txt (K : PySem.W.Frag) (mg : Str → Option Value) where
  ahalf_even : Addr
  dhalf_even : FuncData
  Fhalf_even : Fun K "half_even" "half_even" shalf_even ahalf_even dhalf_even
  ghalf_even : mg "half_even" = some (.ref ahalf_even)
  bhalf_even : Binds K dhalf_even Phalf_even []
  afitting : Addr
  dfitting : FuncData
  Ffitting : Fun K "fitting" "fitting" sfitting afitting dfitting
  gfitting : mg "fitting" = some (.ref afitting)
  bfitting : Binds K dfitting Pfitting []
  ashown_amount : Addr
  dshown_amount : FuncData
  Fshown_amount : Fun K "shown_amount" "shown_amount" sshown_amount ashown_amount dshown_amount
  gshown_amount : mg "shown_amount" = some (.ref ashown_amount)
  bshown_amount : Binds K dshown_amount Pshown_amount []
  aread_amount : Addr
  dread_amount : FuncData
  Fread_amount : Fun K "read_amount" "read_amount" sread_amount aread_amount dread_amount
  gread_amount : mg "read_amount" = some (.ref aread_amount)
  bread_amount : Binds K dread_amount Pread_amount []
  aare_figures : Addr
  dare_figures : FuncData
  Fare_figures : Fun K "are_figures" "are_figures" sare_figures aare_figures dare_figures
  gare_figures : mg "are_figures" = some (.ref aare_figures)
  bare_figures : Binds K dare_figures Pare_figures []
  a_law_cell : Addr
  d_law_cell : FuncData
  F_law_cell : Fun K "_law_cell" "_law_cell" s_law_cell a_law_cell d_law_cell
  g_law_cell : mg "_law_cell" = some (.ref a_law_cell)
  b_law_cell : Binds K d_law_cell P_law_cell []
  a_law_mix : Addr
  d_law_mix : FuncData
  F_law_mix : Fun K "_law_mix" "_law_mix" s_law_mix a_law_mix d_law_mix
  g_law_mix : mg "_law_mix" = some (.ref a_law_mix)
  b_law_mix : Binds K d_law_mix P_law_mix []
  a_law_amount : Addr
  d_law_amount : FuncData
  F_law_amount : Fun K "_law_amount" "_law_amount" s_law_amount a_law_amount d_law_amount
  g_law_amount : mg "_law_amount" = some (.ref a_law_amount)
  b_law_amount : Binds K d_law_amount P_law_amount []
  a_law_nearest : Addr
  d_law_nearest : FuncData
  F_law_nearest : Fun K "_law_nearest" "_law_nearest" s_law_nearest a_law_nearest d_law_nearest
  g_law_nearest : mg "_law_nearest" = some (.ref a_law_nearest)
  b_law_nearest : Binds K d_law_nearest P_law_nearest []
  a_law_written : Addr
  d_law_written : FuncData
  F_law_written : Fun K "_law_written" "_law_written" s_law_written a_law_written d_law_written
  g_law_written : mg "_law_written" = some (.ref a_law_written)
  b_law_written : Binds K d_law_written P_law_written []
  a_law_figures : Addr
  d_law_figures : FuncData
  F_law_figures : Fun K "_law_figures" "_law_figures" s_law_figures a_law_figures d_law_figures
  g_law_figures : mg "_law_figures" = some (.ref a_law_figures)
  b_law_figures : Binds K d_law_figures P_law_figures []
  a_law_read : Addr
  d_law_read : FuncData
  F_law_read : Fun K "_law_read" "_law_read" s_law_read a_law_read d_law_read
  g_law_read : mg "_law_read" = some (.ref a_law_read)
  b_law_read : Binds K d_law_read P_law_read []
  a_law_signs : Addr
  d_law_signs : FuncData
  F_law_signs : Fun K "_law_signs" "_law_signs" s_law_signs a_law_signs d_law_signs
  g_law_signs : mg "_law_signs" = some (.ref a_law_signs)
  b_law_signs : Binds K d_law_signs P_law_signs []
  a_law_alphabet : Addr
  d_law_alphabet : FuncData
  F_law_alphabet : Fun K "_law_alphabet" "_law_alphabet" s_law_alphabet a_law_alphabet d_law_alphabet
  g_law_alphabet : mg "_law_alphabet" = some (.ref a_law_alphabet)
  b_law_alphabet : Binds K d_law_alphabet P_law_alphabet []
  a_law_free : Addr
  d_law_free : FuncData
  F_law_free : Fun K "_law_free" "_law_free" s_law_free a_law_free d_law_free
  g_law_free : mg "_law_free" = some (.ref a_law_free)
  b_law_free : Binds K d_law_free P_law_free []
  a_law_whole_part : Addr
  d_law_whole_part : FuncData
  F_law_whole_part : Fun K "_law_whole_part" "_law_whole_part" s_law_whole_part a_law_whole_part d_law_whole_part
  g_law_whole_part : mg "_law_whole_part" = some (.ref a_law_whole_part)
  b_law_whole_part : Binds K d_law_whole_part P_law_whole_part []
  a_law_rest : Addr
  d_law_rest : FuncData
  F_law_rest : Fun K "_law_rest" "_law_rest" s_law_rest a_law_rest d_law_rest
  g_law_rest : mg "_law_rest" = some (.ref a_law_rest)
  b_law_rest : Binds K d_law_rest P_law_rest []
  a_law_form : Addr
  d_law_form : FuncData
  F_law_form : Fun K "_law_form" "_law_form" s_law_form a_law_form d_law_form
  g_law_form : mg "_law_form" = some (.ref a_law_form)
  b_law_form : Binds K d_law_form P_law_form []
  a_law_padded : Addr
  d_law_padded : FuncData
  F_law_padded : Fun K "_law_padded" "_law_padded" s_law_padded a_law_padded d_law_padded
  g_law_padded : mg "_law_padded" = some (.ref a_law_padded)
  b_law_padded : Binds K d_law_padded P_law_padded []
  a_law_spoilt : Addr
  d_law_spoilt : FuncData
  F_law_spoilt : Fun K "_law_spoilt" "_law_spoilt" s_law_spoilt a_law_spoilt d_law_spoilt
  g_law_spoilt : mg "_law_spoilt" = some (.ref a_law_spoilt)
  b_law_spoilt : Binds K d_law_spoilt P_law_spoilt []
  a_law_text : Addr
  d_law_text : FuncData
  F_law_text : Fun K "_law_text" "_law_text" s_law_text a_law_text d_law_text
  g_law_text : mg "_law_text" = some (.ref a_law_text)
  b_law_text : Binds K d_law_text P_law_text []
  a_law_same : Addr
  d_law_same : FuncData
  F_law_same : Fun K "_law_same" "_law_same" s_law_same a_law_same d_law_same
  g_law_same : mg "_law_same" = some (.ref a_law_same)
  b_law_same : Binds K d_law_same P_law_same []
  alaw : Addr
  dlaw : FuncData
  Flaw : Fun K "law" "law" slaw alaw dlaw
  glaw : mg "law" = some (.ref alaw)
  blaw : Binds K dlaw Plaw []
  t_SCALE : Tok
  m_SCALE : mg "SCALE" = some (.int 1000000 t_SCALE)
  t_GREATEST : Tok
  m_GREATEST : mg "GREATEST" = some (.int 999999999999999999999 t_GREATEST)
  t_FIGURES_AHEAD : Tok
  m_FIGURES_AHEAD : mg "FIGURES_AHEAD" = some (.int 15 t_FIGURES_AHEAD)
  t_FIGURES_BEHIND : Tok
  m_FIGURES_BEHIND : mg "FIGURES_BEHIND" = some (.int 12 t_FIGURES_BEHIND)
  z_abs : mg "abs" = none
  z_bool : mg "bool" = none
  z_divmod : mg "divmod" = none
  z_int : mg "int" = none
  z_isinstance : mg "isinstance" = none
  z_len : mg "len" = none
  z_range : mg "range" = none
  z_str : mg "str" = none
/-! ### the mathematics -/
theorem merge2 {G : Prop} {C : Str → Bool → Prop} (R : Str → V → Prop) (tail : ∀ U vb b, vb = V.bl b → C U b → R U vb) (rest : (∀ U vb b, vb = V.bl b → C U b → R U vb) → G) : G := rest tail

/-- an amount, or NUM -/
def lim (n : Int) : V := if -1000000000000000000000 < n ∧ n < 1000000000000000000000 then .int n else .str "NUM"
theorem lim_in {n : Int} (h : -1000000000000000000000 < n ∧ n < 1000000000000000000000) : lim n = .int n := if_pos h
theorem lim_out {n : Int} (h : ¬ (-1000000000000000000000 < n ∧ n < 1000000000000000000000)) : lim n = .str "NUM" := if_neg h
def Flat (x : V) : Prop := (∃ i, x = .int i) ∨ ∃ s, x = .str s
theorem lim_flat (n : Int) : Flat (lim n) := by
  unfold lim
  split
  · exact Or.inl ⟨_, rfl⟩
  · exact Or.inr ⟨_, rfl⟩

/-- the integer nearest to a / b, of two equally near ones the even one -/
def near (a b : Int) : Int := if 2 * (a % b) > b then a / b + 1 else if 2 * (a % b) = b then a / b + a / b % 2 else a / b

theorem atI_some {α : Type} {xs : List α} {i : Int} (h0 : 0 ≤ i) (h1 : i < (xs.length : Int)) : ∃ v, v ∈ xs ∧ atI xs i = some v := by
  obtain ⟨n, rfl⟩ := Int.eq_ofNat_of_zero_le h0
  have h2 : n < xs.length := by omega
  exact ⟨xs[n], List.getElem_mem h2, atI_nat (List.getElem?_eq_getElem h2)⟩
theorem atI_at {α : Type} {xs : List α} {i : Int} {n : Nat} (e : i = (n : Int)) {v : α} (h : xs[n]? = some v) : atI xs i = some v := by
  rw [e]
  exact atI_nat h
theorem sqT_ty {K : PySem.W.Frag} {H : Hp} {p : Addr} {xs : List V} (h : SqT K H p xs) : TyX K H (.ref p) (.type "tuple") := by
  rcases h with (h | ⟨o, h⟩) | ⟨o, its, n, e, c, _⟩
  · exact .base (.tup h)
  · exact .fTuple h
  · exact .kTuple e c
theorem sqL_ty {K : PySem.W.Frag} {H : Hp} {p : Addr} {xs : List V} (h : SqL K H p xs) : TyX K H (.ref p) (.type "list") := by
  rcases h with (h | ⟨o, h⟩) | ⟨o, its, n, e, c, _⟩
  · exact .base (.lst h)
  · exact .base (.frz h)
  · exact .kList e c
/-- isinstance: flat values, tuples, lists -/
theorem call_isiR {X : Cx} : CallR X (.builtin "isinstance") (fun xs H Q => (∃ x n b, xs = [x, .ty n] ∧ isiV x n = some b ∧ Q (.bl b) H) ∨ (∃ p ys n b, xs = [.ref p, .ty n] ∧ SqT X.K H p ys ∧ kitB "tuple" n = some b ∧ Q (.bl b) H) ∨ ∃ p ys n b, xs = [.ref p, .ty n] ∧ SqL X.K H p ys ∧ kitB "list" n = some b ∧ Q (.bl b) H) := by
  intro pins s σ H xs us Q I r h
  rcases h with h | ⟨p, ys, n, b, rfl, hp, e, q⟩ | ⟨p, ys, n, b, rfl, hp, e, q⟩
  · exact call_isiV pins s σ H xs us Q I r h
  · exact call_isi pins s σ H _ us Q I r ⟨_, _, .type "tuple", _, _, rfl, .ty _, sqT_ty hp, kit_ty e, q⟩
  · exact call_isi pins s σ H _ us Q I r ⟨_, _, .type "list", _, _, rfl, .ty _, sqL_ty hp, kit_ty e, q⟩
theorem iteSN {x y : Str} {A B : Prop} (h : x ≠ y) (b : B) : if decide (V.str x = V.str y) = true then A else B := by
  rw [if_neg (fun z => h (V.str.inj (of_decide_eq_true z)))]
  exact b
theorem iteSNn {x y : Str} {A B : Prop} (h : x ≠ y) (a : A) : if (!decide (V.str x = V.str y)) = true then A else B := by
  rw [decide_eq_false (fun z => h (V.str.inj z))]
  exact iteT a
theorem iteSSn {x : Str} {A B : Prop} (b : B) : if (!decide (V.str x = V.str x)) = true then A else B := by
  rw [decide_eq_true rfl]
  exact iteF b
/-- a flat value -/
def Flat3 (x : V) : Prop := (∃ i, x = .int i) ∨ (∃ s, x = .str s) ∨ ∃ b, x = .bl b
/-- the tuples stand as they were -/
def TK (K : PySem.W.Frag) (H H' : Hp) : Prop := ∀ p xs, SqT K H p xs → SqT K H' p xs
theorem TK.refl {K : PySem.W.Frag} {H : Hp} : TK K H H := fun _ _ h => h
theorem TK.trans {K : PySem.W.Frag} {H H1 H2 : Hp} (a : TK K H H1) (b : TK K H1 H2) : TK K H H2 := fun p xs h => b p xs (a p xs h)
theorem same_tk {K : PySem.W.Frag} {H H' : Hp} (e : Same H H') : TK K H H' := by
  intro p xs h
  rcases h with (h | ⟨o, h⟩) | h
  · exact .inl (.inl (e _ _ h))
  · exact .inl (.inr ⟨o, e _ _ h⟩)
  · exact .inr h
theorem but_tk {K : PySem.W.Frag} {H H' : Hp} {b : Addr} {ys : List V} (h : H b = some (.lst ys)) (e : ∀ a o, a ≠ b → H a = some o → H' a = some o) : TK K H H' := by
  intro p xs q
  rcases q with (q | ⟨o, q⟩) | q
  · exact .inl (.inl (e _ _ (ne_of q h (fun z => nomatch z)) q))
  · exact .inl (.inr ⟨o, e _ _ (ne_of q h (fun z => nomatch z)) q⟩)
  · exact .inr q
theorem upd_but {H : Hp} {b : Addr} {u : HO} : ∀ a o, a ≠ b → H a = some o → upd H b u a = some o := fun a o n e => by
  rw [upd_ne n]
  exact e
theorem lst_tk {K : PySem.W.Frag} {H : Hp} {b : Addr} {ys zs : List V} (h : H b = some (.lst ys)) : TK K H (upd H b (.lst zs)) := but_tk h upd_but
theorem same_put {H H' : Hp} {D : Addr} {o : HO} (e : Same H H') (h : H D = none) : Same H (upd H' D o) := fun a x q => by
  rw [upd_ne (ne_of_none q h)]
  exact e _ _ q
/-- likeness, so deep -/
def Al (K : PySem.W.Frag) : Nat → Hp → V → V → Prop
  | 0, _, _, _ => False
  | n + 1, H, x, y => (Flat3 x ∧ x = y) ∨ ∃ (p q : Addr) (xs ys : List V), x = .ref p ∧ y = .ref q ∧ SqT K H p xs ∧ SqT K H q ys ∧ (xs.length = ys.length ∧ ys.length ≤ 5000) ∧ ∀ (k : Nat) (a b : V), xs[k]? = some a → ys[k]? = some b → Al K n H a b
theorem Al.flat {K : PySem.W.Frag} {n : Nat} {H : Hp} {x : V} (h : Flat3 x) : Al K (n + 1) H x x := Or.inl ⟨h, rfl⟩
theorem Al.tup {K : PySem.W.Frag} {n : Nat} {H : Hp} {p q : Addr} {xs : List V} (hl : xs.length ≤ 5000) (hp : SqT K H p xs) (hq : SqT K H q xs) (h : ∀ x ∈ xs, Al K n H x x) : Al K (n + 1) H (.ref p) (.ref q) :=
  Or.inr ⟨p, q, xs, xs, rfl, rfl, hp, hq, ⟨rfl, hl⟩, fun k a b e1 e2 => by
    obtain rfl := Option.some.inj (e1.symm.trans e2)
    exact h _ (List.mem_of_getElem? e1)⟩
/-- a scalar -/
def Sca (K : PySem.W.Frag) (H : Hp) (x : V) : Prop := ∃ p k rest, x = .ref p ∧ SqT K H p (.str k :: rest) ∧ k ≠ ("array" : Str) ∧ rest.length ≤ 20 ∧ ∀ y ∈ rest, Flat3 y
theorem Sca.keep {K : PySem.W.Frag} {H H' : Hp} {x : V} (e : TK K H H') (h : Sca K H x) : Sca K H' x := by
  obtain ⟨p, k, rest, rfl, a, b, c⟩ := h
  exact ⟨p, k, rest, rfl, e _ _ a, b, c⟩
theorem Sca.al {K : PySem.W.Frag} {H : Hp} {x : V} (n : Nat) (h : Sca K H x) : Al K (n + 2) H x x := by
  obtain ⟨p, k, rest, rfl, a, b, l, c⟩ := h
  refine Al.tup (by rw [List.length_cons]; omega) a a fun y hy => Al.flat ?_
  rcases List.mem_cons.mp hy with rfl | hy
  · exact Or.inr (Or.inl ⟨_, rfl⟩)
  · exact c y hy
theorem sca1 {K : PySem.W.Frag} {H : Hp} {p : Addr} {k : Str} (h : k ≠ ("array" : Str)) : Sca K (upd H p (.tup [.str k])) (.ref p) := ⟨p, k, [], rfl, SqT.of upd_same, h, by decide, fun y hy => by cases hy⟩
theorem sca2 {K : PySem.W.Frag} {H : Hp} {p : Addr} {k : Str} {x : V} (h : k ≠ ("array" : Str)) (hx : Flat3 x) : Sca K (upd H p (.tup [.str k, x])) (.ref p) := ⟨p, k, [x], rfl, SqT.of upd_same, h, (show 1 ≤ 20 by decide), fun y hy => by
  rcases List.mem_cons.mp hy with rfl | hy
  · exact hx
  · cases hy⟩
/-- all the signs -/
def SG : Str := (" !\"#$&'()*+,-./0123456789:;<=>?@ABCDEFGHIJKLMNOPQRSTUVWXYZ[\\]^_`" : Str) ++ ("abcdefghijklmnopqrstuvwxyz{|}~" : Str)
theorem sg_len : SG.cps.toList.length = 94 := by decide +kernel
theorem sg_line : SG.length ≤ sizeLine := by decide +kernel
theorem sg_at {n : Int} (h0 : 0 ≤ n) (h1 : n < 94) : ∃ c, atI SG.cps.toList n = some c := by
  obtain ⟨c, _, e⟩ := atI_some (xs := SG.cps.toList) h0 (by rw [sg_len]; exact h1)
  exact ⟨c, e⟩
theorem ones_sum : ∀ (zs : List Str), (∀ z ∈ zs, z.length = 1) → (zs.map (·.length)).sum = zs.length
  | [], _ => rfl
  | z :: zs, h => by
    rw [List.map_cons, List.sum_cons, ones_sum zs (fun y hy => h y (List.mem_cons_of_mem _ hy)), h z (List.mem_cons_self ..), List.length_cons]
    omega
theorem ones_join {zs : List Str} (h : ∀ z ∈ zs, z.length = 1) (hl : zs.length ≤ 1000) : (zs.map (·.length)).sum + zs.length * ("" : Str).length ≤ 16777216 := by
  rw [ones_sum zs h, show ("" : Str).length = 0 from by decide +kernel]
  omega
/-- the box of draws -/
def BoxAt (b : Addr) (H : Hp) : Prop := ∃ c d z : Int, H b = some (.lst [.int c, .int d, .int z])
def Bx (b : Addr) (H H' : Hp) : Prop := (∀ a o, a ≠ b → H a = some o → H' a = some o) ∧ BoxAt b H'
theorem Bx.refl {b : Addr} {H : Hp} (h : BoxAt b H) : Bx b H H := ⟨fun _ _ _ e => e, h⟩
theorem Bx.trans {b : Addr} {H H1 H2 : Hp} (x : Bx b H H1) (y : Bx b H1 H2) : Bx b H H2 := ⟨fun a o n e => y.1 a o n (x.1 a o n e), y.2⟩
theorem Bx.bat {b : Addr} {H H1 : Hp} (x : Bx b H H1) : BoxAt b H1 := x.2
theorem BoxAt.ne {b p : Addr} {H : Hp} (x : BoxAt b H) (h : H p = none) : b ≠ p := by
  obtain ⟨c, d, z, e⟩ := x
  exact ne_of_none e h
theorem BoxAt.new {b p : Addr} {H : Hp} {o : HO} (x : BoxAt b H) (h : H p = none) : BoxAt b (upd H p o) := by
  have n := x.ne h
  obtain ⟨c, d, z, e⟩ := x
  exact ⟨c, d, z, by rw [upd_ne n]; exact e⟩
theorem Bx.same {b : Addr} {H H1 H2 : Hp} (x : Bx b H H1) (y : Same H1 H2) : Bx b H H2 := by
  obtain ⟨x1, c, d, z, e⟩ := x
  exact ⟨fun a o n e => y _ _ (x1 a o n e), c, d, z, y _ _ e⟩
theorem Bx.new {b p : Addr} {H H1 : Hp} {o : HO} (x : Bx b H H1) (h : H1 p = none) : Bx b H (upd H1 p o) := x.same (same_upd h)
theorem Bx.put {b : Addr} {H H1 : Hp} {c d z : Int} (x : Bx b H H1) : Bx b H (upd H1 b (.lst [.int c, .int d, .int z])) := ⟨fun a o n e => by
  rw [upd_ne n]
  exact x.1 a o n e, c, d, z, upd_same⟩
theorem Bx.tk {K : PySem.W.Frag} {b : Addr} {H H1 : Hp} (x : Bx b H H1) (h : BoxAt b H) : TK K H H1 := by
  obtain ⟨c, d, z, e⟩ := h
  exact but_tk e x.1
/-- a new list beside the box, longer by one -/
theorem Bx.more {b D : Addr} {H0 H : Hp} {o : HO} (x : Bx b H0 H) (hD : H0 D = none) (n : b ≠ D) : Bx b H0 (upd H D o) := by
  obtain ⟨x1, c, d, z, e⟩ := x
  refine ⟨fun a o m q => ?_, c, d, z, by rw [upd_ne n]; exact e⟩
  rw [upd_ne (ne_of_none q hD)]
  exact x1 a o m q
theorem Bx.back {b D : Addr} {H0 H : Hp} (x : Bx b H0 H) (h : BoxAt b H0) (hD : H D = none) : H0 D = none ∧ b ≠ D := by
  have n := x.2.ne hD
  refine ⟨?_, n⟩
  cases q : H0 D with
  | none => rfl
  | some o =>
    rw [x.1 D o (Ne.symm n) q] at hD
    cases hD

open TL SX NumText
/-- z * n -/
def repS (z : Str) (n : Nat) : Str := S (List.replicate n (tl z)).flatten
theorem foldl_cat (a : Array Nat) : ∀ (n : Nat) (b : Array Nat), ((List.replicate n a).foldl (· ++ ·) b).toList = b.toList ++ (List.replicate n a.toList).flatten
  | 0, b => by simp
  | n + 1, b => by
    rw [List.replicate_succ, List.foldl_cons, foldl_cat a n, List.replicate_succ, List.flatten_cons, Array.toList_append, List.append_assoc]
theorem rep_len (l : List Nat) : ∀ n : Nat, (List.replicate n l).flatten.length = l.length * n
  | 0 => rfl
  | n + 1 => by
    rw [List.replicate_succ, List.flatten_cons, List.length_append, rep_len l n, Nat.mul_succ, Nat.add_comm]
theorem repS_len (z : Str) (n : Nat) : (repS z n).length = z.length * n := by
  rw [len_tl, len_tl]
  exact rep_len (tl z) n
theorem op_repS {X : Cx} : OpR X (binaryOp .Mult) (fun x y H Q => ∃ (z : Str) (k : Int), x = .str z ∧ y = .int k ∧ ((-1000000 ≤ k ∧ k ≤ 1000000) ∧ z.length ≤ 16) ∧ Q (.str (repS z k.toNat)) H) := by
  intro pins s σ H x y v u Q I rx ry h
  obtain ⟨z, k, rfl, rfl, ⟨⟨h1, h2⟩, h3⟩, q⟩ := h
  obtain ⟨t, rfl⟩ := rx
  obtain ⟨t', rfl⟩ := ry
  have h4 : z.length * k.toNat ≤ 16 * 1000000 := Nat.mul_le_mul h3 (by omega)
  refine PySem.P.mul_str ?_ (fun a _ => ?_) (fun a _ => ?_) ?_
  · rw [decide_eq_false (by omega), decide_eq_false (by omega)]
    rfl
  · have b : (z.length : Int) ≤ (2 ^ 63 - 1) / k := by
      rw [Int.le_ediv_iff_mul_le (by omega)]
      have c : (z.length : Int) * k ≤ 16 * 1000000 := Int.mul_le_mul (by omega) h2 (by omega) (by decide)
      omega
    omega
  · show decide (_ > sizeLine) = false
    rw [sizeLine_eq]
    exact decide_eq_false (by omega)
  · by_cases a : k < 1
    · rw [if_pos a]
      have e : repS z k.toNat = Str.empty := by
        rw [show k.toNat = 0 by omega]
        rfl
      rw [e] at q
      exact ⟨by decide, .str _, H, I.tok _, ⟨_, rfl⟩, q⟩
    · rw [if_neg a]
      by_cases b : (k == 1 || z.length == 0) = true
      · rw [if_pos b]
        have e : repS z k.toNat = z := by
          refine ext_tl ?_
          show (List.replicate k.toNat (tl z)).flatten = tl z
          rcases Bool.or_eq_true_iff.mp b with c | c
          · rw [show k.toNat = 1 by have := eq_of_beq c; omega]
            simp
          · have c2 : tl z = [] := List.eq_nil_of_length_eq_zero (by rw [← len_tl]; exact eq_of_beq c)
            rw [c2]
            exact List.eq_nil_of_length_eq_zero (by rw [rep_len]; exact Nat.zero_mul _)
        rw [e] at q
        exact ⟨.str _, H, I, ⟨_, rfl⟩, q⟩
      · rw [if_neg b]
        have e : (⟨(List.replicate k.toNat z.cps).foldl (· ++ ·) #[]⟩ : Str) = repS z k.toNat := ext_tl (by
          show ((List.replicate k.toNat z.cps).foldl (· ++ ·) #[]).toList = (List.replicate k.toNat (tl z)).flatten
          rw [foldl_cat]
          rfl)
        rw [e]
        refine ⟨?_, .str _, H, I.tok _, ⟨_, rfl⟩, q⟩
        rw [repS_len, sizeLine_eq]
        omega
theorem one_of {z : Str} {c : Nat} (h : tl z = [c]) : z = ⟨#[c]⟩ := ext_tl h
theorem mt_ljustF {X : Cx} : MtR X "str.ljust" (fun x xs H Q => ∃ (a f : Str) (i : Int) (c : Nat), x = .str a ∧ xs = [.int i, .str f] ∧ tl f = [c] ∧ PadOk i = true ∧ Q (.str (Txt.ljustF a i c)) H) := by
  intro pins s σ H x xs v us Q I rx rs h
  obtain ⟨a, f, i, c, rfl, rfl, hf, hc, h⟩ := h
  obtain rfl := one_of hf
  obtain ⟨t, rfl⟩ := rx
  cases rs with
  | cons r1 rs =>
    cases rs with
    | cons r2 rs =>
      cases rs
      obtain ⟨u, rfl⟩ := r1
      obtain ⟨z, rfl⟩ := r2
      exact ljust_fill hc rfl fun t' k => ⟨.str _, H, I.tok k, ⟨_, rfl⟩, h⟩
def isD (c : Nat) : Bool := decide (48 ≤ c) && decide (c ≤ 57)
theorem digit_ascii : ∀ c : Nat, c < 128 → Unicode.isDigit c = isD c := by decide +kernel
/-- as many figures, no other sign -/
def figs (l : List Nat) (most : Int) : Bool := l.all isD && decide (1 ≤ l.length) && decide ((l.length : Int) ≤ most)
theorem isD_iff {c : Nat} : isD c = true ↔ 48 ≤ c ∧ c ≤ 57 := by
  unfold isD
  rw [Bool.and_eq_true, decide_eq_true_eq, decide_eq_true_eq]
theorem all_digits {l : List Nat} (h : l.all isD = true) : AllDigits l := fun c hc => isD_iff.mp (List.all_eq_true.mp h c hc)
theorem digits_all {l : List Nat} (h : AllDigits l) : l.all isD = true := List.all_eq_true.mpr fun c hc => isD_iff.mpr (h c hc)
theorem figs_code (z : Str) (most : Int) : (Txt.isascii z && (Txt.isdigit z && decide ((z.length : Int) ≤ most))) = figs (tl z) most := by
  unfold Txt.isascii Txt.isdigit figs
  rw [← Array.all_toList, ← Array.all_toList, ← len_tl]
  have e : ((tl z).all (· < 128) && (tl z).all Unicode.isDigit) = (tl z).all isD := by
    cases h : (tl z).all (· < 128) with
    | true =>
      rw [Bool.true_and]
      refine Bool.eq_iff_iff.mpr ⟨fun k => List.all_eq_true.mpr fun c hc => ?_, fun k => List.all_eq_true.mpr fun c hc => ?_⟩
      · rw [← digit_ascii c (of_decide_eq_true (List.all_eq_true.mp h c hc))]
        exact List.all_eq_true.mp k c hc
      · rw [digit_ascii c (of_decide_eq_true (List.all_eq_true.mp h c hc))]
        exact List.all_eq_true.mp k c hc
    | false =>
      rw [Bool.false_and]
      refine (Bool.eq_false_iff.mpr fun k => ?_).symm
      refine (Bool.eq_false_iff.mp h) (List.all_eq_true.mpr fun c hc => decide_eq_true ?_)
      have := isD_iff.mp (List.all_eq_true.mp k c hc)
      omega
  rw [← e]
  have e2 : decide (z.length > 0) = decide (1 ≤ z.length) := rfl
  rw [e2]
  cases (tl z).all (· < 128) <;> cases (tl z).all Unicode.isDigit <;> cases decide (1 ≤ z.length) <;> cases decide ((z.length : Int) ≤ most) <;> rfl

theorem str_empty : Str.empty = S [] := rfl
theorem e_none : (Str.ofString "") = S [] := by decide +kernel
theorem e_zero : (Str.ofString "0") = S [48] := by decide +kernel
theorem e_minus : (Str.ofString "-") = S [45] := by decide +kernel
theorem e_plus : (Str.ofString "+") = S [43] := by decide +kernel
theorem e_dot : (Str.ofString ".") = S [46] := by decide +kernel
theorem e_blank : (Str.ofString " ") = S [32] := by decide +kernel
theorem starts_S (l : List Nat) (c : Nat) : Txt.startswith (S l) (S [c]) = decide (l.head? = some c) := by
  unfold Txt.startswith Builtin.Str.subAt
  cases l with
  | nil => rfl
  | cons a l =>
    have h1 : (S (a :: l)).length = l.length + 1 := S_len (a :: l)
    have h2 : (S [c]).length = 1 := S_len [c]
    rw [h1, h2, decide_eq_true (show 0 + 1 ≤ l.length + 1 by omega), Bool.true_and]
    have e : (S (a :: l)).cps.extract 0 (0 + 1) = #[a] := Array.toList_inj.mp (by rw [Array.toList_extract]; rfl)
    rw [e]
    by_cases k : a = c
    · rw [k]
      simp
    · have k2 : (#[a] == (S [c]).cps) = false := by
        refine beq_eq_false_iff_ne.mpr fun z => k ?_
        have z2 := congrArg Array.toList z
        exact (List.cons.inj z2).1
      rw [k2]
      exact (decide_eq_false (fun z => k (Option.some.inj z))).symm
theorem cut_one (l : List Nat) : cutS (S l) (some 1) none = S (l.drop 1) := by
  have h1 : (S l).length = l.length := S_len l
  unfold cutS
  rw [h1, show HT.sIx l.length 0 (some 1) = min 1 l.length from HT.sIx_nat l.length 0 1, HT.sIx_none]
  refine congrArg S ?_
  show (l.drop (min 1 l.length)).take (l.length - min 1 l.length) = l.drop 1
  cases l with
  | nil => rfl
  | cons a l =>
    rw [List.length_cons, Nat.min_eq_left (by omega), List.drop_one, List.tail_cons]
    exact List.take_of_length_le (by omega)
theorem cut_head (l : List Nat) : cutS (S l) none (some 1) = S (l.take 1) := by
  have h1 : (S l).length = l.length := S_len l
  unfold cutS
  rw [h1, show HT.sIx l.length l.length (some 1) = min 1 l.length from HT.sIx_nat l.length l.length 1, HT.sIx_none]
  refine congrArg S ?_
  show (l.drop 0).take (min 1 l.length - 0) = l.take 1
  cases l with
  | nil => rfl
  | cons a l => rw [List.length_cons, Nat.min_eq_left (by omega)]; rfl
theorem head_starts (u : Str) (c : Nat) : decide (V.str (cutS u none (some 1)) = V.str (S [c])) = Txt.startswith u (S [c]) := by
  rw [← S_tl u]
  generalize u.cps.toList = l
  rw [cut_head, starts_S]
  refine decide_eq_decide.mpr ⟨fun h => ?_, fun h => ?_⟩
  · have k := S_inj (V.str.inj h)
    cases l with
    | nil => cases k
    | cons a l => rw [(List.cons.inj k).1]; rfl
  · cases l with
    | nil => cases h
    | cons a l => rw [← Option.some.inj h]; rfl
theorem tw_none {p : Nat → Bool} {l : List Nat} (h : ∀ c ∈ l, p c = false) : l.takeWhile p = [] := by
  cases l with
  | nil => rfl
  | cons a l => rw [List.takeWhile_cons, h a (List.mem_cons_self ..)]; rfl
theorem strip_free {l : List Nat} {c : Nat} (h : c ∉ l) : Txt.stripChars (S l) (S [c]) = S l := by
  have hp : ∀ d ∈ l, (S [c]).cps.contains d = false := fun d hd => by
    cases k : (S [c]).cps.contains d with
    | false => rfl
    | true =>
      have e : d = c := by simpa [S] using k
      rw [e] at hd
      exact absurd hd h
  unfold Txt.stripChars
  rw [stripBy_eq]
  have lo : stripLo (S [c]).cps.contains true (S l) = 0 := by
    show (l.takeWhile _).length = 0
    rw [tw_none hp]
    rfl
  have hi : stripHi (S [c]).cps.contains true (S l) 0 = l.length := by
    show (S l).length - ((l.drop 0).reverse.takeWhile _).length = l.length
    rw [List.drop_zero, tw_none (fun d hd => hp d (List.mem_reverse.mp hd)), S_len]
    rfl
  rw [lo, hi]
  refine ext_tl ?_
  rw [tl_strSub]
  exact List.take_of_length_le (Nat.le_refl _)
/-- without noughts at the end -/
def zt (l : List Nat) : List Nat := l.take (l.length - (l.reverse.takeWhile (· == 48)).length)
theorem rstrip_S (l : List Nat) : Txt.rstripChars (S l) (S [48]) = S (zt l) := by
  unfold Txt.rstripChars
  rw [stripBy_eq]
  have hp : ((S [48]).cps.contains : Nat → Bool) = (· == 48) := by
    funext d
    rw [Bool.eq_iff_iff]
    simp [S]
  rw [hp]
  have lo : stripLo (· == 48) false (S l) = 0 := rfl
  have hi : stripHi (· == 48) true (S l) 0 = l.length - (l.reverse.takeWhile (· == 48)).length := by
    show (S l).length - ((l.drop 0).reverse.takeWhile _).length = _
    rw [S_len]
    rfl
  rw [lo, hi]
  refine ext_tl ?_
  rw [tl_strSub]
  rfl
theorem tw_all {p : Nat → Bool} : ∀ l : List Nat, ∀ c ∈ l.takeWhile p, p c = true
  | [], c, h => by cases h
  | a :: l, c, h => by
    rw [List.takeWhile_cons] at h
    cases e : p a with
    | true =>
      rw [e] at h
      rcases List.mem_cons.mp h with rfl | h
      · exact e
      · exact tw_all l c h
    | false => rw [e] at h; cases h
theorem zt_back (l : List Nat) : l = zt l ++ List.replicate (l.length - (zt l).length) 48 := by
  have h1 : (l.reverse.takeWhile (· == 48)).length ≤ l.length := by
    have a := (List.takeWhile_sublist (l := l.reverse) (· == 48)).length_le
    rw [List.length_reverse] at a
    exact a
  have h2 : (zt l).length = l.length - (l.reverse.takeWhile (· == 48)).length := by
    unfold zt
    rw [List.length_take]
    omega
  have h3 : l.drop (l.length - (l.reverse.takeWhile (· == 48)).length) = (l.reverse.takeWhile (· == 48)).reverse := by
    have a := List.takeWhile_append_dropWhile (p := (· == 48)) (l := l.reverse)
    have b := congrArg List.reverse a
    rw [List.reverse_append, List.reverse_reverse] at b
    conv => lhs; arg 2; rw [← b]
    rw [List.drop_append, List.drop_of_length_le, List.nil_append]
    · have c : l.length - (l.reverse.takeWhile (· == 48)).length - ((l.reverse.dropWhile (· == 48)).reverse).length = 0 := by
        have d := congrArg List.length b
        rw [List.length_append, List.length_reverse, List.length_reverse] at d
        rw [List.length_reverse]
        omega
      rw [c]
      rfl
    · have d := congrArg List.length b
      rw [List.length_append, List.length_reverse, List.length_reverse] at d
      rw [List.length_reverse]
      omega
  have h4 : (l.reverse.takeWhile (· == 48)).reverse = List.replicate (l.length - (zt l).length) 48 := by
    refine List.eq_replicate_iff.mpr ⟨?_, fun c hc => ?_⟩
    · rw [List.length_reverse, h2]
      omega
    · exact eq_of_beq (tw_all _ c (List.mem_reverse.mp hc))
  conv => lhs; rw [← List.take_append_drop (l.length - (l.reverse.takeWhile (· == 48)).length) l]
  rw [h3, h4]
  rfl
/-- six figures -/
def pad6 (r : Nat) : List Nat := [48 + r / 100000 % 10, 48 + r / 10000 % 10, 48 + r / 1000 % 10, 48 + r / 100 % 10, 48 + r / 10 % 10, 48 + r % 10]
theorem num_mill {r : Nat} (h : r < 1000000) : numL (1000000 + r) = 49 :: pad6 r := by
  rw [numL_step (by omega), numL_step (by omega), numL_step (by omega), numL_step (by omega), numL_step (by omega), numL_step (by omega), numL_lt (by omega)]
  unfold pad6
  simp only [List.cons_append, List.nil_append, List.append_assoc, List.cons.injEq, and_true]
  omega
theorem zfill_six {r : Nat} (h : r < 1000000) : Txt.zfill (S (numL r)) 6 = S (pad6 r) := by
  have hd := numL_digits r
  unfold Txt.zfill
  rw [S_len]
  have z : ∀ k, zfilled (S (numL r)) k = S (List.replicate k 48 ++ numL r) := fun k => by
    have e : zfilled (S (numL r)) k = Builtin.Str.padded (S (numL r)) k 0 48 := by
      unfold zfilled
      split
      · rename_i q
        have m := hd 43 (by have := List.mem_of_getElem? (l := numL r) (i := 0) (by simpa [S] using q); exact this)
        omega
      · rename_i q
        have m := hd 45 (by have := List.mem_of_getElem? (l := numL r) (i := 0) (by simpa [S] using q); exact this)
        omega
      · rfl
    rw [e]
    refine ext_tl ?_
    show (Array.replicate k 48 ++ (S (numL r)).cps ++ Array.replicate 0 48).toList = _
    simp [S]
  have fin : ∀ k l, numL r = l → l.length + k = 6 → List.replicate k 48 ++ l = pad6 r → (if (6 : Int) ≤ ((numL r).length : Int) then S (numL r) else zfilled (S (numL r)) ((6 : Int).toNat - (numL r).length)) = S (pad6 r) := fun k l e1 e2 e3 => by
    have e4 : (numL r).length = l.length := congrArg List.length e1
    by_cases c : (6 : Int) ≤ ((numL r).length : Int)
    · rw [if_pos c, ← e3, e1, show k = 0 by omega]
      rfl
    · rw [if_neg c, z, show (6 : Int).toNat - (numL r).length = k by omega, e1, e3]
  by_cases h1 : r < 10
  · refine fin 5 [48 + r] (numL_lt h1) rfl ?_
    simp only [pad6, List.replicate, List.cons_append, List.nil_append, List.cons.injEq, and_true]
    omega
  by_cases h2 : r < 100
  · refine fin 4 [48 + r / 10, 48 + r % 10] (by rw [numL_step (by omega), numL_lt (by omega)]; rfl) rfl ?_
    simp only [pad6, List.replicate, List.cons_append, List.nil_append, List.cons.injEq, and_true]
    omega
  by_cases h3 : r < 1000
  · refine fin 3 [48 + r / 10 / 10, 48 + r / 10 % 10, 48 + r % 10] (by rw [numL_step (by omega), numL_step (by omega), numL_lt (by omega)]; rfl) rfl ?_
    simp only [pad6, List.replicate, List.cons_append, List.nil_append, List.cons.injEq, and_true]
    omega
  by_cases h4 : r < 10000
  · refine fin 2 [48 + r / 10 / 10 / 10, 48 + r / 10 / 10 % 10, 48 + r / 10 % 10, 48 + r % 10] (by rw [numL_step (by omega), numL_step (by omega), numL_step (by omega), numL_lt (by omega)]; rfl) rfl ?_
    simp only [pad6, List.replicate, List.cons_append, List.nil_append, List.cons.injEq, and_true]
    omega
  by_cases h5 : r < 100000
  · refine fin 1 [48 + r / 10 / 10 / 10 / 10, 48 + r / 10 / 10 / 10 % 10, 48 + r / 10 / 10 % 10, 48 + r / 10 % 10, 48 + r % 10] (by rw [numL_step (by omega), numL_step (by omega), numL_step (by omega), numL_step (by omega), numL_lt (by omega)]; rfl) rfl ?_
    simp only [pad6, List.replicate, List.cons_append, List.nil_append, List.cons.injEq, and_true]
    omega
  · refine fin 0 [48 + r / 10 / 10 / 10 / 10 / 10, 48 + r / 10 / 10 / 10 / 10 % 10, 48 + r / 10 / 10 / 10 % 10, 48 + r / 10 / 10 % 10, 48 + r / 10 % 10, 48 + r % 10] (by rw [numL_step (by omega), numL_step (by omega), numL_step (by omega), numL_step (by omega), numL_step (by omega), numL_lt (by omega)]; rfl) rfl ?_
    simp only [pad6, List.replicate, List.cons_append, List.nil_append, List.cons.injEq, and_true]
    omega
theorem pad6_digits (r : Nat) : AllDigits (pad6 r) := fun c hc => by
  simp only [pad6, List.mem_cons, List.not_mem_nil, or_false] at hc
  omega
theorem val_app (a b : List Nat) : digitsVal (a ++ b) = digitsVal a * 10 ^ b.length + digitsVal b := by
  have key : ∀ (b : List Nat) (s : Nat), b.foldl (fun acc c => acc * 10 + (c - 48)) s = s * 10 ^ b.length + b.foldl (fun acc c => acc * 10 + (c - 48)) 0 := by
    intro b
    induction b with
    | nil => intro s; simp
    | cons c b ih =>
      intro s
      rw [List.foldl_cons, List.foldl_cons, ih, ih (0 * 10 + (c - 48)), List.length_cons, Nat.pow_succ, Nat.add_mul, Nat.zero_mul, Nat.zero_add, Nat.mul_assoc, Nat.mul_comm 10, Nat.add_assoc]
  unfold digitsVal
  rw [List.foldl_append, key]
theorem val_pad6 {r : Nat} (h : r < 1000000) : digitsVal (pad6 r) = r := by
  simp only [digitsVal, pad6, List.foldl_cons, List.foldl_nil]
  omega
theorem val_noughts : ∀ n : Nat, digitsVal (List.replicate n 48) = 0
  | 0 => rfl
  | n + 1 => by
    rw [List.replicate_succ']
    rw [val_app, val_noughts n]
    rfl

/-- the signs of an amount -/
def showL (m : Int) : List Nat := (if m < 0 then [45] else []) ++ (numL (m.natAbs / 1000000) ++ (if m.natAbs % 1000000 = 0 then [] else 46 :: zt (pad6 (m.natAbs % 1000000))))
def readN (neg : Bool) (s : Int) : V := if 1000000000000000000000 ≤ s then .non else .int (if neg = true then -s else s)
def readP (neg : Bool) (P : Str × Str × Str) : V :=
  if figs (tl P.1) 15 = false then .non
  else if P.2.1 ≠ Str.empty ∧ figs (tl P.2.2) 12 = false then .non
  else readN neg (near (digitsVal (tl P.1 ++ tl P.2.2 ++ List.replicate (12 - (tl P.2.2).length) 48) : Nat) 1000000)
def unS (u : Str) : Str := if Txt.startswith u (S [45]) = true ∨ Txt.startswith u (S [43]) = true then cutS u (some 1) none else u
/-- the amount that a text tells, or none -/
def readV (z : Str) : V := readP (Txt.startswith (Txt.stripChars z (S [32])) (S [45])) (Txt.partition (unS (Txt.stripChars z (S [32]))) (S [46]))
theorem part_cases (u : Str) : (Txt.partition u (S [46])).2.1 = S [46] ∨ ((Txt.partition u (S [46])).2.1 = Str.empty ∧ (Txt.partition u (S [46])).2.2 = Str.empty) := by
  unfold Txt.partition
  split
  · exact Or.inl rfl
  · exact Or.inr ⟨rfl, rfl⟩
theorem near_exact (k : Int) : near (k * 1000000) 1000000 = k := by
  unfold near
  (repeat' split) <;> omega
theorem zt_sub {l : List Nat} {c : Nat} (h : c ∈ zt l) : c ∈ l := List.mem_of_mem_take h
theorem zt_len (l : List Nat) : (zt l).length ≤ l.length := by
  unfold zt
  rw [List.length_take]
  omega
theorem zt_ne {r : Nat} (h : r < 1000000) (h0 : r ≠ 0) : zt (pad6 r) ≠ [] := fun e => by
  have b := zt_back (pad6 r)
  rw [e, List.nil_append] at b
  have v := val_pad6 h
  rw [b, val_noughts] at v
  exact h0 v.symm
theorem figs_ok {l : List Nat} {k : Nat} (hd : AllDigits l) (h1 : l ≠ []) (h2 : l.length ≤ k) : figs l (k : Int) = true := by
  have h3 : 1 ≤ l.length := by
    cases l with
    | nil => exact absurd rfl h1
    | cons a l => exact Nat.succ_le_succ (Nat.zero_le _)
  unfold figs
  rw [digits_all hd, decide_eq_true h3, decide_eq_true (show (l.length : Int) ≤ (k : Int) by omega)]
  rfl
theorem head_num (w : Nat) : ∃ d l, numL w = d :: l ∧ 48 ≤ d ∧ d ≤ 57 := by
  have a := numL_digits w
  cases e : numL w with
  | nil => exact absurd e (numL_ne w)
  | cons d l =>
    rw [e] at a
    exact ⟨d, l, rfl, a.head⟩
theorem read_body {w r : Nat} (hw : w < 1000000000000000) (hr : r < 1000000) (neg : Bool) :
    readP neg (Txt.partition (S (numL w ++ (if r = 0 then [] else 46 :: zt (pad6 r)))) (S [46])) = .int (if neg = true then -((w * 1000000 + r : Nat) : Int) else ((w * 1000000 + r : Nat) : Int)) := by
  have dw := numL_digits w
  have lw : (numL w).length ≤ 15 := numL_len (by decide) (by rw [show (10 : Nat) ^ 15 = 1000000000000000 by decide]; exact hw)
  have hfree : (46 : Nat) ∉ numL w := numL_free (by omega)
  have fw : figs (numL w) 15 = true := figs_ok dw (numL_ne w) lw
  have fin : ∀ P : Str × Str × Str, tl P.1 = numL w → (P.2.1 = Str.empty ∨ figs (tl P.2.2) 12 = true) → digitsVal (tl P.1 ++ tl P.2.2 ++ List.replicate (12 - (tl P.2.2).length) 48) = (w * 1000000 + r) * 1000000 →
      readP neg P = .int (if neg = true then -((w * 1000000 + r : Nat) : Int) else ((w * 1000000 + r : Nat) : Int)) := fun P e1 e2 e3 => by
    unfold readP
    rw [e3, e1, if_neg (by rw [fw]; decide), if_neg (fun z => by
      rcases e2 with e2 | e2
      · exact z.1 e2
      · rw [e2] at z
        cases z.2), Int.natCast_mul, show ((1000000 : Nat) : Int) = 1000000 from rfl, near_exact]
    unfold readN
    rw [if_neg (by omega)]
  by_cases h0 : r = 0
  · rw [if_pos h0, List.append_nil, TL.partition_none (y := S [46]) (s := 46) (S := []) rfl (a := S (numL w)) hfree]
    refine fin _ rfl (Or.inl rfl) ?_
    show digitsVal (numL w ++ [] ++ List.replicate 12 48) = _
    rw [List.append_nil, val_app, val_noughts, numL_val, List.length_replicate, h0]
    omega
  · have e : S (numL w ++ (46 :: zt (pad6 r))) = S (numL w) ++ S [46] ++ S (zt (pad6 r)) := by
      rw [S_cat, S_cat, List.append_assoc]
      rfl
    rw [if_neg h0, e, TL.partition_app (y := S [46]) (s := 46) (S := []) rfl (a := S (numL w)) hfree]
    have lz : (zt (pad6 r)).length ≤ 6 := zt_len (pad6 r)
    refine fin _ rfl (Or.inr (figs_ok (fun c hc => pad6_digits r c (zt_sub hc)) (zt_ne hr h0) (show (zt (pad6 r)).length ≤ 12 by omega))) ?_
    show digitsVal (numL w ++ zt (pad6 r) ++ List.replicate (12 - (zt (pad6 r)).length) 48) = _
    have b : zt (pad6 r) ++ List.replicate (12 - (zt (pad6 r)).length) 48 = pad6 r ++ List.replicate 6 48 := by
      conv => rhs; rw [zt_back (pad6 r)]
      rw [List.append_assoc, List.replicate_append_replicate]
      have l6 : (pad6 r).length = 6 := rfl
      rw [l6, show 6 - (zt (pad6 r)).length + 6 = 12 - (zt (pad6 r)).length by omega]
    rw [List.append_assoc, b, val_app, val_app, val_noughts, val_pad6 hr, numL_val, List.length_append, List.length_replicate, show (pad6 r).length = 6 from rfl]
    omega
/-- what was written is read back -/
theorem read_show {m : Int} (h : -1000000000000000000000 < m ∧ m < 1000000000000000000000) : readV (S (showL m)) = .int m := by
  have hw : m.natAbs / 1000000 < 1000000000000000 := by omega
  have hr : m.natAbs % 1000000 < 1000000 := by omega
  have body := read_body hw hr
  obtain ⟨d, l, en, d1, d2⟩ := head_num (m.natAbs / 1000000)
  have nd := numL_digits (m.natAbs / 1000000)
  have free : (32 : Nat) ∉ showL m := fun z => by
    unfold showL at z
    rcases List.mem_append.mp z with z | z
    · split at z
      · simp at z
      · cases z
    · rcases List.mem_append.mp z with z | z
      · have := nd 32 z
        omega
      · split at z
        · cases z
        · rcases List.mem_cons.mp z with z | z
          · omega
          · have := pad6_digits _ 32 (zt_sub z)
            omega
  unfold readV
  rw [strip_free free, starts_S]
  unfold unS
  rw [starts_S, starts_S]
  by_cases hm : m < 0
  · have e : showL m = 45 :: (numL (m.natAbs / 1000000) ++ (if m.natAbs % 1000000 = 0 then [] else 46 :: zt (pad6 (m.natAbs % 1000000)))) := by
      unfold showL
      rw [if_pos hm]
      rfl
    rw [e, List.head?_cons, decide_eq_true rfl, if_pos (Or.inl rfl), cut_one, List.drop_one, List.tail_cons, body true, if_pos rfl]
    refine congrArg V.int ?_
    omega
  · have e : showL m = numL (m.natAbs / 1000000) ++ (if m.natAbs % 1000000 = 0 then [] else 46 :: zt (pad6 (m.natAbs % 1000000))) := by
      unfold showL
      rw [if_neg hm]
      rfl
    have eh : (showL m).head? = some d := by
      rw [e, en]
      rfl
    rw [eh, decide_eq_false (fun z => by have := Option.some.inj z; omega), decide_eq_false (fun z => by have := Option.some.inj z; omega), if_neg (by simp), e, body false, if_neg (by simp)]
    refine congrArg V.int ?_
    omega

theorem tens : tl (Str.ofString "0123456789") = [48, 49, 50, 51, 52, 53, 54, 55, 56, 57] := by decide +kernel
theorem mem_tens {c : Nat} : c ∈ (Str.ofString "0123456789").cps.toList ↔ isD c = true := by
  rw [show (Str.ofString "0123456789").cps.toList = [48, 49, 50, 51, 52, 53, 54, 55, 56, 57] from tens, isD_iff]
  simp only [List.mem_cons, List.not_mem_nil, or_false]
  omega
theorem find_tens : ∀ c : Nat, 48 ≤ c → c ≤ 57 → Txt.find (Str.ofString "0123456789") ⟨#[c]⟩ = (c : Int) - 48 := fun c h1 h2 => by
  have e : c = 48 ∨ c = 49 ∨ c = 50 ∨ c = 51 ∨ c = 52 ∨ c = 53 ∨ c = 54 ∨ c = 55 ∨ c = 56 ∨ c = 57 := by omega
  rcases e with rfl | rfl | rfl | rfl | rfl | rfl | rfl | rfl | rfl | rfl <;> decide +kernel
theorem figs_len {l : List Nat} {most : Int} (h : (l.length : Int) < 1 ∨ most < (l.length : Int)) : figs l most = false := by
  unfold figs
  rcases h with h | h
  · rw [decide_eq_false (show ¬ 1 ≤ l.length by omega), Bool.and_false, Bool.false_and]
  · rw [decide_eq_false (show ¬ (l.length : Int) ≤ most by omega), Bool.and_false]
theorem figs_bad {l : List Nat} {most : Int} {i c : Nat} (h : l[i]? = some c) (hc : ¬ isD c = true) : figs l most = false := by
  unfold figs
  have e : l.all isD = false := Bool.eq_false_iff.mpr fun k => hc (List.all_eq_true.mp k c (List.mem_of_getElem? h))
  rw [e, Bool.false_and, Bool.false_and]
theorem figs_good {l : List Nat} {most : Int} (h : ∀ (i c : Nat), l[i]? = some c → isD c = true) (h1 : ¬ (l.length : Int) < 1) (h2 : ¬ most < (l.length : Int)) : figs l most = true := by
  unfold figs
  have e : l.all isD = true := List.all_eq_true.mpr fun c hc => by
    obtain ⟨i, hi⟩ := List.getElem?_of_mem hc
    exact h i c hi
  rw [e, decide_eq_true (show 1 ≤ l.length by omega), decide_eq_true (show (l.length : Int) ≤ most by omega)]
  rfl
theorem str_nat {k : Int} {w : Nat} (h : k = (w : Int)) : Str.ofString (toString k) = S (numL w) := by
  rw [h]
  exact num_S w
theorem log_small {k : Int} (h : -1267650600228229401496703205376 < k ∧ k < 1267650600228229401496703205376) : k.natAbs.log2 < 1920 := by
  have e : (2 : Nat) ^ 100 = 1267650600228229401496703205376 := by decide
  exact Nat.lt_trans (PySem.Flt.log2_lt_of (by decide) (show k.natAbs < 2 ^ 100 by rw [e]; omega)) (by decide)
theorem numL_short {w : Nat} (h : w < 1000000000000000000000000) : (numL w).length ≤ 24 := numL_len (by decide) (by rw [show (10 : Nat) ^ 24 = 1000000000000000000000000 by decide]; exact h)

theorem hl1 {z : Str} (h : z.length ≤ 100000) : z.length ≤ sizeLine := Nat.le_trans h (by decide)
theorem hl2 {z : Str} (h : z.length ≤ 200000) : z.length ≤ sizeLine := Nat.le_trans h (by decide)
theorem hl3 {z y : Str} (h : z.length ≤ 100000) : (Txt.stripChars z y).length ≤ 100000 := Nat.le_trans (len_stripChars _ _) h
theorem hl4 {z : Str} {a b : Option Int} (h : z.length ≤ 100000) : (cutS z a b).length ≤ 100000 := Nat.le_trans (cutS_length _ _ _) h

theorem part_len (u y : Str) : (Txt.partition u y).1.length ≤ u.length ∧ (Txt.partition u y).2.2.length ≤ u.length := by
  have sub : ∀ i j, (Builtin.Str.strSub u i j).length ≤ u.length := fun i j => by
    rw [len_tl, len_tl, tl_strSub, List.length_take, List.length_drop]
    omega
  unfold Txt.partition
  split
  · exact ⟨sub _ _, sub _ _⟩
  · exact ⟨Nat.le_refl _, Nat.zero_le _⟩
theorem readV_1 {z : Str} (h : Txt.startswith (Txt.stripChars z (S [32])) (S [45]) = true) : readV z = readP true (Txt.partition (cutS (Txt.stripChars z (S [32])) (some 1) none) (S [46])) := by
  unfold readV unS
  rw [h, if_pos (Or.inl rfl)]
theorem readV_2 {z : Str} (h : ¬ Txt.startswith (Txt.stripChars z (S [32])) (S [45]) = true) (h2 : Txt.startswith (Txt.stripChars z (S [32])) (S [43]) = true) : readV z = readP false (Txt.partition (cutS (Txt.stripChars z (S [32])) (some 1) none) (S [46])) := by
  unfold readV unS
  rw [Bool.eq_false_iff.mpr h, h2, if_pos (Or.inr rfl)]
theorem readV_3 {z : Str} (h : ¬ Txt.startswith (Txt.stripChars z (S [32])) (S [45]) = true) (h2 : ¬ Txt.startswith (Txt.stripChars z (S [32])) (S [43]) = true) : readV z = readP false (Txt.partition (Txt.stripChars z (S [32])) (S [46])) := by
  unfold readV unS
  rw [Bool.eq_false_iff.mpr h, Bool.eq_false_iff.mpr h2, if_neg (by decide)]
theorem readP_bad1 {b : Bool} {P : Str × Str × Str} (h : ¬ figs (tl P.1) 15 = true) : readP b P = .non := by
  unfold readP
  rw [if_pos (Bool.eq_false_iff.mpr h)]
theorem readP_bad2 {b : Bool} {P : Str × Str × Str} (h1 : ¬ P.2.1 = Str.empty) (h : ¬ figs (tl P.2.2) 12 = true) : readP b P = .non := by
  unfold readP
  split
  · rfl
  · rw [if_pos ⟨h1, Bool.eq_false_iff.mpr h⟩]
def worthP (P : Str × Str × Str) : Nat := digitsVal (tl P.1 ++ tl P.2.2 ++ List.replicate (12 - (tl P.2.2).length) 48)
theorem readP_good {b : Bool} {P : Str × Str × Str} (h : figs (tl P.1) 15 = true) (h2 : P.2.1 = Str.empty ∨ figs (tl P.2.2) 12 = true) : readP b P = readN b (near (worthP P : Nat) 1000000) := by
  unfold readP
  rw [if_neg (by rw [h]; decide), if_neg (fun z => by
    rcases h2 with h2 | h2
    · exact z.1 h2
    · rw [h2] at z
      cases z.2)]
  rfl
theorem figs_out {l : List Nat} {k : Int} (h : figs l k = true) : AllDigits l ∧ 1 ≤ l.length ∧ (l.length : Int) ≤ k := by
  unfold figs at h
  rw [Bool.and_eq_true, Bool.and_eq_true, decide_eq_true_eq, decide_eq_true_eq] at h
  exact ⟨all_digits h.1.1, h.1.2, h.2⟩
theorem just_tl (z : Str) : tl (Txt.ljustF z 12 48) = tl z ++ List.replicate (12 - (tl z).length) 48 := by
  unfold Txt.ljustF
  have e := len_tl z
  by_cases h : (12 : Int) ≤ (z.length : Int)
  · rw [if_pos h, show 12 - (tl z).length = 0 by omega]
    exact (List.append_nil _).symm
  · rw [if_neg h, e]
    show (Array.replicate 0 48 ++ z.cps ++ Array.replicate ((12 : Int).toNat - (tl z).length) 48).toList = _
    simp [tl]
theorem behind_ok {P : Str × Str × Str} (hc : P.2.1 = S [46] ∨ (P.2.1 = Str.empty ∧ P.2.2 = Str.empty)) (h2 : P.2.1 = Str.empty ∨ figs (tl P.2.2) 12 = true) : AllDigits (tl P.2.2) ∧ (tl P.2.2).length ≤ 12 := by
  rcases h2 with h2 | h2
  · rcases hc with hc | hc
    · rw [hc] at h2
      exact absurd (congrArg tl h2) (fun z => nomatch z)
    · rw [hc.2]
      exact ⟨fun c hc => (nomatch hc), Nat.zero_le _⟩
  · have f := figs_out h2
    exact ⟨f.1, by omega⟩
theorem worth_text {P : Str × Str × Str} (hc : P.2.1 = S [46] ∨ (P.2.1 = Str.empty ∧ P.2.2 = Str.empty)) (h : figs (tl P.1) 15 = true) (h2 : P.2.1 = Str.empty ∨ figs (tl P.2.2) 12 = true) :
    intText? (P.1 ++ Txt.ljustF P.2.2 12 48) = some ((worthP P : Nat) : Int) ∧ (P.1 ++ Txt.ljustF P.2.2 12 48).length ≤ 27 ∧ P.1.length ≤ 15 ∧ (Txt.ljustF P.2.2 12 48).length ≤ 12 := by
  have f := figs_out h
  have b := behind_ok hc h2
  have e : tl (P.1 ++ Txt.ljustF P.2.2 12 48) = tl P.1 ++ tl P.2.2 ++ List.replicate (12 - (tl P.2.2).length) 48 := by
    rw [tl_append, just_tl, List.append_assoc]
  have l2 : (Txt.ljustF P.2.2 12 48).length = 12 := by
    rw [len_tl, just_tl, List.length_append, List.length_replicate]
    omega
  have l1 : P.1.length = (tl P.1).length := len_tl _
  have l : (P.1 ++ Txt.ljustF P.2.2 12 48).length ≤ 27 := by
    rw [Str.length_append]
    omega
  refine ⟨?_, l, by omega, by omega⟩
  have d := intText_digits (x := P.1 ++ Txt.ljustF P.2.2 12 48) (fun c hc => by
    rw [show (P.1 ++ Txt.ljustF P.2.2 12 48).cps.toList = _ from e] at hc
    rcases List.mem_append.mp hc with hc | hc
    · rcases List.mem_append.mp hc with hc | hc
      · exact f.1 c hc
      · exact b.1 c hc
    · rw [List.eq_of_mem_replicate hc]
      decide) (fun z => by
    have z2 := congrArg List.length z
    rw [show (P.1 ++ Txt.ljustF P.2.2 12 48).cps.toList = _ from e, List.length_append, List.length_append] at z2
    have z3 : (tl P.1).length + (tl P.2.2).length + _ = 0 := z2
    omega) (by omega)
  rw [show (P.1 ++ Txt.ljustF P.2.2 12 48).cps.toList = _ from e] at d
  exact d
theorem near_nn {a : Int} (h : 0 ≤ a) : 0 ≤ near a 1000000 := by
  unfold near
  (repeat' split) <;> omega

theorem ne_empty {a : Str} : (!decide (V.str a = V.str (Str.ofString ""))) = true ↔ ¬ a = Str.empty := by
  rw [e_none, str_empty, Bool.not_eq_true', decide_eq_false_iff_not]
  exact ⟨fun h z => h (congrArg V.str z), fun h z => h (V.str.inj z)⟩

theorem show_S (m : Int) : S (showL m) = (if m < 0 then S [45] else S []) ++ (S (numL (m.natAbs / 1000000)) ++ (if m.natAbs % 1000000 = 0 then S [] else S [46] ++ S (zt (pad6 (m.natAbs % 1000000))))) := by
  unfold showL
  by_cases h : m < 0
  · by_cases k : m.natAbs % 1000000 = 0
    · rw [if_pos h, if_pos h, if_pos k, if_pos k]; simp only [S_cat]
    · rw [if_pos h, if_pos h, if_neg k, if_neg k]; simp only [S_cat]; rfl
  · by_cases k : m.natAbs % 1000000 = 0
    · rw [if_neg h, if_neg h, if_pos k, if_pos k]; simp only [S_cat]
    · rw [if_neg h, if_neg h, if_neg k, if_neg k]; simp only [S_cat]; rfl
theorem rest_zero : zt (pad6 0) = [] := by decide +kernel
theorem nots {b : Bool} (h : ¬ (!b) = true) : b = true := by simpa using h
theorem readN_in {b : Bool} {s : Int} (h : s < 1000000000000000000000) : readN b s = .int (if b = true then -s else s) := if_neg (by omega)
theorem readN_out {b : Bool} {s : Int} (h : ¬ s < 1000000000000000000000) : readN b s = .non := if_pos (by omega)

theorem val_bound : ∀ {l : List Nat}, AllDigits l → digitsVal l < 10 ^ l.length := by
  have key : ∀ (l : List Nat) (s : Nat), AllDigits l → l.foldl (fun acc c => acc * 10 + (c - 48)) s < (s + 1) * 10 ^ l.length := by
    intro l
    induction l with
    | nil => intro s _; simp
    | cons c l ih =>
      intro s h
      have hc := h.head
      rw [List.foldl_cons, List.length_cons, Nat.pow_succ]
      refine Nat.lt_of_lt_of_le (ih _ h.tail) ?_
      rw [Nat.mul_comm (10 ^ l.length) 10, ← Nat.mul_assoc]
      exact Nat.mul_le_mul_right _ (by omega)
  intro l h
  have a := key l 0 h
  rw [Nat.zero_add, Nat.one_mul] at a
  exact a
theorem val_step {l : List Nat} {i c : Nat} (h : l[i]? = some c) : digitsVal (l.take (i + 1)) = digitsVal (l.take i) * 10 + (c - 48) := by
  obtain ⟨hi, e⟩ := List.getElem?_eq_some_iff.mp h
  rw [List.take_succ_eq_append_getElem hi, val_app, e]
  show _ * 10 ^ 1 + (0 * 10 + (c - 48)) = _
  omega
def allP (P : Str × Str × Str) : Str := P.1 ++ P.2.2 ++ repS (Str.ofString "0") ((12 : Int) - (P.2.2.length : Int)).toNat
theorem allP_tl (P : Str × Str × Str) : tl (allP P) = tl P.1 ++ tl P.2.2 ++ List.replicate (12 - (tl P.2.2).length) 48 := by
  unfold allP
  rw [tl_append, tl_append, e_zero, len_tl P.2.2, show ((12 : Int) - ((tl P.2.2).length : Int)).toNat = 12 - (tl P.2.2).length by omega]
  refine congrArg (fun z => tl P.1 ++ tl P.2.2 ++ z) ?_
  show (List.replicate (12 - (tl P.2.2).length) [48]).flatten = _
  generalize 12 - (tl P.2.2).length = n
  induction n with
  | zero => rfl
  | succ n ih => rw [List.replicate_succ, List.flatten_cons, ih, List.replicate_succ]; rfl
theorem allP_ok {P : Str × Str × Str} (hc : P.2.1 = S [46] ∨ (P.2.1 = Str.empty ∧ P.2.2 = Str.empty)) (h : figs (tl P.1) 15 = true) (h2 : P.2.1 = Str.empty ∨ figs (tl P.2.2) 12 = true) :
    AllDigits (tl (allP P)) ∧ digitsVal (tl (allP P)) = worthP P ∧ (worthP P : Int) < 1000000000000000000000000000000 ∧ (tl P.1).length ≤ 15 ∧ (tl P.2.2).length ≤ 12 := by
  have f := figs_out h
  have b := behind_ok hc h2
  have d : AllDigits (tl (allP P)) := fun c hc => by
    rw [allP_tl] at hc
    rcases List.mem_append.mp hc with hc | hc
    · rcases List.mem_append.mp hc with hc | hc
      · exact f.1 c hc
      · exact b.1 c hc
    · rw [List.eq_of_mem_replicate hc]
      decide
  have e : digitsVal (tl (allP P)) = worthP P := congrArg digitsVal (allP_tl P)
  refine ⟨d, e, ?_, by omega, b.2⟩
  have v := val_bound d
  rw [e] at v
  have l : (tl (allP P)).length ≤ 27 := by
    rw [allP_tl, List.length_append, List.length_append, List.length_replicate]
    omega
  have v2 : worthP P < 10 ^ 27 := Nat.lt_of_lt_of_le v (Nat.pow_le_pow_right (by decide) l)
  rw [show (10 : Nat) ^ 27 = 1000000000000000000000000000 by decide] at v2
  omega
theorem head_is {u : Str} {c : Nat} (h : V.str (cutS u none (some 1)) = V.str (S [c])) : Txt.startswith u (S [c]) = true := (head_starts u c).symm.trans (decide_eq_true h)
theorem head_not {u : Str} {c : Nat} (h : ¬ V.str (cutS u none (some 1)) = V.str (S [c])) : ¬ Txt.startswith u (S [c]) = true := by
  rw [← head_starts u c]
  exact fun z => h (of_decide_eq_true z)

theorem show_len {m : Int} (h : -1000000000000000000000 < m ∧ m < 1000000000000000000000) : (S (showL m)).length ≤ 40 := by
  rw [S_len]
  unfold showL
  have n1 : (numL (m.natAbs / 1000000)).length ≤ 24 := numL_short (by omega)
  have n2 := zt_len (pad6 (m.natAbs % 1000000))
  have n3 : (pad6 (m.natAbs % 1000000)).length = 6 := rfl
  rw [List.length_append, List.length_append]
  split <;> split <;> simp only [List.length_cons, List.length_nil] <;> omega

theorem readP_kind (b : Bool) (P : Str × Str × Str) : readP b P = .non ∨ ∃ s : Int, readP b P = .int s ∧ (-1000000000000000000000 < s ∧ s < 1000000000000000000000) := by
  unfold readP
  split
  · exact Or.inl rfl
  · split
    · exact Or.inl rfl
    · have nn := near_nn (a := (digitsVal (tl P.1 ++ tl P.2.2 ++ List.replicate (12 - (tl P.2.2).length) 48) : Nat)) (Int.natCast_nonneg _)
      unfold readN
      split
      · exact Or.inl rfl
      · refine Or.inr ⟨_, rfl, ?_⟩
        split <;> omega
theorem readV_kind (z : Str) : readV z = .non ∨ ∃ s : Int, readV z = .int s ∧ (-1000000000000000000000 < s ∧ s < 1000000000000000000000) := readP_kind _ _

theorem op_modL {X : Cx} : OpR X (binaryOp .Mod) (fun x y H Q => ∃ i j, x = .int i ∧ y = .int j ∧ 0 < j ∧ ∀ d : Int, 0 ≤ d → d < j → Q (.int d) H) := fun pins s σ H x y v u Q I rx ry hq => by
  obtain ⟨i, j, ex, ey, hc, q⟩ := hq
  exact op_mod pins s σ H x y v u Q I rx ry ⟨i, j, ex, ey, hc, q _ (Int.emod_nonneg _ (by omega)) (Int.emod_lt_of_pos _ hc)⟩
theorem ixS_go {z : Str} {i : Int} {H : Hp} {Q : VK} (h : z.length ≤ 100000) (h0 : 0 ≤ i) (h1 : i < (z.length : Int)) (q : ∀ c, Q (.str ⟨#[c]⟩) H) : rIxS (.str z) (.int i) H Q := by
  obtain ⟨c, _, e⟩ := atI_some (xs := z.cps.toList) h0 (by rw [← len_tl]; exact h1)
  exact ⟨z, i, c, rfl, rfl, hl1 h, e, q c⟩
theorem joinL_len : ∀ ls : List (List Nat), (TL.joinL [] ls).length = (ls.map List.length).sum
  | [] => rfl
  | [x] => by simp [TL.joinL]
  | x :: y :: ls => by
    have e : TL.joinL [] (x :: y :: ls) = x ++ [] ++ TL.joinL [] (y :: ls) := by first | rfl | simp [TL.joinL]
    rw [e, List.length_append, List.append_nil, joinL_len (y :: ls)]
    simp
theorem sum_le {n : Nat} : ∀ {zs : List Str}, (∀ z ∈ zs, z.length ≤ n) → (zs.map (·.length)).sum ≤ n * zs.length
  | [], _ => Nat.zero_le _
  | z :: zs, h => by
    rw [List.map_cons, List.sum_cons, List.length_cons, Nat.mul_succ]
    have a := sum_le (fun y hy => h y (List.mem_cons_of_mem _ hy))
    have b := h z (List.mem_cons_self ..)
    omega
theorem join_len {n : Nat} {zs : List Str} (h : ∀ z ∈ zs, z.length ≤ n) : (Txt.join (Str.ofString "") zs).length ≤ n * zs.length := by
  rw [len_tl, TL.join_eq, TL.tl_join, e_none, joinL_len, List.map_map]
  exact Nat.le_trans (Nat.le_of_eq (congrArg List.sum (List.map_congr_left fun z _ => (len_tl z).symm))) (sum_le h)
theorem join_sum {n : Nat} {zs : List Str} (h : ∀ z ∈ zs, z.length ≤ n) : (zs.map (·.length)).sum + zs.length * (Str.ofString "").length ≤ n * zs.length := by
  rw [show (Str.ofString "").length = 0 from by decide +kernel, Nat.mul_zero, Nat.add_zero]
  exact sum_le h
theorem more_map (zs : List Str) (ch : Nat) : zs.map V.str ++ [V.str ⟨#[ch]⟩] = (zs ++ [(⟨#[ch]⟩ : Str)]).map V.str := by
  rw [List.map_append]
  rfl
theorem more_one {zs : List Str} {ch : Nat} (h : ∀ z ∈ zs, z.length ≤ 1) : ∀ z ∈ zs ++ [(⟨#[ch]⟩ : Str)], z.length ≤ 1 := fun z hm => by
  rcases List.mem_append.mp hm with hm | hm
  · exact h z hm
  · rw [List.mem_singleton.mp hm]
    exact Nat.le_refl _
theorem more_len {zs : List Str} {ch i : Nat} (h : zs.length ≤ i) : (zs ++ [(⟨#[ch]⟩ : Str)]).length ≤ i + 1 := by
  rw [List.length_append, List.length_singleton]
  omega
theorem tens_len : (Str.ofString "0123456789").length = 10 := by decide +kernel

theorem La {A B : Str} {a b : Nat} (h : A.length ≤ a) (k : B.length ≤ b) : (A ++ B).length ≤ a + b := by
  rw [Str.length_append]
  omega
theorem Lc {z : Str} {x y : Option Int} {n : Nat} (h : z.length ≤ n) : (cutS z x y).length ≤ n := Nat.le_trans (cutS_length _ _ _) h
theorem Lr {z : Str} {k : Int} (n : Nat) (h : z.length ≤ 1) (hk : k ≤ (n : Int)) : (repS z k.toNat).length ≤ n := by
  rw [repS_len]
  exact Nat.le_trans (Nat.mul_le_mul_right _ h) (by omega)
theorem c_one (c : Nat) : (⟨#[c]⟩ : Str).length ≤ 1 := Nat.le_refl 1

local macro_rules | `(tactic| walk_at "len1") => `(tactic| first
  | with_reducible assumption
  | (with_reducible refine hl3 ?_; walk_at "len1")
  | (with_reducible refine hl4 ?_; walk_at "len1"))
local macro_rules | `(tactic| walk_at "len") => `(tactic| first
  | (with_reducible refine hl1 ?_; walk_at "len1")
  | (with_reducible refine hl2 ?_; with_reducible assumption))
local macro_rules | `(tactic| walk_at "sl") => `(tactic| (refine Nat.le_trans (Nat.le_of_eq (S_len _)) ?_; rw [sizeLine_eq]; (try simp only [List.length_append, List.length_cons, List.length_nil]); omega))
local macro_rules | `(tactic| walk_at "sl3") => `(tactic| (rw [sizeLine_eq]; (try simp only [S_len, Str.length_append, List.length_append, List.length_cons, List.length_nil]); omega))
local macro_rules | `(tactic| walk_at "lb") => `(tactic| first
  | with_reducible assumption
  | with_reducible exact c_one _
  | (with_reducible apply Lc; walk_at "lb")
  | (with_reducible refine' La ?hx ?hy; (case hx => walk_at "lb"); (case hy => walk_at "lb"))
  | (with_reducible refine Lr 50 ?hx ?hy; (case hx => assumption); (case hy => omega)))
local macro_rules | `(tactic| walk_at "ln") => `(tactic| (refine' Nat.le_trans (m := ?mm) ?hu ?hv; (case hu => walk_at "lb"); (case hv => first | omega | (rw [sizeLine_eq]; omega))))
local macro_rules | `(tactic| walk_at "ls") => `(tactic| (refine' Nat.le_trans (Nat.add_le_add ?hu ?hv) ?hw; (case hu => walk_at "lb"); (case hv => walk_at "lb"); (case hw => (rw [sizeLine_eq]; omega))))
local macro_rules | `(tactic| walk_at "sl2") => `(tactic| (rw [sizeLine_eq]; simp only [e_dot, e_minus, e_plus, S_len, Str.length_append, List.length_append, List.length_cons, List.length_nil]; omega))
local macro_rules | `(tactic| walk_at "own") => `(tactic| first
  | refine ⟨⟨_, rfl⟩, ?_⟩
  | refine ⟨_, rfl, rfl, trivial, ?_⟩
  | refine ⟨_, _, rfl, rfl, (show (0 : Int) < _ from by first | decide | omega), fun d d0 d1 => ?_⟩
  | refine ⟨_, _, rfl, (show Str.length _ ≤ 200000 from by with_reducible assumption), ?_⟩
  | refine ⟨_, _, rfl, (show CB _ _ from ⟨by decide, by decide⟩), fun p hp => ?_⟩
  | refine ⟨_, _, rfl, .inl (.inl upd_same), rfl, ?_⟩
  | refine ⟨_, _, _, _, rfl, rfl, .inl (.inl upd_same), rfl, ?_⟩
  | refine And.intro (show Str.length _ ≤ sizeLine from by walk_at "len") ?_
  | refine And.intro (show Str.length _ + Str.length _ ≤ sizeLine from by walk_at "sl2") ?_
  | (refine And.intro ?hc ?_; case hc => (show Str.length _ + Str.length _ ≤ sizeLine; walk_at "ls"))
  | (refine And.intro ?hc ?_; case hc => (show Str.length _ ≤ sizeLine; walk_at "ln"))
  | refine ⟨_, _, rfl, (show 0 < (1000000 : Int) ∧ (1000000 : Int) < _ from ⟨by decide, by decide⟩), fun H1 s1 => ?_⟩
  | refine And.intro (show (_ ∧ _) ∧ Str.length _ ≤ 16 from ⟨⟨by omega, by omega⟩, by decide +kernel⟩) ?_
  | refine And.intro (show Nat.log2 _ < 1920 from log_small (by omega)) ?_
  | refine And.intro (show PadOk _ = true from rfl) ?_
  | refine And.intro (show (Str.length _ == 0) = false from by decide +kernel) ?_)

/-- a chain of heaps -/
local macro_rules | `(tactic| walk_at "same") => `(tactic| first
  | assumption
  | exact Same.refl _
  | exact same_upd (by assumption)
  | (refine Same.trans ?_ (same_upd (by assumption)); walk_at "same")
  | (refine Same.trans ?_ (by assumption); walk_at "same"))
/-- a step of a reading, by its shape -/
local macro_rules | `(tactic| walk_at "st") => `(tactic| first
  | walk_at "own"
  | refine ⟨_, rfl, fun n h0 h1 => ?_⟩
  | refine ⟨_, rfl, ?_⟩
  | refine ⟨_, _, rfl, rfl, (by first | exact Or.inl ⟨by decide, by decide⟩ | exact Or.inr ⟨by decide, by decide⟩ | exact Or.inl (by omega) | exact Or.inr (by omega)), fun d hd hu hn => ?_⟩
  | refine ⟨_, _, rfl, rfl, by first | exact Or.inl ⟨by decide, by decide⟩ | exact Or.inr ⟨by decide, by decide⟩ | exact Or.inl (by omega) | exact Or.inr (by omega), ?_⟩
  | refine ⟨_, _, rfl, rfl, by first | (show (0 : Int) < _; first | omega | decide | (split <;> omega)) | (show _ ≠ (0 : Int); omega), ?_⟩
  | refine ⟨_, _, rfl, rfl, ⟨by decide, by decide⟩, ?_⟩
  | refine ⟨_, _, rfl, rfl, (by show (_ ∧ _) ∧ (_ ∧ _); omega), ?_⟩
  | refine ⟨_, _, rfl, rfl, (by show _ ∧ _; first | omega | (split <;> omega)), fun d hd hu hn => ?_⟩
  | refine ⟨_, _, rfl, rfl, (by show (0 : Int) < _ ∧ _; first | omega | (split <;> omega)), ?_⟩
  | refine ⟨_, _, rfl, rfl, ?_⟩
  | refine ⟨_, _, _, rfl, rfl, ?_⟩
  | refine ⟨_, _, _, _, rfl, rfl, .inl (.inl (by assumption)), rfl, ?_⟩
  | refine Or.inl ⟨_, rfl, ?_⟩
  | refine ⟨_, _, rfl, fun n H1 s1 h0 h1 => ?_⟩
  | refine ⟨_, _, rfl, fun n h0 h1 => ?_⟩
  | refine ⟨_, _, rfl, ?_⟩
  | refine ⟨Nat.le_of_ble_eq_true rfl, fun p hp => ?_⟩
  | refine ⟨rfl, ?_⟩
  | refine ⟨lim_flat _, ?_⟩
  | refine ⟨⟨by assumption, by assumption⟩, ?_⟩
  | refine And.intro (by assumption) ?_
  | refine ⟨Or.inl ⟨_, rfl⟩, ?_⟩
  | refine And.intro (by omega) (fun H1 s1 => ?_)
  | refine And.intro (by omega) ?_
  | refine iteF ?_
  | refine iteT ?_
  | refine iteSS ?_
  | refine iteIS ?_
  | refine iteEqI (fun _ => ?_) (fun _ => ?_)
  | refine iteNeI (fun _ => ?_) (fun _ => ?_)
  | refine iteD (fun _ => ?_) (fun _ => ?_)
  | refine ite2 (fun _ => ?_) (fun _ => ?_))
local macro_rules | `(tactic| walk_at "run") => `(tactic| repeat' (walk_at "st"))
local macro_rules | `(tactic| walk_at "own0") => `(tactic| first
  | refine ⟨⟨_, rfl⟩, ?_⟩
  | refine ⟨_, rfl, rfl, trivial, ?_⟩
  | refine ⟨_, _, rfl, rfl, (show (0 : Int) < _ from by first | decide | omega), fun d d0 d1 => ?_⟩
  | refine ⟨_, _, rfl, (show Str.length _ ≤ 200000 from by with_reducible assumption), ?_⟩
  | refine ⟨_, _, rfl, (show CB _ _ from ⟨by decide, by decide⟩), fun p hp => ?_⟩
  | refine ⟨_, _, rfl, .inl (.inl upd_same), rfl, ?_⟩
  | refine ⟨_, _, _, _, rfl, rfl, .inl (.inl upd_same), rfl, ?_⟩
  | refine And.intro (show Str.length _ ≤ sizeLine from by walk_at "len") ?_
  | refine And.intro (show Str.length _ + Str.length _ ≤ sizeLine from by walk_at "sl2") ?_
  | refine ⟨_, _, rfl, (show 0 < (1000000 : Int) ∧ (1000000 : Int) < _ from ⟨by decide, by decide⟩), fun H1 s1 => ?_⟩
  | refine And.intro (show (_ ∧ _) ∧ Str.length _ ≤ 16 from ⟨⟨by omega, by omega⟩, by decide +kernel⟩) ?_
  | refine And.intro (show Nat.log2 _ < 1920 from log_small (by omega)) ?_
  | refine And.intro (show PadOk _ = true from rfl) ?_
  | refine And.intro (show (Str.length _ == 0) = false from by decide +kernel) ?_)
/-- a step of a reading, by its shape -/
local macro_rules | `(tactic| walk_at "st0") => `(tactic| first
  | walk_at "own0"
  | refine ⟨_, rfl, fun n h0 h1 => ?_⟩
  | refine ⟨_, rfl, ?_⟩
  | refine ⟨_, _, rfl, rfl, (by first | exact Or.inl ⟨by decide, by decide⟩ | exact Or.inr ⟨by decide, by decide⟩ | exact Or.inl (by omega) | exact Or.inr (by omega)), fun d hd hu hn => ?_⟩
  | refine ⟨_, _, rfl, rfl, by first | exact Or.inl ⟨by decide, by decide⟩ | exact Or.inr ⟨by decide, by decide⟩ | exact Or.inl (by omega) | exact Or.inr (by omega), ?_⟩
  | refine ⟨_, _, rfl, rfl, by first | (show (0 : Int) < _; first | omega | decide | (split <;> omega)) | (show _ ≠ (0 : Int); omega), ?_⟩
  | refine ⟨_, _, rfl, rfl, ⟨by decide, by decide⟩, ?_⟩
  | refine ⟨_, _, rfl, rfl, (by show (_ ∧ _) ∧ (_ ∧ _); omega), ?_⟩
  | refine ⟨_, _, rfl, rfl, (by show _ ∧ _; first | omega | (split <;> omega)), fun d hd hu hn => ?_⟩
  | refine ⟨_, _, rfl, rfl, (by show (0 : Int) < _ ∧ _; first | omega | (split <;> omega)), ?_⟩
  | refine ⟨_, _, rfl, rfl, ?_⟩
  | refine ⟨_, _, _, rfl, rfl, ?_⟩
  | refine ⟨_, _, _, _, rfl, rfl, .inl (.inl (by assumption)), rfl, ?_⟩
  | refine Or.inl ⟨_, rfl, ?_⟩
  | refine ⟨_, _, rfl, fun n H1 s1 h0 h1 => ?_⟩
  | refine ⟨_, _, rfl, fun n h0 h1 => ?_⟩
  | refine ⟨_, _, rfl, ?_⟩
  | refine ⟨Nat.le_of_ble_eq_true rfl, fun p hp => ?_⟩
  | refine ⟨rfl, ?_⟩
  | refine ⟨lim_flat _, ?_⟩
  | refine ⟨⟨by assumption, by assumption⟩, ?_⟩
  | refine And.intro (by assumption) ?_
  | refine ⟨Or.inl ⟨_, rfl⟩, ?_⟩
  | refine And.intro (by omega) (fun H1 s1 => ?_)
  | refine And.intro (by omega) ?_
  | refine iteF ?_
  | refine iteT ?_
  | refine iteSS ?_
  | refine iteIS ?_
  | refine iteEqI (fun _ => ?_) (fun _ => ?_)
  | refine iteNeI (fun _ => ?_) (fun _ => ?_)
  | refine iteD (fun _ => ?_) (fun _ => ?_)
  | refine ite2 (fun _ => ?_) (fun _ => ?_))
local macro_rules | `(tactic| walk_at "run0") => `(tactic| repeat' (walk_at "st0"))

/-! ### the promises -/
def sphalf_even (K : PySem.W.Frag) : Sp := fun vs H Q _ => ∃ a b : Int, vs = [.int a, .int b] ∧ (0 < b ∧ b < 1267650600228229401496703205376) ∧ ∀ H' : Hp, Same H H' → Q (.int (near a b)) H'
def spfitting (K : PySem.W.Frag) : Sp := fun vs H Q _ => ∃ m : Int, vs = [.int m] ∧ Q (lim m) H
def spshown_amount (K : PySem.W.Frag) : Sp := fun vs H Q _ => ∃ m : Int, vs = [.int m] ∧ (-1000000000000000000000 < m ∧ m < 1000000000000000000000) ∧ ∀ H' : Hp, Same H H' → Q (.str (S (showL m))) H'
def spread_amount (K : PySem.W.Frag) : Sp := fun vs H Q _ => ∃ z : Str, vs = [.str z] ∧ z.length ≤ 100000 ∧ ∀ H' : Hp, Same H H' → Q (readV z) H'
def spare_figures (K : PySem.W.Frag) : Sp := fun vs H Q _ => ∃ (z : Str) (most : Int), vs = [.str z, .int most] ∧ z.length ≤ 200000 ∧ Q (.bl (figs (tl z) most)) H
def sp_law_cell (K : PySem.W.Frag) : Sp := fun vs H Q _ => ∃ (a : Addr) (ns : List Int) (j : Nat), vs = [.ref a, .int j] ∧ SqL K H a (ns.map V.int) ∧ Q (.int (ns.getD j 0)) H
def sp_law_mix (K : PySem.W.Frag) : Sp := fun vs H Q _ => ∃ (c s : Int), vs = [.int c, .int s] ∧ ∀ n : Int, 0 ≤ n → n < 2147483629 → Q (.int n) H
def sp_law_amount (K : PySem.W.Frag) : Sp := fun vs H Q _ => ∃ c s : Int, vs = [.int c, .int s] ∧ ∀ (n : Int) (H' : Hp), Same H H' → -1000000000000000000000 < n → n < 1000000000000000000000 → Q (.int n) H'
def sp_law_nearest (K : PySem.W.Frag) : Sp := fun vs H Q _ => ∃ a b : Int, vs = [.int a, .int b] ∧ (0 < b ∧ b < 1267650600228229401496703205376) ∧ (-1000000000000000000000000000000000000000000000000000000000000 < a ∧ a < 1000000000000000000000000000000000000000000000000000000000000) ∧ Q (.int (near a b)) H
def sp_law_written (K : PySem.W.Frag) : Sp := fun vs H Q _ => ∃ m : Int, vs = [.int m] ∧ (-1000000000000000000000 < m ∧ m < 1000000000000000000000) ∧ Q (.str (S (showL m))) H
def sp_law_figures (K : PySem.W.Frag) : Sp := fun vs H Q _ => ∃ (z : Str) (most : Int), vs = [.str z, .int most] ∧ z.length ≤ 200000 ∧ Q (.bl (figs (tl z) most)) H
def sp_law_read (K : PySem.W.Frag) : Sp := fun vs H Q _ => ∃ z : Str, vs = [.str z] ∧ z.length ≤ 100000 ∧ ∀ H' : Hp, Same H H' → Q (readV z) H'
def sp_law_signs (K : PySem.W.Frag) : Sp := fun vs H Q _ => ∃ (c s : Int) (g : Str), vs = [.int c, .int s, .str g] ∧ (1 ≤ g.length ∧ g.length ≤ 1000) ∧ ∀ (z : Str) (H' : Hp), Same H H' → z.length ≤ 80 → Q (.str z) H'
def sp_law_alphabet (K : PySem.W.Frag) : Sp := fun vs H Q _ => vs = [] ∧ ∀ z : Str, 1 ≤ z.length → z.length ≤ 1000 → Q (.str z) H
def sp_law_free (K : PySem.W.Frag) : Sp := fun vs H Q _ => ∃ (a : Addr) (ns : List Int) (g : Str), vs = [.ref a, .str g] ∧ SqL K H a (ns.map V.int) ∧ ns.length ≤ 63 ∧ (1 ≤ g.length ∧ g.length ≤ 1000) ∧ ∀ (z : Str) (H' : Hp), Same H H' → z.length ≤ 6000 → Q (.str z) H'
def sp_law_whole_part (K : PySem.W.Frag) : Sp := fun vs H Q _ => ∃ c : Int, vs = [.int c] ∧ ∀ (z : Str) (H' : Hp), Same H H' → z.length ≤ 100 → Q (.str z) H'
def sp_law_rest (K : PySem.W.Frag) : Sp := fun vs H Q _ => ∃ c : Int, vs = [.int c] ∧ ∀ (z : Str) (H' : Hp), Same H H' → z.length ≤ 100 → Q (.str z) H'
def sp_law_form (K : PySem.W.Frag) : Sp := fun vs H Q _ => ∃ (a : Addr) (ns : List Int) (c : Int), vs = [.ref a, .int c] ∧ SqL K H a (ns.map V.int) ∧ ∀ (z : Str) (H' : Hp), Same H H' → z.length ≤ 1100 → Q (.str z) H'
def sp_law_padded (K : PySem.W.Frag) : Sp := fun vs H Q _ => ∃ (t : Str) (n : Int), vs = [.str t, .int n] ∧ t.length ≤ 1000 ∧ ∀ (z : Str) (H' : Hp), Same H H' → z.length ≤ 1100 → Q (.str z) H'
def sp_law_spoilt (K : PySem.W.Frag) : Sp := fun vs H Q _ => ∃ (t : Str) (m c : Int), vs = [.str t, .int m, .int c] ∧ t.length ≤ 1100 ∧ ∀ (z : Str) (H' : Hp), Same H H' → z.length ≤ 3000 → Q (.str z) H'
def sp_law_text (K : PySem.W.Frag) : Sp := fun vs H Q _ => ∃ (a : Addr) (ns : List Int) (m c : Int), vs = [.ref a, .int m, .int c] ∧ SqL K H a (ns.map V.int) ∧ ns.length ≤ 63 ∧ (-1000000000000000000000 < m ∧ m < 1000000000000000000000) ∧ ∀ (z : Str) (H' : Hp), Same H H' → z.length ≤ 100000 → Q (.str z) H'
def sp_law_same (K : PySem.W.Frag) : Sp := fun vs H Q _ => ∃ x : V, vs = [x, x] ∧ (x = .non ∨ (∃ i, x = .int i) ∨ ∃ z, x = .str z) ∧ Q (.bl true) H
def splaw (K : PySem.W.Frag) : Sp := fun vs H Q _ => ∃ (a : Addr) (ns : List Int), vs = [.ref a] ∧ SqL K H a (ns.map V.int) ∧ ns.length ≤ 63 ∧ ∀ H', Q (.bl true) H'
section
variable {P : Program} {w : World} {K : PySem.W.Frag} {mg : Str → Option Value} {base : Heap}
def gkshown_amount_m {α : Type} : List α → List α := fun zs => match zs with | [z0] => [z0] | _ => zs
theorem krshown_amount_m : ∀ {zs : List V} {ws : List Value}, Vals zs ws → Vals (gkshown_amount_m zs) (gkshown_amount_m ws) := fun {zs ws} r => by
  rcases r with _ | ⟨r0, r⟩
  · exact .nil
  rcases r with _ | ⟨r1, r⟩
  · exact (.cons r0 .nil)
  exact (.cons r0 (.cons r1 r))
theorem kbshown_amount_m (T : Txt K mg) : KB0 K T.dshown_amount Pshown_amount ["m"] gkshown_amount_m gkshown_amount_m := by
  obtain ⟨oc, od, kV, doc, pm, an, cdv, ct, osl, e, lk, hcd⟩ := T.Fshown_amount.ex
  refine ⟨fun s ws hl => ?_, krshown_amount_m⟩
  rw [e]
  match ws, hl with
  | [z0], _ => exact .of_eq rfl
def gkread_amount_text {α : Type} : List α → List α := fun zs => match zs with | [z0] => [z0] | _ => zs
theorem krread_amount_text : ∀ {zs : List V} {ws : List Value}, Vals zs ws → Vals (gkread_amount_text zs) (gkread_amount_text ws) := fun {zs ws} r => by
  rcases r with _ | ⟨r0, r⟩
  · exact .nil
  rcases r with _ | ⟨r1, r⟩
  · exact (.cons r0 .nil)
  exact (.cons r0 (.cons r1 r))
theorem kbread_amount_text (T : Txt K mg) : KB0 K T.dread_amount Pread_amount ["text"] gkread_amount_text gkread_amount_text := by
  obtain ⟨oc, od, kV, doc, pm, an, cdv, ct, osl, e, lk, hcd⟩ := T.Fread_amount.ex
  refine ⟨fun s ws hl => ?_, krread_amount_text⟩
  rw [e]
  match ws, hl with
  | [z0], _ => exact .of_eq rfl
theorem okhalf_even (T : Txt K mg) : FnOk P w K mg base CX0 1 T.ahalf_even T.dhalf_even Phalf_even (sphalf_even K) := by
  refine T.Fhalf_even.ok schalf_even (fun vs H Q E h => ?_) (fun cdv A outer s H vs Q E hr h => ?_)
  · obtain ⟨a, b, rfl, _⟩ := h
    rfl
  · obtain ⟨a, b, rfl, hb, q⟩ := h
    refine ⟨_, (pss_cons (ps_asg (pe_callB call_divmodB (by rfl) T.z_divmod (by decide +kernel) (pa_cons (pv 0) (pa_cons (pv 1) pa_nil))) (pg_tup (by rfl) (pgs_cons (pg_name (i := 2) schalf_even.nd rfl (by first | exact Or.inl rfl | exact Or.inr rfl)) (pgs_cons (pg_name (i := 3) schalf_even.nd rfl (by first | exact Or.inl rfl | exact Or.inr rfl)) pgs_nil))))
    (pss_cons (ps_if (pt_cmpR op_gt (pe_op op_mul pe_int (pv 3)) (pv 1) (by first | exact nomark _ | rfl))
      (pss_one (ps_ret (pe_op op_add (pv 2) pe_int)))
      pss_nil)
    (pss_cons (ps_if (pt_cmpR op_eq (pe_op op_mul pe_int (pv 3)) (pv 1) (by first | exact nomark _ | rfl))
      (pss_one (ps_ret (pe_op op_add (pv 2) (pe_op op_mod (pv 2) pe_int))))
      pss_nil)
    (pss_one (ps_ret (pv 2)))))), ?_⟩
    refine ⟨_, rfl, _, rfl, _, _, rfl, hb, fun p hp => ?_⟩
    refine ⟨p, _, rfl, .inl (.inl upd_same), rfl, _, _, rfl, _, _, rfl, rfl, ?_⟩
    walk_at "run"
    all_goals refine (congrArg (fun z => Q (V.int z) _) ?_).mp (q _ (same_upd hp))
    all_goals (unfold near; (repeat' split) <;> omega)

theorem okfitting (T : Txt K mg) : FnOk P w K mg base CX0 1 T.afitting T.dfitting Pfitting (spfitting K) := by
  refine T.Ffitting.ok scfitting (fun vs H Q E h => ?_) (fun cdv A outer s H vs Q E hr h => ?_)
  · obtain ⟨m, rfl, _⟩ := h
    rfl
  · obtain ⟨m, rfl, q⟩ := h
    refine ⟨_, (pss_cons (ps_if (pt_chain op_le op_le (pe_un un_neg (pe_glob (v := .int 999999999999999999999) (by rfl) T.m_GREATEST ⟨_, rfl⟩)) (pv 0) (pe_glob (v := .int 999999999999999999999) (by rfl) T.m_GREATEST ⟨_, rfl⟩))
      (pss_one (ps_ret (pv 0)))
      pss_nil)
    (pss_one (ps_ret pe_str))), ?_⟩
    walk_at "run"
    all_goals (try simp only [decide_eq_true_eq] at *)
    all_goals first
      | (rw [lim_in (by constructor <;> omega)] at q; exact q)
      | (rw [lim_out (by omega)] at q; exact q)

theorem okshown_amount (T : Txt K mg) : FnOk P w K mg base CX0 1 T.ashown_amount T.dshown_amount Pshown_amount (spshown_amount K) := by
  refine T.Fshown_amount.ok scshown_amount (fun vs H Q E h => ?_) (fun cdv A outer s H vs Q E hr h => ?_)
  · obtain ⟨m, rfl, _⟩ := h
    rfl
  · obtain ⟨m, rfl, hm, q⟩ := h
    refine ⟨_, (pss_cons (ps_set (i := 1) scshown_amount.nd rfl (by first | exact Or.inl rfl | exact Or.inr rfl) (pe_ifExp (pt_cmpR op_lt (pv 0) pe_int (by first | exact nomark _ | rfl)) pe_str pe_str))
    (pss_cons (ps_asg (pe_callB call_divmodB (by rfl) T.z_divmod (by decide +kernel) (pa_cons (pe_callB call_abs (by rfl) T.z_abs (by decide +kernel) (pa_cons (pv 0) pa_nil)) (pa_cons (pe_glob (v := .int 1000000) (by rfl) T.m_SCALE ⟨_, rfl⟩) pa_nil))) (pg_tup (by rfl) (pgs_cons (pg_name (i := 2) scshown_amount.nd rfl (by first | exact Or.inl rfl | exact Or.inr rfl)) (pgs_cons (pg_name (i := 3) scshown_amount.nd rfl (by first | exact Or.inl rfl | exact Or.inr rfl)) pgs_nil))))
    (pss_cons (ps_if (pt_cmpR op_eq (pv 3) pe_int (by first | exact nomark _ | rfl))
      (pss_one (ps_ret (pe_joined (.cons (pe_fmt (pv 1)) (.cons (pe_fmt (pv 2)) .nil)))))
      pss_nil)
    (pss_cons (ps_set (i := 4) scshown_amount.nd rfl (by first | exact Or.inl rfl | exact Or.inr rfl) (pe_bm PySem.F.plainAttrs_str PySem.F.slot_str_rstrip PySem.F.type_str_rstrip mt_rstripChars (pe_bm PySem.F.plainAttrs_str PySem.F.slot_str_zfill PySem.F.type_str_zfill mt_zfill (pe_callTy call_str_int (by rfl) T.z_str (by decide +kernel) (pa_cons (pv 3) pa_nil)) (pa_cons pe_int pa_nil)) (pa_cons pe_str pa_nil)))
    (pss_one (ps_ret (pe_joined (.cons (pe_fmt (pv 1)) (.cons (pe_fmt (pv 2)) (.cons pe_str (.cons (pe_fmt (pv 4)) .nil))))))))))), ?_⟩
    have hw : (if m < 0 then -m else m) / 1000000 = ((m.natAbs / 1000000 : Nat) : Int) := by split <;> omega
    have hr : (if m < 0 then -m else m) % 1000000 = ((m.natAbs % 1000000 : Nat) : Int) := by split <;> omega
    have r6 : m.natAbs % 1000000 < 1000000 := by omega
    have n1 : (numL (m.natAbs / 1000000)).length ≤ 24 := numL_short (by omega)
    have n2 := zt_len (pad6 (m.natAbs % 1000000))
    have n3 : (pad6 (m.natAbs % 1000000)).length = 6 := rfl
    walk_at "run0"
    · rename_i c p hp k
      rw [hr] at k
      have h0 : m.natAbs % 1000000 = 0 := by omega
      rw [hw, e_minus, str_empty]
      refine And.intro (by walk_at "sl3") ?_
      refine ⟨_, rfl, by walk_at "sl3", ?_⟩
      refine ⟨_, rfl, ?_⟩
      refine Or.inr ?_
      refine ⟨_, rfl, log_small (by omega), ?_⟩
      rw [str_nat (w := m.natAbs / 1000000) rfl]
      refine ⟨_, rfl, by walk_at "sl3", ?_⟩
      rw [show_S, if_pos c, if_pos h0] at q
      refine (congrArg (fun z => Q (V.str z) _) ?_).mp (q _ (same_upd hp))
      simp only [e_minus, e_dot, str_empty, S_cat, List.append_assoc, List.nil_append, List.append_nil]
    · rename_i c p hp k
      rw [hr] at k
      have h0 : ¬ m.natAbs % 1000000 = 0 := by omega
      rw [hr, hw, e_minus, str_empty, str_nat (w := m.natAbs % 1000000) rfl, zfill_six r6, e_zero, rstrip_S, e_dot]
      refine And.intro (by walk_at "sl3") ?_
      walk_at "run0"
      refine And.intro (by walk_at "sl3") ?_
      refine ⟨_, rfl, by walk_at "sl3", ?_⟩
      refine ⟨_, rfl, ?_⟩
      refine Or.inr ?_
      refine ⟨_, rfl, log_small (by omega), ?_⟩
      rw [str_nat (w := m.natAbs / 1000000) rfl]
      refine ⟨_, rfl, by walk_at "sl3", ?_⟩
      refine ⟨_, rfl, by walk_at "sl3", ?_⟩
      refine ⟨_, rfl, ?_⟩
      refine Or.inl ?_
      refine ⟨_, rfl, by walk_at "sl3", ?_⟩
      refine ⟨_, rfl, by walk_at "sl3", ?_⟩
      rw [show_S, if_pos c, if_neg h0] at q
      refine (congrArg (fun z => Q (V.str z) _) ?_).mp (q _ (same_upd hp))
      simp only [e_minus, e_dot, str_empty, S_cat, List.append_assoc, List.nil_append, List.append_nil]
    · rename_i c p hp k
      rw [hr] at k
      have h0 : m.natAbs % 1000000 = 0 := by omega
      rw [hw, e_none, str_empty]
      refine And.intro (by walk_at "sl3") ?_
      refine ⟨_, rfl, by walk_at "sl3", ?_⟩
      refine ⟨_, rfl, ?_⟩
      refine Or.inr ?_
      refine ⟨_, rfl, log_small (by omega), ?_⟩
      rw [str_nat (w := m.natAbs / 1000000) rfl]
      refine ⟨_, rfl, by walk_at "sl3", ?_⟩
      rw [show_S, if_neg c, if_pos h0] at q
      refine (congrArg (fun z => Q (V.str z) _) ?_).mp (q _ (same_upd hp))
      simp only [e_minus, e_dot, str_empty, S_cat, List.append_assoc, List.nil_append, List.append_nil]
    · rename_i c p hp k
      rw [hr] at k
      have h0 : ¬ m.natAbs % 1000000 = 0 := by omega
      rw [hr, hw, e_none, str_empty, str_nat (w := m.natAbs % 1000000) rfl, zfill_six r6, e_zero, rstrip_S, e_dot]
      refine And.intro (by walk_at "sl3") ?_
      walk_at "run0"
      refine And.intro (by walk_at "sl3") ?_
      refine ⟨_, rfl, by walk_at "sl3", ?_⟩
      refine ⟨_, rfl, ?_⟩
      refine Or.inr ?_
      refine ⟨_, rfl, log_small (by omega), ?_⟩
      rw [str_nat (w := m.natAbs / 1000000) rfl]
      refine ⟨_, rfl, by walk_at "sl3", ?_⟩
      refine ⟨_, rfl, by walk_at "sl3", ?_⟩
      refine ⟨_, rfl, ?_⟩
      refine Or.inl ?_
      refine ⟨_, rfl, by walk_at "sl3", ?_⟩
      refine ⟨_, rfl, by walk_at "sl3", ?_⟩
      rw [show_S, if_neg c, if_neg h0] at q
      refine (congrArg (fun z => Q (V.str z) _) ?_).mp (q _ (same_upd hp))
      simp only [e_minus, e_dot, str_empty, S_cat, List.append_assoc, List.nil_append, List.append_nil]

theorem okare_figures (T : Txt K mg) : FnOk P w K mg base CX0 1 T.aare_figures T.dare_figures Pare_figures (spare_figures K) := by
  refine T.Fare_figures.ok scare_figures (fun vs H Q E h => ?_) (fun cdv A outer s H vs Q E hr h => ?_)
  · obtain ⟨z, most, rfl, _⟩ := h
    rfl
  · obtain ⟨z, most, rfl, hz, q⟩ := h
    refine ⟨_, (pss_one (ps_ret (pe_and (pe_bm0 PySem.F.plainAttrs_str PySem.F.slot_str_isascii PySem.F.type_str_isascii mt_isascii (pv 0)) (pe_and (pe_bm0 PySem.F.plainAttrs_str PySem.F.slot_str_isdigit PySem.F.type_str_isdigit mt_isdigit (pv 0)) (pe_one (pe_cmpR op_le (pe_callB call_len_str (by rfl) T.z_len (by decide +kernel) (pa_cons (pv 0) pa_nil)) (pv 1) (by first | exact nomark _ | rfl))))))), ?_⟩
    rw [← figs_code] at q
    walk_at "run"
    · rename_i a b
      rw [a, b] at q
      exact q
    · rename_i a b
      rw [a, Bool.eq_false_iff.mpr b] at q
      exact q
    · rename_i a
      rw [Bool.eq_false_iff.mpr a] at q
      exact q

theorem okread_amount (T : Txt K mg) : FnOk P w K mg base CX0 2 T.aread_amount T.dread_amount Pread_amount (spread_amount K) := by
  refine T.Fread_amount.ok scread_amount (fun vs H Q E h => ?_) (fun cdv A outer s H vs Q E hr h => ?_)
  · obtain ⟨z, rfl, _⟩ := h
    rfl
  · obtain ⟨z, rfl, hz, q⟩ := h
    refine ⟨_, (pss_cons (ps_set (i := 1) scread_amount.nd rfl (by first | exact Or.inl rfl | exact Or.inr rfl) (pe_bm PySem.F.plainAttrs_str PySem.F.slot_str_strip PySem.F.type_str_strip mt_stripChars (pv 0) (pa_cons pe_str pa_nil)))
    (pss_cons (ps_set (i := 2) scread_amount.nd rfl (by first | exact Or.inl rfl | exact Or.inr rfl) (pe_bm PySem.F.plainAttrs_str PySem.F.slot_str_startswith PySem.F.type_str_startswith mt_startswith (pv 1) (pa_cons pe_str pa_nil)))
    (pss_cons (ps_if (PW.pt (pw_or (pt_val (pv 2)) (pw_or1 (pt_val (pe_bm PySem.F.plainAttrs_str PySem.F.slot_str_startswith PySem.F.type_str_startswith mt_startswith (pv 1) (pa_cons pe_str pa_nil))))))
      (pss_one (ps_set (i := 1) scread_amount.nd rfl (by first | exact Or.inl rfl | exact Or.inr rfl) (pe_slice sl_str (pv 1) (po_some pe_int) po_none)))
      pss_nil)
    (pss_cons (ps_asg (pe_bm PySem.F.plainAttrs_str PySem.F.slot_str_partition PySem.F.type_str_partition mt_partition (pv 1) (pa_cons pe_str pa_nil)) (pg_tup (by rfl) (pgs_cons (pg_name (i := 3) scread_amount.nd rfl (by first | exact Or.inl rfl | exact Or.inr rfl)) (pgs_cons (pg_name (i := 4) scread_amount.nd rfl (by first | exact Or.inl rfl | exact Or.inr rfl)) (pgs_cons (pg_name (i := 5) scread_amount.nd rfl (by first | exact Or.inl rfl | exact Or.inr rfl)) pgs_nil)))))
    (pss_cons (ps_if (pt_not (pt_val (pe_call (okare_figures T) (hr.mono (by decide)) (by rfl) T.gare_figures T.Fare_figures.kp (T.bare_figures) .nil pass0 (pa_cons (pv 3) (pa_cons (pe_glob (v := .int 15) (by rfl) T.m_FIGURES_AHEAD ⟨_, rfl⟩) pa_nil)))))
      (pss_one (ps_ret pe_non))
      pss_nil)
    (pss_cons (ps_if (PW.pt (pw_and (pt_cmpR op_ne (pv 4) pe_str (by first | exact nomark _ | rfl)) (pw_and1 (pt_not (pt_val (pe_call (okare_figures T) (hr.mono (by decide)) (by rfl) T.gare_figures T.Fare_figures.kp (T.bare_figures) .nil pass0 (pa_cons (pv 5) (pa_cons (pe_glob (v := .int 12) (by rfl) T.m_FIGURES_BEHIND ⟨_, rfl⟩) pa_nil))))))))
      (pss_one (ps_ret pe_non))
      pss_nil)
    (pss_cons (ps_set (i := 6) scread_amount.nd rfl (by first | exact Or.inl rfl | exact Or.inr rfl) (pe_callTy call_int_str (by rfl) T.z_int (by decide +kernel) (pa_cons (pe_op op_add_str (pv 3) (pe_bm PySem.F.plainAttrs_str PySem.F.slot_str_ljust PySem.F.type_str_ljust mt_ljustF (pv 5) (pa_cons (pe_glob (v := .int 12) (by rfl) T.m_FIGURES_BEHIND ⟨_, rfl⟩) (pa_cons pe_str pa_nil)))) pa_nil)))
    (pss_cons (ps_set (i := 7) scread_amount.nd rfl (by first | exact Or.inl rfl | exact Or.inr rfl) (pe_call (okhalf_even T) (hr.mono (by decide)) (by rfl) T.ghalf_even T.Fhalf_even.kp (T.bhalf_even) .nil pass0 (pa_cons (pv 6) (pa_cons (pe_powc (c := 1000000) (by decide) (by decide +kernel)) pa_nil))))
    (pss_cons (ps_if (pt_cmpR op_eq (pe_call (okfitting T) (hr.mono (by decide)) (by rfl) T.gfitting T.Ffitting.kp (T.bfitting) .nil pass0 (pa_cons (pv 7) pa_nil)) pe_str (by first | exact nomark _ | rfl))
      (pss_one (ps_ret pe_non))
      pss_nil)
    (pss_one (ps_ret (pe_ifExp (pt_val (pv 2)) (pe_un un_neg (pv 7)) (pv 7))))))))))))), ?_⟩
    refine' merge2 (C := fun U b => U.length ≤ 100000 ∧ ∀ H' : Hp, Same H H' → Q (readP b (Txt.partition U (S [46]))) H') _ ?tail ?rest
    case rest =>
      intro tail
      walk_at "run"
      · rename_i h
        rw [e_blank, e_minus] at h
        rw [readV_1 h] at q
        rw [e_blank, e_minus, h, e_dot]
        have hU : (cutS (Txt.stripChars z (S [32])) (some 1) none).length ≤ 100000 := hl4 (hl3 hz)
        generalize cutS (Txt.stripChars z (S [32])) (some 1) none = U at q hU ⊢
        generalize hv : V.bl true = vb
        exact tail U vb true hv.symm ⟨hU, q⟩
      · rename_i h h2
        rw [e_blank, e_minus] at h
        rw [e_blank, e_plus] at h2
        rw [readV_2 h h2] at q
        rw [e_blank, e_minus, Bool.eq_false_iff.mpr h, e_dot]
        exact tail _ _ false rfl ⟨hl4 (hl3 hz), q⟩
      · rename_i h h2
        rw [e_blank, e_minus] at h
        rw [e_blank, e_plus] at h2
        rw [readV_3 h h2] at q
        rw [e_blank, e_minus, Bool.eq_false_iff.mpr h, e_dot]
        exact tail _ _ false rfl ⟨hl3 hz, q⟩
    case tail =>
      intro U vb b hvb hC
      obtain ⟨lz, q⟩ := hC
      subst hvb
      have pc := part_cases U
      have pl := part_len U (S [46])
      generalize Txt.partition U (S [46]) = P at q pc pl ⊢
      have p1 : P.1.length ≤ 200000 := by omega
      have p2 : P.2.2.length ≤ 200000 := by omega
      intro p hp
      refine ⟨_, _, rfl, .inl (.inl upd_same), rfl, ?_⟩
      walk_at "run"
      · rename_i k
        rw [readP_bad1 (fun z => by rw [z] at k; cases k)] at q
        exact q _ (same_upd hp)
      · rename_i k1 k2 k3
        rw [readP_bad2 (ne_empty.mp k2) (fun z => by rw [z] at k3; cases k3)] at q
        exact q _ (same_upd hp)
      · rename_i k1 k2 k3
        have wt := worth_text pc (nots k1) (Or.inr (nots k3))
        rw [readP_good (nots k1) (Or.inr (nots k3))] at q
        obtain ⟨wt1, wt2, wt3, wt4⟩ := wt
        have nn := near_nn (a := (worthP P : Nat)) (Int.natCast_nonneg _)
        refine ⟨_, _, _, 48, rfl, rfl, (by decide +kernel), rfl, ?_⟩
        refine ⟨_, _, rfl, rfl, (by rw [sizeLine_eq]; omega), ?_⟩
        refine ⟨_, _, rfl, wt1, (by omega), ?_⟩
        walk_at "run"
        rename_i H1 s1
        by_cases c : near (worthP P : Nat) 1000000 < 1000000000000000000000
        · rw [lim_in (by constructor <;> omega)]
          rw [readN_in c] at q
          cases b
          all_goals walk_at "run"
          all_goals exact q _ (by walk_at "same")
        · rw [lim_out (by omega)]
          rw [readN_out c] at q
          walk_at "run"
          exact q _ (by walk_at "same")
      · rename_i k1 k2
        have k3 : P.2.1 = Str.empty := Decidable.byContradiction fun z => k2 (ne_empty.mpr z)
        have wt := worth_text pc (nots k1) (Or.inl k3)
        rw [readP_good (nots k1) (Or.inl k3)] at q
        obtain ⟨wt1, wt2, wt3, wt4⟩ := wt
        have nn := near_nn (a := (worthP P : Nat)) (Int.natCast_nonneg _)
        refine ⟨_, _, _, 48, rfl, rfl, (by decide +kernel), rfl, ?_⟩
        refine ⟨_, _, rfl, rfl, (by rw [sizeLine_eq]; omega), ?_⟩
        refine ⟨_, _, rfl, wt1, (by omega), ?_⟩
        walk_at "run"
        rename_i H1 s1
        by_cases c : near (worthP P : Nat) 1000000 < 1000000000000000000000
        · rw [lim_in (by constructor <;> omega)]
          rw [readN_in c] at q
          cases b
          all_goals walk_at "run"
          all_goals exact q _ (by walk_at "same")
        · rw [lim_out (by omega)]
          rw [readN_out c] at q
          walk_at "run"
          exact q _ (by walk_at "same")

theorem ok_law_cell (T : Txt K mg) : FnOk P w K mg base CX0 1 T.a_law_cell T.d_law_cell P_law_cell (sp_law_cell K) := by
  refine T.F_law_cell.ok sc_law_cell (fun vs H Q E h => ?_) (fun cdv A outer s H vs Q E hr h => ?_)
  · obtain ⟨a, ns, j, rfl, _⟩ := h
    rfl
  · obtain ⟨a, ns, j, rfl, hS, q⟩ := h
    refine ⟨_, (pss_cons (ps_if (pt_cmpR op_lt (pv 1) (pe_callB call_len_seq (by rfl) T.z_len (by decide +kernel) (pa_cons (pv 0) pa_nil)) (by first | exact nomark _ | rfl))
      (pss_one (ps_ret (pe_ix ix_list (pv 0) (pv 1) (fun _ _ => rfl))))
      pss_nil)
    (pss_one (ps_ret pe_int))), ?_⟩
    refine ⟨_, rfl, _, rfl, a, _, rfl, .inl hS, _, _, rfl, rfl, _, rfl, ite2 (fun e => ?_) (fun e => ?_)⟩
    · have e1 : j < ns.length := by
        have e2 := of_decide_eq_true e
        rw [List.length_map] at e2
        omega
      refine ⟨_, rfl, _, rfl, a, _, _, .int (ns.getD j 0), rfl, rfl, hS, atI_nat ?_, q⟩
      rw [List.getElem?_map, List.getD_eq_getElem?_getD, List.getElem?_eq_getElem e1]
      rfl
    · have e1 : ¬ j < ns.length := fun z => e (decide_eq_true (by rw [List.length_map]; omega))
      have e2 : ns.getD j 0 = 0 := by
        rw [List.getD_eq_getElem?_getD, List.getElem?_eq_none (by omega)]
        rfl
      rw [e2] at q
      exact q

theorem ok_law_mix (T : Txt K mg) : FnOk P w K mg base CX0 1 T.a_law_mix T.d_law_mix P_law_mix (sp_law_mix K) := by
  refine T.F_law_mix.ok sc_law_mix (fun vs H Q E h => ?_) (fun cdv A outer s H vs Q E hr h => ?_)
  · obtain ⟨c, s, rfl, _⟩ := h
    rfl
  · obtain ⟨c, s, rfl, q⟩ := h
    refine ⟨_, (pss_cons (ps_set (i := 2) sc_law_mix.nd rfl (by first | exact Or.inl rfl | exact Or.inr rfl) (pe_op op_mod (pe_callTy call_int1 (by rfl) T.z_int (by decide +kernel) (pa_cons (pe_op op_add (pe_op op_add (pe_op op_mul (pv 0) pe_int) (pe_op op_mul (pv 1) pe_int)) pe_int) pa_nil)) pe_int))
    (pss_one (ps_ret (pe_op op_mod (pe_callTy call_int1 (by rfl) T.z_int (by decide +kernel) (pa_cons (pe_op op_add (pe_op op_add (pe_op op_mul (pv 2) (pv 2)) (pe_op op_mul (pv 2) pe_int)) (pe_op op_mul (pv 1) pe_int)) pa_nil)) pe_int)))), ?_⟩
    walk_at "run"
    generalize e1 : (c * 48271 + s * 69621 + 12345) % 2147483647 = one
    have h0 : 0 ≤ one := by omega
    have h1 : one < 2147483647 := by omega
    walk_at "run"
    refine q _ ?_ ?_
    · omega
    · omega

theorem ok_law_amount (T : Txt K mg) : FnOk P w K mg base CX0 2 T.a_law_amount T.d_law_amount P_law_amount (sp_law_amount K) := by
  refine T.F_law_amount.ok sc_law_amount (fun vs H Q E h => ?_) (fun cdv A outer s H vs Q E hr h => ?_)
  · obtain ⟨c, s, rfl, _⟩ := h
    rfl
  · obtain ⟨c, s, rfl, q⟩ := h
    refine ⟨_, (pss_cons (ps_set (i := 2) sc_law_amount.nd rfl (by first | exact Or.inl rfl | exact Or.inr rfl) (pe_op op_sub (pe_powc (c := 1000000000000000000000) (by decide) (by decide +kernel)) pe_int))
    (pss_cons (ps_if (pt_cmpR op_ge (pv 0) (pe_powc (c := 1000000000000000000) (by decide) (by decide +kernel)) (by first | exact nomark _ | rfl))
      (pss_one (ps_ret (pe_op op_sub (pe_op op_mod (pe_callTy call_int1 (by rfl) T.z_int (by decide +kernel) (pa_cons (pe_op op_sub (pv 0) (pe_powc (c := 1000000000000000000) (by decide) (by decide +kernel))) pa_nil)) (pe_op op_add (pe_op op_mul pe_int (pv 2)) pe_int)) (pv 2))))
      pss_nil)
    (pss_cons (ps_set (i := 3) sc_law_amount.nd rfl (by first | exact Or.inl rfl | exact Or.inr rfl) (pe_op op_mod (pe_callTy call_int1 (by rfl) T.z_int (by decide +kernel) (pa_cons (pe_call (ok_law_mix T) (hr.mono (by decide)) (by rfl) T.g_law_mix T.F_law_mix.kp (T.b_law_mix) .nil pass0 (pa_cons (pv 0) (pa_cons (pv 1) pa_nil))) pa_nil)) pe_int))
    (pss_cons (ps_set (i := 4) sc_law_amount.nd rfl (by first | exact Or.inl rfl | exact Or.inr rfl) (pe_call (ok_law_mix T) (hr.mono (by decide)) (by rfl) T.g_law_mix T.F_law_mix.kp (T.b_law_mix) .nil pass0 (pa_cons (pv 0) (pa_cons (pe_op op_add (pv 1) pe_int) pa_nil))))
    (pss_cons (ps_if (pt_cmpR op_eq (pv 3) pe_int (by first | exact nomark _ | rfl))
      (pss_cons (ps_set (i := 5) sc_law_amount.nd rfl (by first | exact Or.inl rfl | exact Or.inr rfl) (pe_lst (pa_cons pe_int (pa_cons pe_int (pa_cons pe_int (pa_cons (pe_un un_neg pe_int) (pa_cons pe_int (pa_cons pe_int (pa_cons pe_int (pa_cons (pe_un un_neg pe_int) (pa_cons pe_int (pa_cons pe_int (pa_cons pe_int (pa_cons (pe_un un_neg pe_int) (pa_cons (pv 2) (pa_cons (pe_un un_neg (pv 2)) pa_nil))))))))))))))))
    (pss_one (ps_ret (pe_ix ix_list (pv 5) (pe_op op_mod (pe_callTy call_int1 (by rfl) T.z_int (by decide +kernel) (pa_cons (pv 4) pa_nil)) pe_int) (fun _ _ => rfl)))))
      pss_nil)
    (pss_cons (ps_if (pt_cmpR op_eq (pv 3) pe_int (by first | exact nomark _ | rfl))
      (pss_one (ps_ret (pe_op op_sub (pe_op op_mod (pe_callTy call_int1 (by rfl) T.z_int (by decide +kernel) (pa_cons (pv 4) pa_nil)) pe_int) pe_int)))
      pss_nil)
    (pss_cons (ps_if (pt_cmpR op_eq (pv 3) pe_int (by first | exact nomark _ | rfl))
      (pss_one (ps_ret (pe_op op_mul (pe_op op_sub (pe_op op_mod (pe_callTy call_int1 (by rfl) T.z_int (by decide +kernel) (pa_cons (pv 4) pa_nil)) pe_int) pe_int) pe_int)))
      pss_nil)
    (pss_cons (ps_if (pt_cmpR op_eq (pv 3) pe_int (by first | exact nomark _ | rfl))
      (pss_one (ps_ret (pe_op op_mul (pe_op op_sub (pe_op op_mul pe_int (pe_op op_mod (pe_callTy call_int1 (by rfl) T.z_int (by decide +kernel) (pa_cons (pv 4) pa_nil)) pe_int)) pe_int) pe_int)))
      pss_nil)
    (pss_cons (ps_if (pt_cmpR op_eq (pv 3) pe_int (by first | exact nomark _ | rfl))
      (pss_one (ps_ret (pe_op op_sub (pv 2) (pe_op op_mod (pe_callTy call_int1 (by rfl) T.z_int (by decide +kernel) (pa_cons (pv 4) pa_nil)) pe_int))))
      pss_nil)
    (pss_cons (ps_if (pt_cmpR op_eq (pv 3) pe_int (by first | exact nomark _ | rfl))
      (pss_one (ps_ret (pe_op op_sub (pe_op op_mod (pe_callTy call_int1 (by rfl) T.z_int (by decide +kernel) (pa_cons (pv 4) pa_nil)) pe_int) (pv 2))))
      pss_nil)
    (pss_cons (ps_if (pt_cmpR op_eq (pv 3) pe_int (by first | exact nomark _ | rfl))
      (pss_one (ps_ret (pe_op op_sub (pe_op op_mod (pe_callTy call_int1 (by rfl) T.z_int (by decide +kernel) (pa_cons (pe_op op_mul (pv 4) (pv 4)) pa_nil)) (pe_op op_mul pe_int (pe_powc (c := 1000000000000) (by decide) (by decide +kernel)))) (pe_powc (c := 1000000000000) (by decide) (by decide +kernel)))))
      pss_nil)
    (pss_cons (ps_set (i := 6) sc_law_amount.nd rfl (by first | exact Or.inl rfl | exact Or.inr rfl) (pe_op op_add (pe_op op_add (pe_op op_mul (pv 4) (pe_powc (c := 1000000000000000000) (by decide) (by decide +kernel))) (pe_op op_mul (pe_call (ok_law_mix T) (hr.mono (by decide)) (by rfl) T.g_law_mix T.F_law_mix.kp (T.b_law_mix) .nil pass0 (pa_cons (pv 0) (pa_cons (pe_op op_add (pv 1) pe_int) pa_nil))) (pe_powc (c := 1000000000) (by decide) (by decide +kernel)))) (pe_call (ok_law_mix T) (hr.mono (by decide)) (by rfl) T.g_law_mix T.F_law_mix.kp (T.b_law_mix) .nil pass0 (pa_cons (pv 0) (pa_cons (pe_op op_add (pv 1) pe_int) pa_nil)))))
    (pss_one (ps_ret (pe_op op_sub (pe_op op_mod (pe_callTy call_int1 (by rfl) T.z_int (by decide +kernel) (pa_cons (pv 6) pa_nil)) (pe_op op_add (pe_op op_mul pe_int (pv 2)) pe_int)) (pv 2)))))))))))))))), ?_⟩
    walk_at "run"
    all_goals first
      | refine q _ _ (Same.refl _) ?_ ?_ <;> omega
      | skip
    rename_i p hp
    refine atI_go (.inl (.inl upd_same)) (by omega) (by show _ < (14 : Int); omega) fun v hv => ?_
    simp only [List.mem_cons, List.not_mem_nil, or_false] at hv
    rcases hv with rfl | rfl | rfl | rfl | rfl | rfl | rfl | rfl | rfl | rfl | rfl | rfl | rfl | rfl
    all_goals exact q _ _ (same_upd hp) (by decide) (by decide)

theorem ok_law_nearest (T : Txt K mg) : FnOk P w K mg base CX0 1 T.a_law_nearest T.d_law_nearest P_law_nearest (sp_law_nearest K) := by
  refine T.F_law_nearest.ok sc_law_nearest (fun vs H Q E h => ?_) (fun cdv A outer s H vs Q E hr h => ?_)
  · obtain ⟨a, b, rfl, _⟩ := h
    rfl
  · obtain ⟨a, b, rfl, hb, ha, q⟩ := h
    refine ⟨_, (pss_cons (ps_set (i := 2) sc_law_nearest.nd rfl (by first | exact Or.inl rfl | exact Or.inr rfl) (pe_op op_fdivB (pv 0) (pv 1)))
    (pss_cons (ps_set (i := 3) sc_law_nearest.nd rfl (by first | exact Or.inl rfl | exact Or.inr rfl) (pe_op op_mulB pe_int (pe_op op_sub (pv 0) (pe_op op_mulB (pv 2) (pv 1)))))
    (pss_cons (ps_if (PW.pt (pw_or (pt_cmpR op_gt (pv 3) (pv 1) (by first | exact nomark _ | rfl)) (pw_or1 (PW.pt (pw_and (pt_cmpR op_eq (pv 3) (pv 1) (by first | exact nomark _ | rfl)) (pw_and1 (pt_cmpR op_eq (pe_op op_mod (pe_callTy call_int1 (by rfl) T.z_int (by decide +kernel) (pa_cons (pv 2) pa_nil)) pe_int) pe_int (by first | exact nomark _ | rfl))))))))
      (pss_one (ps_ret (pe_op op_add (pv 2) pe_int)))
      pss_nil)
    (pss_one (ps_ret (pv 2)))))), ?_⟩
    have hu := ediv_up (i := a) hb.1
    have hd := ediv_dn (i := a) hb.1
    have em := Int.mul_ediv_add_emod a b
    have ec := Int.mul_comm b (a / b)
    have r0 := Int.emod_nonneg a (show b ≠ 0 by omega)
    have r1 := Int.emod_lt_of_pos a hb.1
    walk_at "run"
    all_goals refine (congrArg (fun z => Q (V.int z) _) ?_).mp q
    all_goals (unfold near; (repeat' split) <;> omega)

theorem ok_law_written (T : Txt K mg) : FnOk P w K mg base CX0 1 T.a_law_written T.d_law_written P_law_written (sp_law_written K) := by
  refine T.F_law_written.ok sc_law_written (fun vs H Q E h => ?_) (fun cdv A outer s H vs Q E hr h => ?_)
  · obtain ⟨m, rfl, _⟩ := h
    rfl
  · obtain ⟨m, rfl, hm, q⟩ := h
    refine ⟨_, (pss_cons (ps_set (i := 1) sc_law_written.nd rfl (by first | exact Or.inl rfl | exact Or.inr rfl) (pe_callB call_abs (by rfl) T.z_abs (by decide +kernel) (pa_cons (pv 0) pa_nil)))
    (pss_cons (ps_set (i := 2) sc_law_written.nd rfl (by first | exact Or.inl rfl | exact Or.inr rfl) (pe_callTy call_str_int (by rfl) T.z_str (by decide +kernel) (pa_cons (pe_op op_fdiv (pv 1) pe_int) pa_nil)))
    (pss_cons (ps_set (i := 3) sc_law_written.nd rfl (by first | exact Or.inl rfl | exact Or.inr rfl) (pe_bm PySem.F.plainAttrs_str PySem.F.slot_str_rstrip PySem.F.type_str_rstrip mt_rstripChars (pe_slice sl_str (pe_callTy call_str_int (by rfl) T.z_str (by decide +kernel) (pa_cons (pe_op op_add pe_int (pe_op op_mod (pe_callTy call_int1 (by rfl) T.z_int (by decide +kernel) (pa_cons (pv 1) pa_nil)) pe_int)) pa_nil)) (po_some pe_int) po_none) (pa_cons pe_str pa_nil)))
    (pss_cons (ps_if (pt_cmpR op_ne (pv 3) pe_str (by first | exact nomark _ | rfl))
      (pss_one (ps_set (i := 2) sc_law_written.nd rfl (by first | exact Or.inl rfl | exact Or.inr rfl) (pe_op op_add_str (pe_op op_add_str (pv 2) pe_str) (pv 3))))
      pss_nil)
    (pss_cons (ps_if (pt_cmpR op_lt (pv 0) pe_int (by first | exact nomark _ | rfl))
      (pss_one (ps_ret (pe_op op_add_str pe_str (pv 2))))
      pss_nil)
    (pss_one (ps_ret (pv 2)))))))), ?_⟩
    have hw : (if m < 0 then -m else m) / 1000000 = ((m.natAbs / 1000000 : Nat) : Int) := by split <;> omega
    have hr : 1000000 + (if m < 0 then -m else m) % 1000000 = ((1000000 + m.natAbs % 1000000 : Nat) : Int) := by split <;> omega
    have r6 : m.natAbs % 1000000 < 1000000 := by omega
    have n1 : (numL (m.natAbs / 1000000)).length ≤ 24 := numL_short (by omega)
    have n2 := zt_len (pad6 (m.natAbs % 1000000))
    have n3 : (pad6 (m.natAbs % 1000000)).length = 6 := rfl
    walk_at "run0"
    rw [hr, hw, str_nat (w := 1000000 + m.natAbs % 1000000) rfl, num_mill r6, cut_one, List.drop_one, List.tail_cons, e_zero, str_nat (w := m.natAbs / 1000000) rfl]
    refine And.intro (by walk_at "sl") ?_
    walk_at "run0"
    refine And.intro (by walk_at "sl") ?_
    rw [rstrip_S]
    walk_at "run0"
    · rename_i k c
      have h0 : ¬ m.natAbs % 1000000 = 0 := fun z0 => (ne_empty.mp k) (by rw [z0, rest_zero]; rfl)
      rw [show_S, if_pos c, if_neg h0] at q
      refine (congrArg (fun z => Q (V.str z) H) ?_).mp q
      simp only [e_minus, e_dot, str_empty, S_cat, List.append_assoc, List.nil_append, List.append_nil]
    · rename_i k c
      have h0 : ¬ m.natAbs % 1000000 = 0 := fun z0 => (ne_empty.mp k) (by rw [z0, rest_zero]; rfl)
      rw [show_S, if_neg c, if_neg h0] at q
      refine (congrArg (fun z => Q (V.str z) H) ?_).mp q
      simp only [e_minus, e_dot, str_empty, S_cat, List.append_assoc, List.nil_append, List.append_nil]
    · rename_i k c
      have h0 : m.natAbs % 1000000 = 0 := Decidable.byContradiction fun z => k (ne_empty.mpr fun w => zt_ne r6 z (S_inj w))
      rw [show_S, if_pos c, if_pos h0] at q
      refine (congrArg (fun z => Q (V.str z) H) ?_).mp q
      simp only [e_minus, e_dot, str_empty, S_cat, List.append_assoc, List.nil_append, List.append_nil]
    · rename_i k c
      have h0 : m.natAbs % 1000000 = 0 := Decidable.byContradiction fun z => k (ne_empty.mpr fun w => zt_ne r6 z (S_inj w))
      rw [show_S, if_neg c, if_pos h0] at q
      refine (congrArg (fun z => Q (V.str z) H) ?_).mp q
      simp only [e_minus, e_dot, str_empty, S_cat, List.append_assoc, List.nil_append, List.append_nil]

theorem ok_law_figures (T : Txt K mg) : FnOk P w K mg base CX0 1 T.a_law_figures T.d_law_figures P_law_figures (sp_law_figures K) := by
  refine T.F_law_figures.ok sc_law_figures (fun vs H Q E h => ?_) (fun cdv A outer s H vs Q E hr h => ?_)
  · obtain ⟨z, most, rfl, _⟩ := h
    rfl
  · obtain ⟨z, most, rfl, hz, q⟩ := h
    refine ⟨_, (pss_cons (ps_if (PW.pt (pw_or (pt_cmpR op_lt (pe_callB call_len_str (by rfl) T.z_len (by decide +kernel) (pa_cons (pv 0) pa_nil)) pe_int (by first | exact nomark _ | rfl)) (pw_or1 (pt_cmpR op_gt (pe_callB call_len_str (by rfl) T.z_len (by decide +kernel) (pa_cons (pv 0) pa_nil)) (pv 1) (by first | exact nomark _ | rfl)))))
      (pss_one (ps_ret pe_bl))
      pss_nil)
    (pss_cons (ps_for PassesOwn.never rfl (pi_str (pv 0)) (pg_name (i := 2) sc_law_figures.nd rfl (by first | exact Or.inl rfl | exact Or.inr rfl))
      (pss_one (ps_if (pt_cmpR op_notIn_sign (pv 2) pe_str (by first | exact nomark _ | rfl))
      (pss_one (ps_ret pe_bl))
      pss_nil)))
    (pss_one (ps_ret pe_bl)))), ?_⟩
    have el := len_tl z
    walk_at "run"
    · rw [figs_len (Or.inl (by omega))] at q
      exact q
    · rw [figs_len (Or.inr (by omega))] at q
      exact q
    · refine for_it walk_str (fun i σ H' => H' = H ∧ (∀ (j c : Nat), j < i → (tl z)[j]? = some c → isD c = true) ∧ ∃ u, σ = [some (.str z), some (.int most), u]) ⟨rfl, fun _ _ h => absurd h (Nat.not_lt_zero _), none, rfl⟩ (fun _ _ _ _ _ => trivial) (fun i x σ H1 H2 hi hp hy => ?_) (fun σ H' hp => ?_)
      · obtain ⟨rfl, hd, u, rfl⟩ := hp
        obtain ⟨rfl, c, ec, rfl⟩ := hy
        have ec2 : (tl z)[i]? = some c := by rw [Array.getElem?_toList]; exact ec
        refine ⟨_, rfl, c, _, rfl, rfl, ?_⟩
        walk_at "run"
        · rename_i hb
          rw [figs_bad ec2 (fun k => by rw [decide_eq_true (mem_tens.mpr k)] at hb; cases hb)] at q
          exact q
        · rename_i hb
          refine ⟨fun j d hj e => ?_, _, rfl⟩
          by_cases k : j = i
          · rw [k, ec2] at e
            rw [← Option.some.inj e]
            exact mem_tens.mp (by simpa using hb)
          · exact hd j d (by omega) e
      · obtain ⟨rfl, hd, u, rfl⟩ := hp
        rw [figs_good (fun i c h => hd i c (by have := (List.getElem?_eq_some_iff.mp h).1; simpa [tl] using this) h) (by omega) (by omega)] at q
        exact q

theorem ok_law_read (T : Txt K mg) : FnOk P w K mg base CX0 2 T.a_law_read T.d_law_read P_law_read (sp_law_read K) := by
  refine T.F_law_read.ok sc_law_read (fun vs H Q E h => ?_) (fun cdv A outer s H vs Q E hr h => ?_)
  · obtain ⟨z, rfl, _⟩ := h
    rfl
  · obtain ⟨z, rfl, hz, q⟩ := h
    refine ⟨_, (pss_cons (ps_set (i := 1) sc_law_read.nd rfl (by first | exact Or.inl rfl | exact Or.inr rfl) (pe_bm PySem.F.plainAttrs_str PySem.F.slot_str_strip PySem.F.type_str_strip mt_stripChars (pv 0) (pa_cons pe_str pa_nil)))
    (pss_cons (ps_set (i := 2) sc_law_read.nd rfl (by first | exact Or.inl rfl | exact Or.inr rfl) (pe_cmpR op_eq (pe_slice sl_str (pv 1) po_none (po_some pe_int)) pe_str (by first | exact nomark _ | rfl)))
    (pss_cons (ps_if (PW.pt (pw_or (pt_cmpR op_eq (pe_slice sl_str (pv 1) po_none (po_some pe_int)) pe_str (by first | exact nomark _ | rfl)) (pw_or1 (pt_cmpR op_eq (pe_slice sl_str (pv 1) po_none (po_some pe_int)) pe_str (by first | exact nomark _ | rfl)))))
      (pss_one (ps_set (i := 1) sc_law_read.nd rfl (by first | exact Or.inl rfl | exact Or.inr rfl) (pe_slice sl_str (pv 1) (po_some pe_int) po_none)))
      pss_nil)
    (pss_cons (ps_set (i := 3) sc_law_read.nd rfl (by first | exact Or.inl rfl | exact Or.inr rfl) (pe_bm PySem.F.plainAttrs_str PySem.F.slot_str_partition PySem.F.type_str_partition mt_partition (pv 1) (pa_cons pe_str pa_nil)))
    (pss_cons (ps_if (pt_not (pt_val (pe_call (ok_law_figures T) (hr.mono (by decide)) (by rfl) T.g_law_figures T.F_law_figures.kp (T.b_law_figures) .nil pass0 (pa_cons (pe_ix ix_tup (pv 3) pe_int (fun _ _ => rfl)) (pa_cons pe_int pa_nil)))))
      (pss_one (ps_ret pe_non))
      pss_nil)
    (pss_cons (ps_if (PW.pt (pw_and (pt_cmpR op_eq (pe_ix ix_tup (pv 3) pe_int (fun _ _ => rfl)) pe_str (by first | exact nomark _ | rfl)) (pw_and1 (pt_not (pt_val (pe_call (ok_law_figures T) (hr.mono (by decide)) (by rfl) T.g_law_figures T.F_law_figures.kp (T.b_law_figures) .nil pass0 (pa_cons (pe_ix ix_tup (pv 3) pe_int (fun _ _ => rfl)) (pa_cons pe_int pa_nil))))))))
      (pss_one (ps_ret pe_non))
      pss_nil)
    (pss_cons (ps_set (i := 4) sc_law_read.nd rfl (by first | exact Or.inl rfl | exact Or.inr rfl) pe_int)
    (pss_cons (ps_for PassesOwn.never rfl (pi_str (pe_op op_add_str (pe_op op_add_str (pe_ix ix_tup (pv 3) pe_int (fun _ _ => rfl)) (pe_ix ix_tup (pv 3) pe_int (fun _ _ => rfl))) (pe_op op_repS pe_str (pe_op op_sub pe_int (pe_callB call_len_str (by rfl) T.z_len (by decide +kernel) (pa_cons (pe_ix ix_tup (pv 3) pe_int (fun _ _ => rfl)) pa_nil)))))) (pg_name (i := 5) sc_law_read.nd rfl (by first | exact Or.inl rfl | exact Or.inr rfl))
      (pss_one (ps_set (i := 4) sc_law_read.nd rfl (by first | exact Or.inl rfl | exact Or.inr rfl) (pe_op op_add (pe_op op_mul (pv 4) pe_int) (pe_bm PySem.F.plainAttrs_str PySem.F.slot_str_find PySem.F.type_str_find mt_find pe_str (pa_cons (pv 5) pa_nil))))))
    (pss_cons (ps_set (i := 4) sc_law_read.nd rfl (by first | exact Or.inl rfl | exact Or.inr rfl) (pe_call (ok_law_nearest T) (hr.mono (by decide)) (by rfl) T.g_law_nearest T.F_law_nearest.kp (T.b_law_nearest) .nil pass0 (pa_cons (pv 4) (pa_cons pe_int pa_nil))))
    (pss_cons (ps_if (pt_cmpR op_ge (pv 4) (pe_powc (c := 1000000000000000000000) (by decide) (by decide +kernel)) (by first | exact nomark _ | rfl))
      (pss_one (ps_ret pe_non))
      pss_nil)
    (pss_cons (ps_if (pt_val (pv 2))
      (pss_one (ps_ret (pe_un un_neg (pv 4))))
      pss_nil)
    (pss_one (ps_ret (pv 4)))))))))))))), ?_⟩
    refine' merge2 (C := fun U b => U.length ≤ 100000 ∧ ∀ H' : Hp, Same H H' → Q (readP b (Txt.partition U (S [46]))) H') _ ?tail ?rest
    case rest =>
      intro tail
      walk_at "run0"
      · rename_i h
        rw [e_blank, e_minus] at h
        rw [readV_1 (head_is h)] at q
        rw [e_blank, e_minus, decide_eq_true h, e_dot]
        have hU : (cutS (Txt.stripChars z (S [32])) (some 1) none).length ≤ 100000 := hl4 (hl3 hz)
        generalize cutS (Txt.stripChars z (S [32])) (some 1) none = U at q hU ⊢
        generalize hv : V.bl true = vb
        exact tail U vb true hv.symm ⟨hU, q⟩
      · rename_i h h2
        rw [e_blank, e_minus] at h
        rw [e_blank, e_plus] at h2
        rw [readV_2 (head_not h) (head_is h2)] at q
        rw [e_blank, e_minus, decide_eq_false h, e_dot]
        exact tail _ _ false rfl ⟨hl4 (hl3 hz), q⟩
      · rename_i h h2
        rw [e_blank, e_minus] at h
        rw [e_blank, e_plus] at h2
        rw [readV_3 (head_not h) (head_not h2)] at q
        rw [e_blank, e_minus, decide_eq_false h, e_dot]
        exact tail _ _ false rfl ⟨hl3 hz, q⟩
    case tail =>
      intro U vb b hvb hC
      obtain ⟨lz, q⟩ := hC
      subst hvb
      have pc := part_cases U
      have pl := part_len U (S [46])
      generalize Txt.partition U (S [46]) = P at q pc pl ⊢
      have p1 : P.1.length ≤ 200000 := by omega
      have p2 : P.2.2.length ≤ 200000 := by omega
      intro p hp
      walk_at "run0"
      · rename_i k
        rw [readP_bad1 (fun z => by rw [z] at k; cases k)] at q
        exact q _ (same_upd hp)
      · rename_i k1 k2 k3
        have k4 : ¬ P.2.1 = Str.empty := fun z => by rw [z] at k2; exact absurd (congrArg tl (V.str.inj k2)) (fun w => nomatch w)
        rw [readP_bad2 k4 (fun z => by rw [z] at k3; cases k3)] at q
        exact q _ (same_upd hp)
      · rename_i k1 k2 k3
        have wt := allP_ok pc (nots k1) (Or.inr (nots k3))
        rw [readP_good (nots k1) (Or.inr (nots k3))] at q
        obtain ⟨wt1, wt2, wt3, wt4, wt5⟩ := wt
        have nn := near_nn (a := (worthP P : Nat)) (Int.natCast_nonneg _)
        have l1 := len_tl P.1
        have l2 := len_tl P.2.2
        refine And.intro (by rw [sizeLine_eq]; omega) ?_
        walk_at "run0"
        refine And.intro (by have a := repS_len (Str.ofString "0") ((12 : Int) - (P.2.2.length : Int)).toNat; have b : (Str.ofString "0").length = 1 := (by decide +kernel); have c := Str.length_append P.1 P.2.2; rw [sizeLine_eq]; rw [b, Nat.one_mul] at a; omega) ?_
        refine ⟨_, rfl, ?_⟩
        refine for_it (walk_str (z := allP P)) (fun i σ H' => H' = upd H p (.tup [.str P.1, .str P.2.1, .str P.2.2]) ∧ ∃ u, σ = [some (.str z), some (.str U), some (.bl b), some (.ref p), some (.int (digitsVal ((tl (allP P)).take i) : Nat)), u]) ⟨rfl, none, rfl⟩ (fun _ _ _ _ _ => trivial) (fun i x σ H1 H2 hi hp2 hy => ?_) (fun σ H' hp2 => ?_)
        · obtain ⟨rfl, u, rfl⟩ := hp2
          obtain ⟨rfl, c, ec, rfl⟩ := hy
          have ec2 : (tl (allP P))[i]? = some c := by rw [Array.getElem?_toList]; exact ec
          have dc := wt1 c (List.mem_of_getElem? ec2)
          have ev : ((digitsVal ((tl (allP P)).take i) : Nat) : Int) * 10 + Txt.find (Str.ofString "0123456789") ⟨#[c]⟩ = ((digitsVal ((tl (allP P)).take (i + 1)) : Nat) : Int) := by
            rw [find_tens c dc.1 dc.2, val_step ec2]
            omega
          walk_at "run0"
          exact ⟨some (.str ⟨#[c]⟩), congrArg (fun n : Int => [some (V.str z), some (.str U), some (.bl b), some (.ref p), some (.int n), some (.str ⟨#[c]⟩)]) ev⟩
        · obtain ⟨rfl, u, rfl⟩ := hp2
          have et : (tl (allP P)).take (allP P).cps.size = tl (allP P) := List.take_of_length_le (by simp [tl])
          rw [et, wt2]
          clear wt2 et
          generalize worthP P = n at *
          refine ⟨_, rfl, ?_⟩
          refine ⟨_, _, rfl, ⟨by decide, by decide⟩, ⟨by omega, by omega⟩, ?_⟩
          cases b
          all_goals walk_at "run0"
          all_goals first
            | (rw [readN_out (by omega)] at q; exact q _ (same_upd hp))
            | (rw [readN_in (by omega)] at q; exact q _ (same_upd hp))
      · rename_i k1 k2
        have k3 : P.2.1 = Str.empty := by
          rcases pc with c | c
          · exact absurd (congrArg V.str c) k2
          · exact c.1
        have wt := allP_ok pc (nots k1) (Or.inl k3)
        rw [readP_good (nots k1) (Or.inl k3)] at q
        obtain ⟨wt1, wt2, wt3, wt4, wt5⟩ := wt
        have nn := near_nn (a := (worthP P : Nat)) (Int.natCast_nonneg _)
        have l1 := len_tl P.1
        have l2 := len_tl P.2.2
        refine And.intro (by rw [sizeLine_eq]; omega) ?_
        walk_at "run0"
        refine And.intro (by have a := repS_len (Str.ofString "0") ((12 : Int) - (P.2.2.length : Int)).toNat; have b : (Str.ofString "0").length = 1 := (by decide +kernel); have c := Str.length_append P.1 P.2.2; rw [sizeLine_eq]; rw [b, Nat.one_mul] at a; omega) ?_
        refine ⟨_, rfl, ?_⟩
        refine for_it (walk_str (z := allP P)) (fun i σ H' => H' = upd H p (.tup [.str P.1, .str P.2.1, .str P.2.2]) ∧ ∃ u, σ = [some (.str z), some (.str U), some (.bl b), some (.ref p), some (.int (digitsVal ((tl (allP P)).take i) : Nat)), u]) ⟨rfl, none, rfl⟩ (fun _ _ _ _ _ => trivial) (fun i x σ H1 H2 hi hp2 hy => ?_) (fun σ H' hp2 => ?_)
        · obtain ⟨rfl, u, rfl⟩ := hp2
          obtain ⟨rfl, c, ec, rfl⟩ := hy
          have ec2 : (tl (allP P))[i]? = some c := by rw [Array.getElem?_toList]; exact ec
          have dc := wt1 c (List.mem_of_getElem? ec2)
          have ev : ((digitsVal ((tl (allP P)).take i) : Nat) : Int) * 10 + Txt.find (Str.ofString "0123456789") ⟨#[c]⟩ = ((digitsVal ((tl (allP P)).take (i + 1)) : Nat) : Int) := by
            rw [find_tens c dc.1 dc.2, val_step ec2]
            omega
          walk_at "run0"
          exact ⟨some (.str ⟨#[c]⟩), congrArg (fun n : Int => [some (V.str z), some (.str U), some (.bl b), some (.ref p), some (.int n), some (.str ⟨#[c]⟩)]) ev⟩
        · obtain ⟨rfl, u, rfl⟩ := hp2
          have et : (tl (allP P)).take (allP P).cps.size = tl (allP P) := List.take_of_length_le (by simp [tl])
          rw [et, wt2]
          clear wt2 et
          generalize worthP P = n at *
          refine ⟨_, rfl, ?_⟩
          refine ⟨_, _, rfl, ⟨by decide, by decide⟩, ⟨by omega, by omega⟩, ?_⟩
          cases b
          all_goals walk_at "run0"
          all_goals first
            | (rw [readN_out (by omega)] at q; exact q _ (same_upd hp))
            | (rw [readN_in (by omega)] at q; exact q _ (same_upd hp))

theorem ok_law_signs (T : Txt K mg) : FnOk P w K mg base CX0 2 T.a_law_signs T.d_law_signs P_law_signs (sp_law_signs K) := by
  refine T.F_law_signs.ok sc_law_signs (fun vs H Q E h => ?_) (fun cdv A outer s H vs Q E hr h => ?_)
  · obtain ⟨c, s, g, rfl, _⟩ := h
    rfl
  · obtain ⟨c, s, g, rfl, hg, q⟩ := h
    refine ⟨_, (pss_cons (ps_set (i := 3) sc_law_signs.nd rfl (by first | exact Or.inl rfl | exact Or.inr rfl) (pe_lst pa_nil))
    (pss_cons (ps_if (pt_cmpR op_ge (pv 0) (pe_powc (c := 1000000000000000000) (by decide) (by decide +kernel)) (by first | exact nomark _ | rfl))
      (pss_cons (ps_set (i := 4) sc_law_signs.nd rfl (by first | exact Or.inl rfl | exact Or.inr rfl) (pe_op op_sub (pv 0) (pe_powc (c := 1000000000000000000) (by decide) (by decide +kernel))))
    (pss_cons (ps_for PassesOwn.never rfl (pi_range1 (by rfl) T.z_range (pa_cons pe_int pa_nil)) (pg_name (i := 5) sc_law_signs.nd rfl (by first | exact Or.inl rfl | exact Or.inr rfl))
      (pss_one (ps_if (pt_cmpR op_gt (pv 4) pe_int (by first | exact nomark _ | rfl))
      (pss_cons (ps_expr (pe_bm PySem.F.plainAttrs_list PySem.F.slot_list_append PySem.F.type_list_append mt_append (pv 3) (pa_cons (pe_ix ix_str (pv 2) (pe_op op_modL (pe_callTy call_int1 (by rfl) T.z_int (by decide +kernel) (pa_cons (pe_op op_sub (pv 4) pe_int) pa_nil)) (pe_callB call_len_str (by rfl) T.z_len (by decide +kernel) (pa_cons (pv 2) pa_nil))) (fun _ _ => rfl)) pa_nil)))
    (pss_one (ps_set (i := 4) sc_law_signs.nd rfl (by first | exact Or.inl rfl | exact Or.inr rfl) (pe_op op_fdivB (pe_op op_sub (pv 4) pe_int) (pe_callB call_len_str (by rfl) T.z_len (by decide +kernel) (pa_cons (pv 2) pa_nil))))))
      pss_nil)))
    (pss_one (ps_ret (pe_bm PySem.F.plainAttrs_str PySem.F.slot_str_join PySem.F.type_str_join mt_join pe_str (pa_cons (pv 3) pa_nil))))))
      pss_nil)
    (pss_cons (ps_for PassesOwn.never rfl (pi_range1 (by rfl) T.z_range (pa_cons (pe_op op_modL (pe_callTy call_int1 (by rfl) T.z_int (by decide +kernel) (pa_cons (pe_call (ok_law_mix T) (hr.mono (by decide)) (by rfl) T.g_law_mix T.F_law_mix.kp (T.b_law_mix) .nil pass0 (pa_cons (pv 0) (pa_cons (pv 1) pa_nil))) pa_nil)) pe_int) pa_nil)) (pg_name (i := 5) sc_law_signs.nd rfl (by first | exact Or.inl rfl | exact Or.inr rfl))
      (pss_one (ps_expr (pe_bm PySem.F.plainAttrs_list PySem.F.slot_list_append PySem.F.type_list_append mt_append (pv 3) (pa_cons (pe_ix ix_str (pv 2) (pe_op op_modL (pe_callTy call_int1 (by rfl) T.z_int (by decide +kernel) (pa_cons (pe_call (ok_law_mix T) (hr.mono (by decide)) (by rfl) T.g_law_mix T.F_law_mix.kp (T.b_law_mix) .nil pass0 (pa_cons (pv 0) (pa_cons (pe_op op_add (pe_op op_add (pv 1) pe_int) (pv 5)) pa_nil))) pa_nil)) (pe_callB call_len_str (by rfl) T.z_len (by decide +kernel) (pa_cons (pv 2) pa_nil))) (fun _ _ => rfl)) pa_nil)))))
    (pss_one (ps_ret (pe_bm PySem.F.plainAttrs_str PySem.F.slot_str_join PySem.F.type_str_join mt_join pe_str (pa_cons (pv 3) pa_nil))))))), ?_⟩
    have hgl : g.length ≤ 100000 := by omega
    walk_at "run"
    · rename_i p hp hc
      refine for_range (lo := 0) (n := _) (fun i σ H' => Same H H' ∧ ∃ (zs : List Str) (l : Int) (u : Option V), H' p = some (.lst (zs.map V.str)) ∧ zs.length ≤ i ∧ (∀ z ∈ zs, z.length ≤ 1) ∧ σ = [some (.int c), some (.int s), some (.str g), some (.ref p), some (.int l), u]) ⟨same_upd hp, [], _, none, upd_same, Nat.le_refl _, fun _ h => (nomatch h), rfl⟩ (fun i σ H' hi hp2 => ?_) (fun σ H' hp2 => ?_)
      · obtain ⟨s1, zs, l, u, hz, hl, h1, rfl⟩ := hp2
        have hi2 : i < 80 := hi
        walk_at "run"
        · refine ⟨.inl ⟨rfl, _, SqL.of hz⟩, ?_⟩
          walk_at "run"
          rename_i d d0 d1
          refine ixS_go hgl d0 d1 fun ch => ?_
          refine ⟨_, _, _, rfl, rfl, hz, (by rw [List.length_map]; exact small1000 (by omega)), ?_⟩
          rw [more_map]
          walk_at "run"
          exact ⟨same_put s1 hp, _, _, _, upd_same, more_len hl, more_one h1, rfl⟩
        · exact ⟨zs, _, _, hz, by omega, h1, rfl⟩
      · obtain ⟨s1, zs, l, u, hz, hl, h1, rfl⟩ := hp2
        have hl2 : zs.length ≤ 80 := hl
        walk_at "run"
        exact ⟨_, p, zs, rfl, rfl, Or.inl (SqL.of hz), Nat.le_trans (join_sum h1) (by omega), q _ _ s1 (Nat.le_trans (join_len h1) (by omega))⟩
    · rename_i p hp hc n n0 n1 d d0 d1
      refine for_range (lo := 0) (n := _) (fun i σ H' => Same H H' ∧ ∃ (zs : List Str) (u : Option V), H' p = some (.lst (zs.map V.str)) ∧ zs.length ≤ i ∧ (∀ z ∈ zs, z.length ≤ 1) ∧ σ = [some (.int c), some (.int s), some (.str g), some (.ref p), none, u]) ⟨same_upd hp, [], none, upd_same, Nat.le_refl _, fun _ h => (nomatch h), rfl⟩ (fun i σ H' hi hp2 => ?_) (fun σ H' hp2 => ?_)
      · obtain ⟨s1, zs, u, hz, hl, h1, rfl⟩ := hp2
        have hi2 : i < 8 := by omega
        walk_at "run"
        refine ⟨.inl ⟨rfl, _, SqL.of hz⟩, ?_⟩
        walk_at "run"
        rename_i d d0 d1
        refine ixS_go hgl d0 d1 fun ch => ?_
        refine ⟨_, _, _, rfl, rfl, hz, (by rw [List.length_map]; exact small1000 (by omega)), ?_⟩
        rw [more_map]
        exact ⟨same_put s1 hp, _, _, upd_same, more_len hl, more_one h1, rfl⟩
      · obtain ⟨s1, zs, u, hz, hl, h1, rfl⟩ := hp2
        have hl2 : zs.length ≤ 8 := by omega
        walk_at "run"
        exact ⟨_, p, zs, rfl, rfl, Or.inl (SqL.of hz), Nat.le_trans (join_sum h1) (by omega), q _ _ s1 (Nat.le_trans (join_len h1) (by omega))⟩

theorem ok_law_alphabet (T : Txt K mg) : FnOk P w K mg base CX0 1 T.a_law_alphabet T.d_law_alphabet P_law_alphabet (sp_law_alphabet K) := by
  refine T.F_law_alphabet.ok sc_law_alphabet (fun vs H Q E h => ?_) (fun cdv A outer s H vs Q E hr h => ?_)
  · obtain ⟨rfl, _⟩ := h
    rfl
  · obtain ⟨rfl, q⟩ := h
    refine ⟨_, (pss_cons (ps_set (i := 0) sc_law_alphabet.nd rfl (by first | exact Or.inl rfl | exact Or.inr rfl) pe_str)
    (pss_cons (ps_set (i := 0) sc_law_alphabet.nd rfl (by first | exact Or.inl rfl | exact Or.inr rfl) (pe_op op_add_str (pv 0) pe_str))
    (pss_one (ps_ret (pe_op op_add_str (pv 0) pe_str))))), ?_⟩
    walk_at "run"
    refine And.intro (by decide +kernel) ?_
    walk_at "run"
    refine And.intro (by decide +kernel) ?_
    refine q _ ?_ ?_
    · decide +kernel
    · decide +kernel

theorem ok_law_free (T : Txt K mg) : FnOk P w K mg base CX0 3 T.a_law_free T.d_law_free P_law_free (sp_law_free K) := by
  refine T.F_law_free.ok sc_law_free (fun vs H Q E h => ?_) (fun cdv A outer s H vs Q E hr h => ?_)
  · obtain ⟨a, ns, g, rfl, _⟩ := h
    rfl
  · obtain ⟨a, ns, g, rfl, hS, hl, hg, q⟩ := h
    refine ⟨_, (pss_cons (ps_set (i := 2) sc_law_free.nd rfl (by first | exact Or.inl rfl | exact Or.inr rfl) (pe_lst (pa_cons (pe_call (ok_law_signs T) (hr.mono (by decide)) (by rfl) T.g_law_signs T.F_law_signs.kp (T.b_law_signs) .nil pass0 (pa_cons (pe_call (ok_law_cell T) (hr.mono (by decide)) (by rfl) T.g_law_cell T.F_law_cell.kp (T.b_law_cell) .nil pass0 (pa_cons (pv 0) (pa_cons pe_int pa_nil))) (pa_cons pe_int (pa_cons (pv 1) pa_nil)))) pa_nil)))
    (pss_cons (ps_for PassesOwn.never rfl (pi_range2 (by rfl) T.z_range (pa_cons pe_int (pa_cons (pe_callB call_len_seq (by rfl) T.z_len (by decide +kernel) (pa_cons (pv 0) pa_nil)) pa_nil))) (pg_name (i := 3) sc_law_free.nd rfl (by first | exact Or.inl rfl | exact Or.inr rfl))
      (pss_one (ps_expr (pe_bm PySem.F.plainAttrs_list PySem.F.slot_list_append PySem.F.type_list_append mt_append (pv 2) (pa_cons (pe_call (ok_law_signs T) (hr.mono (by decide)) (by rfl) T.g_law_signs T.F_law_signs.kp (T.b_law_signs) .nil pass0 (pa_cons (pe_ix ix_list (pv 0) (pv 3) (fun _ _ => rfl)) (pa_cons (pe_op op_add pe_int (pv 3)) (pa_cons (pv 1) pa_nil)))) pa_nil)))))
    (pss_one (ps_ret (pe_bm PySem.F.plainAttrs_str PySem.F.slot_str_join PySem.F.type_str_join mt_join pe_str (pa_cons (pv 2) pa_nil)))))), ?_⟩
    walk_at "run"
    refine ⟨_, ns, 3, rfl, hS, ?_⟩
    refine ⟨_, rfl, _, _, _, rfl, hg, fun z0 H1 s1 hz0 => ?_⟩
    have hS1 := Same.seq s1 hS
    walk_at "run"
    rename_i p hp
    have hS2 := Same.seq (same_upd (o := .lst [.str z0]) hp) hS1
    refine ⟨_, _, rfl, .inl hS2, ?_⟩
    walk_at "run"
    refine And.intro (by rw [List.length_map]; omega) ?_
    refine for_range (lo := 4) (n := _) (fun i σ H' => Same H1 H' ∧ ∃ (zs : List Str) (u : Option V), H' p = some (.lst (zs.map V.str)) ∧ zs.length ≤ i + 1 ∧ (∀ z ∈ zs, z.length ≤ 80) ∧ σ = [some (.ref a), some (.str g), some (.ref p), u]) ⟨same_upd hp, [z0], none, upd_same, Nat.le_refl _, fun z hm => by rw [List.mem_singleton.mp hm]; exact hz0, rfl⟩ (fun i σ H' hi hp2 => ?_) (fun σ H' hp2 => ?_)
    · obtain ⟨s3, zs, u, hz, hl2, h1, rfl⟩ := hp2
      have hS3 := Same.seq s3 hS1
      have hi2 : (i : Int) + 4 < ns.length := by
        rw [List.length_map] at hi
        omega
      walk_at "run"
      refine ⟨.inl ⟨rfl, _, SqL.of hz⟩, ?_⟩
      walk_at "run"
      refine atI_go hS3 (by omega) (by rw [List.length_map]; omega) fun v hv => ?_
      obtain ⟨x, _, rfl⟩ := List.mem_map.mp hv
      walk_at "run"
      refine ⟨_, _, _, rfl, hg, fun z H5 s5 h5 => ?_⟩
      refine ⟨_, _, _, rfl, rfl, s5 _ _ hz, (by rw [List.length_map]; exact small1000 (by omega)), ?_⟩
      refine ⟨same_put (s3.trans s5) hp, zs ++ [z], _, (by rw [List.map_append]; exact upd_same), (by rw [List.length_append, List.length_singleton]; omega), fun y hy => ?_, rfl⟩
      rcases List.mem_append.mp hy with hy | hy
      · exact h1 y hy
      · rw [List.mem_singleton.mp hy]
        exact h5
    · obtain ⟨s3, zs, u, hz, hl2, h1, rfl⟩ := hp2
      have hl3 : zs.length ≤ 63 := by
        rw [List.length_map] at hl2
        omega
      walk_at "run"
      exact ⟨_, p, zs, rfl, rfl, Or.inl (SqL.of hz), Nat.le_trans (join_sum h1) (by omega), q _ _ (s1.trans s3) (Nat.le_trans (join_len h1) (by omega))⟩

theorem ok_law_whole_part (T : Txt K mg) : FnOk P w K mg base CX0 3 T.a_law_whole_part T.d_law_whole_part P_law_whole_part (sp_law_whole_part K) := by
  refine T.F_law_whole_part.ok sc_law_whole_part (fun vs H Q E h => ?_) (fun cdv A outer s H vs Q E hr h => ?_)
  · obtain ⟨c, rfl, _⟩ := h
    rfl
  · obtain ⟨c, rfl, q⟩ := h
    refine ⟨_, (pss_cons (ps_set (i := 1) sc_law_whole_part.nd rfl (by first | exact Or.inl rfl | exact Or.inr rfl) (pe_op op_mod (pe_callTy call_int1 (by rfl) T.z_int (by decide +kernel) (pa_cons (pe_call (ok_law_mix T) (hr.mono (by decide)) (by rfl) T.g_law_mix T.F_law_mix.kp (T.b_law_mix) .nil pass0 (pa_cons (pv 0) (pa_cons pe_int pa_nil))) pa_nil)) pe_int))
    (pss_cons (ps_set (i := 2) sc_law_whole_part.nd rfl (by first | exact Or.inl rfl | exact Or.inr rfl) (pe_op op_mod (pe_callTy call_int1 (by rfl) T.z_int (by decide +kernel) (pa_cons (pe_call (ok_law_mix T) (hr.mono (by decide)) (by rfl) T.g_law_mix T.F_law_mix.kp (T.b_law_mix) .nil pass0 (pa_cons (pv 0) (pa_cons pe_int pa_nil))) pa_nil)) pe_int))
    (pss_cons (ps_if (pt_cmpR op_ge (pv 0) (pe_powc (c := 1000000000000000000) (by decide) (by decide +kernel)) (by first | exact nomark _ | rfl))
      (pss_one (ps_ret (pe_call (ok_law_signs T) (hr.mono (by decide)) (by rfl) T.g_law_signs T.F_law_signs.kp (T.b_law_signs) .nil pass0 (pa_cons (pv 0) (pa_cons pe_int (pa_cons pe_str pa_nil))))))
      pss_nil)
    (pss_cons (ps_set (i := 3) sc_law_whole_part.nd rfl (by first | exact Or.inl rfl | exact Or.inr rfl) (pe_bm PySem.F.plainAttrs_str PySem.F.slot_str_join PySem.F.type_str_join mt_join pe_str (pa_cons (pe_lc (own := [("k", 4)]) (g := gName 4) (tt := tYes) rfl sc_law_whole_part.nd (pi_range1 (by rfl) T.z_range (pa_cons pe_int pa_nil)) (blkOk_by (N := N_law_whole_part) (sc := defScope s_law_whole_part) (by decide +kernel)) (fun _ _ _ _ _ => pg_name (i := 4) sc_law_whole_part.nd rfl (Or.inl rfl)) (fun _ _ _ _ _ => pts_nil) (fun _ _ _ _ _ => (pe_ix ix_str pe_str (pe_op op_mod (pe_callTy call_int1 (by rfl) T.z_int (by decide +kernel) (pa_cons (pe_call (ok_law_mix T) (hr.mono (by decide)) (by rfl) T.g_law_mix T.F_law_mix.kp (T.b_law_mix) .nil pass0 (pa_cons (pv 0) (pa_cons (pe_op op_add pe_int (pv 4)) pa_nil))) pa_nil)) pe_int) (fun _ _ => rfl)))) pa_nil)))
    (pss_cons (ps_if (pt_cmpR op_eq (pv 1) pe_int (by first | exact nomark _ | rfl))
      (pss_one (ps_ret (pe_op op_repS pe_str (pe_op op_add pe_int (pv 2)))))
      pss_nil)
    (pss_cons (ps_if (pt_cmpR op_eq (pv 1) pe_int (by first | exact nomark _ | rfl))
      (pss_one (ps_ret (pe_op op_add_str (pe_op op_repS pe_str (pe_op op_mod (pe_callTy call_int1 (by rfl) T.z_int (by decide +kernel) (pa_cons (pe_call (ok_law_mix T) (hr.mono (by decide)) (by rfl) T.g_law_mix T.F_law_mix.kp (T.b_law_mix) .nil pass0 (pa_cons (pv 0) (pa_cons pe_int pa_nil))) pa_nil)) pe_int)) (pe_slice sl_str (pv 3) po_none (po_some (pv 2))))))
      pss_nil)
    (pss_cons (ps_if (pt_cmpR op_eq (pv 1) pe_int (by first | exact nomark _ | rfl))
      (pss_one (ps_ret (pe_slice sl_str (pv 3) po_none (po_some (pe_op op_mod (pe_callTy call_int1 (by rfl) T.z_int (by decide +kernel) (pa_cons (pe_call (ok_law_mix T) (hr.mono (by decide)) (by rfl) T.g_law_mix T.F_law_mix.kp (T.b_law_mix) .nil pass0 (pa_cons (pv 0) (pa_cons pe_int pa_nil))) pa_nil)) pe_int)))))
      pss_nil)
    (pss_one (ps_ret (pe_slice sl_str (pv 3) po_none (po_some (pe_op op_add (pv 2) pe_int)))))))))))), ?_⟩
    have q1 : (Str.ofString ".").length ≤ 1 := by decide +kernel
    have q2 : (Str.ofString "0").length ≤ 1 := by decide +kernel
    have q3 : (Str.ofString "9").length ≤ 1 := by decide +kernel
    have q4 : (Str.ofString " ").length ≤ 1 := by decide +kernel
    have q5 : (Str.ofString "999999").length ≤ 6 := by decide +kernel
    have q6 : (Str.ofString "000000").length ≤ 6 := by decide +kernel
    walk_at "run"
    · refine ⟨_, _, _, rfl, ⟨by decide +kernel, by decide +kernel⟩, fun z H1 s1 hz => ?_⟩
      exact q _ _ s1 (by omega)
    · rename_i D hD
      refine lc_range (lo := 0) (n := _) (fun i H' => Same H H' ∧ ∃ zs : List Str, H' D = some (.lst (zs.map V.str)) ∧ zs.length ≤ i ∧ ∀ z ∈ zs, z.length ≤ 1) ⟨same_upd hD, [], upd_same, Nat.le_refl _, fun _ h => (nomatch h)⟩ (fun i H' hi hp => ?_) (fun H' hp => ?_)
      · obtain ⟨s1, zs, hz, hl, h1⟩ := hp
        have hi2 : i < 17 := hi
        walk_at "run"
        refine ixS_go (by rw [tens_len]; decide) (by omega) (by rw [tens_len]; omega) fun ch => ?_
        refine ⟨_, hz, (by rw [List.length_map]; exact small1000 (by omega)), same_put s1 hD, zs ++ [⟨#[ch]⟩], ?_, more_len hl, more_one h1⟩
        rw [more_map]
        exact upd_same
      · obtain ⟨s1, zs, hz, hl, h1⟩ := hp
        have hl2 : zs.length ≤ 17 := hl
        refine ⟨_, D, zs, rfl, rfl, Or.inl (SqL.of hz), Nat.le_trans (join_sum h1) (by omega), ?_⟩
        have jl := Nat.le_trans (join_len h1) (show 1 * zs.length ≤ 17 by omega)
        generalize Txt.join (Str.ofString "") zs = row at jl ⊢
        walk_at "run"
        all_goals exact q _ _ (by walk_at "same") (by walk_at "ln")

theorem ok_law_rest (T : Txt K mg) : FnOk P w K mg base CX0 3 T.a_law_rest T.d_law_rest P_law_rest (sp_law_rest K) := by
  refine T.F_law_rest.ok sc_law_rest (fun vs H Q E h => ?_) (fun cdv A outer s H vs Q E hr h => ?_)
  · obtain ⟨c, rfl, _⟩ := h
    rfl
  · obtain ⟨c, rfl, q⟩ := h
    refine ⟨_, (pss_cons (ps_set (i := 1) sc_law_rest.nd rfl (by first | exact Or.inl rfl | exact Or.inr rfl) (pe_op op_mod (pe_callTy call_int1 (by rfl) T.z_int (by decide +kernel) (pa_cons (pe_call (ok_law_mix T) (hr.mono (by decide)) (by rfl) T.g_law_mix T.F_law_mix.kp (T.b_law_mix) .nil pass0 (pa_cons (pv 0) (pa_cons pe_int pa_nil))) pa_nil)) pe_int))
    (pss_cons (ps_set (i := 2) sc_law_rest.nd rfl (by first | exact Or.inl rfl | exact Or.inr rfl) (pe_call (ok_law_mix T) (hr.mono (by decide)) (by rfl) T.g_law_mix T.F_law_mix.kp (T.b_law_mix) .nil pass0 (pa_cons (pv 0) (pa_cons pe_int pa_nil))))
    (pss_cons (ps_if (pt_cmpR op_ge (pv 0) (pe_powc (c := 1000000000000000000) (by decide) (by decide +kernel)) (by first | exact nomark _ | rfl))
      (pss_one (ps_ret (pe_op op_add_str pe_str (pe_call (ok_law_signs T) (hr.mono (by decide)) (by rfl) T.g_law_signs T.F_law_signs.kp (T.b_law_signs) .nil pass0 (pa_cons (pv 0) (pa_cons pe_int (pa_cons pe_str pa_nil)))))))
      pss_nil)
    (pss_cons (ps_set (i := 3) sc_law_rest.nd rfl (by first | exact Or.inl rfl | exact Or.inr rfl) (pe_bm PySem.F.plainAttrs_str PySem.F.slot_str_join PySem.F.type_str_join mt_join pe_str (pa_cons (pe_lc (own := [("k", 4)]) (g := gName 4) (tt := tYes) rfl sc_law_rest.nd (pi_range1 (by rfl) T.z_range (pa_cons pe_int pa_nil)) (blkOk_by (N := N_law_rest) (sc := defScope s_law_rest) (by decide +kernel)) (fun _ _ _ _ _ => pg_name (i := 4) sc_law_rest.nd rfl (Or.inl rfl)) (fun _ _ _ _ _ => pts_nil) (fun _ _ _ _ _ => (pe_ix ix_str pe_str (pe_op op_mod (pe_callTy call_int1 (by rfl) T.z_int (by decide +kernel) (pa_cons (pe_call (ok_law_mix T) (hr.mono (by decide)) (by rfl) T.g_law_mix T.F_law_mix.kp (T.b_law_mix) .nil pass0 (pa_cons (pv 0) (pa_cons (pe_op op_add pe_int (pv 4)) pa_nil))) pa_nil)) pe_int) (fun _ _ => rfl)))) pa_nil)))
    (pss_cons (ps_if (pt_cmpR op_eq (pv 1) pe_int (by first | exact nomark _ | rfl))
      (pss_one (ps_ret pe_str))
      pss_nil)
    (pss_cons (ps_if (pt_cmpR op_eq (pv 1) pe_int (by first | exact nomark _ | rfl))
      (pss_one (ps_ret (pe_op op_add_str pe_str (pe_slice sl_str (pv 3) po_none (po_some (pe_op op_mod (pe_callTy call_int1 (by rfl) T.z_int (by decide +kernel) (pa_cons (pv 2) pa_nil)) pe_int))))))
      pss_nil)
    (pss_cons (ps_if (pt_cmpR op_eq (pv 1) pe_int (by first | exact nomark _ | rfl))
      (pss_one (ps_ret (pe_op op_add_str pe_str (pe_slice sl_str (pv 3) po_none (po_some (pe_op op_add pe_int (pe_op op_mod (pe_callTy call_int1 (by rfl) T.z_int (by decide +kernel) (pa_cons (pv 2) pa_nil)) pe_int)))))))
      pss_nil)
    (pss_cons (ps_set (i := 5) sc_law_rest.nd rfl (by first | exact Or.inl rfl | exact Or.inr rfl) (pe_ix ix_list (pe_lst (pa_cons (pe_slice sl_str (pv 3) po_none (po_some pe_int)) (pa_cons (pe_slice sl_str (pv 3) po_none (po_some pe_int)) (pa_cons pe_str (pa_cons pe_str (pa_cons (pe_op op_add_str (pe_slice sl_str (pv 3) po_none (po_some pe_int)) pe_str) pa_nil)))))) (pe_op op_mod (pe_callTy call_int1 (by rfl) T.z_int (by decide +kernel) (pa_cons (pv 2) pa_nil)) pe_int) (fun _ _ => rfl)))
    (pss_cons (ps_set (i := 6) sc_law_rest.nd rfl (by first | exact Or.inl rfl | exact Or.inr rfl) (pe_lst (pa_cons pe_str (pa_cons pe_str (pa_cons pe_str (pa_cons pe_str (pa_cons pe_str (pa_cons pe_str (pa_cons pe_str (pa_cons pe_str (pa_cons pe_str (pa_cons pe_str (pa_cons pe_str (pa_cons pe_str pa_nil))))))))))))))
    (pss_one (ps_ret (pe_op op_add_str (pe_op op_add_str pe_str (pv 5)) (pe_ix ix_list (pv 6) (pe_op op_mod (pe_op op_fdiv (pe_callTy call_int1 (by rfl) T.z_int (by decide +kernel) (pa_cons (pv 2) pa_nil)) pe_int) pe_int) (fun _ _ => rfl)))))))))))))), ?_⟩
    have q1 : (Str.ofString ".").length ≤ 1 := by decide +kernel
    have q2 : (Str.ofString "0").length ≤ 1 := by decide +kernel
    have q3 : (Str.ofString "9").length ≤ 1 := by decide +kernel
    have q4 : (Str.ofString " ").length ≤ 1 := by decide +kernel
    have q5 : (Str.ofString "999999").length ≤ 6 := by decide +kernel
    have q6 : (Str.ofString "000000").length ≤ 6 := by decide +kernel
    walk_at "run"
    · refine ⟨_, _, _, rfl, ⟨by decide +kernel, by decide +kernel⟩, fun z H1 s1 hz => ?_⟩
      walk_at "run"
      exact q _ _ s1 (by walk_at "ln")
    · rename_i D hD
      refine lc_range (lo := 0) (n := _) (fun i H' => Same H H' ∧ ∃ zs : List Str, H' D = some (.lst (zs.map V.str)) ∧ zs.length ≤ i ∧ ∀ z ∈ zs, z.length ≤ 1) ⟨same_upd hD, [], upd_same, Nat.le_refl _, fun _ h => (nomatch h)⟩ (fun i H' hi hp => ?_) (fun H' hp => ?_)
      · obtain ⟨s1, zs, hz, hl, h1⟩ := hp
        have hi2 : i < 14 := hi
        walk_at "run"
        refine ixS_go (by rw [tens_len]; decide) (by omega) (by rw [tens_len]; omega) fun ch => ?_
        refine ⟨_, hz, (by rw [List.length_map]; exact small1000 (by omega)), same_put s1 hD, zs ++ [⟨#[ch]⟩], ?_, more_len hl, more_one h1⟩
        rw [more_map]
        exact upd_same
      · obtain ⟨s1, zs, hz, hl, h1⟩ := hp
        have hl2 : zs.length ≤ 14 := hl
        refine ⟨_, D, zs, rfl, rfl, Or.inl (SqL.of hz), Nat.le_trans (join_sum h1) (by omega), ?_⟩
        have jl := Nat.le_trans (join_len h1) (show 1 * zs.length ≤ 14 by omega)
        generalize Txt.join (Str.ofString "") zs = row at jl ⊢
        walk_at "run"
        · exact q _ _ s1 (by decide +kernel)
        · exact q _ _ s1 (by walk_at "ln")
        · exact q _ _ s1 (by walk_at "ln")
        · rename_i p hp
          refine atI_go (SqL.of upd_same) (by omega) ?_ fun v hv => ?_
          · show _ < (5 : Int)
            omega
          have hv2 : ∃ y : Str, v = .str y ∧ y.length ≤ 20 := by
            simp only [List.mem_cons, List.not_mem_nil, or_false] at hv
            rcases hv with rfl | rfl | rfl | rfl | rfl
            all_goals exact ⟨_, rfl, by walk_at "ln"⟩
          obtain ⟨y, rfl, hy⟩ := hv2
          walk_at "run"
          rename_i p2 hp2
          refine atI_go (SqL.of upd_same) (by omega) ?_ fun v hv => ?_
          · show _ < (12 : Int)
            omega
          have hv3 : ∃ y : Str, v = .str y ∧ y.length ≤ 20 := by
            simp only [List.mem_cons, List.not_mem_nil, or_false] at hv
            rcases hv with rfl | rfl | rfl | rfl | rfl | rfl | rfl | rfl | rfl | rfl | rfl | rfl
            all_goals exact ⟨_, rfl, by decide +kernel⟩
          obtain ⟨y2, rfl, hy2⟩ := hv3
          walk_at "run"
          exact q _ _ (by walk_at "same") (by walk_at "ln")

theorem ok_law_padded (T : Txt K mg) : FnOk P w K mg base CX0 1 T.a_law_padded T.d_law_padded P_law_padded (sp_law_padded K) := by
  refine T.F_law_padded.ok sc_law_padded (fun vs H Q E h => ?_) (fun cdv A outer s H vs Q E hr h => ?_)
  · obtain ⟨t, n, rfl, _⟩ := h
    rfl
  · obtain ⟨t, n, rfl, ht, q⟩ := h
    refine ⟨_, (pss_cons (ps_set (i := 2) sc_law_padded.nd rfl (by first | exact Or.inl rfl | exact Or.inr rfl) (pe_ix ix_list (pe_lst (pa_cons pe_int (pa_cons pe_int (pa_cons pe_int (pa_cons pe_int (pa_cons pe_int pa_nil)))))) (pe_op op_mod (pe_callTy call_int1 (by rfl) T.z_int (by decide +kernel) (pa_cons (pv 1) pa_nil)) pe_int) (fun _ _ => rfl)))
    (pss_cons (ps_set (i := 3) sc_law_padded.nd rfl (by first | exact Or.inl rfl | exact Or.inr rfl) (pe_ix ix_list (pe_lst (pa_cons pe_int (pa_cons pe_int (pa_cons pe_int (pa_cons pe_int (pa_cons pe_int pa_nil)))))) (pe_op op_mod (pe_op op_fdiv (pe_callTy call_int1 (by rfl) T.z_int (by decide +kernel) (pa_cons (pv 1) pa_nil)) pe_int) pe_int) (fun _ _ => rfl)))
    (pss_one (ps_ret (pe_op op_add_str (pe_op op_add_str (pe_op op_repS pe_str (pv 2)) (pv 0)) (pe_op op_repS pe_str (pv 3))))))), ?_⟩
    have q1 : (Str.ofString ".").length ≤ 1 := by decide +kernel
    have q2 : (Str.ofString "0").length ≤ 1 := by decide +kernel
    have q3 : (Str.ofString "9").length ≤ 1 := by decide +kernel
    have q4 : (Str.ofString " ").length ≤ 1 := by decide +kernel
    have q5 : (Str.ofString "999999").length ≤ 6 := by decide +kernel
    have q6 : (Str.ofString "000000").length ≤ 6 := by decide +kernel
    walk_at "run"
    rename_i p hp
    refine atI_go (SqL.of upd_same) (by omega) (by show _ < (5 : Int); omega) fun v hv => ?_
    have hv2 : ∃ k : Int, v = .int k ∧ 0 ≤ k ∧ k ≤ 50 := by
      simp only [List.mem_cons, List.not_mem_nil, or_false] at hv
      rcases hv with rfl | rfl | rfl | rfl | rfl <;> exact ⟨_, rfl, by decide, by decide⟩
    obtain ⟨k, rfl, k0, k1⟩ := hv2
    walk_at "run"
    rename_i p2 hp2
    refine atI_go (SqL.of upd_same) (by omega) (by show _ < (5 : Int); omega) fun v hv => ?_
    have hv3 : ∃ k : Int, v = .int k ∧ 0 ≤ k ∧ k ≤ 50 := by
      simp only [List.mem_cons, List.not_mem_nil, or_false] at hv
      rcases hv with rfl | rfl | rfl | rfl | rfl <;> exact ⟨_, rfl, by decide, by decide⟩
    obtain ⟨k2, rfl, k3, k4⟩ := hv3
    walk_at "run"
    exact q _ _ (by walk_at "same") (by walk_at "ln")

theorem ok_law_form (T : Txt K mg) : FnOk P w K mg base CX0 4 T.a_law_form T.d_law_form P_law_form (sp_law_form K) := by
  refine T.F_law_form.ok sc_law_form (fun vs H Q E h => ?_) (fun cdv A outer s H vs Q E hr h => ?_)
  · obtain ⟨a, ns, c, rfl, _⟩ := h
    rfl
  · obtain ⟨a, ns, c, rfl, hS, q⟩ := h
    refine ⟨_, (pss_cons (ps_set (i := 2) sc_law_form.nd rfl (by first | exact Or.inl rfl | exact Or.inr rfl) (pe_call (ok_law_mix T) (hr.mono (by decide)) (by rfl) T.g_law_mix T.F_law_mix.kp (T.b_law_mix) .nil pass0 (pa_cons (pv 1) (pa_cons pe_int pa_nil))))
    (pss_cons (ps_set (i := 3) sc_law_form.nd rfl (by first | exact Or.inl rfl | exact Or.inr rfl) (pe_op op_add_str (pe_call (ok_law_whole_part T) (hr.mono (by decide)) (by rfl) T.g_law_whole_part T.F_law_whole_part.kp (T.b_law_whole_part) .nil pass0 (pa_cons (pe_call (ok_law_cell T) (hr.mono (by decide)) (by rfl) T.g_law_cell T.F_law_cell.kp (T.b_law_cell) .nil pass0 (pa_cons (pv 0) (pa_cons pe_int pa_nil))) pa_nil)) (pe_call (ok_law_rest T) (hr.mono (by decide)) (by rfl) T.g_law_rest T.F_law_rest.kp (T.b_law_rest) .nil pass0 (pa_cons (pe_call (ok_law_cell T) (hr.mono (by decide)) (by rfl) T.g_law_cell T.F_law_cell.kp (T.b_law_cell) .nil pass0 (pa_cons (pv 0) (pa_cons pe_int pa_nil))) pa_nil))))
    (pss_one (ps_ret (pe_call (ok_law_padded T) (hr.mono (by decide)) (by rfl) T.g_law_padded T.F_law_padded.kp (T.b_law_padded) .nil pass0 (pa_cons (pe_op op_add_str (pe_ix ix_list (pe_lst (pa_cons pe_str (pa_cons pe_str (pa_cons pe_str (pa_cons pe_str pa_nil))))) (pe_op op_mod (pe_callTy call_int1 (by rfl) T.z_int (by decide +kernel) (pa_cons (pv 2) pa_nil)) pe_int) (fun _ _ => rfl)) (pv 3)) (pa_cons (pe_op op_fdiv (pv 2) pe_int) pa_nil))))))), ?_⟩
    walk_at "run"
    refine ⟨_, ns, 3, rfl, hS, ?_⟩
    refine ⟨_, rfl, fun z1 H1 s1 h1 => ?_⟩
    refine ⟨_, rfl, _, ns, 4, rfl, Same.seq s1 hS, ?_⟩
    refine ⟨_, rfl, fun z2 H2 s2 h2 => ?_⟩
    walk_at "run"
    rename_i p hp
    refine atI_go (xs := [.str (Str.ofString ""), .str (Str.ofString ""), .str (Str.ofString "+"), .str (Str.ofString "-")]) (SqL.of upd_same) (by omega) (by show _ < (4 : Int); omega) fun v hv => ?_
    have hv2 : ∃ y : Str, v = .str y ∧ y.length ≤ 1 := by
      simp only [List.mem_cons, List.not_mem_nil, or_false] at hv
      rcases hv with rfl | rfl | rfl | rfl <;> exact ⟨_, rfl, by decide +kernel⟩
    obtain ⟨y, rfl, hy⟩ := hv2
    walk_at "run"
    exact ⟨by walk_at "ln", fun z H3 s3 h3 => q _ _ (((s1.trans s2).trans (same_upd hp)).trans s3) h3⟩

theorem ok_law_spoilt (T : Txt K mg) : FnOk P w K mg base CX0 2 T.a_law_spoilt T.d_law_spoilt P_law_spoilt (sp_law_spoilt K) := by
  refine T.F_law_spoilt.ok sc_law_spoilt (fun vs H Q E h => ?_) (fun cdv A outer s H vs Q E hr h => ?_)
  · obtain ⟨t, m, c, rfl, _⟩ := h
    rfl
  · obtain ⟨t, m, c, rfl, ht, q⟩ := h
    refine ⟨_, (pss_cons (ps_set (i := 3) sc_law_spoilt.nd rfl (by first | exact Or.inl rfl | exact Or.inr rfl) (pe_call0 (ok_law_alphabet T) (hr.mono (by decide)) (by rfl) T.g_law_alphabet T.F_law_alphabet.kp (T.b_law_alphabet) .nil pass0))
    (pss_cons (ps_if (pt_cmpR op_gt (pe_op op_modL (pe_callTy call_int1 (by rfl) T.z_int (by decide +kernel) (pa_cons (pe_call (ok_law_mix T) (hr.mono (by decide)) (by rfl) T.g_law_mix T.F_law_mix.kp (T.b_law_mix) .nil pass0 (pa_cons (pv 2) (pa_cons pe_int pa_nil))) pa_nil)) pe_int) pe_int (by first | exact nomark _ | rfl))
      (pss_one (ps_set (i := 3) sc_law_spoilt.nd rfl (by first | exact Or.inl rfl | exact Or.inr rfl) pe_str))
      pss_nil)
    (pss_cons (ps_set (i := 4) sc_law_spoilt.nd rfl (by first | exact Or.inl rfl | exact Or.inr rfl) (pe_ix ix_str (pv 3) (pe_op op_modL (pe_callTy call_int1 (by rfl) T.z_int (by decide +kernel) (pa_cons (pe_call (ok_law_mix T) (hr.mono (by decide)) (by rfl) T.g_law_mix T.F_law_mix.kp (T.b_law_mix) .nil pass0 (pa_cons (pv 2) (pa_cons pe_int pa_nil))) pa_nil)) (pe_callB call_len_str (by rfl) T.z_len (by decide +kernel) (pa_cons (pv 3) pa_nil))) (fun _ _ => rfl)))
    (pss_cons (ps_set (i := 5) sc_law_spoilt.nd rfl (by first | exact Or.inl rfl | exact Or.inr rfl) (pe_op op_modL (pe_callTy call_int1 (by rfl) T.z_int (by decide +kernel) (pa_cons (pe_call (ok_law_mix T) (hr.mono (by decide)) (by rfl) T.g_law_mix T.F_law_mix.kp (T.b_law_mix) .nil pass0 (pa_cons (pv 2) (pa_cons pe_int pa_nil))) pa_nil)) (pe_op op_add (pe_callB call_len_str (by rfl) T.z_len (by decide +kernel) (pa_cons (pv 0) pa_nil)) pe_int)))
    (pss_cons (ps_if (pt_cmpR op_eq (pv 1) pe_int (by first | exact nomark _ | rfl))
      (pss_one (ps_ret (pe_op op_add_str (pe_op op_add_str (pe_slice sl_str (pv 0) po_none (po_some (pv 5))) (pv 4)) (pe_slice sl_str (pv 0) (po_some (pv 5)) po_none))))
      pss_nil)
    (pss_cons (ps_if (pt_cmpR op_eq (pv 1) pe_int (by first | exact nomark _ | rfl))
      (pss_one (ps_ret (pe_op op_add_str (pe_slice sl_str (pv 0) po_none (po_some (pv 5))) (pe_slice sl_str (pv 0) (po_some (pe_op op_add (pv 5) pe_int)) po_none))))
      pss_nil)
    (pss_one (ps_ret (pe_op op_add_str (pe_op op_add_str (pe_slice sl_str (pv 0) po_none (po_some (pv 5))) (pv 4)) (pe_slice sl_str (pv 0) (po_some (pe_op op_add (pv 5) pe_int)) po_none)))))))))), ?_⟩
    have g2 : (Str.ofString " +-.0123456789_eE,\n\t").length = 20 := by decide +kernel
    have g3 : (Str.ofString " +-.0123456789_eE,\n\t").length ≤ 20 := by decide +kernel
    walk_at "run"
    intro g g0 g1
    walk_at "run"
    all_goals (
      rename_i d d0 d1
      refine ixS_go (by omega) d0 d1 fun ch => ?_
      walk_at "run"
      all_goals exact q _ _ (by walk_at "same") (by walk_at "ln"))

theorem ok_law_text (T : Txt K mg) : FnOk P w K mg base CX0 5 T.a_law_text T.d_law_text P_law_text (sp_law_text K) := by
  refine T.F_law_text.ok sc_law_text (fun vs H Q E h => ?_) (fun cdv A outer s H vs Q E hr h => ?_)
  · obtain ⟨a, ns, m, c, rfl, _⟩ := h
    rfl
  · obtain ⟨a, ns, m, c, rfl, hS, hl, hm, q⟩ := h
    refine ⟨_, (pss_cons (ps_set (i := 3) sc_law_text.nd rfl (by first | exact Or.inl rfl | exact Or.inr rfl) (pe_op op_mod (pe_callTy call_int1 (by rfl) T.z_int (by decide +kernel) (pa_cons (pe_call (ok_law_mix T) (hr.mono (by decide)) (by rfl) T.g_law_mix T.F_law_mix.kp (T.b_law_mix) .nil pass0 (pa_cons (pv 2) (pa_cons pe_int pa_nil))) pa_nil)) pe_int))
    (pss_cons (ps_if (pt_cmpR op_eq (pv 3) pe_int (by first | exact nomark _ | rfl))
      (pss_one (ps_ret (pe_call (ok_law_free T) (hr.mono (by decide)) (by rfl) T.g_law_free T.F_law_free.kp (T.b_law_free) .nil pass0 (pa_cons (pv 0) (pa_cons (pe_call0 (ok_law_alphabet T) (hr.mono (by decide)) (by rfl) T.g_law_alphabet T.F_law_alphabet.kp (T.b_law_alphabet) .nil pass0) pa_nil)))))
      pss_nil)
    (pss_cons (ps_if (PW.pt (pw_or (pt_cmpR op_eq (pv 3) pe_int (by first | exact nomark _ | rfl)) (pw_or1 (pt_cmpR op_eq (pv 3) pe_int (by first | exact nomark _ | rfl)))))
      (pss_one (ps_ret (pe_call (ok_law_free T) (hr.mono (by decide)) (by rfl) T.g_law_free T.F_law_free.kp (T.b_law_free) .nil pass0 (pa_cons (pv 0) (pa_cons pe_str pa_nil)))))
      pss_nil)
    (pss_cons (ps_if (pt_cmpR op_eq (pv 3) pe_int (by first | exact nomark _ | rfl))
      (pss_cons (ps_set (i := 4) sc_law_text.nd rfl (by first | exact Or.inl rfl | exact Or.inr rfl) (pe_call (ok_law_mix T) (hr.mono (by decide)) (by rfl) T.g_law_mix T.F_law_mix.kp (T.b_law_mix) .nil pass0 (pa_cons (pv 2) (pa_cons pe_int pa_nil))))
    (pss_cons (ps_if (pt_cmpR op_eq (pe_op op_mod (pe_callTy call_int1 (by rfl) T.z_int (by decide +kernel) (pa_cons (pv 4) pa_nil)) pe_int) pe_int (by first | exact nomark _ | rfl))
      (pss_one (ps_ret (pe_op op_repS (pe_ix ix_str pe_str (pe_op op_mod (pe_op op_fdiv (pe_callTy call_int1 (by rfl) T.z_int (by decide +kernel) (pa_cons (pv 4) pa_nil)) pe_int) pe_int) (fun _ _ => rfl)) (pe_op op_mod (pe_op op_fdiv (pe_callTy call_int1 (by rfl) T.z_int (by decide +kernel) (pa_cons (pv 4) pa_nil)) pe_int) pe_int))))
      pss_nil)
    (pss_one (ps_ret (pe_call (ok_law_padded T) (hr.mono (by decide)) (by rfl) T.g_law_padded T.F_law_padded.kp (T.b_law_padded) .nil pass0 (pa_cons (pe_op op_add_str (pe_ix ix_list (pe_lst (pa_cons pe_str (pa_cons pe_str (pa_cons pe_str pa_nil)))) (pe_op op_mod (pe_op op_fdiv (pe_callTy call_int1 (by rfl) T.z_int (by decide +kernel) (pa_cons (pv 4) pa_nil)) pe_int) pe_int) (fun _ _ => rfl)) (pe_call (ok_law_written T) (hr.mono (by decide)) (by rfl) T.g_law_written T.F_law_written.kp (T.b_law_written) .nil pass0 (pa_cons (pv 1) pa_nil))) (pa_cons (pe_op op_fdiv (pv 4) pe_int) pa_nil)))))))
      pss_nil)
    (pss_cons (ps_set (i := 5) sc_law_text.nd rfl (by first | exact Or.inl rfl | exact Or.inr rfl) (pe_call (ok_law_form T) (hr.mono (by decide)) (by rfl) T.g_law_form T.F_law_form.kp (T.b_law_form) .nil pass0 (pa_cons (pv 0) (pa_cons (pv 2) pa_nil))))
    (pss_cons (ps_if (pt_cmpR op_lt (pv 3) pe_int (by first | exact nomark _ | rfl))
      (pss_one (ps_ret (pv 5)))
      pss_nil)
    (pss_one (ps_ret (pe_call (ok_law_spoilt T) (hr.mono (by decide)) (by rfl) T.g_law_spoilt T.F_law_spoilt.kp (T.b_law_spoilt) .nil pass0 (pa_cons (pv 5) (pa_cons (pv 3) (pa_cons (pv 2) pa_nil)))))))))))), ?_⟩
    have q7 : (1 ≤ (Str.ofString " +-.0123456789").length ∧ (Str.ofString " +-.0123456789").length ≤ 1000) := ⟨by decide +kernel, by decide +kernel⟩
    have q8 := show_len hm
    walk_at "run"
    · intro g g0 g1
      exact ⟨_, ns, g, rfl, hS, hl, ⟨g0, g1⟩, fun z H' s h => q z H' s (by omega)⟩
    · exact ⟨_, ns, _, rfl, hS, hl, q7, fun z H' s h => q z H' s (by omega)⟩
    · exact ⟨_, ns, _, rfl, hS, hl, q7, fun z H' s h => q z H' s (by omega)⟩
    · refine ixS_go (by rw [tens_len]; decide) (by omega) (by rw [tens_len]; omega) fun ch => ?_
      walk_at "run"
      refine And.intro ⟨⟨by omega, by omega⟩, (show 1 ≤ 16 by decide)⟩ ?_
      exact q _ _ (Same.refl _) (by rw [repS_len]; show 1 * _ ≤ 100000; omega)
    · rename_i p hp
      refine atI_go (SqL.of upd_same) (by omega) ?_ fun v hv => ?_
      · show _ < (3 : Int)
        omega
      have hv2 : ∃ y : Str, v = .str y ∧ y.length ≤ 1 := by
        simp only [List.mem_cons, List.not_mem_nil, or_false] at hv
        rcases hv with rfl | rfl | rfl
        all_goals exact ⟨_, rfl, by decide +kernel⟩
      obtain ⟨y, rfl, hy⟩ := hv2
      refine ⟨_, rfl, _, rfl, hm, ?_⟩
      walk_at "run"
      exact ⟨by walk_at "ln", fun z H' s h => q _ _ ((same_upd hp).trans s) (by omega)⟩
    · refine ⟨_, ns, _, rfl, hS, fun z H1 s1 h1 => ?_⟩
      walk_at "run"
      · exact q _ _ s1 (by omega)
      · exact ⟨_, _, _, rfl, h1, fun z2 H2 s2 h2 => q _ _ (s1.trans s2) (by omega)⟩

theorem ok_law_same (T : Txt K mg) : FnOk P w K mg base CX0 1 T.a_law_same T.d_law_same P_law_same (sp_law_same K) := by
  refine T.F_law_same.ok sc_law_same (fun vs H Q E h => ?_) (fun cdv A outer s H vs Q E hr h => ?_)
  · obtain ⟨x, rfl, _⟩ := h
    rfl
  · obtain ⟨x, rfl, hx, q⟩ := h
    refine ⟨_, (pss_cons (ps_if (pt_cmpR op_isN (pv 1) pe_non (by first | exact nomark _ | rfl))
      (pss_one (ps_ret (pe_cmpR op_isN (pv 0) pe_non (by first | exact nomark _ | rfl))))
      pss_nil)
    (pss_cons (ps_if (pt_val (pe_callB call_isiV (by rfl) T.z_isinstance (by decide +kernel) (pa_cons (pv 1) (pa_cons (pe_bltn (v := .ty "str") (by rfl) T.z_str (by decide +kernel) rfl) pa_nil))))
      (pss_one (ps_ret (pe_and (pe_callB call_isiV (by rfl) T.z_isinstance (by decide +kernel) (pa_cons (pv 0) (pa_cons (pe_bltn (v := .ty "str") (by rfl) T.z_str (by decide +kernel) rfl) pa_nil))) (pe_one (pe_cmpR op_eq (pv 0) (pv 1) (by first | exact nomark _ | rfl))))))
      pss_nil)
    (pss_one (ps_ret (pe_and (pe_callB call_isiV (by rfl) T.z_isinstance (by decide +kernel) (pa_cons (pv 0) (pa_cons (pe_bltn (v := .ty "int") (by rfl) T.z_int (by decide +kernel) rfl) pa_nil))) (pe_and (pe_not (pe_callB call_isiV (by rfl) T.z_isinstance (by decide +kernel) (pa_cons (pv 0) (pa_cons (pe_bltn (v := .ty "bool") (by rfl) T.z_bool (by decide +kernel) rfl) pa_nil)))) (pe_one (pe_cmpR op_eq (pv 0) (pv 1) (by first | exact nomark _ | rfl))))))))), ?_⟩
    rcases hx with rfl | ⟨i, rfl⟩ | ⟨z, rfl⟩
    all_goals walk_at "run"
    all_goals rw [decide_eq_true rfl]
    all_goals exact q

theorem oklaw (T : Txt K mg) : FnOk P w K mg base CX0 6 T.alaw T.dlaw Plaw (splaw K) := by
  refine T.Flaw.ok sclaw (fun vs H Q E h => ?_) (fun cdv A outer s H vs Q E hr h => ?_)
  · obtain ⟨_, _, rfl, _⟩ := h
    rfl
  · obtain ⟨a, ns, rfl, hS, hl, q⟩ := h
    refine ⟨_, (pss_cons (ps_set (i := 1) sclaw.nd rfl (by first | exact Or.inl rfl | exact Or.inr rfl) (pe_call (ok_law_amount T) (hr.mono (by decide)) (by rfl) T.g_law_amount T.F_law_amount.kp (T.b_law_amount) .nil pass0 (pa_cons (pe_call (ok_law_cell T) (hr.mono (by decide)) (by rfl) T.g_law_cell T.F_law_cell.kp (T.b_law_cell) .nil pass0 (pa_cons (pv 0) (pa_cons pe_int pa_nil))) (pa_cons pe_int pa_nil))))
    (pss_cons (ps_set (i := 2) sclaw.nd rfl (by first | exact Or.inl rfl | exact Or.inr rfl) (pe_call (ok_law_amount T) (hr.mono (by decide)) (by rfl) T.g_law_amount T.F_law_amount.kp (T.b_law_amount) .nil pass0 (pa_cons (pe_call (ok_law_cell T) (hr.mono (by decide)) (by rfl) T.g_law_cell T.F_law_cell.kp (T.b_law_cell) .nil pass0 (pa_cons (pv 0) (pa_cons pe_int pa_nil))) (pa_cons pe_int pa_nil))))
    (pss_cons (ps_if (PW.pt (pw_or (pt_not (pt_val (pe_call (ok_law_same T) (hr.mono (by decide)) (by rfl) T.g_law_same T.F_law_same.kp (T.b_law_same) .nil pass0 (pa_cons (pe_call (okshown_amount T) (hr.mono (by decide)) (by rfl) T.gshown_amount T.Fshown_amount.kp (T.bshown_amount) .nil pass0 (pa_cons (pv 1) pa_nil)) (pa_cons (pe_call (ok_law_written T) (hr.mono (by decide)) (by rfl) T.g_law_written T.F_law_written.kp (T.b_law_written) .nil pass0 (pa_cons (pv 1) pa_nil)) pa_nil))))) (pw_or1 (pt_not (pt_val (pe_call (ok_law_same T) (hr.mono (by decide)) (by rfl) T.g_law_same T.F_law_same.kp (T.b_law_same) .nil pass0 (pa_cons (pe_callK0 (okshown_amount T) (hr.mono (by decide)) (by rfl) T.gshown_amount T.Fshown_amount.kp (kbshown_amount_m T) pass0 (pk_cons (pv 2) pk_nil)) (pa_cons (pe_call (ok_law_written T) (hr.mono (by decide)) (by rfl) T.g_law_written T.F_law_written.kp (T.b_law_written) .nil pass0 (pa_cons (pv 2) pa_nil)) pa_nil))))))))
      (pss_one (ps_ret pe_bl))
      pss_nil)
    (pss_cons (ps_if (PW.pt (pw_or (pt_not (pt_val (pe_call (ok_law_same T) (hr.mono (by decide)) (by rfl) T.g_law_same T.F_law_same.kp (T.b_law_same) .nil pass0 (pa_cons (pe_call (okread_amount T) (hr.mono (by decide)) (by rfl) T.gread_amount T.Fread_amount.kp (T.bread_amount) .nil pass0 (pa_cons (pe_call (ok_law_written T) (hr.mono (by decide)) (by rfl) T.g_law_written T.F_law_written.kp (T.b_law_written) .nil pass0 (pa_cons (pv 1) pa_nil)) pa_nil)) (pa_cons (pv 1) pa_nil))))) (pw_or1 (pt_not (pt_val (pe_call (ok_law_same T) (hr.mono (by decide)) (by rfl) T.g_law_same T.F_law_same.kp (T.b_law_same) .nil pass0 (pa_cons (pe_callK0 (okread_amount T) (hr.mono (by decide)) (by rfl) T.gread_amount T.Fread_amount.kp (kbread_amount_text T) pass0 (pk_cons (pe_call (ok_law_written T) (hr.mono (by decide)) (by rfl) T.g_law_written T.F_law_written.kp (T.b_law_written) .nil pass0 (pa_cons (pv 2) pa_nil)) pk_nil)) (pa_cons (pv 2) pa_nil))))))))
      (pss_one (ps_ret pe_bl))
      pss_nil)
    (pss_cons (ps_set (i := 3) sclaw.nd rfl (by first | exact Or.inl rfl | exact Or.inr rfl) (pe_call (ok_law_text T) (hr.mono (by decide)) (by rfl) T.g_law_text T.F_law_text.kp (T.b_law_text) .nil pass0 (pa_cons (pv 0) (pa_cons (pv 1) (pa_cons (pe_call (ok_law_cell T) (hr.mono (by decide)) (by rfl) T.g_law_cell T.F_law_cell.kp (T.b_law_cell) .nil pass0 (pa_cons (pv 0) (pa_cons pe_int pa_nil))) pa_nil)))))
    (pss_cons (ps_set (i := 4) sclaw.nd rfl (by first | exact Or.inl rfl | exact Or.inr rfl) (pe_call (ok_law_read T) (hr.mono (by decide)) (by rfl) T.g_law_read T.F_law_read.kp (T.b_law_read) .nil pass0 (pa_cons (pv 3) pa_nil)))
    (pss_cons (ps_if (pt_not (pt_val (pe_call (ok_law_same T) (hr.mono (by decide)) (by rfl) T.g_law_same T.F_law_same.kp (T.b_law_same) .nil pass0 (pa_cons (pe_call (okread_amount T) (hr.mono (by decide)) (by rfl) T.gread_amount T.Fread_amount.kp (T.bread_amount) .nil pass0 (pa_cons (pv 3) pa_nil)) (pa_cons (pv 4) pa_nil)))))
      (pss_one (ps_ret pe_bl))
      pss_nil)
    (pss_cons (ps_if (pt_cmpR op_isN (pv 4) pe_non (by first | exact nomark _ | rfl))
      (pss_one (ps_ret pe_bl))
      pss_nil)
    (pss_one (ps_ret (pe_and (pe_call (ok_law_same T) (hr.mono (by decide)) (by rfl) T.g_law_same T.F_law_same.kp (T.b_law_same) .nil pass0 (pa_cons (pe_call (okshown_amount T) (hr.mono (by decide)) (by rfl) T.gshown_amount T.Fshown_amount.kp (T.bshown_amount) .nil pass0 (pa_cons (pv 4) pa_nil)) (pa_cons (pe_call (ok_law_written T) (hr.mono (by decide)) (by rfl) T.g_law_written T.F_law_written.kp (T.b_law_written) .nil pass0 (pa_cons (pv 4) pa_nil)) pa_nil))) (pe_one (pe_call (ok_law_same T) (hr.mono (by decide)) (by rfl) T.g_law_same T.F_law_same.kp (T.b_law_same) .nil pass0 (pa_cons (pe_call (okread_amount T) (hr.mono (by decide)) (by rfl) T.gread_amount T.Fread_amount.kp (T.bread_amount) .nil pass0 (pa_cons (pe_call (okshown_amount T) (hr.mono (by decide)) (by rfl) T.gshown_amount T.Fshown_amount.kp (T.bshown_amount) .nil pass0 (pa_cons (pv 4) pa_nil)) pa_nil)) (pa_cons (pv 4) pa_nil))))))))))))))), ?_⟩
    walk_at "run"
    refine ⟨_, ns, 0, rfl, hS, ?_⟩
    refine ⟨_, _, rfl, fun m H1 s1 m0 m1 => ?_⟩
    refine ⟨_, rfl, _, ns, 1, rfl, Same.seq s1 hS, ?_⟩
    refine ⟨_, _, rfl, fun n H2 s2 n0 n1 => ?_⟩
    have q8 := show_len ⟨m0, m1⟩
    have q9 := show_len ⟨n0, n1⟩
    walk_at "run"
    intro H3 s3
    refine ⟨_, rfl, _, rfl, ⟨m0, m1⟩, ?_⟩
    refine ⟨_, rfl, Or.inr (Or.inr ⟨_, rfl⟩), ?_⟩
    walk_at "run"
    intro H4 s4
    refine ⟨_, rfl, _, rfl, ⟨n0, n1⟩, ?_⟩
    refine ⟨_, rfl, Or.inr (Or.inr ⟨_, rfl⟩), ?_⟩
    walk_at "run"
    rename_i H5 s5
    rw [read_show ⟨m0, m1⟩]
    refine ⟨_, rfl, Or.inr (Or.inl ⟨_, rfl⟩), ?_⟩
    walk_at "run"
    rename_i H6 s6
    rw [read_show ⟨n0, n1⟩]
    refine ⟨_, rfl, Or.inr (Or.inl ⟨_, rfl⟩), ?_⟩
    have hS6 := Same.seq s6 (Same.seq s5 (Same.seq s4 (Same.seq s3 (Same.seq s2 (Same.seq s1 hS)))))
    walk_at "run"
    refine ⟨_, ns, 2, rfl, hS6, ?_⟩
    refine ⟨_, ns, m, _, rfl, hS6, hl, ⟨m0, m1⟩, fun z H7 s7 hz => ?_⟩
    walk_at "run"
    intro H8 s8
    walk_at "run"
    intro H9 s9
    rcases readV_kind z with e | ⟨s, e, hs⟩
    · rw [e]
      refine ⟨_, rfl, _, rfl, Or.inl rfl, ?_⟩
      walk_at "run"
      exact q _
    · rw [e]
      have q10 := show_len hs
      obtain ⟨hs0, hs1⟩ := hs
      refine ⟨_, rfl, _, rfl, Or.inr (Or.inl ⟨_, rfl⟩), ?_⟩
      walk_at "run"
      intro H10 s10
      refine ⟨_, rfl, _, rfl, ⟨hs0, hs1⟩, ?_⟩
      refine ⟨_, rfl, Or.inr (Or.inr ⟨_, rfl⟩), ?_⟩
      walk_at "run"
      intro H11 s11
      walk_at "run"
      rw [read_show ⟨hs0, hs1⟩]
      exact ⟨_, rfl, Or.inr (Or.inl ⟨_, rfl⟩), q _⟩

end
/-! ### the top -/
theorem all_mk {l : PySem.W.OpenLaw} {w : World} {K : PySem.W.Frag} {h : Heap} {mg : Str → Option Value} {fa : Addr} (X : K.In h) (G : h.Ns mainGlobals mg) (hfa : mg "law" = some (.ref fa))
    {od0 an0 : Option Addr} {sl0 : Array (Option Value)} {oc0 kV0 dc0 pm0 cd0 ct0 : Value} {f0 : Addr}
    (a0 : PySem.W.nsIn K mainGlobals "half_even" = some (some (.ref f0))) (l0 : K.lookup f0 = some ⟨oc0, od0, .func (PySem.W.fnOf "half_even" "half_even" (defArgs shalf_even) (defBody shalf_even) (defScope shalf_even) .none kV0 dc0 pm0 an0 cd0 ct0), sl0⟩) (c0 : PySem.W.codeIn K cd0 "half_even" = true) (k0 : PySem.W.keepIn K (.ref f0) = true)
    {od1 an1 : Option Addr} {sl1 : Array (Option Value)} {oc1 kV1 dc1 pm1 cd1 ct1 : Value} {f1 : Addr}
    (a1 : PySem.W.nsIn K mainGlobals "fitting" = some (some (.ref f1))) (l1 : K.lookup f1 = some ⟨oc1, od1, .func (PySem.W.fnOf "fitting" "fitting" (defArgs sfitting) (defBody sfitting) (defScope sfitting) .none kV1 dc1 pm1 an1 cd1 ct1), sl1⟩) (c1 : PySem.W.codeIn K cd1 "fitting" = true) (k1 : PySem.W.keepIn K (.ref f1) = true)
    {od2 an2 : Option Addr} {sl2 : Array (Option Value)} {oc2 kV2 dc2 pm2 cd2 ct2 : Value} {f2 : Addr}
    (a2 : PySem.W.nsIn K mainGlobals "shown_amount" = some (some (.ref f2))) (l2 : K.lookup f2 = some ⟨oc2, od2, .func (PySem.W.fnOf "shown_amount" "shown_amount" (defArgs sshown_amount) (defBody sshown_amount) (defScope sshown_amount) .none kV2 dc2 pm2 an2 cd2 ct2), sl2⟩) (c2 : PySem.W.codeIn K cd2 "shown_amount" = true) (k2 : PySem.W.keepIn K (.ref f2) = true)
    {od3 an3 : Option Addr} {sl3 : Array (Option Value)} {oc3 kV3 dc3 pm3 cd3 ct3 : Value} {f3 : Addr}
    (a3 : PySem.W.nsIn K mainGlobals "read_amount" = some (some (.ref f3))) (l3 : K.lookup f3 = some ⟨oc3, od3, .func (PySem.W.fnOf "read_amount" "read_amount" (defArgs sread_amount) (defBody sread_amount) (defScope sread_amount) .none kV3 dc3 pm3 an3 cd3 ct3), sl3⟩) (c3 : PySem.W.codeIn K cd3 "read_amount" = true) (k3 : PySem.W.keepIn K (.ref f3) = true)
    {od4 an4 : Option Addr} {sl4 : Array (Option Value)} {oc4 kV4 dc4 pm4 cd4 ct4 : Value} {f4 : Addr}
    (a4 : PySem.W.nsIn K mainGlobals "are_figures" = some (some (.ref f4))) (l4 : K.lookup f4 = some ⟨oc4, od4, .func (PySem.W.fnOf "are_figures" "are_figures" (defArgs sare_figures) (defBody sare_figures) (defScope sare_figures) .none kV4 dc4 pm4 an4 cd4 ct4), sl4⟩) (c4 : PySem.W.codeIn K cd4 "are_figures" = true) (k4 : PySem.W.keepIn K (.ref f4) = true)
    {od5 an5 : Option Addr} {sl5 : Array (Option Value)} {oc5 kV5 dc5 pm5 cd5 ct5 : Value} {f5 : Addr}
    (a5 : PySem.W.nsIn K mainGlobals "_law_cell" = some (some (.ref f5))) (l5 : K.lookup f5 = some ⟨oc5, od5, .func (PySem.W.fnOf "_law_cell" "_law_cell" (defArgs s_law_cell) (defBody s_law_cell) (defScope s_law_cell) .none kV5 dc5 pm5 an5 cd5 ct5), sl5⟩) (c5 : PySem.W.codeIn K cd5 "_law_cell" = true) (k5 : PySem.W.keepIn K (.ref f5) = true)
    {od6 an6 : Option Addr} {sl6 : Array (Option Value)} {oc6 kV6 dc6 pm6 cd6 ct6 : Value} {f6 : Addr}
    (a6 : PySem.W.nsIn K mainGlobals "_law_mix" = some (some (.ref f6))) (l6 : K.lookup f6 = some ⟨oc6, od6, .func (PySem.W.fnOf "_law_mix" "_law_mix" (defArgs s_law_mix) (defBody s_law_mix) (defScope s_law_mix) .none kV6 dc6 pm6 an6 cd6 ct6), sl6⟩) (c6 : PySem.W.codeIn K cd6 "_law_mix" = true) (k6 : PySem.W.keepIn K (.ref f6) = true)
    {od7 an7 : Option Addr} {sl7 : Array (Option Value)} {oc7 kV7 dc7 pm7 cd7 ct7 : Value} {f7 : Addr}
    (a7 : PySem.W.nsIn K mainGlobals "_law_amount" = some (some (.ref f7))) (l7 : K.lookup f7 = some ⟨oc7, od7, .func (PySem.W.fnOf "_law_amount" "_law_amount" (defArgs s_law_amount) (defBody s_law_amount) (defScope s_law_amount) .none kV7 dc7 pm7 an7 cd7 ct7), sl7⟩) (c7 : PySem.W.codeIn K cd7 "_law_amount" = true) (k7 : PySem.W.keepIn K (.ref f7) = true)
    {od8 an8 : Option Addr} {sl8 : Array (Option Value)} {oc8 kV8 dc8 pm8 cd8 ct8 : Value} {f8 : Addr}
    (a8 : PySem.W.nsIn K mainGlobals "_law_nearest" = some (some (.ref f8))) (l8 : K.lookup f8 = some ⟨oc8, od8, .func (PySem.W.fnOf "_law_nearest" "_law_nearest" (defArgs s_law_nearest) (defBody s_law_nearest) (defScope s_law_nearest) .none kV8 dc8 pm8 an8 cd8 ct8), sl8⟩) (c8 : PySem.W.codeIn K cd8 "_law_nearest" = true) (k8 : PySem.W.keepIn K (.ref f8) = true)
    {od9 an9 : Option Addr} {sl9 : Array (Option Value)} {oc9 kV9 dc9 pm9 cd9 ct9 : Value} {f9 : Addr}
    (a9 : PySem.W.nsIn K mainGlobals "_law_written" = some (some (.ref f9))) (l9 : K.lookup f9 = some ⟨oc9, od9, .func (PySem.W.fnOf "_law_written" "_law_written" (defArgs s_law_written) (defBody s_law_written) (defScope s_law_written) .none kV9 dc9 pm9 an9 cd9 ct9), sl9⟩) (c9 : PySem.W.codeIn K cd9 "_law_written" = true) (k9 : PySem.W.keepIn K (.ref f9) = true)
    {od10 an10 : Option Addr} {sl10 : Array (Option Value)} {oc10 kV10 dc10 pm10 cd10 ct10 : Value} {f10 : Addr}
    (a10 : PySem.W.nsIn K mainGlobals "_law_figures" = some (some (.ref f10))) (l10 : K.lookup f10 = some ⟨oc10, od10, .func (PySem.W.fnOf "_law_figures" "_law_figures" (defArgs s_law_figures) (defBody s_law_figures) (defScope s_law_figures) .none kV10 dc10 pm10 an10 cd10 ct10), sl10⟩) (c10 : PySem.W.codeIn K cd10 "_law_figures" = true) (k10 : PySem.W.keepIn K (.ref f10) = true)
    {od11 an11 : Option Addr} {sl11 : Array (Option Value)} {oc11 kV11 dc11 pm11 cd11 ct11 : Value} {f11 : Addr}
    (a11 : PySem.W.nsIn K mainGlobals "_law_read" = some (some (.ref f11))) (l11 : K.lookup f11 = some ⟨oc11, od11, .func (PySem.W.fnOf "_law_read" "_law_read" (defArgs s_law_read) (defBody s_law_read) (defScope s_law_read) .none kV11 dc11 pm11 an11 cd11 ct11), sl11⟩) (c11 : PySem.W.codeIn K cd11 "_law_read" = true) (k11 : PySem.W.keepIn K (.ref f11) = true)
    {od12 an12 : Option Addr} {sl12 : Array (Option Value)} {oc12 kV12 dc12 pm12 cd12 ct12 : Value} {f12 : Addr}
    (a12 : PySem.W.nsIn K mainGlobals "_law_signs" = some (some (.ref f12))) (l12 : K.lookup f12 = some ⟨oc12, od12, .func (PySem.W.fnOf "_law_signs" "_law_signs" (defArgs s_law_signs) (defBody s_law_signs) (defScope s_law_signs) .none kV12 dc12 pm12 an12 cd12 ct12), sl12⟩) (c12 : PySem.W.codeIn K cd12 "_law_signs" = true) (k12 : PySem.W.keepIn K (.ref f12) = true)
    {od13 an13 : Option Addr} {sl13 : Array (Option Value)} {oc13 kV13 dc13 pm13 cd13 ct13 : Value} {f13 : Addr}
    (a13 : PySem.W.nsIn K mainGlobals "_law_alphabet" = some (some (.ref f13))) (l13 : K.lookup f13 = some ⟨oc13, od13, .func (PySem.W.fnOf "_law_alphabet" "_law_alphabet" (defArgs s_law_alphabet) (defBody s_law_alphabet) (defScope s_law_alphabet) .none kV13 dc13 pm13 an13 cd13 ct13), sl13⟩) (c13 : PySem.W.codeIn K cd13 "_law_alphabet" = true) (k13 : PySem.W.keepIn K (.ref f13) = true)
    {od14 an14 : Option Addr} {sl14 : Array (Option Value)} {oc14 kV14 dc14 pm14 cd14 ct14 : Value} {f14 : Addr}
    (a14 : PySem.W.nsIn K mainGlobals "_law_free" = some (some (.ref f14))) (l14 : K.lookup f14 = some ⟨oc14, od14, .func (PySem.W.fnOf "_law_free" "_law_free" (defArgs s_law_free) (defBody s_law_free) (defScope s_law_free) .none kV14 dc14 pm14 an14 cd14 ct14), sl14⟩) (c14 : PySem.W.codeIn K cd14 "_law_free" = true) (k14 : PySem.W.keepIn K (.ref f14) = true)
    {od15 an15 : Option Addr} {sl15 : Array (Option Value)} {oc15 kV15 dc15 pm15 cd15 ct15 : Value} {f15 : Addr}
    (a15 : PySem.W.nsIn K mainGlobals "_law_whole_part" = some (some (.ref f15))) (l15 : K.lookup f15 = some ⟨oc15, od15, .func (PySem.W.fnOf "_law_whole_part" "_law_whole_part" (defArgs s_law_whole_part) (defBody s_law_whole_part) (defScope s_law_whole_part) .none kV15 dc15 pm15 an15 cd15 ct15), sl15⟩) (c15 : PySem.W.codeIn K cd15 "_law_whole_part" = true) (k15 : PySem.W.keepIn K (.ref f15) = true)
    {od16 an16 : Option Addr} {sl16 : Array (Option Value)} {oc16 kV16 dc16 pm16 cd16 ct16 : Value} {f16 : Addr}
    (a16 : PySem.W.nsIn K mainGlobals "_law_rest" = some (some (.ref f16))) (l16 : K.lookup f16 = some ⟨oc16, od16, .func (PySem.W.fnOf "_law_rest" "_law_rest" (defArgs s_law_rest) (defBody s_law_rest) (defScope s_law_rest) .none kV16 dc16 pm16 an16 cd16 ct16), sl16⟩) (c16 : PySem.W.codeIn K cd16 "_law_rest" = true) (k16 : PySem.W.keepIn K (.ref f16) = true)
    {od17 an17 : Option Addr} {sl17 : Array (Option Value)} {oc17 kV17 dc17 pm17 cd17 ct17 : Value} {f17 : Addr}
    (a17 : PySem.W.nsIn K mainGlobals "_law_form" = some (some (.ref f17))) (l17 : K.lookup f17 = some ⟨oc17, od17, .func (PySem.W.fnOf "_law_form" "_law_form" (defArgs s_law_form) (defBody s_law_form) (defScope s_law_form) .none kV17 dc17 pm17 an17 cd17 ct17), sl17⟩) (c17 : PySem.W.codeIn K cd17 "_law_form" = true) (k17 : PySem.W.keepIn K (.ref f17) = true)
    {od18 an18 : Option Addr} {sl18 : Array (Option Value)} {oc18 kV18 dc18 pm18 cd18 ct18 : Value} {f18 : Addr}
    (a18 : PySem.W.nsIn K mainGlobals "_law_padded" = some (some (.ref f18))) (l18 : K.lookup f18 = some ⟨oc18, od18, .func (PySem.W.fnOf "_law_padded" "_law_padded" (defArgs s_law_padded) (defBody s_law_padded) (defScope s_law_padded) .none kV18 dc18 pm18 an18 cd18 ct18), sl18⟩) (c18 : PySem.W.codeIn K cd18 "_law_padded" = true) (k18 : PySem.W.keepIn K (.ref f18) = true)
    {od19 an19 : Option Addr} {sl19 : Array (Option Value)} {oc19 kV19 dc19 pm19 cd19 ct19 : Value} {f19 : Addr}
    (a19 : PySem.W.nsIn K mainGlobals "_law_spoilt" = some (some (.ref f19))) (l19 : K.lookup f19 = some ⟨oc19, od19, .func (PySem.W.fnOf "_law_spoilt" "_law_spoilt" (defArgs s_law_spoilt) (defBody s_law_spoilt) (defScope s_law_spoilt) .none kV19 dc19 pm19 an19 cd19 ct19), sl19⟩) (c19 : PySem.W.codeIn K cd19 "_law_spoilt" = true) (k19 : PySem.W.keepIn K (.ref f19) = true)
    {od20 an20 : Option Addr} {sl20 : Array (Option Value)} {oc20 kV20 dc20 pm20 cd20 ct20 : Value} {f20 : Addr}
    (a20 : PySem.W.nsIn K mainGlobals "_law_text" = some (some (.ref f20))) (l20 : K.lookup f20 = some ⟨oc20, od20, .func (PySem.W.fnOf "_law_text" "_law_text" (defArgs s_law_text) (defBody s_law_text) (defScope s_law_text) .none kV20 dc20 pm20 an20 cd20 ct20), sl20⟩) (c20 : PySem.W.codeIn K cd20 "_law_text" = true) (k20 : PySem.W.keepIn K (.ref f20) = true)
    {od21 an21 : Option Addr} {sl21 : Array (Option Value)} {oc21 kV21 dc21 pm21 cd21 ct21 : Value} {f21 : Addr}
    (a21 : PySem.W.nsIn K mainGlobals "_law_same" = some (some (.ref f21))) (l21 : K.lookup f21 = some ⟨oc21, od21, .func (PySem.W.fnOf "_law_same" "_law_same" (defArgs s_law_same) (defBody s_law_same) (defScope s_law_same) .none kV21 dc21 pm21 an21 cd21 ct21), sl21⟩) (c21 : PySem.W.codeIn K cd21 "_law_same" = true) (k21 : PySem.W.keepIn K (.ref f21) = true)
    {od22 an22 : Option Addr} {sl22 : Array (Option Value)} {oc22 kV22 dc22 pm22 cd22 ct22 : Value} {f22 : Addr}
    (a22 : PySem.W.nsIn K mainGlobals "law" = some (some (.ref f22))) (l22 : K.lookup f22 = some ⟨oc22, od22, .func (PySem.W.fnOf "law" "law" (defArgs slaw) (defBody slaw) (defScope slaw) .none kV22 dc22 pm22 an22 cd22 ct22), sl22⟩) (c22 : PySem.W.codeIn K cd22 "law" = true) (k22 : PySem.W.keepIn K (.ref f22) = true)
    {t_SCALE : Tok} (v_SCALE : PySem.W.nsIn K mainGlobals "SCALE" = some (some (.int 1000000 t_SCALE)))
    {t_GREATEST : Tok} (v_GREATEST : PySem.W.nsIn K mainGlobals "GREATEST" = some (some (.int 999999999999999999999 t_GREATEST)))
    {t_FIGURES_AHEAD : Tok} (v_FIGURES_AHEAD : PySem.W.nsIn K mainGlobals "FIGURES_AHEAD" = some (some (.int 15 t_FIGURES_AHEAD)))
    {t_FIGURES_BEHIND : Tok} (v_FIGURES_BEHIND : PySem.W.nsIn K mainGlobals "FIGURES_BEHIND" = some (some (.int 12 t_FIGURES_BEHIND)))
    (z_abs : PySem.W.nsIn K mainGlobals "abs" = some none)
    (z_bool : PySem.W.nsIn K mainGlobals "bool" = some none)
    (z_divmod : PySem.W.nsIn K mainGlobals "divmod" = some none)
    (z_int : PySem.W.nsIn K mainGlobals "int" = some none)
    (z_isinstance : PySem.W.nsIn K mainGlobals "isinstance" = some none)
    (z_len : PySem.W.nsIn K mainGlobals "len" = some none)
    (z_range : PySem.W.nsIn K mainGlobals "range" = some none)
    (z_str : PySem.W.nsIn K mainGlobals "str" = some none) :
    ∃ fd : FuncData, (∀ (s : Shared) (v : Value), BindsTo s fd ⟨[v], []⟩ [("script", v)]) ∧ ∀ base : Heap, K.In base → base.Ns mainGlobals mg → FnOk l.prog w K mg base CX0 6 fa fd ["script"] (splaw K) := by
  have e := hfa.symm.trans (PySem.W.mg_of X G a22)
  cases e
  have F0 := fun_mk (st := shalf_even) l0 c0 k0
  have b0 := F0.binds (ps := Phalf_even) fun _ _ _ _ _ _ us hl => match us, hl with | [_, _], _ => rfl
  have F1 := fun_mk (st := sfitting) l1 c1 k1
  have b1 := F1.binds (ps := Pfitting) fun _ _ _ _ _ _ us hl => match us, hl with | [_], _ => rfl
  have F2 := fun_mk (st := sshown_amount) l2 c2 k2
  have b2 := F2.binds (ps := Pshown_amount) fun _ _ _ _ _ _ us hl => match us, hl with | [_], _ => rfl
  have F3 := fun_mk (st := sread_amount) l3 c3 k3
  have b3 := F3.binds (ps := Pread_amount) fun _ _ _ _ _ _ us hl => match us, hl with | [_], _ => rfl
  have F4 := fun_mk (st := sare_figures) l4 c4 k4
  have b4 := F4.binds (ps := Pare_figures) fun _ _ _ _ _ _ us hl => match us, hl with | [_, _], _ => rfl
  have F5 := fun_mk (st := s_law_cell) l5 c5 k5
  have b5 := F5.binds (ps := P_law_cell) fun _ _ _ _ _ _ us hl => match us, hl with | [_, _], _ => rfl
  have F6 := fun_mk (st := s_law_mix) l6 c6 k6
  have b6 := F6.binds (ps := P_law_mix) fun _ _ _ _ _ _ us hl => match us, hl with | [_, _], _ => rfl
  have F7 := fun_mk (st := s_law_amount) l7 c7 k7
  have b7 := F7.binds (ps := P_law_amount) fun _ _ _ _ _ _ us hl => match us, hl with | [_, _], _ => rfl
  have F8 := fun_mk (st := s_law_nearest) l8 c8 k8
  have b8 := F8.binds (ps := P_law_nearest) fun _ _ _ _ _ _ us hl => match us, hl with | [_, _], _ => rfl
  have F9 := fun_mk (st := s_law_written) l9 c9 k9
  have b9 := F9.binds (ps := P_law_written) fun _ _ _ _ _ _ us hl => match us, hl with | [_], _ => rfl
  have F10 := fun_mk (st := s_law_figures) l10 c10 k10
  have b10 := F10.binds (ps := P_law_figures) fun _ _ _ _ _ _ us hl => match us, hl with | [_, _], _ => rfl
  have F11 := fun_mk (st := s_law_read) l11 c11 k11
  have b11 := F11.binds (ps := P_law_read) fun _ _ _ _ _ _ us hl => match us, hl with | [_], _ => rfl
  have F12 := fun_mk (st := s_law_signs) l12 c12 k12
  have b12 := F12.binds (ps := P_law_signs) fun _ _ _ _ _ _ us hl => match us, hl with | [_, _, _], _ => rfl
  have F13 := fun_mk (st := s_law_alphabet) l13 c13 k13
  have b13 := F13.binds (ps := P_law_alphabet) fun _ _ _ _ _ _ us hl => match us, hl with | [], _ => rfl
  have F14 := fun_mk (st := s_law_free) l14 c14 k14
  have b14 := F14.binds (ps := P_law_free) fun _ _ _ _ _ _ us hl => match us, hl with | [_, _], _ => rfl
  have F15 := fun_mk (st := s_law_whole_part) l15 c15 k15
  have b15 := F15.binds (ps := P_law_whole_part) fun _ _ _ _ _ _ us hl => match us, hl with | [_], _ => rfl
  have F16 := fun_mk (st := s_law_rest) l16 c16 k16
  have b16 := F16.binds (ps := P_law_rest) fun _ _ _ _ _ _ us hl => match us, hl with | [_], _ => rfl
  have F17 := fun_mk (st := s_law_form) l17 c17 k17
  have b17 := F17.binds (ps := P_law_form) fun _ _ _ _ _ _ us hl => match us, hl with | [_, _], _ => rfl
  have F18 := fun_mk (st := s_law_padded) l18 c18 k18
  have b18 := F18.binds (ps := P_law_padded) fun _ _ _ _ _ _ us hl => match us, hl with | [_, _], _ => rfl
  have F19 := fun_mk (st := s_law_spoilt) l19 c19 k19
  have b19 := F19.binds (ps := P_law_spoilt) fun _ _ _ _ _ _ us hl => match us, hl with | [_, _, _], _ => rfl
  have F20 := fun_mk (st := s_law_text) l20 c20 k20
  have b20 := F20.binds (ps := P_law_text) fun _ _ _ _ _ _ us hl => match us, hl with | [_, _, _], _ => rfl
  have F21 := fun_mk (st := s_law_same) l21 c21 k21
  have b21 := F21.binds (ps := P_law_same) fun _ _ _ _ _ _ us hl => match us, hl with | [_, _], _ => rfl
  have F22 := fun_mk (st := slaw) l22 c22 k22
  have b22 := F22.binds (ps := Plaw) fun _ _ _ _ _ _ us hl => match us, hl with | [_], _ => rfl
  let T : Txt K mg := { ahalf_even := f0, dhalf_even := _, Fhalf_even := F0, ghalf_even := PySem.W.mg_of X G a0, bhalf_even := b0, afitting := f1, dfitting := _, Ffitting := F1, gfitting := PySem.W.mg_of X G a1, bfitting := b1, ashown_amount := f2, dshown_amount := _, Fshown_amount := F2, gshown_amount := PySem.W.mg_of X G a2, bshown_amount := b2, aread_amount := f3, dread_amount := _, Fread_amount := F3, gread_amount := PySem.W.mg_of X G a3, bread_amount := b3, aare_figures := f4, dare_figures := _, Fare_figures := F4, gare_figures := PySem.W.mg_of X G a4, bare_figures := b4, a_law_cell := f5, d_law_cell := _, F_law_cell := F5, g_law_cell := PySem.W.mg_of X G a5, b_law_cell := b5, a_law_mix := f6, d_law_mix := _, F_law_mix := F6, g_law_mix := PySem.W.mg_of X G a6, b_law_mix := b6, a_law_amount := f7, d_law_amount := _, F_law_amount := F7, g_law_amount := PySem.W.mg_of X G a7, b_law_amount := b7, a_law_nearest := f8, d_law_nearest := _, F_law_nearest := F8, g_law_nearest := PySem.W.mg_of X G a8, b_law_nearest := b8, a_law_written := f9, d_law_written := _, F_law_written := F9, g_law_written := PySem.W.mg_of X G a9, b_law_written := b9, a_law_figures := f10, d_law_figures := _, F_law_figures := F10, g_law_figures := PySem.W.mg_of X G a10, b_law_figures := b10, a_law_read := f11, d_law_read := _, F_law_read := F11, g_law_read := PySem.W.mg_of X G a11, b_law_read := b11, a_law_signs := f12, d_law_signs := _, F_law_signs := F12, g_law_signs := PySem.W.mg_of X G a12, b_law_signs := b12, a_law_alphabet := f13, d_law_alphabet := _, F_law_alphabet := F13, g_law_alphabet := PySem.W.mg_of X G a13, b_law_alphabet := b13, a_law_free := f14, d_law_free := _, F_law_free := F14, g_law_free := PySem.W.mg_of X G a14, b_law_free := b14, a_law_whole_part := f15, d_law_whole_part := _, F_law_whole_part := F15, g_law_whole_part := PySem.W.mg_of X G a15, b_law_whole_part := b15, a_law_rest := f16, d_law_rest := _, F_law_rest := F16, g_law_rest := PySem.W.mg_of X G a16, b_law_rest := b16, a_law_form := f17, d_law_form := _, F_law_form := F17, g_law_form := PySem.W.mg_of X G a17, b_law_form := b17, a_law_padded := f18, d_law_padded := _, F_law_padded := F18, g_law_padded := PySem.W.mg_of X G a18, b_law_padded := b18, a_law_spoilt := f19, d_law_spoilt := _, F_law_spoilt := F19, g_law_spoilt := PySem.W.mg_of X G a19, b_law_spoilt := b19, a_law_text := f20, d_law_text := _, F_law_text := F20, g_law_text := PySem.W.mg_of X G a20, b_law_text := b20, a_law_same := f21, d_law_same := _, F_law_same := F21, g_law_same := PySem.W.mg_of X G a21, b_law_same := b21, alaw := fa, dlaw := _, Flaw := F22, glaw := PySem.W.mg_of X G a22, blaw := b22, t_SCALE := t_SCALE, m_SCALE := PySem.W.mg_of X G v_SCALE, t_GREATEST := t_GREATEST, m_GREATEST := PySem.W.mg_of X G v_GREATEST, t_FIGURES_AHEAD := t_FIGURES_AHEAD, m_FIGURES_AHEAD := PySem.W.mg_of X G v_FIGURES_AHEAD, t_FIGURES_BEHIND := t_FIGURES_BEHIND, m_FIGURES_BEHIND := PySem.W.mg_of X G v_FIGURES_BEHIND, z_abs := PySem.W.mg_none_of X G z_abs, z_bool := PySem.W.mg_none_of X G z_bool, z_divmod := PySem.W.mg_none_of X G z_divmod, z_int := PySem.W.mg_none_of X G z_int, z_isinstance := PySem.W.mg_none_of X G z_isinstance, z_len := PySem.W.mg_none_of X G z_len, z_range := PySem.W.mg_none_of X G z_range, z_str := PySem.W.mg_none_of X G z_str }
  exact ⟨T.dlaw, fun s v => .of_eq rfl, fun base _ _ => oklaw T⟩

end Mysheetworks_k04_whole_amounts_read_back
open PySem PySem.W PyProof.Rows
set_option maxHeartbeats 0 in
theorem PySem.Challenge.cw_sheetworks_k04_whole_amounts_read_back_holds : PySem.Challenge.rw_sheetworks_k04_whole_amounts_read_back.Holds := by
  w_on; o_law; k_head; (case hw => w_witness2)
  k_fill
  refine L2.walk_of (l := PySem.Challenge.rw_sheetworks_k04_whole_amounts_read_back) (n := 63) (k := 6) (x := "script") (CX := fun _ => L2.CX0) (sp := fun w => Mysheetworks_k04_whole_amounts_read_back.splaw _) rfl (by decide) rfl ⟨rfl, by decide, by decide⟩ (fun w h Y => PySem.W.kIn_of Y) ?F (fun _ _ a ns hl _ hS => ⟨a, ns, rfl, hS, hl, fun _ => rfl⟩) (fun _ _ _ _ _ h => h)
  case F =>
    intro w mg fa h KX G hmg
    refine' Mysheetworks_k04_whole_amounts_read_back.all_mk KX G hmg ?a0 ?l0 ?c0 ?k0 ?a1 ?l1 ?c1 ?k1 ?a2 ?l2 ?c2 ?k2 ?a3 ?l3 ?c3 ?k3 ?a4 ?l4 ?c4 ?k4 ?a5 ?l5 ?c5 ?k5 ?a6 ?l6 ?c6 ?k6 ?a7 ?l7 ?c7 ?k7 ?a8 ?l8 ?c8 ?k8 ?a9 ?l9 ?c9 ?k9 ?a10 ?l10 ?c10 ?k10 ?a11 ?l11 ?c11 ?k11 ?a12 ?l12 ?c12 ?k12 ?a13 ?l13 ?c13 ?k13 ?a14 ?l14 ?c14 ?k14 ?a15 ?l15 ?c15 ?k15 ?a16 ?l16 ?c16 ?k16 ?a17 ?l17 ?c17 ?k17 ?a18 ?l18 ?c18 ?k18 ?a19 ?l19 ?c19 ?k19 ?a20 ?l20 ?c20 ?k20 ?a21 ?l21 ?c21 ?k21 ?a22 ?l22 ?c22 ?k22 ?v_SCALE ?v_GREATEST ?v_FIGURES_AHEAD ?v_FIGURES_BEHIND ?z_abs ?z_bool ?z_divmod ?z_int ?z_isinstance ?z_len ?z_range ?z_str
    (case a0 => k_is); (case l0 => k_is); (case c0 => k_is); (case k0 => k_is); (case a1 => k_is); (case l1 => k_is); (case c1 => k_is); (case k1 => k_is); (case a2 => k_is); (case l2 => k_is); (case c2 => k_is); (case k2 => k_is); (case a3 => k_is); (case l3 => k_is); (case c3 => k_is); (case k3 => k_is); (case a4 => k_is); (case l4 => k_is); (case c4 => k_is); (case k4 => k_is); (case a5 => k_is); (case l5 => k_is); (case c5 => k_is); (case k5 => k_is); (case a6 => k_is); (case l6 => k_is); (case c6 => k_is); (case k6 => k_is); (case a7 => k_is); (case l7 => k_is); (case c7 => k_is); (case k7 => k_is); (case a8 => k_is); (case l8 => k_is); (case c8 => k_is); (case k8 => k_is); (case a9 => k_is); (case l9 => k_is); (case c9 => k_is); (case k9 => k_is); (case a10 => k_is); (case l10 => k_is); (case c10 => k_is); (case k10 => k_is); (case a11 => k_is); (case l11 => k_is); (case c11 => k_is); (case k11 => k_is); (case a12 => k_is); (case l12 => k_is); (case c12 => k_is); (case k12 => k_is); (case a13 => k_is); (case l13 => k_is); (case c13 => k_is); (case k13 => k_is); (case a14 => k_is); (case l14 => k_is); (case c14 => k_is); (case k14 => k_is); (case a15 => k_is); (case l15 => k_is); (case c15 => k_is); (case k15 => k_is); (case a16 => k_is); (case l16 => k_is); (case c16 => k_is); (case k16 => k_is); (case a17 => k_is); (case l17 => k_is); (case c17 => k_is); (case k17 => k_is); (case a18 => k_is); (case l18 => k_is); (case c18 => k_is); (case k18 => k_is); (case a19 => k_is); (case l19 => k_is); (case c19 => k_is); (case k19 => k_is); (case a20 => k_is); (case l20 => k_is); (case c20 => k_is); (case k20 => k_is); (case a21 => k_is); (case l21 => k_is); (case c21 => k_is); (case k21 => k_is); (case a22 => k_is); (case l22 => k_is); (case c22 => k_is); (case k22 => k_is); (case v_SCALE => k_is); (case v_GREATEST => k_is); (case v_FIGURES_AHEAD => k_is); (case v_FIGURES_BEHIND => k_is); (case z_abs => k_is); (case z_bool => k_is); (case z_divmod => k_is); (case z_int => k_is); (case z_isinstance => k_is); (case z_len => k_is); (case z_range => k_is); (case z_str => k_is)

