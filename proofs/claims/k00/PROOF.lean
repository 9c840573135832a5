import PyProof.Rows.All
import Wide.All
import OpenK.AllK
import Wide.FinOn
import HandS.ForMost
import HandS.Gcd
import Flt.RightSqrt
import KE.KMathG
import HandS.IsInst
import HandS.Wide
import HandS.WideBits
import HandS.StrMore
import HandS.FStr
import HandS.EndBits
import HandS.Codes
import HandS.Walk
import HandS.Strs
import PyProof.Rows.StrPadFill
import HandS.Exc
import HandS.ExcInit
import HandS.ExcField
import HandS.ExcOwn
import HandS.ExcValue
import HandS.ExcIs
import HandS.TryMany
import HandS.WordsExc
import HandS.ExcCtx
import HandS.HotCalls
import KE.KExcInit
import KE.KExcIs
import KE.KExcLine
import HandS.RaiseMore
import PySem.Challenge.RW_sheetworks_k00_errors
set_option Elab.async false
set_option linter.all false
set_option maxRecDepth 100000
set_option maxHeartbeats 4000000
namespace Mysheetworks_k00_errors
open PySem PySem.Spec PyProof.Rows L2
def topS (i : Nat) : Stmt := PySem.Challenge.pw_sheetworks_k00_errors.main.body.getD i (.Pass ⟨0, 0, 0, 0⟩)
def clsS (i j : Nat) : Stmt := match topS i with
  | .ClassDef _ _ _ b .. => b.getD j (.Pass ⟨0, 0, 0, 0⟩)
  | s => s
abbrev sBadPlace_init : Stmt := clsS 2 0
abbrev NBadPlace_init : List Str := ["self", "at"]
abbrev PBadPlace_init : List Str := ["self", "at"]
theorem scBadPlace_init : FnScope NBadPlace_init PBadPlace_init (defScope sBadPlace_init) := ⟨rfl, rfl, rfl, by decide +kernel, rfl, by decide +kernel, by decide +kernel⟩
abbrev sBadText_init : Stmt := clsS 3 0
abbrev NBadText_init : List Str := ["self", "at"]
abbrev PBadText_init : List Str := ["self", "at"]
theorem scBadText_init : FnScope NBadText_init PBadText_init (defScope sBadText_init) := ⟨rfl, rfl, rfl, by decide +kernel, rfl, by decide +kernel, by decide +kernel⟩
abbrev sFault_init : Stmt := clsS 4 0
abbrev NFault_init : List Str := ["self", "at"]
abbrev PFault_init : List Str := ["self", "at"]
theorem scFault_init : FnScope NFault_init PFault_init (defScope sFault_init) := ⟨rfl, rfl, rfl, by decide +kernel, rfl, by decide +kernel, by decide +kernel⟩
abbrev sBadName_init : Stmt := clsS 5 0
abbrev NBadName_init : List Str := ["self", "name"]
abbrev PBadName_init : List Str := ["self", "name"]
theorem scBadName_init : FnScope NBadName_init PBadName_init (defScope sBadName_init) := ⟨rfl, rfl, rfl, by decide +kernel, rfl, by decide +kernel, by decide +kernel⟩
abbrev sBlockCut_init : Stmt := clsS 6 0
abbrev NBlockCut_init : List Str := ["self", "sheet", "row", "column"]
abbrev PBlockCut_init : List Str := ["self", "sheet", "row", "column"]
theorem scBlockCut_init : FnScope NBlockCut_init PBlockCut_init (defScope sBlockCut_init) := ⟨rfl, rfl, rfl, by decide +kernel, rfl, by decide +kernel, by decide +kernel⟩
abbrev sNoRoom_init : Stmt := clsS 7 0
abbrev NNoRoom_init : List Str := ["self", "word"]
abbrev PNoRoom_init : List Str := ["self", "word"]
theorem scNoRoom_init : FnScope NNoRoom_init PNoRoom_init (defScope sNoRoom_init) := ⟨rfl, rfl, rfl, by decide +kernel, rfl, by decide +kernel, by decide +kernel⟩
abbrev sNothingThere_init : Stmt := clsS 8 0
abbrev NNothingThere_init : List Str := ["self", "word"]
abbrev PNothingThere_init : List Str := ["self", "word"]
theorem scNothingThere_init : FnScope NNothingThere_init PNothingThere_init (defScope sNothingThere_init) := ⟨rfl, rfl, rfl, by decide +kernel, rfl, by decide +kernel, by decide +kernel⟩
abbrev sBadJournal_init : Stmt := clsS 9 0
abbrev NBadJournal_init : List Str := ["self", "at"]
abbrev PBadJournal_init : List Str := ["self", "at"]
theorem scBadJournal_init : FnScope NBadJournal_init PBadJournal_init (defScope sBadJournal_init) := ⟨rfl, rfl, rfl, by decide +kernel, rfl, by decide +kernel, by decide +kernel⟩
abbrev s_law_cell : Stmt := topS 11
abbrev N_law_cell : List Str := ["script", "k"]
abbrev P_law_cell : List Str := ["script", "k"]
theorem sc_law_cell : FnScope N_law_cell P_law_cell (defScope s_law_cell) := ⟨rfl, rfl, rfl, by decide +kernel, rfl, by decide +kernel, by decide +kernel⟩
abbrev s_law_mix : Stmt := topS 12
abbrev N_law_mix : List Str := ["cell", "salt", "one"]
abbrev P_law_mix : List Str := ["cell", "salt"]
theorem sc_law_mix : FnScope N_law_mix P_law_mix (defScope s_law_mix) := ⟨rfl, rfl, rfl, by decide +kernel, rfl, by decide +kernel, by decide +kernel⟩
abbrev s_law_number : Stmt := topS 13
abbrev N_law_number : List Str := ["cell", "salt", "one"]
abbrev P_law_number : List Str := ["cell", "salt"]
theorem sc_law_number : FnScope N_law_number P_law_number (defScope s_law_number) := ⟨rfl, rfl, rfl, by decide +kernel, rfl, by decide +kernel, by decide +kernel⟩
abbrev s_law_text : Stmt := topS 14
abbrev N_law_text : List Str := ["cell", "salt", "signs", "left", "most", "words", "one", "row", "k"]
abbrev P_law_text : List Str := ["cell", "salt"]
theorem sc_law_text : FnScope N_law_text P_law_text (defScope s_law_text) := ⟨rfl, rfl, rfl, by decide +kernel, rfl, by decide +kernel, by decide +kernel⟩
abbrev s_law_is_number : Stmt := topS 15
abbrev N_law_is_number : List Str := ["told", "due"]
abbrev P_law_is_number : List Str := ["told", "due"]
theorem sc_law_is_number : FnScope N_law_is_number P_law_is_number (defScope s_law_is_number) := ⟨rfl, rfl, rfl, by decide +kernel, rfl, by decide +kernel, by decide +kernel⟩
abbrev s_law_is_text : Stmt := topS 16
abbrev N_law_is_text : List Str := ["told", "due"]
abbrev P_law_is_text : List Str := ["told", "due"]
theorem sc_law_is_text : FnScope N_law_is_text P_law_is_text (defScope s_law_is_text) := ⟨rfl, rfl, rfl, by decide +kernel, rfl, by decide +kernel, by decide +kernel⟩
abbrev s_law_alone : Stmt := topS 17
abbrev N_law_alone : List Str := ["made", "kind", "kinds", "k"]
abbrev P_law_alone : List Str := ["made", "kind"]
theorem sc_law_alone : FnScope N_law_alone P_law_alone (defScope s_law_alone) := ⟨rfl, rfl, rfl, by decide +kernel, rfl, by decide +kernel, by decide +kernel⟩
abbrev s_law_numbered : Stmt := topS 18
abbrev N_law_numbered : List Str := ["at", "other", "place", "text", "fault", "journal", "more", "made"]
abbrev P_law_numbered : List Str := ["at", "other"]
theorem sc_law_numbered : FnScope N_law_numbered P_law_numbered (defScope s_law_numbered) := ⟨rfl, rfl, rfl, by decide +kernel, rfl, by decide +kernel, by decide +kernel⟩
abbrev s_law_worded : Stmt := topS 19
abbrev N_law_worded : List Str := ["word", "other", "name", "room", "there", "more", "again", "made"]
abbrev P_law_worded : List Str := ["word", "other"]
theorem sc_law_worded : FnScope N_law_worded P_law_worded (defScope s_law_worded) := ⟨rfl, rfl, rfl, by decide +kernel, rfl, by decide +kernel, by decide +kernel⟩
abbrev s_law_cut : Stmt := topS 20
abbrev N_law_cut : List Str := ["sheet", "row", "column", "cut", "again"]
abbrev P_law_cut : List Str := ["sheet", "row", "column"]
theorem sc_law_cut : FnScope N_law_cut P_law_cut (defScope s_law_cut) := ⟨rfl, rfl, rfl, by decide +kernel, rfl, by decide +kernel, by decide +kernel⟩
abbrev s_law_raise : Stmt := topS 21
abbrev N_law_raise : List Str := ["kind", "at", "word"]
abbrev P_law_raise : List Str := ["kind", "at", "word"]
theorem sc_law_raise : FnScope N_law_raise P_law_raise (defScope s_law_raise) := ⟨rfl, rfl, rfl, by decide +kernel, rfl, by decide +kernel, by decide +kernel⟩
abbrev s_law_caught : Stmt := topS 22
abbrev N_law_caught : List Str := ["kind", "at", "word", "e", "told"]
abbrev P_law_caught : List Str := ["kind", "at", "word"]
theorem sc_law_caught : FnScope N_law_caught P_law_caught (defScope s_law_caught) := ⟨rfl, rfl, rfl, by decide +kernel, rfl, by decide +kernel, by decide +kernel⟩
abbrev s_law_beneath : Stmt := topS 23
abbrev N_law_beneath : List Str := ["kind", "at", "word"]
abbrev P_law_beneath : List Str := ["kind", "at", "word"]
theorem sc_law_beneath : FnScope N_law_beneath P_law_beneath (defScope s_law_beneath) := ⟨rfl, rfl, rfl, by decide +kernel, rfl, by decide +kernel, by decide +kernel⟩
abbrev slaw : Stmt := topS 24
abbrev Nlaw : List Str := ["script", "at", "word", "place", "kind"]
abbrev Plaw : List Str := ["script"]
theorem sclaw : FnScope Nlaw Plaw (defScope slaw) := ⟨rfl, rfl, rfl, by decide +kernel, rfl, by decide +kernel, by decide +kernel⟩

/-! ### own rules -/
theorem pe_powc {X : Cx} {a b c : Int} {j k : Nat} {p q pos : Pos} (hb : 0 ≤ b ∧ b ≤ 1000000 ∧ a.natAbs < 2 ^ 64) (h : a ^ b.toNat = c) : PE X (.BinOp (.Constant (.int a) j p) .Pow (.Constant (.int b) k q) pos) (tC (.int c)) :=
  ⟨fun pins s σ H Q I hq => (pe_op op_pow pe_int pe_int).run pins s σ H Q I ⟨a, b, rfl, rfl, hb, by
    show Q (.int (a ^ b.toNat)) H
    rw [h]
    exact hq⟩⟩
/-- isinstance of a flat value: told by its kind -/
def isiV : V → String → Option Bool
  | .int _, "int" => some true | .bl _, "int" => some true | .str _, "int" => some false | .non, "int" => some false
  | .int _, "bool" => some false | .bl _, "bool" => some true | .str _, "bool" => some false | .non, "bool" => some false
  | .int _, "str" => some false | .bl _, "str" => some false | .str _, "str" => some true | .non, "str" => some false
  | .int _, "tuple" => some false | .bl _, "tuple" => some false | .str _, "tuple" => some false | .non, "tuple" => some false
  | _, _ => none
theorem call_isiV {X : Cx} : CallR X (.builtin "isinstance") (fun xs H Q => ∃ x n b, xs = [x, .ty n] ∧ isiV x n = some b ∧ Q (.bl b) H) := by
  intro pins s σ H xs us Q I r h
  obtain ⟨x, n, b, rfl, e, q⟩ := h
  refine call_isi pins s σ H _ us Q I r ?_
  unfold isiV at e
  split at e
  case h_17 => cases e
  all_goals (cases e)
  all_goals first
    | exact ⟨_, _, .type "int", _, _, rfl, .ty _, .base (.int _), kit_ty (by decide +kernel), q⟩
    | exact ⟨_, _, .type "bool", _, _, rfl, .ty _, .base (.bl _), kit_ty (by decide +kernel), q⟩
    | exact ⟨_, _, .type "str", _, _, rfl, .ty _, .base (.str _), kit_ty (by decide +kernel), q⟩
    | exact ⟨_, _, .type "NoneType", _, _, rfl, .ty _, .base .non, kit_ty (by decide +kernel), q⟩
/-- how a call by keywords alone binds -/
structure KB0 (K : PySem.W.Frag) (fd : FuncData) (ps ks : List Str) (g : List Value → List Value) (gV : List V → List V) : Prop where
  to : ∀ (s : Shared) (ws : List Value), ws.length = ks.length → BindsTo s fd ⟨[], ks.zip ws⟩ (ps.zip (g ws))
  rel : ∀ {zs : List V} {ws : List Value}, Vals zs ws → Vals (gV zs) (g ws)
def tCallK0 (n : Nat) (sp : Sp) (gV : List V → List V) (E : XK) (tk : TA) : TE := fun σ H Q => tk σ H fun zs H2 => zs.length = n ∧ sp (gV zs) H2 Q E
theorem pe_callK0 {X : Cx} {CX : CXT} {k : Nat} {f : Addr} {fd : FuncData} {ps ks : List Str} {sp : Sp} {E : XK} {x : Str} {p pos : Pos} {kws : List Keyword} {tk : TA} {g : List Value → List Value} {gV : List V → List V}
    (F : FnOk X.prog X.w X.K X.mg X.base CX k f fd ps sp) (hr : Room k X.A) (hg : Gl X x) (hm : X.mg x = some (.ref f)) (hk : PySem.W.keepIn X.K (.ref f) = true) (hb : KB0 X.K fd ps ks g gV) (hx : Passes CX X E)
    (hkw : PK X kws tk) (hall : (backToKw pos (keywordEach kws X.env)).all (·.1.isSome) = true := by rfl) (hks : (backToKw pos (keywordEach kws X.env)).filterMap (·.1) = ks := by rfl)
    (hdb : (x == ("__debug__" : Str)) = false := by decide)
    (hpl : ((backTo pos (starEach [] X.env)).any (·.1) || (backToKw pos (keywordEach kws X.env)).any (·.1.isNone)) = false := by rfl) :
    PE X (.Call (.Name x p) [] kws pos) (tCallK0 ks.length sp gV E tk) := by
  refine ⟨fun pins s σ H Q I h => ?_⟩
  refine wpAny_Call_Name_kw (ld_glob I hg hm ?_ hdb)
  refine PySem.W.callWith_KW0 (h₀ := X.base) I.ok.mod.kin hk hall (thn (hkw.run pos pins s σ H _ I h) fun ws s2 ⟨zs, H2, I2, rz, l2, q2⟩ => ⟨I2.kIn, ?_⟩) hpl
  rw [hks]
  have r2 := hb.rel rz
  refine wpAny_call (codeAny_mono (F.run X.A X.stack s2 H2 ⟨[], ks.zip ws⟩ (g ws) (gV zs) Q E hr I2.env0 (hb.to s2 ws (rz.length.symm.trans l2)) r2 q2) fun r s' hq => ?_)
  cases r with
  | error e => exact hx pins σ H2 s2 e s' I2 hq
  | ok fl =>
    cases fl with
    | ret u => exact I2.after hq
    | next => exact False.elim hq
    | brk => exact False.elim hq
    | cont => exact False.elim hq
theorem atI_mem {xs : List V} {i : Int} (h0 : 0 ≤ i) (h1 : i < (xs.length : Int)) : ∃ v, v ∈ xs ∧ atI xs i = some v := by
  obtain ⟨n, rfl⟩ := Int.eq_ofNat_of_zero_le h0
  have h2 : n < xs.length := by omega
  exact ⟨xs[n], List.getElem_mem h2, atI_nat (List.getElem?_eq_getElem h2)⟩
/-- rules with conditions that are linear -/
theorem opr_imp {X : Cx} {f : Value → Value → Sem Value} {C C' : Int → Int → Prop} {g : Int → Int → V} (h : OpR X f (rI C g)) (k : ∀ i j, C' i j → C i j) : OpR X f (rI C' g) := fun pins s σ H x y v u Q I rx ry hq => by
  obtain ⟨i, j, ex, ey, hc, q⟩ := hq
  exact h pins s σ H x y v u Q I rx ry ⟨i, j, ex, ey, k i j hc, q⟩
def CB (_ j : Int) : Prop := 0 < j ∧ j < 1267650600228229401496703205376
def CMB (i j : Int) : Prop := (-1000000000000000000000000000000000000000000000000000000000000 < i ∧ i < 1000000000000000000000000000000000000000000000000000000000000) ∧ (-1000000000000000000000000000000000000000000000000000000000000 < j ∧ j < 1000000000000000000000000000000000000000000000000000000000000)
theorem abs200 {i : Int} (h : -1000000000000000000000000000000000000000000000000000000000000 < i ∧ i < 1000000000000000000000000000000000000000000000000000000000000) : i.natAbs < 2 ^ 200 := by
  have e : (2 : Nat) ^ 200 = 1606938044258990275541962092341162602522202993782792835301376 := by decide
  rw [e]
  omega
theorem abs100 {i : Int} (h : 0 < i ∧ i < 1267650600228229401496703205376) : i.natAbs < 2 ^ 100 := by
  have e : (2 : Nat) ^ 100 = 1267650600228229401496703205376 := by decide
  rw [e]
  omega
theorem op_mulB {X : Cx} : OpR X (binaryOp .Mult) (rI CMB fun i j => .int (i * j)) := opr_imp op_mulW fun i j h => wide_mul (abs200 h.1) (abs200 h.2) (by decide) (by decide) (by decide)
theorem op_fdivB {X : Cx} : OpR X (binaryOp .FloorDiv) (rI CB fun i j => .int (i / j)) := opr_imp op_fdivW fun i j h => wide_div h.1 (abs100 h) (by decide) (by decide)
theorem ediv_up {i j : Int} (h : 0 < j) (h0 : 0 ≤ i) : 0 ≤ i / j ∧ i / j ≤ i := ⟨Int.ediv_nonneg h0 (Int.le_of_lt h), Int.ediv_le_self j h0⟩
theorem ediv_dn {i j : Int} (h : 0 < j) (h0 : i < 0) : i ≤ i / j ∧ i / j < 0 := by
  refine ⟨?_, Int.ediv_neg_of_neg_of_pos h0 h⟩
  rw [Int.le_ediv_iff_mul_le h]
  have a : i * (j - 1) ≤ 0 := Int.mul_nonpos_of_nonpos_of_nonneg (Int.le_of_lt h0) (by omega)
  rw [Int.mul_sub, Int.mul_one] at a
  omega
/-- the quotient as a letter, with its bounds -/
theorem op_fdivL {X : Cx} : OpR X (binaryOp .FloorDiv) (fun x y H Q => ∃ i j, x = .int i ∧ y = .int j ∧ CB i j ∧ ∀ d, d = i / j → (0 ≤ i → 0 ≤ d ∧ d ≤ i) → (i < 0 → i ≤ d ∧ d < 0) → Q (.int d) H) := fun pins s σ H x y v u Q I rx ry hq => by
  obtain ⟨i, j, ex, ey, hc, q⟩ := hq
  exact op_fdivB pins s σ H x y v u Q I rx ry ⟨i, j, ex, ey, hc, q _ rfl (ediv_up hc.1) (ediv_dn hc.1)⟩
theorem call_divmodB {X : Cx} : CallR X (.builtin "divmod") (fun xs H Q => ∃ i j, xs = [.int i, .int j] ∧ CB i j ∧ ∀ p, H p = none → Q (.ref p) (upd H p (.tup [.int (i / j), .int (i % j)]))) := fun pins s σ H xs us Q I r hq => by
  obtain ⟨i, j, ex, hc, q⟩ := hq
  have w := wide_div (i := i) hc.1 (abs100 hc) (by decide) (by decide)
  exact call_divmodW pins s σ H xs us Q I r ⟨i, j, ex, ⟨hc.1, PyProof.noPylong_of_log2 w.2⟩, q⟩
theorem iteEqI {i j : Int} {A B : Prop} (h1 : i = j → A) (h2 : ¬ i = j → B) : if decide (V.int i = V.int j) = true then A else B := by
  by_cases h : i = j
  · rw [if_pos (decide_eq_true (congrArg V.int h))]
    exact h1 h
  · rw [if_neg (fun z => h (V.int.inj (of_decide_eq_true z)))]
    exact h2 h
theorem iteNeI {i j : Int} {A B : Prop} (h1 : ¬ i = j → A) (h2 : i = j → B) : if (!decide (V.int i = V.int j)) = true then A else B := by
  by_cases h : i = j
  · rw [decide_eq_true (congrArg V.int h)]
    exact iteF (h2 h)
  · rw [decide_eq_false (fun z => h (V.int.inj z))]
    exact iteT (h1 h)
theorem iteSS {x : Str} {A B : Prop} (h : A) : if decide (V.str x = V.str x) = true then A else B := by
  rw [if_pos (decide_eq_true rfl)]
  exact h
theorem iteIS {i : Int} {x : Str} {A B : Prop} (h : B) : if decide (V.int i = V.str x) = true then A else B := by
  rw [if_neg (fun z => V.noConfusion (of_decide_eq_true z))]
  exact h
theorem iteD {c A B : Prop} [Decidable c] (h1 : c → A) (h2 : ¬ c → B) : if decide c = true then A else B := by
  by_cases h : c
  · rw [if_pos (decide_eq_true h)]
    exact h1 h
  · rw [if_neg (fun z => h (of_decide_eq_true z))]
    exact h2 h
theorem same_upd {H : Hp} {p : Addr} {o : HO} (h : H p = none) : Same H (upd H p o) := fun b x e => by
  rw [upd_ne (ne_of_none e h)]
  exact e
theorem ix_listK {X : Cx} {K : PySem.W.Frag} (e : X.K = K) : IxR X (rIxL K) := e ▸ ix_list
theorem ix_tupK {X : Cx} {K : PySem.W.Frag} (e : X.K = K) : IxR X (rIxT K) := e ▸ ix_tup
theorem ix_seqK {X : Cx} {K : PySem.W.Frag} (e : X.K = K) : IxR X (rIx K) := e ▸ ix_seq
theorem call_len_seqK {X : Cx} {K : PySem.W.Frag} (e : X.K = K) : CallR X (.builtin "len") (fun xs H Q => ∃ p ys, xs = [.ref p] ∧ (SqL K H p ys ∨ SqT K H p ys) ∧ Q (.int ys.length) H) := e ▸ call_len_seq
/-- an item of a list, whichever -/
theorem atI_go {K : PySem.W.Frag} {p : Addr} {xs : List V} {i : Int} {H : Hp} {Q : VK} (h : SqL K H p xs) (h0 : 0 ≤ i) (h1 : i < (xs.length : Int)) (q : ∀ v, v ∈ xs → Q v H) : rIxL K (.ref p) (.int i) H Q := by
  obtain ⟨v, hv, e⟩ := atI_mem h0 h1
  exact ⟨_, _, _, v, rfl, rfl, h, e, q v hv⟩

/-- the product as a letter, with its bounds -/
theorem op_mulL {X : Cx} : OpR X (binaryOp .Mult) (fun x y H Q => ∃ i j, x = .int i ∧ y = .int j ∧ CMul i j ∧ ∀ d, d = i * j → (0 ≤ i → 0 ≤ j → 0 ≤ d) → (0 ≤ i → i ≤ 100000000000000 → 0 ≤ j → j ≤ 100000000000000 → d ≤ 10000000000000000000000000000) → Q (.int d) H) := fun pins s σ H x y v u Q I rx ry hq => by
  obtain ⟨i, j, ex, ey, hc, q⟩ := hq
  exact op_mul pins s σ H x y v u Q I rx ry ⟨i, j, ex, ey, hc, q _ rfl (fun a b => Int.mul_nonneg a b) (fun a b c d => Int.le_trans (Int.mul_le_mul b d c (by decide)) (by decide))⟩

abbrev exB : List Value := [.type "Exception", .type "BaseException", .type "object"]
/-- what the written part says of an own exception class over Exception whose __init__ is a def -/
structure OxE (K : PySem.W.Frag) (C : Addr) : Prop where
  ini : PySem.W.excInitIn K C exB "Exception.__new__" = true
  ov : PySem.W.excOver K C exB = true
  hd : PySem.W.hasDictIn K C = true
  sa : PySem.W.findIn K (.ref C) "__setattr__" = some (some (.builtin "object.__setattr__"))
  ga : PySem.W.findIn K (.ref C) "__getattribute__" = some (some (.builtin "BaseException.__getattribute__"))
  gg : PySem.W.findIn K (.ref C) "__getattr__" = some none
  exC : PySem.W.subIn K (.ref C) (.type "BaseException") = some true
  tyC : PySem.W.typeIn K (.ref C) = some (.type "type")
  kC : PySem.W.keepIn K (.ref C) = true
  ca : PySem.W.findIn K (.ref C) "__class__" = some (some (.builtin "object.__class__"))
  cn : PySem.W.specialIn K (.builtin "object.__class__") "__get__" = some (some (.builtin "getset_descriptor.__get__"))
  ct : PySem.W.takesIn K (.builtin "object.__class__") = some true
  cm : PySem.W.mroIn K C (.type "object") = some true
theorem OxE.cls {K : PySem.W.Frag} {C : Addr} (T : OxE K C) : ∃ cd, PySem.W.clsIn K C = some cd ∧ cd.hasDict = true := PySem.W.any_some T.hd
theorem OxE.xf {K : PySem.W.Frag} {C : Addr} (T : OxE K C) : XfC K C := ⟨T.ga, T.gg, T.exC, T.hd⟩
section
variable {X : Cx} {pins : List (Addr × Obj)} {σ : L2.St} {H : Hp} {s : Shared} {a C dx : Addr} {f : Str} {y : V} {u : Value} {fs : List (Str × V)} {Q : Unit → Shared → Prop} {E : Value → Shared → Prop} {A : Around}
/-- the first field -/
theorem est_new (T : OxE X.K C) (ht : PySem.W.takerIn X.K C f = some none) (I : Inv X pins σ H s) (e : H a = some (exo a C none)) (ry : RelV y u)
    (h : ∀ dx s', H dx = none → dx ≠ a → Inv X pins σ (upd (upd H dx (exd dx [(f, y)])) a (exo a C (some dx))) s' → Q () s') : wpAny (model X.prog X.w) A (setAttr (.ref a) f u) Q E s := by
  obtain ⟨cd, hcd, hdict⟩ := T.cls
  obtain ⟨t1, ho⟩ := exo_at I.hok e
  obtain ⟨hp, g, d, t, os⟩ := s
  have J0 : PySem.W.InstAt hp a { cls := .ref C, dict := none, data := .fields #[.ref t1, .none, .none, .none, .bool false, .none] } C none := ⟨ho, rfl, rfl, trivial⟩
  refine PySem.W.set_plain I.kIn J0 T.sa ?_
  refine PySem.W.osa_openX PySem.F.store_Exception I.kIn J0 T.ov ht fun b => ?_
  have hcls : PySem.W.Looks (model X.prog X.w) hp (classData C) cd := PySem.W.looks_clsIn I.kIn hcd
  show wpAny _ _ (Builtin.ObjectAttr.storeInOwnDict (.ref a) (.ref C) (.str f t) f u b) _ _ _
  have hah : a ≠ hp.objs.size := Nat.ne_of_lt (Heap.lt_size ho)
  obtain ⟨nm, bs, mro, ns, qn, hd, sn, sb, ab, col, del⟩ := cd
  dsimp only at hdict
  subst hdict
  unfold Builtin.ObjectAttr.storeInOwnDict Builtin.ObjectAttr.ownDictForStores
  repeat (first | with_reducible refine PySem.HandSPX.store_in_new ?_ ?_ | with_reducible refine wpAny_loadPart_at ho ?_ | with_reducible refine hcls.at ?_ | wp_step)
  · exact ⟨_, #[], _, (Heap.get?_update_ne _ _ _ _ hah.symm).trans (Heap.get?_push_at rfl rfl), rfl, fun e he => absurd he (by simp), fun _ => rfl⟩
  · intro h' tk' hn hs
    have hnd : H hp.objs.size = none := I.hok.fresh (Nat.le_refl _)
    have hx1 : h'.get? a = some ({ cls := .ref C, dict := some hp.objs.size, data := .fields #[.ref t1, .none, .none, .none, .bool false, .none] } : Obj) :=
      (hs.2 a hah).trans (Heap.get?_update_self _ (Heap.get?_push_of_some _ ho) rfl)
    have k : ∀ b o, b ≠ a → hp.get? b = some o → h'.get? b = some o := fun b o hb q =>
      (hs.2 b (Nat.ne_of_lt (Heap.lt_size q))).trans ((Heap.get?_update_ne _ _ _ _ hb).trans (Heap.get?_push_of_some _ q))
    have na : hp.objs.size ≠ a := hah.symm
    -- first the dict, the exception as it was; then the exception
    have g0 : (h'.update a fun _ => ({ cls := .ref C, dict := none, data := .fields #[.ref t1, .none, .none, .none, .bool false, .none] } : Obj)).get? a = some ({ cls := .ref C, dict := none, data := .fields #[.ref t1, .none, .none, .none, .bool false, .none] } : Obj) := Heap.get?_update_self _ hx1 rfl
    have g1 : ∀ b, b ≠ a → (h'.update a fun _ => ({ cls := .ref C, dict := none, data := .fields #[.ref t1, .none, .none, .none, .bool false, .none] } : Obj)).get? b = h'.get? b := fun b hb => Heap.get?_update_ne _ _ _ _ hb
    generalize (h'.update a fun _ => ({ cls := .ref C, dict := none, data := .fields #[.ref t1, .none, .none, .none, .bool false, .none] } : Obj)) = h1 at g0 g1
    have I1 := I.laid (t' := tk') (a := hp.objs.size) (o := exd hp.objs.size [(f, y)]) (h' := h1) (fun b o q => by
      by_cases hb : b = a
      · subst hb
        rw [g0]
        exact ho.symm.trans q
      · rw [g1 b hb]
        exact k b o hb q) (Nat.le_refl _) (exd_ok (hn.at fun o q => (g1 _ na).trans q) (relO_put (fs := []) ry fun g => True.intro))
    have I2 := I1.write (t' := tk') (x := a) (e := a) (o := exo a C (some hp.objs.size)) (h' := h') (by rw [upd_ne na.symm, e]; exact True.intro) (.inl rfl) (fun b o hb q => (g1 b hb).symm.trans q) ⟨_, hx1⟩ (exo_ok hx1)
    exact h _ _ hnd na I2
/-- a further field -/
theorem est_old (T : OxE X.K C) (ht : PySem.W.takerIn X.K C f = some none) (I : Inv X pins σ H s) (e : H a = some (exo a C (some dx))) (ed : H dx = some (exd dx fs)) (hl : fs.length ≤ 900) (ry : RelV y u)
    (h : ∀ s', Inv X pins σ (upd H dx (exd dx ((f, y) :: fs))) s' → Q () s') : wpAny (model X.prog X.w) A (setAttr (.ref a) f u) Q E s := by
  obtain ⟨cd, hcd, hdict⟩ := T.cls
  obtain ⟨t1, ho⟩ := exo_at I.hok e
  obtain ⟨mA, hns, rel⟩ := exd_at I.hok ed
  have hw := within_of rel
  obtain ⟨hp, g, d, t, os⟩ := s
  obtain ⟨oD, _, _, hoD, _, _⟩ := hns.count hw
  have J0 : PySem.W.InstAt hp a { cls := .ref C, dict := some dx, data := .fields #[.ref t1, .none, .none, .none, .bool false, .none] } C (some oD) := ⟨ho, rfl, rfl, hoD⟩
  refine PySem.W.set_plain I.kIn J0 T.sa ?_
  refine PySem.W.osa_openX PySem.F.store_Exception I.kIn J0 T.ov ht fun b => ?_
  have hcls : PySem.W.Looks (model X.prog X.w) hp (classData C) cd := PySem.W.looks_clsIn I.kIn hcd
  show wpAny _ _ (Builtin.ObjectAttr.storeInOwnDict (.ref a) (.ref C) (.str f t) f u b) _ _ _
  obtain ⟨nm, bs, mro, ns, qn, hd, sn, sb, ab, col, del⟩ := cd
  dsimp only at hdict
  subst hdict
  unfold Builtin.ObjectAttr.storeInOwnDict Builtin.ObjectAttr.ownDictForStores
  repeat (first | with_reducible refine PySem.OEX.store_in_old hns hw (by rw [List.length_map]; omega) ?_ | with_reducible refine wpAny_loadPart_at ho ?_ | with_reducible refine hcls.at ?_ | wp_step)
  intro h' tk' hn hs
  have k : ∀ b o, b ≠ dx → hp.get? b = some o → h'.get? b = some o := fun b o hb q => (hs.2 b hb).trans q
  have hd : ∃ o, h'.get? dx = some o := by
    obtain ⟨o, _, _, e', _⟩ := hn
    exact ⟨o, e'⟩
  exact h _ (I.write (t' := tk') (x := dx) (e := dx) (o := exd dx ((f, y) :: fs)) (h' := h') (by rw [ed]; exact True.intro) (.inl rfl) k hd (exd_ok hn (relO_put ry rel)))
end
/-- self.f = e, self an exception that is being made -/
def tEst (K : PySem.W.Frag) (f : Str) (to te : TE) : TS := fun D σ H => te σ H fun y H1 => to σ H1 fun x H2 => ∃ a C : Addr, x = .ref a ∧ OxE K C ∧ PySem.W.takerIn K C f = some none ∧
  ((H2 a = some (exo a C none) ∧ ∀ dx, H2 dx = none → dx ≠ a → D.nx σ (upd (upd H2 dx (exd dx [(f, y)])) a (exo a C (some dx)))) ∨
    ∃ (dx : Addr) (fs : List (Str × V)), H2 a = some (exo a C (some dx)) ∧ H2 dx = some (exd dx fs) ∧ fs.length ≤ 900 ∧ D.nx σ (upd H2 dx (exd dx ((f, y) :: fs))))
theorem ps_est {X : Cx} {o e : Expr} {to te : TE} {f : Str} {p' pos : Pos} (ho : PE X o to) (he : PE X e te) (hs : swapsWith e (some (.Attribute o f p')) pos.line X.env = pure false := by rfl) : PS X (.Assign [.Attribute o f p'] e pos) (tEst X.K f to te) := by
  refine ⟨fun pins s σ H D I h => ?_⟩
  refine plainObj_wpAny_Assign_Attribute (thn (he.run pins s σ H _ I h) fun v s1 ⟨y, H1, I1, r1, q1⟩ => thn (ho.run pins s1 σ H1 _ I1 q1) fun u s2 ⟨x, H2, I2, r2, a, C, ex, T, ht, q⟩ => ?_) hs
  subst ex
  obtain rfl : u = Value.ref a := r2
  rcases q with ⟨ea, q⟩ | ⟨dx, fs, ea, ed, hl, q⟩
  · exact est_new T ht I2 ea r1 fun dx s' n ne J => ⟨σ, _, J, q dx n ne⟩
  · exact est_old T ht I2 ea ed hl r1 fun s' J => ⟨σ, _, J, q⟩
/-- what __init__(self, y..) does: the fields ns stand in the exception's own new dict, all else as it was -/
def spI (K : PySem.W.Frag) (ns : List Str) : Sp := fun vs H Q _ => ∃ (a C : Addr) (ys : List V), vs = .ref a :: ys ∧ ys.length = ns.length ∧ OxE K C ∧ (∀ f ∈ ns, PySem.W.takerIn K C f = some none) ∧ H a = some (exo a C none) ∧
  ∀ (dx : Addr) (H' : Hp), dx ≠ a → H dx = none → H' a = some (exo a C (some dx)) → H' dx = some (exd dx (ns.zip ys).reverse) → (∀ b, b ≠ a → b ≠ dx → H' b = H b) → Q .non H'
/-- C(e, ..): a new exception object, its fields in its own dict -/
def tMkF (C : Addr) (ns : List Str) (ta : TA) : TE := fun σ H Q => ta σ H fun vs H1 => vs.length = ns.length ∧ ∀ (a d : Addr) (H2 : Hp), H1 a = none → H1 d = none → Same H1 H2 → H2 a = some (exo a C (some d)) → H2 d = some (exd d (ns.zip vs).reverse) → Q (.ref a) H2
theorem pe_mkF {X : Cx} {CX : CXT} {x : Str} {C fI : Addr} {k : Nat} {fd : FuncData} {ps ns : List Str} {e : Expr} {es : List Expr} {ta : TA} {p pos : Pos} (T : OxE X.K C) (tk : ∀ f ∈ ns, PySem.W.takerIn X.K C f = some none) (hns : ns.length ≤ 100) (iC : PySem.W.findIn X.K (.ref C) "__init__" = some (some (.ref fI))) (tI : PySem.W.typeIn X.K (.ref fI) = some (.type "function"))
    (F1 : FnOk X.prog X.w X.K X.mg X.base CX k fI fd ps (spI X.K ns)) (hr : Room (k + 1) X.A) (hb : Binds X.K fd ps []) (hx : Passes CX X (fun _ _ _ => False)) (hg : Gl X x) (hm : X.mg x = some (.ref C)) (ha : PA X (e :: es) ta)
    (hdb : (x == ("__debug__" : Str)) = false := by decide) (he : starEach (e :: es) X.env = (false, eval e X.env) :: starEach es X.env := by rfl) (hpl : (backTo pos (starEach es X.env)).any (·.1) = false := by rfl) :
    PE X (.Call (.Name x p) (e :: es) [] pos) (tMkF C ns ta) := by
  refine ⟨fun pins s σ H Q I h => ?_⟩
  refine wpAny_Call_Name_kw (ld_glob I hg hm ?_ hdb)
  refine PySem.W.callWith_K (h₀ := X.base) I.ok.mod.kin T.kC (thn (ha.run pos pins s σ H _ I h) fun us s1 ⟨vs, H1, I1, r1, hz, q1⟩ => ⟨I1.kIn, ?_⟩) he hpl
  show wpAny _ _ (call (.ref C) us) _ _ _
  obtain ⟨hp, g, dr, tkn, os⟩ := s1
  have hsz : hp.objs.size ≤ hp.objs.size + 1 := Nat.le_succ _
  have hn : H1 (hp.objs.size + 1) = none := I1.hok.fresh hsz
  have kk : ∀ b o, hp.get? b = some o → ((hp.push (PySem.W.kdv_tup us)).push (PySem.HandSPX.excO C hp.objs.size)).get? b = some o := fun b o e => Heap.get?_push_of_some _ (Heap.get?_push_of_some _ e)
  have hget : ((hp.push (PySem.W.kdv_tup us)).push (PySem.HandSPX.excO C hp.objs.size)).get? (hp.objs.size + 1) = some (PySem.HandSPX.excO C hp.objs.size) := by heap_get
  have I2 : Inv X pins σ (upd H1 (hp.objs.size + 1) (exo (hp.objs.size + 1) C none)) ⟨(hp.push (PySem.W.kdv_tup us)).push (PySem.HandSPX.excO C hp.objs.size), g, dr, tkn, os⟩ :=
    I1.laid (t' := tkn) (a := hp.objs.size + 1) (o := exo (hp.objs.size + 1) C none) (h' := (hp.push (PySem.W.kdv_tup us)).push (PySem.HandSPX.excO C hp.objs.size)) kk hsz (exo_ok hget)
  have hq : spI X.K ns (.ref (hp.objs.size + 1) :: vs) (upd H1 (hp.objs.size + 1) (exo (hp.objs.size + 1) C none)) (fun v H2 => v = .non ∧ Q (.ref (hp.objs.size + 1)) H2) (fun _ _ _ => False) := by
    refine ⟨hp.objs.size + 1, C, vs, rfl, hz, T, tk, upd_same, fun dx H' nd hd ea ed hk => ⟨rfl, ?_⟩⟩
    rw [upd_ne nd] at hd
    exact q1 _ dx H' hn hd (fun b x hb => by rw [hk b (ne_of_none hb hn) (ne_of_none hb hd), upd_ne (ne_of_none hb hn)]; exact hb) ea ed
  have r2 : Vals (V.ref (hp.objs.size + 1) :: vs) (Value.ref (hp.objs.size + 1) :: us) := .cons rfl r1
  have hl : (Value.ref (hp.objs.size + 1) :: us).length = ps.length := by
    have e := r2.length
    rw [F1.len _ _ _ _ hq] at e
    exact e.symm
  have hus : us.length ≤ sizeLine := by
    rw [← Paired.length r1, sizeLine_eq]
    omega
  obtain ⟨nm, N, qn, bs, bm, hdct, sn, sub, ab, col, dd, k0, k1, k2, k3, k5, hC, hT⟩ := PySem.W.excInit_of I1.kIn T.ini
  have hbd := hb ⟨(hp.push (PySem.W.kdv_tup us)).push (PySem.HandSPX.excO C hp.objs.size), g, dr, tkn, os⟩ (Value.ref (hp.objs.size + 1) :: us) I2.kIn (by rw [List.append_nil]; exact hl)
  rw [List.append_nil] at hbd
  refine wpAny_call (PySem.HandSPX.call_own F.excBase_Exception hT hC (PySem.W.looks_findIn I1.kIn iC) (fun self => PySem.W.bind_fn I1.kIn self tI) hus
    (codeAny_mono (F1.run _ X.stack _ _ ⟨Value.ref (hp.objs.size + 1) :: us, []⟩ (Value.ref (hp.objs.size + 1) :: us) _ _ (fun _ _ _ => False) (hr.make C us []) (I2.env0.make C us []) hbd r2 hq) fun r s' hq' => ?_))
  cases r with
  | error er => exact hx pins σ _ _ er s' I2 hq'
  | ok fl =>
    cases fl with
    | ret u =>
      obtain ⟨v, H2, os2, bare2, un2, hok2, rv, ev, q2⟩ := hq'
      subst ev
      obtain ⟨h2, g2, d2, t2, os'⟩ := s'
      exact ⟨rv, .ref (hp.objs.size + 1), H2, I2.call' (ch := []) os2 un2 hok2 bare2 (fun b z => absurd z (by simp)), rfl, q2⟩
    | next => exact False.elim hq'
    | brk => exact False.elim hq'
    | cont => exact False.elim hq'
/-- made.f, made an exception that is held -/
def tEat (K : PySem.W.Frag) (f : Str) (te : TE) : TE := fun σ H Q => te σ H fun x H1 => ∃ (a C d : Addr) (fs : List (Str × V)) (v : V), x = .ref a ∧ OxE K C ∧ PySem.W.findIn K (.ref C) f = some none ∧ H1 a = some (exo a C (some d)) ∧ H1 d = some (exd d fs) ∧ fs.lookup f = some v ∧ Q v H1
theorem pe_eat {X : Cx} {e : Expr} {te : TE} {pos : Pos} {f : Str} (he : PE X e te) (hb : attributeBase e f X.env (eval e X.env) = eval e X.env := by rfl) : PE X (.Attribute e f pos) (tEat X.K f te) := by
  refine ⟨fun pins s σ H Q I h => ?_⟩
  refine attr_of hb (thn (he.run pins s σ H _ I h) fun u s1 hh => ?_)
  obtain ⟨x, H1, I1, rx, a, C, d, fs, v, ex, T, hno, ea, ed, l, q⟩ := hh
  subst ex
  obtain rfl : u = Value.ref a := rx
  obtain ⟨t1, ho⟩ := exo_at I1.hok ea
  obtain ⟨mA, hns, hr⟩ := exd_at I1.hok ed
  obtain ⟨od, hod, hl⟩ := lookIn_ns hns
  obtain ⟨u, hu, ru⟩ := RelO.some_of (v := v) (o := mA f) (by rw [← l]; exact hr f)
  have J : PySem.W.InstAt s1.heap a _ C (some od) := ⟨ho, rfl, rfl, hod⟩
  exact PySem.HandSPX.exc_get I1.kIn J T.ga T.gg T.exC (PySem.W.findObj_own T.hd hno rfl (by rw [hl, hu])) (handed_of ru) ⟨v, H1, I1.tok _, ru, q⟩
/-- isinstance(made, c), made an exception that is held -/
def rIsH (K : PySem.W.Frag) : List V → Hp → VK → Prop := fun xs H Q => ∃ (a C d : Addr) (fs : List (Str × V)) (c : V) (cv : Value) (b : Bool), xs = [.ref a, c] ∧ OxE K C ∧ H a = some (exo a C (some d)) ∧ H d = some (exd d fs) ∧ (∀ u, RelV c u → u = cv) ∧ PySem.W.kitOne K (.ref C) cv = some b ∧ Q (.bl b) H
theorem call_isH {X : Cx} {K : PySem.W.Frag} (ek : X.K = K) : CallR X (.builtin "isinstance") (rIsH K) := by
  subst ek
  intro pins s σ H xs us Q I r h
  obtain ⟨a, C, d, fs, c, cv, b, rfl, T, ea, ed, hcv, e, q⟩ := h
  cases r with
  | cons rx rr =>
    cases rr with
    | cons rt rr =>
      cases rr
      cases rx
      have ec := hcv _ rt
      subst ec
      obtain ⟨t1, ho⟩ := exo_at I.hok ea
      obtain ⟨mA, hns, hr⟩ := exd_at I.hok ed
      obtain ⟨od, hod, hl⟩ := lookIn_ns hns
      have J : PySem.W.InstAt s.heap a _ C (some od) := ⟨ho, rfl, rfl, hod⟩
      obtain ⟨cd, hcd, _⟩ := T.cls
      exact PySem.W.kia_one (PySem.W.kitx_exc (by rw [hcd]; rfl) T.ga T.gg T.exC T.ca T.cn T.ct T.cm) I.kIn J e (fun z => nomatch z) fun tk => ⟨.bl b, H, I.kept (t' := tk) fun _ _ z => z, rfl, q⟩
/-- what gives a new exception object back makes one to be raised -/
theorem pmk_val {X : Cx} {e : Expr} {te : TE} (hx : X.ex = []) (he : PE X e te) :
    L2N.PMk X e (fun σ H Q => te σ H fun x H1 => ∃ (a C d : Addr) (fs : List (Str × V)), x = .ref a ∧ OxE X.K C ∧ H1 a = some (exo a C (some d)) ∧ H1 d = some (exd d fs) ∧ Fr0 X.H_0 a ∧ Q (.ref C) (some d) (upd (delH H1 a) d (.xd fs))) := by
  intro pins s σ H Q I h
  refine wpAny_mono (he.run pins s σ H _ I h) (fun u s1 hu => ?_) fun _ _ x => x
  obtain ⟨v, H1, I1, r1, a, C, d, fs, rfl, T, ea, ed, h0, q⟩ := hu
  cases r1
  obtain ⟨t1, ho⟩ := exo_at I1.hok ea
  obtain ⟨mA, hns, rel⟩ := exd_at I1.hok ed
  have hda : d ≠ a := fun z => by
    obtain ⟨o, es, ep, e1, e2, _⟩ := hns
    rw [z, ho] at e1
    have z2 := Option.some.inj e1
    subst z2
    cases e2
  obtain ⟨G, gs, ga, J⟩ := I1.untrack ea h0 hx
  have ed2 : delH H1 a d = some (exd d fs) := by rw [delH_ne hda]; exact ed
  obtain ⟨mB, hns2, rel2⟩ := exd_at J.hok ed2
  have hd : ∃ o, G.get? d = some o := by
    obtain ⟨o, _, _, e', _⟩ := hns2
    exact ⟨o, e'⟩
  have J2 : Inv X pins σ (upd (delH H1 a) d (.xd fs)) { s1 with heap := G } := J.write (t' := s1.toks) (x := d) (e := d) (o := .xd fs) (h' := G) (by rw [ed2]; exact True.intro) (.inl rfl) (fun b o _ z => z) hd ⟨mB, hns2, rel2⟩
  exact ⟨a, _, _, { s1 with heap := G }, _, .ref C, some d, rfl, J2, gs, ga, ho, ⟨rfl, rfl, fun vs e => by cases e; rfl⟩, rfl, rfl, by rw [upd_ne (Ne.symm hda), delH_same], rfl, I1.bare, raises_own T.exC T.tyC, q⟩
theorem fr0_of {H0 H1 : Hp} {a : Addr} (s : Same H0 H1) (h : H1 a = none) : Fr0 H0 a := fun o e => by
  have := s _ _ e
  rw [h] at this
  cases this
theorem same_raised {H1 H2 : Hp} {a d : Addr} {fs : List (Str × V)} (s : Same H1 H2) (na : H1 a = none) (nd : H1 d = none) : Same H1 (upd (delH H2 a) d (.xd fs)) := fun b x e => by
  rw [upd_ne (ne_of_none e nd), delH_ne (ne_of_none e na)]
  exact s _ _ e
/-- what the clauses 'except c as n' wish of an exception of the body, one after the other: slot i is n's -/
def wAsM (K : PySem.W.Frag) (Wout : WX) (D : Ends) : List (Value × Nat × (Addr → Value → Option Addr → TS)) → WX
  | [] => Wout
  | (c, i, ts) :: r => fun cls d σ H => ∃ b, PySem.W.exmOne K cls c = some b ∧
    (b = true → ∀ a, H a = none → ts a cls d { nx := fun σ' H' => D.nx (σ'.set i none) H', rt := D.rt, bk := fun σ' H' => D.bk (σ'.set i none) H', ct := fun σ' H' => D.ct (σ'.set i none) H' } (σ.set i (some (.ref a))) H) ∧
    (b = false → wAsM K Wout D r cls d σ H)
inductive HdsAs (X : Cx) : List ExceptHandler → List (Value × Nat × (Addr → Value → Option Addr → TS)) → Prop
  | nil : HdsAs X [] []
  | cons {x n : Str} {c : Value} {i : Nat} {ts : Addr → Value → Option Addr → TS} {b₀ : Stmt} {suite : List Stmt} {np pos' : Pos} {hds : List ExceptHandler} {l : List (Value × Nat × (Addr → Value → Option Addr → TS))} (hi : X.N[i]? = some n) (hln : X.env.kindOf n = some .local) (hc : Names X x c)
      (hsu : ∀ (a : Addr) (oe : Obj) (cls : Value) (d : Option Addr) (pn : List (Addr × Obj)), L2N.Zn cls d oe → (∃ vs, oe.data = .fields vs) → PSs (X.suite a ((a, oe) :: pn)) (b₀ :: suite) (ts a cls d)) (r : HdsAs X hds l) :
      HdsAs X (.ExceptHandler (some (.Name x np)) (some n) (b₀ :: suite) pos' :: hds) ((c, i, ts) :: l)
/-- try: .. except C as e: .. except D as e: .. -/
theorem ps_try_asM {X : Cx} {body : List Stmt} {h₀ : ExceptHandler} {hds : List ExceptHandler} {l : List (Value × Nat × (Addr → Value → Option Addr → TS))} {pos : Pos} {tb : WX → TS} {Wout : WX} (hs : X.stack = X.env :: X.outer) (hf : X.env.frame = some X.env.locals) (hN : X.N.Nodup) (tk : L2N.Takes X Wout)
    (hb : ∀ (W : WX) (pn : List (Addr × Obj)) (xe : Value → Shared → Prop), L2N.Takes (X.tr pn xe) W → PassesOwn (model X.prog X.w) X.A X.env xe → PSs (X.tr pn xe) body (tb W))
    (hh : HdsAs X (h₀ :: hds) l) : PS X (.Try body (h₀ :: hds) [] [] pos) (fun D σ H => tb (wAsM X.K Wout D l) D σ H) := by
  refine ⟨fun pins s σ H D I h => ?_⟩
  have ok := I.ok
  have hfr : X.A.frames = some (X.env :: X.outer) := by rw [ok.frames, hs]
  refine wpAny_Try_except ?_
  refine wpAny_mono ((hb (wAsM X.K Wout D l) (X.pn ++ pins) (fun e s₁ => wpAny (model X.prog X.w) X.A (noteFrame e X.env) (fun _ s₂ => wpAny (model X.prog X.w) X.A (setFlight e none) (fun _ s₃ =>
    wpAny (model X.prog X.w) X.A (handleBy e X.env (h₀ :: hds)) (SP X pins D) X.xe s₃) X.xe s₂) X.xe s₁) (fun u s' xx => ?_) PassesOwn.looking).run [] s σ H D (I.toTry _) h) (fun f s1 hsp => ?_) (fun e s1 he => he)
  · -- caught: the frame noted, then clause by clause
    obtain ⟨a, B, sI, pins', σ', H', cls, d, rfl, J', nb, up, sky, na, os, ag, w⟩ := xx
    have J : Inv X pins σ' H' sI := J'.ofTry ok
    show wpAny _ X.A (noteFrame (.ref a) X.env) _ _ _
    refine L2N.Sky.land L2N.Zn.steady hfr hf (by rw [← hs]; exact sky) fun h3 fl3 up3 => ?_
    have J3 : Inv X pins σ' H' { s' with heap := h3 } := J.landed nb fl3.1 (up.trans up3) os ag
    obtain ⟨oe3, vs3, he3, hz3, hd3⟩ := fl3.there
    have nfr : a ∉ frs (X.env :: X.outer) := fun hm => by
      obtain ⟨_, o', e', hnf⟩ := fl3.2.2.1.mem hm
      rw [he3] at e'
      cases e'
      exact hnf _ hd3
    have nL : a ≠ X.env.locals := fun z => nfr (List.mem_filterMap.mpr ⟨X.env, List.mem_cons_self, by rw [hf, z]⟩)
    have nF : a ∉ X.fs := fun hm => by
      obtain ⟨e, he, q⟩ := List.mem_filterMap.mp hm
      exact nfr (List.mem_filterMap.mpr ⟨e, List.mem_cons_of_mem _ he, q⟩)
    have S3 := J3.suite he3 hd3 na nL nF
    have LT : PySem.W.Looks (model X.prog X.w) h3 (typeOf (.ref a)) cls := fun A Q E s k q => wpAny_typeOf_ref (k _ _ he3) (by rw [hz3.1]; exact q)
    have go : ∀ {hds' : List ExceptHandler} {l' : List (Value × Nat × (Addr → Value → Option Addr → TS))}, HdsAs X hds' l' → wAsM X.K Wout D l' cls d σ' H' →
        wpAny (model X.prog X.w) X.A (handleBy (.ref a) X.env hds') (SP X pins D) X.xe { s' with heap := h3 } := by
      intro hds' l' hk
      induction hk with
      | nil =>
        -- no clause: it goes on
        intro w
        refine wpAny_handleBy_nil ?_
        obtain ⟨k1, k2, k3, oe, vs, T, oT, ts', he, hz, hd, h1, hr⟩ := id fl3
        unfold PySem.passOn
        refine wpAny_bind (wpAny_field he hd h1 ?_)
        rw [if_neg (show ¬ ((Value.ref T == Value.none) = true) from by simp)]
        have fin : wpAny (model X.prog X.w) X.A (setFlight (.ref a) X.env.frame) (fun _ s4 => wpAny (model X.prog X.w) X.A (throw (.ref a) : Sem Flow) (SP X pins D) X.xe s4) X.xe { s' with heap := h3 } := by
          rw [hf]
          exact HandSPX.setFlight_upZ fl3 fun h4 hh4 up4 => wpAny_throw (tk _ _ ⟨a, B, sI, pins, σ', H', cls, d, rfl, J, nb, (up.trans up3).trans up4, .inr (.inr (by rw [hs]; exact hh4)), na, os, ag, w⟩)
        first
          | exact wpAny_bind (wpAny_pure (wpAny_bind fin))
          | exact wpAny_bind fin
      | @cons x n c i ts b₀ suite np pos' hds2 l2 hi hln hc hsu r ih =>
        intro w
        obtain ⟨b, hb1, hyes, hno⟩ := w
        refine wpAny_handleBy_cons (codeAny_handlers_test ?_) (by intro q; cases q)
        have LM := PySem.W.exm_one (M := model X.prog X.w) (J3.kIn) LT hb1
        have test : ∀ {Q : Value → Shared → Prop} {E : Value → Shared → Prop}, Q c { s' with heap := h3 } → wpAny (model X.prog X.w) (X.A.mark (some (.ref a))) (eval (.Name x np) X.env) Q E { s' with heap := h3 } := fun {Q E} q => by
          obtain ⟨hg, hdbg, hm | ⟨hm, hv, hnn⟩⟩ := hc
          · exact ld_glob (X := X.suite a ((a, oe3) :: (X.pn ++ pins))) S3 hg hm q hdbg
          · exact ld_blt (X := X.suite a ((a, oe3) :: (X.pn ++ pins))) S3 hg hm hv q hnn hdbg
        refine test (LM.here ?_)
        cases b with
        | false =>
          show wpAny _ X.A (handleBy (.ref a) X.env hds2) _ _ _
          exact ih (hno rfl)
        | true =>
          refine codeAny_handlers_suite_as ?_
          refine HandSPX.lands_againZ fl3 fun h4 fl4 up4 => ?_
          have J4 : Inv X pins σ' H' { s' with heap := h4 } := J.landed nb fl4.1 ((up.trans up3).trans up4) os ag
          obtain ⟨oe4, vs4, he4, hz4, hd4⟩ := fl4.there
          have S4 := J4.suite he4 hd4 na nL nF
          refine store_ok (X := X.suite a ((a, oe4) :: (X.pn ++ pins))) (v := .ref a) S4 hN hi (.inl hln) rfl (fun s5 S5 => ?_) (.inr hln)
          refine wpAny_mono ((hsu a oe4 cls d (X.pn ++ pins) hz4 ⟨_, hd4⟩).run [] s5 _ H' _ S5 (hyes rfl a na)) (fun f s6 hsp => ?_) (fun _ _ z => False.elim z)
          cases f with
          | next =>
            obtain ⟨σ6, H6, S6, q6⟩ := hsp
            exact gone_ok (S6.unsuite ok) hN hi hln fun s7 J7 => ⟨_, _, J7, q6⟩
          | brk =>
            obtain ⟨σ6, H6, S6, q6⟩ := hsp
            exact gone_ok (S6.unsuite ok) hN hi hln fun s7 J7 => ⟨_, _, J7, q6⟩
          | cont =>
            obtain ⟨σ6, H6, S6, q6⟩ := hsp
            exact gone_ok (S6.unsuite ok) hN hi hln fun s7 J7 => ⟨_, _, J7, q6⟩
          | ret u =>
            obtain ⟨v6, σ6, H6, S6, r6, q6⟩ := hsp
            exact gone_ok (S6.unsuite ok) hN hi hln fun s7 J7 => ⟨_, _, _, J7, r6, q6⟩
    exact go hh w
  · -- the body went through
    cases f with
    | next =>
      obtain ⟨σ', H', J', q⟩ := hsp
      exact wpAny_execs_nil ⟨σ', H', J'.ofTry ok, q⟩
    | brk =>
      obtain ⟨σ', H', J', q⟩ := hsp
      exact ⟨σ', H', J'.ofTry ok, q⟩
    | cont =>
      obtain ⟨σ', H', J', q⟩ := hsp
      exact ⟨σ', H', J'.ofTry ok, q⟩
    | ret u =>
      obtain ⟨v, σ', H', J', r, q⟩ := hsp
      exact ⟨v, σ', H', J'.ofTry ok, r, q⟩

theorem takes0N {X : Cx} : L2N.Takes X (fun _ _ _ _ => False) := fun _ _ ⟨_, _, _, _, _, _, _, _, _, _, _, _, _, _, _, _, w⟩ => w.elim
theorem passAtN {X : Cx} {W : WX} (tk : L2N.Takes X W) (σ : L2.St) : PassesAt (L2N.CX X.prog X.w) X σ (WE W σ) := fun _ _ _ e s' I c => tk e s' (L2N.XE.of_call I (fun _ _ _ h => h) c)
/-- a def that may let an exception out -/
theorem okXN {P : Program} {w : World} {K : PySem.W.Frag} {mg : Str → Option Value} {base : Heap} {x qual : Str} {st : Stmt} {f : Addr} {fd : FuncData} {N ps : List Str} {k : Nat} {sp : Sp} (F : Fun K x qual st f fd) (S : FnScope N ps (defScope st)) (len : ∀ vs H Q E, sp vs H Q E → vs.length = ps.length)
    (hbody : ∀ (cdv : Value) (A : Around) (outer : List Env) (s : Shared) (H : Hp) (vs : List V) (Q : VK) (E : XK), Room k (A.deeper (envOfC qual (defScope st) s.heap.objs.size f cdv)) → sp vs H Q E →
      ∃ t, PSs (cxOf (L2N.CX P w) P w K mg base N qual (defScope st) f cdv A outer s H E) (defBody st) t ∧ t { nx := fun _ H' => Q .non H', rt := Q } (start N vs) H) : FnOk P w K mg base (L2N.CX P w) (k + 1) f fd ps sp := by
  obtain ⟨oc, od, kV, doc, pm, an, cdv, ct, osl, rfl, lk, hcd⟩ := F.ex
  exact fn_of lk hcd S len fun A outer s H vs Q E hr hsp => hbody cdv A outer s H vs Q E hr hsp
/-- a def that is called while an exception is handled -/
theorem okHot {P : Program} {w : World} {K : PySem.W.Frag} {mg : Str → Option Value} {base : Heap} {x qual : Str} {st : Stmt} {f : Addr} {fd : FuncData} {N ps : List Str} {k : Nat} {sp : Sp} (F : Fun K x qual st f fd) (S : FnScope N ps (defScope st)) (len : ∀ vs H Q E, sp vs H Q E → vs.length = ps.length)
    (hbody : ∀ (cdv : Value) (A : Around) (outer : List Env) (s : Shared) (H : Hp) (vs : List V) (Q : VK) (E : XK) (p : Addr × Obj), L2H.Hot1 A p → L2H.RoomH k (A.deeper (envOfC qual (defScope st) s.heap.objs.size f cdv)) → sp vs H Q E →
      ∃ t, PSs (L2H.cxH CX0 P w K mg base N qual (defScope st) f cdv A outer s H E p) (defBody st) t ∧ t { nx := fun _ H' => Q .non H', rt := Q } (start N vs) H) : L2H.FnH P w K mg base CX0 (k + 1) f fd ps sp := by
  obtain ⟨oc, od, kV, doc, pm, an, cdv, ct, osl, rfl, lk, hcd⟩ := F.ex
  exact L2H.fn_ofH lk hcd S len fun A outer s H vs Q E p hot hr hsp => hbody cdv A outer s H vs Q E p hot hr hsp
theorem hotC_suite {X : Cx} {a : Addr} {oe : Obj} {cls : Value} {d : Option Addr} {pn : List (Addr × Obj)} (hz : L2N.Zn cls d oe) (hf : ∃ vs, oe.data = .fields vs) : L2H.HotC (X.suite a ((a, oe) :: pn)) := by
  obtain ⟨vs, e⟩ := hf
  exact ⟨(a, oe), ⟨rfl, vs, e, hz.2.2 vs e⟩, List.mem_cons_self⟩
theorem room_suite {X : Cx} {a : Addr} {pn : List (Addr × Obj)} {k j : Nat} (hr : Room k X.A) (h : j ≤ k) : L2H.RoomH j (X.suite a pn).A := ⟨(hr.mono h).dp, (hr.mono h).un⟩
theorem pass0A {X : Cx} {σ : L2.St} {E : XK} : PassesAt CX0 X σ E := fun _ _ _ _ _ _ h => h.elim
/-- an exception object with its fields -/
def ExAt (H : Hp) (a C : Addr) (fs : List (Str × V)) : Prop := ∃ d, H a = some (exo a C (some d)) ∧ H d = some (exd d fs)
theorem ExAt.same {H H' : Hp} {a C : Addr} {fs : List (Str × V)} (h : ExAt H a C fs) (s : Same H H') : ExAt H' a C fs := by
  obtain ⟨d, h1, h2⟩ := h
  exact ⟨d, s _ _ h1, s _ _ h2⟩
theorem ekit_self {K : PySem.W.Frag} {C : Addr} : PySem.W.kitOne K (.ref C) (.ref C) = some true := if_pos (by simp)
theorem ekit_sub {K : PySem.W.Frag} {C D : Addr} {b : Bool} (hd : PySem.W.hasDictIn K D = true) (ht : PySem.W.typeIn K (.ref D) = some (.type "type")) (h : PySem.W.subIn K (.ref C) (.ref D) = some b) (hn : C = D → b = true) : PySem.W.kitOne K (.ref C) (.ref D) = some b := by
  unfold PySem.W.kitOne
  by_cases e : (Value.ref C == Value.ref D) = true
  · rw [if_pos e, hn (Value.ref.inj (beq_iff_eq.mp e))]
  · rw [if_neg e]
    obtain ⟨cd, hc, _⟩ := PySem.W.any_some hd
    show (if ((PySem.W.clsIn K D).isSome && PySem.W.typeIn K (.ref D) == some (.type "type")) = true then PySem.W.subIn K (.ref C) (.ref D) else none) = some b
    rw [hc, ht]
    exact h
theorem ekit_ty {K : PySem.W.Frag} {C : Addr} {T : String} {b : Bool} (hm : PySem.W.kitMeta T = true) (h : PySem.W.subIn K (.ref C) (.type T) = some b) : PySem.W.kitOne K (.ref C) (.type T) = some b := by
  unfold PySem.W.kitOne
  rw [if_neg (by simp)]
  show (if PySem.W.kitMeta T = true then PySem.W.subIn K (.ref C) (.type T) else none) = some b
  rw [if_pos hm]
  exact h

def CNs : List Str := ["BadPlace", "BadText", "Fault", "BadName", "BlockCut", "NoRoom", "NothingThere", "BadJournal"]
def FL (i : Nat) : List Str := ([["at"], ["at"], ["at"], ["name"], ["sheet", "row", "column"], ["word"], ["word"], ["at"]] : List (List Str)).getD i []
def AV (k : Nat) (x : Int) (z : Str) : List V := ([[.int x], [.int x], [.int x], [.str z], [.int (x % 4), .int (x % 20), .int (x % 10)], [.str z], [.str z], [.int x]] : List (List V)).getD k []
def FS (k : Nat) (x : Int) (z : Str) : List (Str × V) := ((FL k).zip (AV k x z)).reverse
/-- where the classes lie -/
def clK (K : PySem.W.Frag) (i : Nat) : Addr := match PySem.W.nsIn K mainGlobals (CNs.getD i "") with
  | some (some (.ref C)) => C
  | _ => 0
def weK (K : PySem.W.Frag) : Addr := match PySem.W.nsIn K mainGlobals "WorkError" with
  | some (some (.ref C)) => C
  | _ => 0
theorem clK_of {K : PySem.W.Frag} {i : Nat} {x : Str} {C : Addr} (e : CNs.getD i "" = x) (h : PySem.W.nsIn K mainGlobals x = some (some (.ref C))) : clK K i = C := by
  unfold clK
  rw [e, h]
theorem weK_of {K : PySem.W.Frag} {C : Addr} (h : PySem.W.nsIn K mainGlobals "WorkError" = some (some (.ref C))) : weK K = C := by
  unfold weK
  rw [h]
/-- what the written part says of the eight classes -/
structure ClsE (K : PySem.W.Frag) : Prop where
  ox : ∀ i, i < 8 → OxE K (clK K i)
  kit : ∀ i j, i < 8 → j < 8 → PySem.W.kitOne K (.ref (clK K i)) (.ref (clK K j)) = some (decide (i = j))
  exm : ∀ i j, i < 8 → j < 8 → PySem.W.exmOne K (.ref (clK K i)) (.ref (clK K j)) = some (decide (i = j))
  kw : ∀ i, i < 8 → PySem.W.kitOne K (.ref (clK K i)) (.ref (weK K)) = some true
  ew : ∀ i, i < 8 → PySem.W.exmOne K (.ref (clK K i)) (.ref (weK K)) = some true
  ke : ∀ i, i < 8 → PySem.W.kitOne K (.ref (clK K i)) (.type "Exception") = some true
  kv : ∀ i, i < 8 → PySem.W.kitOne K (.ref (clK K i)) (.type "ValueError") = some false
  tk : ∀ i, i < 8 → ∀ f ∈ FL i, PySem.W.takerIn K (clK K i) f = some none
  no : ∀ i, i < 8 → ∀ f ∈ FL i, PySem.W.findIn K (.ref (clK K i)) f = some none
theorem eat_go {K : PySem.W.Frag} {p C : Addr} {fs : List (Str × V)} {f : Str} {v : V} {H : Hp} {Q : VK} (T : OxE K C) (no : PySem.W.findIn K (.ref C) f = some none) (h : ExAt H p C fs) (l : fs.lookup f = some v) (q : Q v H) :
    ∃ (a C d : Addr) (fs : List (Str × V)) (v : V), V.ref p = .ref a ∧ OxE K C ∧ PySem.W.findIn K (.ref C) f = some none ∧ H a = some (exo a C (some d)) ∧ H d = some (exd d fs) ∧ fs.lookup f = some v ∧ Q v H := by
  obtain ⟨d, h1, h2⟩ := h
  exact ⟨p, C, d, fs, v, rfl, T, no, h1, h2, l, q⟩
theorem look1 (f : Str) (y : V) : [(f, y)].lookup f = some y := by simp [List.lookup]
theorem upd_none {H : Hp} {a b : Addr} {o : HO} (h : upd H a o b = none) : H b = none := by
  by_cases e : b = a
  · rw [e, upd_same] at h
    cases h
  · rwa [upd_ne e] at h
theorem look_column (x y z : V) : [(("column" : Str), z), ("row", y), ("sheet", x)].lookup ("column" : Str) = some z := by rw [lookup_put, if_pos rfl]
theorem look_row (x y z : V) : [(("column" : Str), z), ("row", y), ("sheet", x)].lookup ("row" : Str) = some y := by rw [lookup_put, if_neg (by decide +kernel), lookup_put, if_pos rfl]
theorem look_sheet (x y z : V) : [(("column" : Str), z), ("row", y), ("sheet", x)].lookup ("sheet" : Str) = some x := by rw [lookup_put, if_neg (by decide +kernel), lookup_put, if_neg (by decide +kernel), lookup_put, if_pos rfl]
theorem is_go {K : PySem.W.Frag} {a C : Addr} {fs : List (Str × V)} {c : V} {cv : Value} {b : Bool} {H : Hp} {Q : VK} (T : OxE K C) (h : ExAt H a C fs) (hc : ∀ u, RelV c u → u = cv) (e : PySem.W.kitOne K (.ref C) cv = some b) (q : Q (.bl b) H) : rIsH K [.ref a, c] H Q := by
  obtain ⟨d, h1, h2⟩ := h
  exact ⟨a, C, d, fs, c, cv, b, rfl, T, h1, h2, hc, e, q⟩

/-! ### what the top has left -/
structure Txt (K : PySem.W.Frag) (mg : Str → Option Value) where
  aBadPlace_init : Addr
  dBadPlace_init : FuncData
  FBadPlace_init : Fun K "__init__" "BadPlace.__init__" sBadPlace_init aBadPlace_init dBadPlace_init
  bBadPlace_init : Binds K dBadPlace_init PBadPlace_init []
  aBadText_init : Addr
  dBadText_init : FuncData
  FBadText_init : Fun K "__init__" "BadText.__init__" sBadText_init aBadText_init dBadText_init
  bBadText_init : Binds K dBadText_init PBadText_init []
  aFault_init : Addr
  dFault_init : FuncData
  FFault_init : Fun K "__init__" "Fault.__init__" sFault_init aFault_init dFault_init
  bFault_init : Binds K dFault_init PFault_init []
  aBadName_init : Addr
  dBadName_init : FuncData
  FBadName_init : Fun K "__init__" "BadName.__init__" sBadName_init aBadName_init dBadName_init
  bBadName_init : Binds K dBadName_init PBadName_init []
  aBlockCut_init : Addr
  dBlockCut_init : FuncData
  FBlockCut_init : Fun K "__init__" "BlockCut.__init__" sBlockCut_init aBlockCut_init dBlockCut_init
  bBlockCut_init : Binds K dBlockCut_init PBlockCut_init []
  aNoRoom_init : Addr
  dNoRoom_init : FuncData
  FNoRoom_init : Fun K "__init__" "NoRoom.__init__" sNoRoom_init aNoRoom_init dNoRoom_init
  bNoRoom_init : Binds K dNoRoom_init PNoRoom_init []
  aNothingThere_init : Addr
  dNothingThere_init : FuncData
  FNothingThere_init : Fun K "__init__" "NothingThere.__init__" sNothingThere_init aNothingThere_init dNothingThere_init
  bNothingThere_init : Binds K dNothingThere_init PNothingThere_init []
  aBadJournal_init : Addr
  dBadJournal_init : FuncData
  FBadJournal_init : Fun K "__init__" "BadJournal.__init__" sBadJournal_init aBadJournal_init dBadJournal_init
  bBadJournal_init : Binds K dBadJournal_init PBadJournal_init []
  a_law_cell : Addr
  d_law_cell : FuncData
  F_law_cell : Fun K "_law_cell" "_law_cell" s_law_cell a_law_cell d_law_cell
  g_law_cell : mg "_law_cell" = some (.ref a_law_cell)
  b_law_cell : Binds K d_law_cell P_law_cell []
  a_law_mix : Addr
  d_law_mix : FuncData
  F_law_mix : Fun K "_law_mix" "_law_mix" s_law_mix a_law_mix d_law_mix
  g_law_mix : mg "_law_mix" = some (.ref a_law_mix)
  b_law_mix : Binds K d_law_mix P_law_mix []
  a_law_number : Addr
  d_law_number : FuncData
  F_law_number : Fun K "_law_number" "_law_number" s_law_number a_law_number d_law_number
  g_law_number : mg "_law_number" = some (.ref a_law_number)
  b_law_number : Binds K d_law_number P_law_number []
  a_law_text : Addr
  d_law_text : FuncData
  F_law_text : Fun K "_law_text" "_law_text" s_law_text a_law_text d_law_text
  g_law_text : mg "_law_text" = some (.ref a_law_text)
  b_law_text : Binds K d_law_text P_law_text []
  a_law_is_number : Addr
  d_law_is_number : FuncData
  F_law_is_number : Fun K "_law_is_number" "_law_is_number" s_law_is_number a_law_is_number d_law_is_number
  g_law_is_number : mg "_law_is_number" = some (.ref a_law_is_number)
  b_law_is_number : Binds K d_law_is_number P_law_is_number []
  a_law_is_text : Addr
  d_law_is_text : FuncData
  F_law_is_text : Fun K "_law_is_text" "_law_is_text" s_law_is_text a_law_is_text d_law_is_text
  g_law_is_text : mg "_law_is_text" = some (.ref a_law_is_text)
  b_law_is_text : Binds K d_law_is_text P_law_is_text []
  a_law_alone : Addr
  d_law_alone : FuncData
  F_law_alone : Fun K "_law_alone" "_law_alone" s_law_alone a_law_alone d_law_alone
  g_law_alone : mg "_law_alone" = some (.ref a_law_alone)
  b_law_alone : Binds K d_law_alone P_law_alone []
  a_law_numbered : Addr
  d_law_numbered : FuncData
  F_law_numbered : Fun K "_law_numbered" "_law_numbered" s_law_numbered a_law_numbered d_law_numbered
  g_law_numbered : mg "_law_numbered" = some (.ref a_law_numbered)
  b_law_numbered : Binds K d_law_numbered P_law_numbered []
  a_law_worded : Addr
  d_law_worded : FuncData
  F_law_worded : Fun K "_law_worded" "_law_worded" s_law_worded a_law_worded d_law_worded
  g_law_worded : mg "_law_worded" = some (.ref a_law_worded)
  b_law_worded : Binds K d_law_worded P_law_worded []
  a_law_cut : Addr
  d_law_cut : FuncData
  F_law_cut : Fun K "_law_cut" "_law_cut" s_law_cut a_law_cut d_law_cut
  g_law_cut : mg "_law_cut" = some (.ref a_law_cut)
  b_law_cut : Binds K d_law_cut P_law_cut []
  a_law_raise : Addr
  d_law_raise : FuncData
  F_law_raise : Fun K "_law_raise" "_law_raise" s_law_raise a_law_raise d_law_raise
  g_law_raise : mg "_law_raise" = some (.ref a_law_raise)
  b_law_raise : Binds K d_law_raise P_law_raise []
  a_law_caught : Addr
  d_law_caught : FuncData
  F_law_caught : Fun K "_law_caught" "_law_caught" s_law_caught a_law_caught d_law_caught
  g_law_caught : mg "_law_caught" = some (.ref a_law_caught)
  b_law_caught : Binds K d_law_caught P_law_caught []
  a_law_beneath : Addr
  d_law_beneath : FuncData
  F_law_beneath : Fun K "_law_beneath" "_law_beneath" s_law_beneath a_law_beneath d_law_beneath
  g_law_beneath : mg "_law_beneath" = some (.ref a_law_beneath)
  b_law_beneath : Binds K d_law_beneath P_law_beneath []
  alaw : Addr
  dlaw : FuncData
  Flaw : Fun K "law" "law" slaw alaw dlaw
  glaw : mg "law" = some (.ref alaw)
  blaw : Binds K dlaw Plaw []
  z_Exception : mg "Exception" = none
  z_ValueError : mg "ValueError" = none
  z_bool : mg "bool" = none
  z_int : mg "int" = none
  z_isinstance : mg "isinstance" = none
  z_len : mg "len" = none
  z_range : mg "range" = none
  z_str : mg "str" = none
  cs : ClsE K
  gc_WorkError : mg "WorkError" = some (.ref (weK K))
  gc_BadPlace : mg "BadPlace" = some (.ref (clK K 0))
  i_BadPlace : PySem.W.findIn K (.ref (clK K 0)) "__init__" = some (some (.ref aBadPlace_init))
  ti_BadPlace : PySem.W.typeIn K (.ref aBadPlace_init) = some (.type "function")
  gc_BadText : mg "BadText" = some (.ref (clK K 1))
  i_BadText : PySem.W.findIn K (.ref (clK K 1)) "__init__" = some (some (.ref aBadText_init))
  ti_BadText : PySem.W.typeIn K (.ref aBadText_init) = some (.type "function")
  gc_Fault : mg "Fault" = some (.ref (clK K 2))
  i_Fault : PySem.W.findIn K (.ref (clK K 2)) "__init__" = some (some (.ref aFault_init))
  ti_Fault : PySem.W.typeIn K (.ref aFault_init) = some (.type "function")
  gc_BadName : mg "BadName" = some (.ref (clK K 3))
  i_BadName : PySem.W.findIn K (.ref (clK K 3)) "__init__" = some (some (.ref aBadName_init))
  ti_BadName : PySem.W.typeIn K (.ref aBadName_init) = some (.type "function")
  gc_BlockCut : mg "BlockCut" = some (.ref (clK K 4))
  i_BlockCut : PySem.W.findIn K (.ref (clK K 4)) "__init__" = some (some (.ref aBlockCut_init))
  ti_BlockCut : PySem.W.typeIn K (.ref aBlockCut_init) = some (.type "function")
  gc_NoRoom : mg "NoRoom" = some (.ref (clK K 5))
  i_NoRoom : PySem.W.findIn K (.ref (clK K 5)) "__init__" = some (some (.ref aNoRoom_init))
  ti_NoRoom : PySem.W.typeIn K (.ref aNoRoom_init) = some (.type "function")
  gc_NothingThere : mg "NothingThere" = some (.ref (clK K 6))
  i_NothingThere : PySem.W.findIn K (.ref (clK K 6)) "__init__" = some (some (.ref aNothingThere_init))
  ti_NothingThere : PySem.W.typeIn K (.ref aNothingThere_init) = some (.type "function")
  gc_BadJournal : mg "BadJournal" = some (.ref (clK K 7))
  i_BadJournal : PySem.W.findIn K (.ref (clK K 7)) "__init__" = some (some (.ref aBadJournal_init))
  ti_BadJournal : PySem.W.typeIn K (.ref aBadJournal_init) = some (.type "function")
/-! ### the mathematics -/
theorem merge2 {G : Prop} {C : Str → Bool → Prop} (R : Str → V → Prop) (tail : ∀ U vb b, vb = V.bl b → C U b → R U vb) (rest : (∀ U vb b, vb = V.bl b → C U b → R U vb) → G) : G := rest tail

/-- an amount, or NUM -/
def lim (n : Int) : V := if -1000000000000000000000 < n ∧ n < 1000000000000000000000 then .int n else .str "NUM"
theorem lim_in {n : Int} (h : -1000000000000000000000 < n ∧ n < 1000000000000000000000) : lim n = .int n := if_pos h
theorem lim_out {n : Int} (h : ¬ (-1000000000000000000000 < n ∧ n < 1000000000000000000000)) : lim n = .str "NUM" := if_neg h
def Flat (x : V) : Prop := (∃ i, x = .int i) ∨ ∃ s, x = .str s
theorem lim_flat (n : Int) : Flat (lim n) := by
  unfold lim
  split
  · exact Or.inl ⟨_, rfl⟩
  · exact Or.inr ⟨_, rfl⟩

/-- the integer nearest to a / b, of two equally near ones the even one -/
def near (a b : Int) : Int := if 2 * (a % b) > b then a / b + 1 else if 2 * (a % b) = b then a / b + a / b % 2 else a / b

theorem atI_some {α : Type} {xs : List α} {i : Int} (h0 : 0 ≤ i) (h1 : i < (xs.length : Int)) : ∃ v, v ∈ xs ∧ atI xs i = some v := by
  obtain ⟨n, rfl⟩ := Int.eq_ofNat_of_zero_le h0
  have h2 : n < xs.length := by omega
  exact ⟨xs[n], List.getElem_mem h2, atI_nat (List.getElem?_eq_getElem h2)⟩
theorem atI_at {α : Type} {xs : List α} {i : Int} {n : Nat} (e : i = (n : Int)) {v : α} (h : xs[n]? = some v) : atI xs i = some v := by
  rw [e]
  exact atI_nat h
theorem sqT_ty {K : PySem.W.Frag} {H : Hp} {p : Addr} {xs : List V} (h : SqT K H p xs) : TyX K H (.ref p) (.type "tuple") := by
  rcases h with (h | ⟨o, h⟩) | ⟨o, its, n, e, c, _⟩
  · exact .base (.tup h)
  · exact .fTuple h
  · exact .kTuple e c
theorem sqL_ty {K : PySem.W.Frag} {H : Hp} {p : Addr} {xs : List V} (h : SqL K H p xs) : TyX K H (.ref p) (.type "list") := by
  rcases h with (h | ⟨o, h⟩) | ⟨o, its, n, e, c, _⟩
  · exact .base (.lst h)
  · exact .base (.frz h)
  · exact .kList e c
/-- isinstance: flat values, tuples, lists -/
theorem call_isiR {X : Cx} : CallR X (.builtin "isinstance") (fun xs H Q => (∃ x n b, xs = [x, .ty n] ∧ isiV x n = some b ∧ Q (.bl b) H) ∨ (∃ p ys n b, xs = [.ref p, .ty n] ∧ SqT X.K H p ys ∧ kitB "tuple" n = some b ∧ Q (.bl b) H) ∨ ∃ p ys n b, xs = [.ref p, .ty n] ∧ SqL X.K H p ys ∧ kitB "list" n = some b ∧ Q (.bl b) H) := by
  intro pins s σ H xs us Q I r h
  rcases h with h | ⟨p, ys, n, b, rfl, hp, e, q⟩ | ⟨p, ys, n, b, rfl, hp, e, q⟩
  · exact call_isiV pins s σ H xs us Q I r h
  · exact call_isi pins s σ H _ us Q I r ⟨_, _, .type "tuple", _, _, rfl, .ty _, sqT_ty hp, kit_ty e, q⟩
  · exact call_isi pins s σ H _ us Q I r ⟨_, _, .type "list", _, _, rfl, .ty _, sqL_ty hp, kit_ty e, q⟩
theorem iteSN {x y : Str} {A B : Prop} (h : x ≠ y) (b : B) : if decide (V.str x = V.str y) = true then A else B := by
  rw [if_neg (fun z => h (V.str.inj (of_decide_eq_true z)))]
  exact b
theorem iteSNn {x y : Str} {A B : Prop} (h : x ≠ y) (a : A) : if (!decide (V.str x = V.str y)) = true then A else B := by
  rw [decide_eq_false (fun z => h (V.str.inj z))]
  exact iteT a
theorem iteSSn {x : Str} {A B : Prop} (b : B) : if (!decide (V.str x = V.str x)) = true then A else B := by
  rw [decide_eq_true rfl]
  exact iteF b
/-- a flat value -/
def Flat3 (x : V) : Prop := (∃ i, x = .int i) ∨ (∃ s, x = .str s) ∨ ∃ b, x = .bl b
/-- the tuples stand as they were -/
def TK (K : PySem.W.Frag) (H H' : Hp) : Prop := ∀ p xs, SqT K H p xs → SqT K H' p xs
theorem TK.refl {K : PySem.W.Frag} {H : Hp} : TK K H H := fun _ _ h => h
theorem TK.trans {K : PySem.W.Frag} {H H1 H2 : Hp} (a : TK K H H1) (b : TK K H1 H2) : TK K H H2 := fun p xs h => b p xs (a p xs h)
theorem same_tk {K : PySem.W.Frag} {H H' : Hp} (e : Same H H') : TK K H H' := by
  intro p xs h
  rcases h with (h | ⟨o, h⟩) | h
  · exact .inl (.inl (e _ _ h))
  · exact .inl (.inr ⟨o, e _ _ h⟩)
  · exact .inr h
theorem but_tk {K : PySem.W.Frag} {H H' : Hp} {b : Addr} {ys : List V} (h : H b = some (.lst ys)) (e : ∀ a o, a ≠ b → H a = some o → H' a = some o) : TK K H H' := by
  intro p xs q
  rcases q with (q | ⟨o, q⟩) | q
  · exact .inl (.inl (e _ _ (ne_of q h (fun z => nomatch z)) q))
  · exact .inl (.inr ⟨o, e _ _ (ne_of q h (fun z => nomatch z)) q⟩)
  · exact .inr q
theorem upd_but {H : Hp} {b : Addr} {u : HO} : ∀ a o, a ≠ b → H a = some o → upd H b u a = some o := fun a o n e => by
  rw [upd_ne n]
  exact e
theorem lst_tk {K : PySem.W.Frag} {H : Hp} {b : Addr} {ys zs : List V} (h : H b = some (.lst ys)) : TK K H (upd H b (.lst zs)) := but_tk h upd_but
theorem same_put {H H' : Hp} {D : Addr} {o : HO} (e : Same H H') (h : H D = none) : Same H (upd H' D o) := fun a x q => by
  rw [upd_ne (ne_of_none q h)]
  exact e _ _ q
/-- likeness, so deep -/
def Al (K : PySem.W.Frag) : Nat → Hp → V → V → Prop
  | 0, _, _, _ => False
  | n + 1, H, x, y => (Flat3 x ∧ x = y) ∨ ∃ (p q : Addr) (xs ys : List V), x = .ref p ∧ y = .ref q ∧ SqT K H p xs ∧ SqT K H q ys ∧ (xs.length = ys.length ∧ ys.length ≤ 5000) ∧ ∀ (k : Nat) (a b : V), xs[k]? = some a → ys[k]? = some b → Al K n H a b
theorem Al.flat {K : PySem.W.Frag} {n : Nat} {H : Hp} {x : V} (h : Flat3 x) : Al K (n + 1) H x x := Or.inl ⟨h, rfl⟩
theorem Al.tup {K : PySem.W.Frag} {n : Nat} {H : Hp} {p q : Addr} {xs : List V} (hl : xs.length ≤ 5000) (hp : SqT K H p xs) (hq : SqT K H q xs) (h : ∀ x ∈ xs, Al K n H x x) : Al K (n + 1) H (.ref p) (.ref q) :=
  Or.inr ⟨p, q, xs, xs, rfl, rfl, hp, hq, ⟨rfl, hl⟩, fun k a b e1 e2 => by
    obtain rfl := Option.some.inj (e1.symm.trans e2)
    exact h _ (List.mem_of_getElem? e1)⟩
/-- a scalar -/
def Sca (K : PySem.W.Frag) (H : Hp) (x : V) : Prop := ∃ p k rest, x = .ref p ∧ SqT K H p (.str k :: rest) ∧ k ≠ ("array" : Str) ∧ rest.length ≤ 20 ∧ ∀ y ∈ rest, Flat3 y
theorem Sca.keep {K : PySem.W.Frag} {H H' : Hp} {x : V} (e : TK K H H') (h : Sca K H x) : Sca K H' x := by
  obtain ⟨p, k, rest, rfl, a, b, c⟩ := h
  exact ⟨p, k, rest, rfl, e _ _ a, b, c⟩
theorem Sca.al {K : PySem.W.Frag} {H : Hp} {x : V} (n : Nat) (h : Sca K H x) : Al K (n + 2) H x x := by
  obtain ⟨p, k, rest, rfl, a, b, l, c⟩ := h
  refine Al.tup (by rw [List.length_cons]; omega) a a fun y hy => Al.flat ?_
  rcases List.mem_cons.mp hy with rfl | hy
  · exact Or.inr (Or.inl ⟨_, rfl⟩)
  · exact c y hy
theorem sca1 {K : PySem.W.Frag} {H : Hp} {p : Addr} {k : Str} (h : k ≠ ("array" : Str)) : Sca K (upd H p (.tup [.str k])) (.ref p) := ⟨p, k, [], rfl, SqT.of upd_same, h, by decide, fun y hy => by cases hy⟩
theorem sca2 {K : PySem.W.Frag} {H : Hp} {p : Addr} {k : Str} {x : V} (h : k ≠ ("array" : Str)) (hx : Flat3 x) : Sca K (upd H p (.tup [.str k, x])) (.ref p) := ⟨p, k, [x], rfl, SqT.of upd_same, h, (show 1 ≤ 20 by decide), fun y hy => by
  rcases List.mem_cons.mp hy with rfl | hy
  · exact hx
  · cases hy⟩
/-- all the signs -/
def SG : Str := (" !\"#$&'()*+,-./0123456789:;<=>?@ABCDEFGHIJKLMNOPQRSTUVWXYZ[\\]^_`" : Str) ++ ("abcdefghijklmnopqrstuvwxyz{|}~" : Str)
theorem sg_len : SG.cps.toList.length = 94 := by decide +kernel
theorem sg_line : SG.length ≤ sizeLine := by decide +kernel
theorem sg_at {n : Int} (h0 : 0 ≤ n) (h1 : n < 94) : ∃ c, atI SG.cps.toList n = some c := by
  obtain ⟨c, _, e⟩ := atI_some (xs := SG.cps.toList) h0 (by rw [sg_len]; exact h1)
  exact ⟨c, e⟩
theorem ones_sum : ∀ (zs : List Str), (∀ z ∈ zs, z.length = 1) → (zs.map (·.length)).sum = zs.length
  | [], _ => rfl
  | z :: zs, h => by
    rw [List.map_cons, List.sum_cons, ones_sum zs (fun y hy => h y (List.mem_cons_of_mem _ hy)), h z (List.mem_cons_self ..), List.length_cons]
    omega
theorem ones_join {zs : List Str} (h : ∀ z ∈ zs, z.length = 1) (hl : zs.length ≤ 1000) : (zs.map (·.length)).sum + zs.length * ("" : Str).length ≤ 16777216 := by
  rw [ones_sum zs h, show ("" : Str).length = 0 from by decide +kernel]
  omega
/-- the box of draws -/
def BoxAt (b : Addr) (H : Hp) : Prop := ∃ c d z : Int, H b = some (.lst [.int c, .int d, .int z])
def Bx (b : Addr) (H H' : Hp) : Prop := (∀ a o, a ≠ b → H a = some o → H' a = some o) ∧ BoxAt b H'
theorem Bx.refl {b : Addr} {H : Hp} (h : BoxAt b H) : Bx b H H := ⟨fun _ _ _ e => e, h⟩
theorem Bx.trans {b : Addr} {H H1 H2 : Hp} (x : Bx b H H1) (y : Bx b H1 H2) : Bx b H H2 := ⟨fun a o n e => y.1 a o n (x.1 a o n e), y.2⟩
theorem Bx.bat {b : Addr} {H H1 : Hp} (x : Bx b H H1) : BoxAt b H1 := x.2
theorem BoxAt.ne {b p : Addr} {H : Hp} (x : BoxAt b H) (h : H p = none) : b ≠ p := by
  obtain ⟨c, d, z, e⟩ := x
  exact ne_of_none e h
theorem BoxAt.new {b p : Addr} {H : Hp} {o : HO} (x : BoxAt b H) (h : H p = none) : BoxAt b (upd H p o) := by
  have n := x.ne h
  obtain ⟨c, d, z, e⟩ := x
  exact ⟨c, d, z, by rw [upd_ne n]; exact e⟩
theorem Bx.same {b : Addr} {H H1 H2 : Hp} (x : Bx b H H1) (y : Same H1 H2) : Bx b H H2 := by
  obtain ⟨x1, c, d, z, e⟩ := x
  exact ⟨fun a o n e => y _ _ (x1 a o n e), c, d, z, y _ _ e⟩
theorem Bx.new {b p : Addr} {H H1 : Hp} {o : HO} (x : Bx b H H1) (h : H1 p = none) : Bx b H (upd H1 p o) := x.same (same_upd h)
theorem Bx.put {b : Addr} {H H1 : Hp} {c d z : Int} (x : Bx b H H1) : Bx b H (upd H1 b (.lst [.int c, .int d, .int z])) := ⟨fun a o n e => by
  rw [upd_ne n]
  exact x.1 a o n e, c, d, z, upd_same⟩
theorem Bx.tk {K : PySem.W.Frag} {b : Addr} {H H1 : Hp} (x : Bx b H H1) (h : BoxAt b H) : TK K H H1 := by
  obtain ⟨c, d, z, e⟩ := h
  exact but_tk e x.1
/-- a new list beside the box, longer by one -/
theorem Bx.more {b D : Addr} {H0 H : Hp} {o : HO} (x : Bx b H0 H) (hD : H0 D = none) (n : b ≠ D) : Bx b H0 (upd H D o) := by
  obtain ⟨x1, c, d, z, e⟩ := x
  refine ⟨fun a o m q => ?_, c, d, z, by rw [upd_ne n]; exact e⟩
  rw [upd_ne (ne_of_none q hD)]
  exact x1 a o m q
theorem Bx.back {b D : Addr} {H0 H : Hp} (x : Bx b H0 H) (h : BoxAt b H0) (hD : H D = none) : H0 D = none ∧ b ≠ D := by
  have n := x.2.ne hD
  refine ⟨?_, n⟩
  cases q : H0 D with
  | none => rfl
  | some o =>
    rw [x.1 D o (Ne.symm n) q] at hD
    cases hD

open TL SX NumText
/-- z * n -/
def repS (z : Str) (n : Nat) : Str := S (List.replicate n (tl z)).flatten
theorem foldl_cat (a : Array Nat) : ∀ (n : Nat) (b : Array Nat), ((List.replicate n a).foldl (· ++ ·) b).toList = b.toList ++ (List.replicate n a.toList).flatten
  | 0, b => by simp
  | n + 1, b => by
    rw [List.replicate_succ, List.foldl_cons, foldl_cat a n, List.replicate_succ, List.flatten_cons, Array.toList_append, List.append_assoc]
theorem rep_len (l : List Nat) : ∀ n : Nat, (List.replicate n l).flatten.length = l.length * n
  | 0 => rfl
  | n + 1 => by
    rw [List.replicate_succ, List.flatten_cons, List.length_append, rep_len l n, Nat.mul_succ, Nat.add_comm]
theorem repS_len (z : Str) (n : Nat) : (repS z n).length = z.length * n := by
  rw [len_tl, len_tl]
  exact rep_len (tl z) n
theorem op_repS {X : Cx} : OpR X (binaryOp .Mult) (fun x y H Q => ∃ (z : Str) (k : Int), x = .str z ∧ y = .int k ∧ ((-1000000 ≤ k ∧ k ≤ 1000000) ∧ z.length ≤ 16) ∧ Q (.str (repS z k.toNat)) H) := by
  intro pins s σ H x y v u Q I rx ry h
  obtain ⟨z, k, rfl, rfl, ⟨⟨h1, h2⟩, h3⟩, q⟩ := h
  obtain ⟨t, rfl⟩ := rx
  obtain ⟨t', rfl⟩ := ry
  have h4 : z.length * k.toNat ≤ 16 * 1000000 := Nat.mul_le_mul h3 (by omega)
  refine PySem.P.mul_str ?_ (fun a _ => ?_) (fun a _ => ?_) ?_
  · rw [decide_eq_false (by omega), decide_eq_false (by omega)]
    rfl
  · have b : (z.length : Int) ≤ (2 ^ 63 - 1) / k := by
      rw [Int.le_ediv_iff_mul_le (by omega)]
      have c : (z.length : Int) * k ≤ 16 * 1000000 := Int.mul_le_mul (by omega) h2 (by omega) (by decide)
      omega
    omega
  · show decide (_ > sizeLine) = false
    rw [sizeLine_eq]
    exact decide_eq_false (by omega)
  · by_cases a : k < 1
    · rw [if_pos a]
      have e : repS z k.toNat = Str.empty := by
        rw [show k.toNat = 0 by omega]
        rfl
      rw [e] at q
      exact ⟨by decide, .str _, H, I.tok _, ⟨_, rfl⟩, q⟩
    · rw [if_neg a]
      by_cases b : (k == 1 || z.length == 0) = true
      · rw [if_pos b]
        have e : repS z k.toNat = z := by
          refine ext_tl ?_
          show (List.replicate k.toNat (tl z)).flatten = tl z
          rcases Bool.or_eq_true_iff.mp b with c | c
          · rw [show k.toNat = 1 by have := eq_of_beq c; omega]
            simp
          · have c2 : tl z = [] := List.eq_nil_of_length_eq_zero (by rw [← len_tl]; exact eq_of_beq c)
            rw [c2]
            exact List.eq_nil_of_length_eq_zero (by rw [rep_len]; exact Nat.zero_mul _)
        rw [e] at q
        exact ⟨.str _, H, I, ⟨_, rfl⟩, q⟩
      · rw [if_neg b]
        have e : (⟨(List.replicate k.toNat z.cps).foldl (· ++ ·) #[]⟩ : Str) = repS z k.toNat := ext_tl (by
          show ((List.replicate k.toNat z.cps).foldl (· ++ ·) #[]).toList = (List.replicate k.toNat (tl z)).flatten
          rw [foldl_cat]
          rfl)
        rw [e]
        refine ⟨?_, .str _, H, I.tok _, ⟨_, rfl⟩, q⟩
        rw [repS_len, sizeLine_eq]
        omega
theorem one_of {z : Str} {c : Nat} (h : tl z = [c]) : z = ⟨#[c]⟩ := ext_tl h
theorem mt_ljustF {X : Cx} : MtR X "str.ljust" (fun x xs H Q => ∃ (a f : Str) (i : Int) (c : Nat), x = .str a ∧ xs = [.int i, .str f] ∧ tl f = [c] ∧ PadOk i = true ∧ Q (.str (Txt.ljustF a i c)) H) := by
  intro pins s σ H x xs v us Q I rx rs h
  obtain ⟨a, f, i, c, rfl, rfl, hf, hc, h⟩ := h
  obtain rfl := one_of hf
  obtain ⟨t, rfl⟩ := rx
  cases rs with
  | cons r1 rs =>
    cases rs with
    | cons r2 rs =>
      cases rs
      obtain ⟨u, rfl⟩ := r1
      obtain ⟨z, rfl⟩ := r2
      exact ljust_fill hc rfl fun t' k => ⟨.str _, H, I.tok k, ⟨_, rfl⟩, h⟩
def isD (c : Nat) : Bool := decide (48 ≤ c) && decide (c ≤ 57)
theorem digit_ascii : ∀ c : Nat, c < 128 → Unicode.isDigit c = isD c := by decide +kernel
/-- as many figures, no other sign -/
def figs (l : List Nat) (most : Int) : Bool := l.all isD && decide (1 ≤ l.length) && decide ((l.length : Int) ≤ most)
theorem isD_iff {c : Nat} : isD c = true ↔ 48 ≤ c ∧ c ≤ 57 := by
  unfold isD
  rw [Bool.and_eq_true, decide_eq_true_eq, decide_eq_true_eq]
theorem all_digits {l : List Nat} (h : l.all isD = true) : AllDigits l := fun c hc => isD_iff.mp (List.all_eq_true.mp h c hc)
theorem digits_all {l : List Nat} (h : AllDigits l) : l.all isD = true := List.all_eq_true.mpr fun c hc => isD_iff.mpr (h c hc)
theorem figs_code (z : Str) (most : Int) : (Txt.isascii z && (Txt.isdigit z && decide ((z.length : Int) ≤ most))) = figs (tl z) most := by
  unfold Txt.isascii Txt.isdigit figs
  rw [← Array.all_toList, ← Array.all_toList, ← len_tl]
  have e : ((tl z).all (· < 128) && (tl z).all Unicode.isDigit) = (tl z).all isD := by
    cases h : (tl z).all (· < 128) with
    | true =>
      rw [Bool.true_and]
      refine Bool.eq_iff_iff.mpr ⟨fun k => List.all_eq_true.mpr fun c hc => ?_, fun k => List.all_eq_true.mpr fun c hc => ?_⟩
      · rw [← digit_ascii c (of_decide_eq_true (List.all_eq_true.mp h c hc))]
        exact List.all_eq_true.mp k c hc
      · rw [digit_ascii c (of_decide_eq_true (List.all_eq_true.mp h c hc))]
        exact List.all_eq_true.mp k c hc
    | false =>
      rw [Bool.false_and]
      refine (Bool.eq_false_iff.mpr fun k => ?_).symm
      refine (Bool.eq_false_iff.mp h) (List.all_eq_true.mpr fun c hc => decide_eq_true ?_)
      have := isD_iff.mp (List.all_eq_true.mp k c hc)
      omega
  rw [← e]
  have e2 : decide (z.length > 0) = decide (1 ≤ z.length) := rfl
  rw [e2]
  cases (tl z).all (· < 128) <;> cases (tl z).all Unicode.isDigit <;> cases decide (1 ≤ z.length) <;> cases decide ((z.length : Int) ≤ most) <;> rfl

theorem str_empty : Str.empty = S [] := rfl
theorem e_none : (Str.ofString "") = S [] := by decide +kernel
theorem e_zero : (Str.ofString "0") = S [48] := by decide +kernel
theorem e_minus : (Str.ofString "-") = S [45] := by decide +kernel
theorem e_plus : (Str.ofString "+") = S [43] := by decide +kernel
theorem e_dot : (Str.ofString ".") = S [46] := by decide +kernel
theorem e_blank : (Str.ofString " ") = S [32] := by decide +kernel
theorem starts_S (l : List Nat) (c : Nat) : Txt.startswith (S l) (S [c]) = decide (l.head? = some c) := by
  unfold Txt.startswith Builtin.Str.subAt
  cases l with
  | nil => rfl
  | cons a l =>
    have h1 : (S (a :: l)).length = l.length + 1 := S_len (a :: l)
    have h2 : (S [c]).length = 1 := S_len [c]
    rw [h1, h2, decide_eq_true (show 0 + 1 ≤ l.length + 1 by omega), Bool.true_and]
    have e : (S (a :: l)).cps.extract 0 (0 + 1) = #[a] := Array.toList_inj.mp (by rw [Array.toList_extract]; rfl)
    rw [e]
    by_cases k : a = c
    · rw [k]
      simp
    · have k2 : (#[a] == (S [c]).cps) = false := by
        refine beq_eq_false_iff_ne.mpr fun z => k ?_
        have z2 := congrArg Array.toList z
        exact (List.cons.inj z2).1
      rw [k2]
      exact (decide_eq_false (fun z => k (Option.some.inj z))).symm
theorem cut_one (l : List Nat) : cutS (S l) (some 1) none = S (l.drop 1) := by
  have h1 : (S l).length = l.length := S_len l
  unfold cutS
  rw [h1, show HT.sIx l.length 0 (some 1) = min 1 l.length from HT.sIx_nat l.length 0 1, HT.sIx_none]
  refine congrArg S ?_
  show (l.drop (min 1 l.length)).take (l.length - min 1 l.length) = l.drop 1
  cases l with
  | nil => rfl
  | cons a l =>
    rw [List.length_cons, Nat.min_eq_left (by omega), List.drop_one, List.tail_cons]
    exact List.take_of_length_le (by omega)
theorem cut_head (l : List Nat) : cutS (S l) none (some 1) = S (l.take 1) := by
  have h1 : (S l).length = l.length := S_len l
  unfold cutS
  rw [h1, show HT.sIx l.length l.length (some 1) = min 1 l.length from HT.sIx_nat l.length l.length 1, HT.sIx_none]
  refine congrArg S ?_
  show (l.drop 0).take (min 1 l.length - 0) = l.take 1
  cases l with
  | nil => rfl
  | cons a l => rw [List.length_cons, Nat.min_eq_left (by omega)]; rfl
theorem head_starts (u : Str) (c : Nat) : decide (V.str (cutS u none (some 1)) = V.str (S [c])) = Txt.startswith u (S [c]) := by
  rw [← S_tl u]
  generalize u.cps.toList = l
  rw [cut_head, starts_S]
  refine decide_eq_decide.mpr ⟨fun h => ?_, fun h => ?_⟩
  · have k := S_inj (V.str.inj h)
    cases l with
    | nil => cases k
    | cons a l => rw [(List.cons.inj k).1]; rfl
  · cases l with
    | nil => cases h
    | cons a l => rw [← Option.some.inj h]; rfl
theorem tw_none {p : Nat → Bool} {l : List Nat} (h : ∀ c ∈ l, p c = false) : l.takeWhile p = [] := by
  cases l with
  | nil => rfl
  | cons a l => rw [List.takeWhile_cons, h a (List.mem_cons_self ..)]; rfl
theorem strip_free {l : List Nat} {c : Nat} (h : c ∉ l) : Txt.stripChars (S l) (S [c]) = S l := by
  have hp : ∀ d ∈ l, (S [c]).cps.contains d = false := fun d hd => by
    cases k : (S [c]).cps.contains d with
    | false => rfl
    | true =>
      have e : d = c := by simpa [S] using k
      rw [e] at hd
      exact absurd hd h
  unfold Txt.stripChars
  rw [stripBy_eq]
  have lo : stripLo (S [c]).cps.contains true (S l) = 0 := by
    show (l.takeWhile _).length = 0
    rw [tw_none hp]
    rfl
  have hi : stripHi (S [c]).cps.contains true (S l) 0 = l.length := by
    show (S l).length - ((l.drop 0).reverse.takeWhile _).length = l.length
    rw [List.drop_zero, tw_none (fun d hd => hp d (List.mem_reverse.mp hd)), S_len]
    rfl
  rw [lo, hi]
  refine ext_tl ?_
  rw [tl_strSub]
  exact List.take_of_length_le (Nat.le_refl _)
/-- without noughts at the end -/
def zt (l : List Nat) : List Nat := l.take (l.length - (l.reverse.takeWhile (· == 48)).length)
theorem rstrip_S (l : List Nat) : Txt.rstripChars (S l) (S [48]) = S (zt l) := by
  unfold Txt.rstripChars
  rw [stripBy_eq]
  have hp : ((S [48]).cps.contains : Nat → Bool) = (· == 48) := by
    funext d
    rw [Bool.eq_iff_iff]
    simp [S]
  rw [hp]
  have lo : stripLo (· == 48) false (S l) = 0 := rfl
  have hi : stripHi (· == 48) true (S l) 0 = l.length - (l.reverse.takeWhile (· == 48)).length := by
    show (S l).length - ((l.drop 0).reverse.takeWhile _).length = _
    rw [S_len]
    rfl
  rw [lo, hi]
  refine ext_tl ?_
  rw [tl_strSub]
  rfl
theorem tw_all {p : Nat → Bool} : ∀ l : List Nat, ∀ c ∈ l.takeWhile p, p c = true
  | [], c, h => by cases h
  | a :: l, c, h => by
    rw [List.takeWhile_cons] at h
    cases e : p a with
    | true =>
      rw [e] at h
      rcases List.mem_cons.mp h with rfl | h
      · exact e
      · exact tw_all l c h
    | false => rw [e] at h; cases h
theorem zt_back (l : List Nat) : l = zt l ++ List.replicate (l.length - (zt l).length) 48 := by
  have h1 : (l.reverse.takeWhile (· == 48)).length ≤ l.length := by
    have a := (List.takeWhile_sublist (l := l.reverse) (· == 48)).length_le
    rw [List.length_reverse] at a
    exact a
  have h2 : (zt l).length = l.length - (l.reverse.takeWhile (· == 48)).length := by
    unfold zt
    rw [List.length_take]
    omega
  have h3 : l.drop (l.length - (l.reverse.takeWhile (· == 48)).length) = (l.reverse.takeWhile (· == 48)).reverse := by
    have a := List.takeWhile_append_dropWhile (p := (· == 48)) (l := l.reverse)
    have b := congrArg List.reverse a
    rw [List.reverse_append, List.reverse_reverse] at b
    conv => lhs; arg 2; rw [← b]
    rw [List.drop_append, List.drop_of_length_le, List.nil_append]
    · have c : l.length - (l.reverse.takeWhile (· == 48)).length - ((l.reverse.dropWhile (· == 48)).reverse).length = 0 := by
        have d := congrArg List.length b
        rw [List.length_append, List.length_reverse, List.length_reverse] at d
        rw [List.length_reverse]
        omega
      rw [c]
      rfl
    · have d := congrArg List.length b
      rw [List.length_append, List.length_reverse, List.length_reverse] at d
      rw [List.length_reverse]
      omega
  have h4 : (l.reverse.takeWhile (· == 48)).reverse = List.replicate (l.length - (zt l).length) 48 := by
    refine List.eq_replicate_iff.mpr ⟨?_, fun c hc => ?_⟩
    · rw [List.length_reverse, h2]
      omega
    · exact eq_of_beq (tw_all _ c (List.mem_reverse.mp hc))
  conv => lhs; rw [← List.take_append_drop (l.length - (l.reverse.takeWhile (· == 48)).length) l]
  rw [h3, h4]
  rfl
/-- six figures -/
def pad6 (r : Nat) : List Nat := [48 + r / 100000 % 10, 48 + r / 10000 % 10, 48 + r / 1000 % 10, 48 + r / 100 % 10, 48 + r / 10 % 10, 48 + r % 10]
theorem num_mill {r : Nat} (h : r < 1000000) : numL (1000000 + r) = 49 :: pad6 r := by
  rw [numL_step (by omega), numL_step (by omega), numL_step (by omega), numL_step (by omega), numL_step (by omega), numL_step (by omega), numL_lt (by omega)]
  unfold pad6
  simp only [List.cons_append, List.nil_append, List.append_assoc, List.cons.injEq, and_true]
  omega
theorem zfill_six {r : Nat} (h : r < 1000000) : Txt.zfill (S (numL r)) 6 = S (pad6 r) := by
  have hd := numL_digits r
  unfold Txt.zfill
  rw [S_len]
  have z : ∀ k, zfilled (S (numL r)) k = S (List.replicate k 48 ++ numL r) := fun k => by
    have e : zfilled (S (numL r)) k = Builtin.Str.padded (S (numL r)) k 0 48 := by
      unfold zfilled
      split
      · rename_i q
        have m := hd 43 (by have := List.mem_of_getElem? (l := numL r) (i := 0) (by simpa [S] using q); exact this)
        omega
      · rename_i q
        have m := hd 45 (by have := List.mem_of_getElem? (l := numL r) (i := 0) (by simpa [S] using q); exact this)
        omega
      · rfl
    rw [e]
    refine ext_tl ?_
    show (Array.replicate k 48 ++ (S (numL r)).cps ++ Array.replicate 0 48).toList = _
    simp [S]
  have fin : ∀ k l, numL r = l → l.length + k = 6 → List.replicate k 48 ++ l = pad6 r → (if (6 : Int) ≤ ((numL r).length : Int) then S (numL r) else zfilled (S (numL r)) ((6 : Int).toNat - (numL r).length)) = S (pad6 r) := fun k l e1 e2 e3 => by
    have e4 : (numL r).length = l.length := congrArg List.length e1
    by_cases c : (6 : Int) ≤ ((numL r).length : Int)
    · rw [if_pos c, ← e3, e1, show k = 0 by omega]
      rfl
    · rw [if_neg c, z, show (6 : Int).toNat - (numL r).length = k by omega, e1, e3]
  by_cases h1 : r < 10
  · refine fin 5 [48 + r] (numL_lt h1) rfl ?_
    simp only [pad6, List.replicate, List.cons_append, List.nil_append, List.cons.injEq, and_true]
    omega
  by_cases h2 : r < 100
  · refine fin 4 [48 + r / 10, 48 + r % 10] (by rw [numL_step (by omega), numL_lt (by omega)]; rfl) rfl ?_
    simp only [pad6, List.replicate, List.cons_append, List.nil_append, List.cons.injEq, and_true]
    omega
  by_cases h3 : r < 1000
  · refine fin 3 [48 + r / 10 / 10, 48 + r / 10 % 10, 48 + r % 10] (by rw [numL_step (by omega), numL_step (by omega), numL_lt (by omega)]; rfl) rfl ?_
    simp only [pad6, List.replicate, List.cons_append, List.nil_append, List.cons.injEq, and_true]
    omega
  by_cases h4 : r < 10000
  · refine fin 2 [48 + r / 10 / 10 / 10, 48 + r / 10 / 10 % 10, 48 + r / 10 % 10, 48 + r % 10] (by rw [numL_step (by omega), numL_step (by omega), numL_step (by omega), numL_lt (by omega)]; rfl) rfl ?_
    simp only [pad6, List.replicate, List.cons_append, List.nil_append, List.cons.injEq, and_true]
    omega
  by_cases h5 : r < 100000
  · refine fin 1 [48 + r / 10 / 10 / 10 / 10, 48 + r / 10 / 10 / 10 % 10, 48 + r / 10 / 10 % 10, 48 + r / 10 % 10, 48 + r % 10] (by rw [numL_step (by omega), numL_step (by omega), numL_step (by omega), numL_step (by omega), numL_lt (by omega)]; rfl) rfl ?_
    simp only [pad6, List.replicate, List.cons_append, List.nil_append, List.cons.injEq, and_true]
    omega
  · refine fin 0 [48 + r / 10 / 10 / 10 / 10 / 10, 48 + r / 10 / 10 / 10 / 10 % 10, 48 + r / 10 / 10 / 10 % 10, 48 + r / 10 / 10 % 10, 48 + r / 10 % 10, 48 + r % 10] (by rw [numL_step (by omega), numL_step (by omega), numL_step (by omega), numL_step (by omega), numL_step (by omega), numL_lt (by omega)]; rfl) rfl ?_
    simp only [pad6, List.replicate, List.cons_append, List.nil_append, List.cons.injEq, and_true]
    omega
theorem pad6_digits (r : Nat) : AllDigits (pad6 r) := fun c hc => by
  simp only [pad6, List.mem_cons, List.not_mem_nil, or_false] at hc
  omega
theorem val_app (a b : List Nat) : digitsVal (a ++ b) = digitsVal a * 10 ^ b.length + digitsVal b := by
  have key : ∀ (b : List Nat) (s : Nat), b.foldl (fun acc c => acc * 10 + (c - 48)) s = s * 10 ^ b.length + b.foldl (fun acc c => acc * 10 + (c - 48)) 0 := by
    intro b
    induction b with
    | nil => intro s; simp
    | cons c b ih =>
      intro s
      rw [List.foldl_cons, List.foldl_cons, ih, ih (0 * 10 + (c - 48)), List.length_cons, Nat.pow_succ, Nat.add_mul, Nat.zero_mul, Nat.zero_add, Nat.mul_assoc, Nat.mul_comm 10, Nat.add_assoc]
  unfold digitsVal
  rw [List.foldl_append, key]
theorem val_pad6 {r : Nat} (h : r < 1000000) : digitsVal (pad6 r) = r := by
  simp only [digitsVal, pad6, List.foldl_cons, List.foldl_nil]
  omega
theorem val_noughts : ∀ n : Nat, digitsVal (List.replicate n 48) = 0
  | 0 => rfl
  | n + 1 => by
    rw [List.replicate_succ']
    rw [val_app, val_noughts n]
    rfl

/-- the signs of an amount -/
def showL (m : Int) : List Nat := (if m < 0 then [45] else []) ++ (numL (m.natAbs / 1000000) ++ (if m.natAbs % 1000000 = 0 then [] else 46 :: zt (pad6 (m.natAbs % 1000000))))
def readN (neg : Bool) (s : Int) : V := if 1000000000000000000000 ≤ s then .non else .int (if neg = true then -s else s)
def readP (neg : Bool) (P : Str × Str × Str) : V :=
  if figs (tl P.1) 15 = false then .non
  else if P.2.1 ≠ Str.empty ∧ figs (tl P.2.2) 12 = false then .non
  else readN neg (near (digitsVal (tl P.1 ++ tl P.2.2 ++ List.replicate (12 - (tl P.2.2).length) 48) : Nat) 1000000)
def unS (u : Str) : Str := if Txt.startswith u (S [45]) = true ∨ Txt.startswith u (S [43]) = true then cutS u (some 1) none else u
/-- the amount that a text tells, or none -/
def readV (z : Str) : V := readP (Txt.startswith (Txt.stripChars z (S [32])) (S [45])) (Txt.partition (unS (Txt.stripChars z (S [32]))) (S [46]))
theorem part_cases (u : Str) : (Txt.partition u (S [46])).2.1 = S [46] ∨ ((Txt.partition u (S [46])).2.1 = Str.empty ∧ (Txt.partition u (S [46])).2.2 = Str.empty) := by
  unfold Txt.partition
  split
  · exact Or.inl rfl
  · exact Or.inr ⟨rfl, rfl⟩
theorem near_exact (k : Int) : near (k * 1000000) 1000000 = k := by
  unfold near
  (repeat' split) <;> omega
theorem zt_sub {l : List Nat} {c : Nat} (h : c ∈ zt l) : c ∈ l := List.mem_of_mem_take h
theorem zt_len (l : List Nat) : (zt l).length ≤ l.length := by
  unfold zt
  rw [List.length_take]
  omega
theorem zt_ne {r : Nat} (h : r < 1000000) (h0 : r ≠ 0) : zt (pad6 r) ≠ [] := fun e => by
  have b := zt_back (pad6 r)
  rw [e, List.nil_append] at b
  have v := val_pad6 h
  rw [b, val_noughts] at v
  exact h0 v.symm
theorem figs_ok {l : List Nat} {k : Nat} (hd : AllDigits l) (h1 : l ≠ []) (h2 : l.length ≤ k) : figs l (k : Int) = true := by
  have h3 : 1 ≤ l.length := by
    cases l with
    | nil => exact absurd rfl h1
    | cons a l => exact Nat.succ_le_succ (Nat.zero_le _)
  unfold figs
  rw [digits_all hd, decide_eq_true h3, decide_eq_true (show (l.length : Int) ≤ (k : Int) by omega)]
  rfl
theorem head_num (w : Nat) : ∃ d l, numL w = d :: l ∧ 48 ≤ d ∧ d ≤ 57 := by
  have a := numL_digits w
  cases e : numL w with
  | nil => exact absurd e (numL_ne w)
  | cons d l =>
    rw [e] at a
    exact ⟨d, l, rfl, a.head⟩
theorem read_body {w r : Nat} (hw : w < 1000000000000000) (hr : r < 1000000) (neg : Bool) :
    readP neg (Txt.partition (S (numL w ++ (if r = 0 then [] else 46 :: zt (pad6 r)))) (S [46])) = .int (if neg = true then -((w * 1000000 + r : Nat) : Int) else ((w * 1000000 + r : Nat) : Int)) := by
  have dw := numL_digits w
  have lw : (numL w).length ≤ 15 := numL_len (by decide) (by rw [show (10 : Nat) ^ 15 = 1000000000000000 by decide]; exact hw)
  have hfree : (46 : Nat) ∉ numL w := numL_free (by omega)
  have fw : figs (numL w) 15 = true := figs_ok dw (numL_ne w) lw
  have fin : ∀ P : Str × Str × Str, tl P.1 = numL w → (P.2.1 = Str.empty ∨ figs (tl P.2.2) 12 = true) → digitsVal (tl P.1 ++ tl P.2.2 ++ List.replicate (12 - (tl P.2.2).length) 48) = (w * 1000000 + r) * 1000000 →
      readP neg P = .int (if neg = true then -((w * 1000000 + r : Nat) : Int) else ((w * 1000000 + r : Nat) : Int)) := fun P e1 e2 e3 => by
    unfold readP
    rw [e3, e1, if_neg (by rw [fw]; decide), if_neg (fun z => by
      rcases e2 with e2 | e2
      · exact z.1 e2
      · rw [e2] at z
        cases z.2), Int.natCast_mul, show ((1000000 : Nat) : Int) = 1000000 from rfl, near_exact]
    unfold readN
    rw [if_neg (by omega)]
  by_cases h0 : r = 0
  · rw [if_pos h0, List.append_nil, TL.partition_none (y := S [46]) (s := 46) (S := []) rfl (a := S (numL w)) hfree]
    refine fin _ rfl (Or.inl rfl) ?_
    show digitsVal (numL w ++ [] ++ List.replicate 12 48) = _
    rw [List.append_nil, val_app, val_noughts, numL_val, List.length_replicate, h0]
    omega
  · have e : S (numL w ++ (46 :: zt (pad6 r))) = S (numL w) ++ S [46] ++ S (zt (pad6 r)) := by
      rw [S_cat, S_cat, List.append_assoc]
      rfl
    rw [if_neg h0, e, TL.partition_app (y := S [46]) (s := 46) (S := []) rfl (a := S (numL w)) hfree]
    have lz : (zt (pad6 r)).length ≤ 6 := zt_len (pad6 r)
    refine fin _ rfl (Or.inr (figs_ok (fun c hc => pad6_digits r c (zt_sub hc)) (zt_ne hr h0) (show (zt (pad6 r)).length ≤ 12 by omega))) ?_
    show digitsVal (numL w ++ zt (pad6 r) ++ List.replicate (12 - (zt (pad6 r)).length) 48) = _
    have b : zt (pad6 r) ++ List.replicate (12 - (zt (pad6 r)).length) 48 = pad6 r ++ List.replicate 6 48 := by
      conv => rhs; rw [zt_back (pad6 r)]
      rw [List.append_assoc, List.replicate_append_replicate]
      have l6 : (pad6 r).length = 6 := rfl
      rw [l6, show 6 - (zt (pad6 r)).length + 6 = 12 - (zt (pad6 r)).length by omega]
    rw [List.append_assoc, b, val_app, val_app, val_noughts, val_pad6 hr, numL_val, List.length_append, List.length_replicate, show (pad6 r).length = 6 from rfl]
    omega
/-- what was written is read back -/
theorem read_show {m : Int} (h : -1000000000000000000000 < m ∧ m < 1000000000000000000000) : readV (S (showL m)) = .int m := by
  have hw : m.natAbs / 1000000 < 1000000000000000 := by omega
  have hr : m.natAbs % 1000000 < 1000000 := by omega
  have body := read_body hw hr
  obtain ⟨d, l, en, d1, d2⟩ := head_num (m.natAbs / 1000000)
  have nd := numL_digits (m.natAbs / 1000000)
  have free : (32 : Nat) ∉ showL m := fun z => by
    unfold showL at z
    rcases List.mem_append.mp z with z | z
    · split at z
      · simp at z
      · cases z
    · rcases List.mem_append.mp z with z | z
      · have := nd 32 z
        omega
      · split at z
        · cases z
        · rcases List.mem_cons.mp z with z | z
          · omega
          · have := pad6_digits _ 32 (zt_sub z)
            omega
  unfold readV
  rw [strip_free free, starts_S]
  unfold unS
  rw [starts_S, starts_S]
  by_cases hm : m < 0
  · have e : showL m = 45 :: (numL (m.natAbs / 1000000) ++ (if m.natAbs % 1000000 = 0 then [] else 46 :: zt (pad6 (m.natAbs % 1000000)))) := by
      unfold showL
      rw [if_pos hm]
      rfl
    rw [e, List.head?_cons, decide_eq_true rfl, if_pos (Or.inl rfl), cut_one, List.drop_one, List.tail_cons, body true, if_pos rfl]
    refine congrArg V.int ?_
    omega
  · have e : showL m = numL (m.natAbs / 1000000) ++ (if m.natAbs % 1000000 = 0 then [] else 46 :: zt (pad6 (m.natAbs % 1000000))) := by
      unfold showL
      rw [if_neg hm]
      rfl
    have eh : (showL m).head? = some d := by
      rw [e, en]
      rfl
    rw [eh, decide_eq_false (fun z => by have := Option.some.inj z; omega), decide_eq_false (fun z => by have := Option.some.inj z; omega), if_neg (by simp), e, body false, if_neg (by simp)]
    refine congrArg V.int ?_
    omega

theorem tens : tl (Str.ofString "0123456789") = [48, 49, 50, 51, 52, 53, 54, 55, 56, 57] := by decide +kernel
theorem mem_tens {c : Nat} : c ∈ (Str.ofString "0123456789").cps.toList ↔ isD c = true := by
  rw [show (Str.ofString "0123456789").cps.toList = [48, 49, 50, 51, 52, 53, 54, 55, 56, 57] from tens, isD_iff]
  simp only [List.mem_cons, List.not_mem_nil, or_false]
  omega
theorem find_tens : ∀ c : Nat, 48 ≤ c → c ≤ 57 → Txt.find (Str.ofString "0123456789") ⟨#[c]⟩ = (c : Int) - 48 := fun c h1 h2 => by
  have e : c = 48 ∨ c = 49 ∨ c = 50 ∨ c = 51 ∨ c = 52 ∨ c = 53 ∨ c = 54 ∨ c = 55 ∨ c = 56 ∨ c = 57 := by omega
  rcases e with rfl | rfl | rfl | rfl | rfl | rfl | rfl | rfl | rfl | rfl <;> decide +kernel
theorem figs_len {l : List Nat} {most : Int} (h : (l.length : Int) < 1 ∨ most < (l.length : Int)) : figs l most = false := by
  unfold figs
  rcases h with h | h
  · rw [decide_eq_false (show ¬ 1 ≤ l.length by omega), Bool.and_false, Bool.false_and]
  · rw [decide_eq_false (show ¬ (l.length : Int) ≤ most by omega), Bool.and_false]
theorem figs_bad {l : List Nat} {most : Int} {i c : Nat} (h : l[i]? = some c) (hc : ¬ isD c = true) : figs l most = false := by
  unfold figs
  have e : l.all isD = false := Bool.eq_false_iff.mpr fun k => hc (List.all_eq_true.mp k c (List.mem_of_getElem? h))
  rw [e, Bool.false_and, Bool.false_and]
theorem figs_good {l : List Nat} {most : Int} (h : ∀ (i c : Nat), l[i]? = some c → isD c = true) (h1 : ¬ (l.length : Int) < 1) (h2 : ¬ most < (l.length : Int)) : figs l most = true := by
  unfold figs
  have e : l.all isD = true := List.all_eq_true.mpr fun c hc => by
    obtain ⟨i, hi⟩ := List.getElem?_of_mem hc
    exact h i c hi
  rw [e, decide_eq_true (show 1 ≤ l.length by omega), decide_eq_true (show (l.length : Int) ≤ most by omega)]
  rfl
theorem str_nat {k : Int} {w : Nat} (h : k = (w : Int)) : Str.ofString (toString k) = S (numL w) := by
  rw [h]
  exact num_S w
theorem log_small {k : Int} (h : -1267650600228229401496703205376 < k ∧ k < 1267650600228229401496703205376) : k.natAbs.log2 < 1920 := by
  have e : (2 : Nat) ^ 100 = 1267650600228229401496703205376 := by decide
  exact Nat.lt_trans (PySem.Flt.log2_lt_of (by decide) (show k.natAbs < 2 ^ 100 by rw [e]; omega)) (by decide)
theorem numL_short {w : Nat} (h : w < 1000000000000000000000000) : (numL w).length ≤ 24 := numL_len (by decide) (by rw [show (10 : Nat) ^ 24 = 1000000000000000000000000 by decide]; exact h)

theorem hl1 {z : Str} (h : z.length ≤ 100000) : z.length ≤ sizeLine := Nat.le_trans h (by decide)
theorem hl2 {z : Str} (h : z.length ≤ 200000) : z.length ≤ sizeLine := Nat.le_trans h (by decide)
theorem hl3 {z y : Str} (h : z.length ≤ 100000) : (Txt.stripChars z y).length ≤ 100000 := Nat.le_trans (len_stripChars _ _) h
theorem hl4 {z : Str} {a b : Option Int} (h : z.length ≤ 100000) : (cutS z a b).length ≤ 100000 := Nat.le_trans (cutS_length _ _ _) h

theorem part_len (u y : Str) : (Txt.partition u y).1.length ≤ u.length ∧ (Txt.partition u y).2.2.length ≤ u.length := by
  have sub : ∀ i j, (Builtin.Str.strSub u i j).length ≤ u.length := fun i j => by
    rw [len_tl, len_tl, tl_strSub, List.length_take, List.length_drop]
    omega
  unfold Txt.partition
  split
  · exact ⟨sub _ _, sub _ _⟩
  · exact ⟨Nat.le_refl _, Nat.zero_le _⟩
theorem readV_1 {z : Str} (h : Txt.startswith (Txt.stripChars z (S [32])) (S [45]) = true) : readV z = readP true (Txt.partition (cutS (Txt.stripChars z (S [32])) (some 1) none) (S [46])) := by
  unfold readV unS
  rw [h, if_pos (Or.inl rfl)]
theorem readV_2 {z : Str} (h : ¬ Txt.startswith (Txt.stripChars z (S [32])) (S [45]) = true) (h2 : Txt.startswith (Txt.stripChars z (S [32])) (S [43]) = true) : readV z = readP false (Txt.partition (cutS (Txt.stripChars z (S [32])) (some 1) none) (S [46])) := by
  unfold readV unS
  rw [Bool.eq_false_iff.mpr h, h2, if_pos (Or.inr rfl)]
theorem readV_3 {z : Str} (h : ¬ Txt.startswith (Txt.stripChars z (S [32])) (S [45]) = true) (h2 : ¬ Txt.startswith (Txt.stripChars z (S [32])) (S [43]) = true) : readV z = readP false (Txt.partition (Txt.stripChars z (S [32])) (S [46])) := by
  unfold readV unS
  rw [Bool.eq_false_iff.mpr h, Bool.eq_false_iff.mpr h2, if_neg (by decide)]
theorem readP_bad1 {b : Bool} {P : Str × Str × Str} (h : ¬ figs (tl P.1) 15 = true) : readP b P = .non := by
  unfold readP
  rw [if_pos (Bool.eq_false_iff.mpr h)]
theorem readP_bad2 {b : Bool} {P : Str × Str × Str} (h1 : ¬ P.2.1 = Str.empty) (h : ¬ figs (tl P.2.2) 12 = true) : readP b P = .non := by
  unfold readP
  split
  · rfl
  · rw [if_pos ⟨h1, Bool.eq_false_iff.mpr h⟩]
def worthP (P : Str × Str × Str) : Nat := digitsVal (tl P.1 ++ tl P.2.2 ++ List.replicate (12 - (tl P.2.2).length) 48)
theorem readP_good {b : Bool} {P : Str × Str × Str} (h : figs (tl P.1) 15 = true) (h2 : P.2.1 = Str.empty ∨ figs (tl P.2.2) 12 = true) : readP b P = readN b (near (worthP P : Nat) 1000000) := by
  unfold readP
  rw [if_neg (by rw [h]; decide), if_neg (fun z => by
    rcases h2 with h2 | h2
    · exact z.1 h2
    · rw [h2] at z
      cases z.2)]
  rfl
theorem figs_out {l : List Nat} {k : Int} (h : figs l k = true) : AllDigits l ∧ 1 ≤ l.length ∧ (l.length : Int) ≤ k := by
  unfold figs at h
  rw [Bool.and_eq_true, Bool.and_eq_true, decide_eq_true_eq, decide_eq_true_eq] at h
  exact ⟨all_digits h.1.1, h.1.2, h.2⟩
theorem just_tl (z : Str) : tl (Txt.ljustF z 12 48) = tl z ++ List.replicate (12 - (tl z).length) 48 := by
  unfold Txt.ljustF
  have e := len_tl z
  by_cases h : (12 : Int) ≤ (z.length : Int)
  · rw [if_pos h, show 12 - (tl z).length = 0 by omega]
    exact (List.append_nil _).symm
  · rw [if_neg h, e]
    show (Array.replicate 0 48 ++ z.cps ++ Array.replicate ((12 : Int).toNat - (tl z).length) 48).toList = _
    simp [tl]
theorem behind_ok {P : Str × Str × Str} (hc : P.2.1 = S [46] ∨ (P.2.1 = Str.empty ∧ P.2.2 = Str.empty)) (h2 : P.2.1 = Str.empty ∨ figs (tl P.2.2) 12 = true) : AllDigits (tl P.2.2) ∧ (tl P.2.2).length ≤ 12 := by
  rcases h2 with h2 | h2
  · rcases hc with hc | hc
    · rw [hc] at h2
      exact absurd (congrArg tl h2) (fun z => nomatch z)
    · rw [hc.2]
      exact ⟨fun c hc => (nomatch hc), Nat.zero_le _⟩
  · have f := figs_out h2
    exact ⟨f.1, by omega⟩
theorem worth_text {P : Str × Str × Str} (hc : P.2.1 = S [46] ∨ (P.2.1 = Str.empty ∧ P.2.2 = Str.empty)) (h : figs (tl P.1) 15 = true) (h2 : P.2.1 = Str.empty ∨ figs (tl P.2.2) 12 = true) :
    intText? (P.1 ++ Txt.ljustF P.2.2 12 48) = some ((worthP P : Nat) : Int) ∧ (P.1 ++ Txt.ljustF P.2.2 12 48).length ≤ 27 ∧ P.1.length ≤ 15 ∧ (Txt.ljustF P.2.2 12 48).length ≤ 12 := by
  have f := figs_out h
  have b := behind_ok hc h2
  have e : tl (P.1 ++ Txt.ljustF P.2.2 12 48) = tl P.1 ++ tl P.2.2 ++ List.replicate (12 - (tl P.2.2).length) 48 := by
    rw [tl_append, just_tl, List.append_assoc]
  have l2 : (Txt.ljustF P.2.2 12 48).length = 12 := by
    rw [len_tl, just_tl, List.length_append, List.length_replicate]
    omega
  have l1 : P.1.length = (tl P.1).length := len_tl _
  have l : (P.1 ++ Txt.ljustF P.2.2 12 48).length ≤ 27 := by
    rw [Str.length_append]
    omega
  refine ⟨?_, l, by omega, by omega⟩
  have d := intText_digits (x := P.1 ++ Txt.ljustF P.2.2 12 48) (fun c hc => by
    rw [show (P.1 ++ Txt.ljustF P.2.2 12 48).cps.toList = _ from e] at hc
    rcases List.mem_append.mp hc with hc | hc
    · rcases List.mem_append.mp hc with hc | hc
      · exact f.1 c hc
      · exact b.1 c hc
    · rw [List.eq_of_mem_replicate hc]
      decide) (fun z => by
    have z2 := congrArg List.length z
    rw [show (P.1 ++ Txt.ljustF P.2.2 12 48).cps.toList = _ from e, List.length_append, List.length_append] at z2
    have z3 : (tl P.1).length + (tl P.2.2).length + _ = 0 := z2
    omega) (by omega)
  rw [show (P.1 ++ Txt.ljustF P.2.2 12 48).cps.toList = _ from e] at d
  exact d
theorem near_nn {a : Int} (h : 0 ≤ a) : 0 ≤ near a 1000000 := by
  unfold near
  (repeat' split) <;> omega

theorem ne_empty {a : Str} : (!decide (V.str a = V.str (Str.ofString ""))) = true ↔ ¬ a = Str.empty := by
  rw [e_none, str_empty, Bool.not_eq_true', decide_eq_false_iff_not]
  exact ⟨fun h z => h (congrArg V.str z), fun h z => h (V.str.inj z)⟩

theorem show_S (m : Int) : S (showL m) = (if m < 0 then S [45] else S []) ++ (S (numL (m.natAbs / 1000000)) ++ (if m.natAbs % 1000000 = 0 then S [] else S [46] ++ S (zt (pad6 (m.natAbs % 1000000))))) := by
  unfold showL
  by_cases h : m < 0
  · by_cases k : m.natAbs % 1000000 = 0
    · rw [if_pos h, if_pos h, if_pos k, if_pos k]; simp only [S_cat]
    · rw [if_pos h, if_pos h, if_neg k, if_neg k]; simp only [S_cat]; rfl
  · by_cases k : m.natAbs % 1000000 = 0
    · rw [if_neg h, if_neg h, if_pos k, if_pos k]; simp only [S_cat]
    · rw [if_neg h, if_neg h, if_neg k, if_neg k]; simp only [S_cat]; rfl
theorem rest_zero : zt (pad6 0) = [] := by decide +kernel
theorem nots {b : Bool} (h : ¬ (!b) = true) : b = true := by simpa using h
theorem readN_in {b : Bool} {s : Int} (h : s < 1000000000000000000000) : readN b s = .int (if b = true then -s else s) := if_neg (by omega)
theorem readN_out {b : Bool} {s : Int} (h : ¬ s < 1000000000000000000000) : readN b s = .non := if_pos (by omega)

theorem val_bound : ∀ {l : List Nat}, AllDigits l → digitsVal l < 10 ^ l.length := by
  have key : ∀ (l : List Nat) (s : Nat), AllDigits l → l.foldl (fun acc c => acc * 10 + (c - 48)) s < (s + 1) * 10 ^ l.length := by
    intro l
    induction l with
    | nil => intro s _; simp
    | cons c l ih =>
      intro s h
      have hc := h.head
      rw [List.foldl_cons, List.length_cons, Nat.pow_succ]
      refine Nat.lt_of_lt_of_le (ih _ h.tail) ?_
      rw [Nat.mul_comm (10 ^ l.length) 10, ← Nat.mul_assoc]
      exact Nat.mul_le_mul_right _ (by omega)
  intro l h
  have a := key l 0 h
  rw [Nat.zero_add, Nat.one_mul] at a
  exact a
theorem val_step {l : List Nat} {i c : Nat} (h : l[i]? = some c) : digitsVal (l.take (i + 1)) = digitsVal (l.take i) * 10 + (c - 48) := by
  obtain ⟨hi, e⟩ := List.getElem?_eq_some_iff.mp h
  rw [List.take_succ_eq_append_getElem hi, val_app, e]
  show _ * 10 ^ 1 + (0 * 10 + (c - 48)) = _
  omega
def allP (P : Str × Str × Str) : Str := P.1 ++ P.2.2 ++ repS (Str.ofString "0") ((12 : Int) - (P.2.2.length : Int)).toNat
theorem allP_tl (P : Str × Str × Str) : tl (allP P) = tl P.1 ++ tl P.2.2 ++ List.replicate (12 - (tl P.2.2).length) 48 := by
  unfold allP
  rw [tl_append, tl_append, e_zero, len_tl P.2.2, show ((12 : Int) - ((tl P.2.2).length : Int)).toNat = 12 - (tl P.2.2).length by omega]
  refine congrArg (fun z => tl P.1 ++ tl P.2.2 ++ z) ?_
  show (List.replicate (12 - (tl P.2.2).length) [48]).flatten = _
  generalize 12 - (tl P.2.2).length = n
  induction n with
  | zero => rfl
  | succ n ih => rw [List.replicate_succ, List.flatten_cons, ih, List.replicate_succ]; rfl
theorem allP_ok {P : Str × Str × Str} (hc : P.2.1 = S [46] ∨ (P.2.1 = Str.empty ∧ P.2.2 = Str.empty)) (h : figs (tl P.1) 15 = true) (h2 : P.2.1 = Str.empty ∨ figs (tl P.2.2) 12 = true) :
    AllDigits (tl (allP P)) ∧ digitsVal (tl (allP P)) = worthP P ∧ (worthP P : Int) < 1000000000000000000000000000000 ∧ (tl P.1).length ≤ 15 ∧ (tl P.2.2).length ≤ 12 := by
  have f := figs_out h
  have b := behind_ok hc h2
  have d : AllDigits (tl (allP P)) := fun c hc => by
    rw [allP_tl] at hc
    rcases List.mem_append.mp hc with hc | hc
    · rcases List.mem_append.mp hc with hc | hc
      · exact f.1 c hc
      · exact b.1 c hc
    · rw [List.eq_of_mem_replicate hc]
      decide
  have e : digitsVal (tl (allP P)) = worthP P := congrArg digitsVal (allP_tl P)
  refine ⟨d, e, ?_, by omega, b.2⟩
  have v := val_bound d
  rw [e] at v
  have l : (tl (allP P)).length ≤ 27 := by
    rw [allP_tl, List.length_append, List.length_append, List.length_replicate]
    omega
  have v2 : worthP P < 10 ^ 27 := Nat.lt_of_lt_of_le v (Nat.pow_le_pow_right (by decide) l)
  rw [show (10 : Nat) ^ 27 = 1000000000000000000000000000 by decide] at v2
  omega
theorem head_is {u : Str} {c : Nat} (h : V.str (cutS u none (some 1)) = V.str (S [c])) : Txt.startswith u (S [c]) = true := (head_starts u c).symm.trans (decide_eq_true h)
theorem head_not {u : Str} {c : Nat} (h : ¬ V.str (cutS u none (some 1)) = V.str (S [c])) : ¬ Txt.startswith u (S [c]) = true := by
  rw [← head_starts u c]
  exact fun z => h (of_decide_eq_true z)

theorem show_len {m : Int} (h : -1000000000000000000000 < m ∧ m < 1000000000000000000000) : (S (showL m)).length ≤ 40 := by
  rw [S_len]
  unfold showL
  have n1 : (numL (m.natAbs / 1000000)).length ≤ 24 := numL_short (by omega)
  have n2 := zt_len (pad6 (m.natAbs % 1000000))
  have n3 : (pad6 (m.natAbs % 1000000)).length = 6 := rfl
  rw [List.length_append, List.length_append]
  split <;> split <;> simp only [List.length_cons, List.length_nil] <;> omega

theorem readP_kind (b : Bool) (P : Str × Str × Str) : readP b P = .non ∨ ∃ s : Int, readP b P = .int s ∧ (-1000000000000000000000 < s ∧ s < 1000000000000000000000) := by
  unfold readP
  split
  · exact Or.inl rfl
  · split
    · exact Or.inl rfl
    · have nn := near_nn (a := (digitsVal (tl P.1 ++ tl P.2.2 ++ List.replicate (12 - (tl P.2.2).length) 48) : Nat)) (Int.natCast_nonneg _)
      unfold readN
      split
      · exact Or.inl rfl
      · refine Or.inr ⟨_, rfl, ?_⟩
        split <;> omega
theorem readV_kind (z : Str) : readV z = .non ∨ ∃ s : Int, readV z = .int s ∧ (-1000000000000000000000 < s ∧ s < 1000000000000000000000) := readP_kind _ _

theorem op_modL {X : Cx} : OpR X (binaryOp .Mod) (fun x y H Q => ∃ i j, x = .int i ∧ y = .int j ∧ 0 < j ∧ ∀ d : Int, 0 ≤ d → d < j → Q (.int d) H) := fun pins s σ H x y v u Q I rx ry hq => by
  obtain ⟨i, j, ex, ey, hc, q⟩ := hq
  exact op_mod pins s σ H x y v u Q I rx ry ⟨i, j, ex, ey, hc, q _ (Int.emod_nonneg _ (by omega)) (Int.emod_lt_of_pos _ hc)⟩
theorem ixS_go {z : Str} {i : Int} {H : Hp} {Q : VK} (h : z.length ≤ 100000) (h0 : 0 ≤ i) (h1 : i < (z.length : Int)) (q : ∀ c, Q (.str ⟨#[c]⟩) H) : rIxS (.str z) (.int i) H Q := by
  obtain ⟨c, _, e⟩ := atI_some (xs := z.cps.toList) h0 (by rw [← len_tl]; exact h1)
  exact ⟨z, i, c, rfl, rfl, hl1 h, e, q c⟩
theorem joinL_len : ∀ ls : List (List Nat), (TL.joinL [] ls).length = (ls.map List.length).sum
  | [] => rfl
  | [x] => by simp [TL.joinL]
  | x :: y :: ls => by
    have e : TL.joinL [] (x :: y :: ls) = x ++ [] ++ TL.joinL [] (y :: ls) := by first | rfl | simp [TL.joinL]
    rw [e, List.length_append, List.append_nil, joinL_len (y :: ls)]
    simp
theorem sum_le {n : Nat} : ∀ {zs : List Str}, (∀ z ∈ zs, z.length ≤ n) → (zs.map (·.length)).sum ≤ n * zs.length
  | [], _ => Nat.zero_le _
  | z :: zs, h => by
    rw [List.map_cons, List.sum_cons, List.length_cons, Nat.mul_succ]
    have a := sum_le (fun y hy => h y (List.mem_cons_of_mem _ hy))
    have b := h z (List.mem_cons_self ..)
    omega
theorem join_len {n : Nat} {zs : List Str} (h : ∀ z ∈ zs, z.length ≤ n) : (Txt.join (Str.ofString "") zs).length ≤ n * zs.length := by
  rw [len_tl, TL.join_eq, TL.tl_join, e_none, joinL_len, List.map_map]
  exact Nat.le_trans (Nat.le_of_eq (congrArg List.sum (List.map_congr_left fun z _ => (len_tl z).symm))) (sum_le h)
theorem join_sum {n : Nat} {zs : List Str} (h : ∀ z ∈ zs, z.length ≤ n) : (zs.map (·.length)).sum + zs.length * (Str.ofString "").length ≤ n * zs.length := by
  rw [show (Str.ofString "").length = 0 from by decide +kernel, Nat.mul_zero, Nat.add_zero]
  exact sum_le h
theorem more_map (zs : List Str) (ch : Nat) : zs.map V.str ++ [V.str ⟨#[ch]⟩] = (zs ++ [(⟨#[ch]⟩ : Str)]).map V.str := by
  rw [List.map_append]
  rfl
theorem more_one {zs : List Str} {ch : Nat} (h : ∀ z ∈ zs, z.length ≤ 1) : ∀ z ∈ zs ++ [(⟨#[ch]⟩ : Str)], z.length ≤ 1 := fun z hm => by
  rcases List.mem_append.mp hm with hm | hm
  · exact h z hm
  · rw [List.mem_singleton.mp hm]
    exact Nat.le_refl _
theorem more_len {zs : List Str} {ch i : Nat} (h : zs.length ≤ i) : (zs ++ [(⟨#[ch]⟩ : Str)]).length ≤ i + 1 := by
  rw [List.length_append, List.length_singleton]
  omega
theorem tens_len : (Str.ofString "0123456789").length = 10 := by decide +kernel

theorem La {A B : Str} {a b : Nat} (h : A.length ≤ a) (k : B.length ≤ b) : (A ++ B).length ≤ a + b := by
  rw [Str.length_append]
  omega
theorem Lc {z : Str} {x y : Option Int} {n : Nat} (h : z.length ≤ n) : (cutS z x y).length ≤ n := Nat.le_trans (cutS_length _ _ _) h
theorem Lr {z : Str} {k : Int} (n : Nat) (h : z.length ≤ 1) (hk : k ≤ (n : Int)) : (repS z k.toNat).length ≤ n := by
  rw [repS_len]
  exact Nat.le_trans (Nat.mul_le_mul_right _ h) (by omega)
theorem c_one (c : Nat) : (⟨#[c]⟩ : Str).length ≤ 1 := Nat.le_refl 1

theorem pe_bm0k {X : Cx} {K : PySem.W.Frag} {T name id : String} {r : V → List V → Hp → VK → Prop} {o : Expr} {to : TE} {apos cpos : Pos} (ek : X.K = K) (pa : PlainAttrs T) (slot : Slot T name id) (hty : typeOf (.builtin id) = pure (.type "method_descriptor")) (hm : MtR X id r) (ho : PE X o to)
    (hb : attributeBase o name X.env (eval o X.env) = eval o X.env := by rfl) (hl : (apos.endLine == cpos.line) = true := by rfl) : PE X (.Call (.Attribute o name apos) [] [] cpos) (tBM0 K T r to) := ek ▸ pe_bm0 pa slot hty hm ho hb hl
/-- signs below 128 -/
def Asc (z : Str) : Prop := ∀ c ∈ tl z, c < 128
theorem Asc.app {a b : Str} (h : Asc a) (k : Asc b) : Asc (a ++ b) := fun c hc => by
  rw [TL.tl_append] at hc
  rcases List.mem_append.mp hc with hc | hc
  · exact h c hc
  · exact k c hc
theorem Asc.cut {a : Str} {x y : Option Int} (h : Asc a) : Asc (cutS a x y) := fun c hc => by
  have e : tl (cutS a x y) = ((a.cps.toList.drop (HT.sIx a.length 0 x)).take (HT.sIx a.length a.length y - HT.sIx a.length 0 x)) := rfl
  rw [e] at hc
  exact h c (List.mem_of_mem_drop (List.mem_of_mem_take hc))
theorem Asc.rep {a : Str} {n : Nat} (h : Asc a) : Asc (repS a n) := fun c hc => by
  have e : tl (repS a n) = (List.replicate n (tl a)).flatten := rfl
  rw [e] at hc
  obtain ⟨l, hl, hc⟩ := List.mem_flatten.mp hc
  rw [(List.mem_replicate.mp hl).2] at hc
  exact h c hc
theorem Asc.one {c : Nat} (h : c < 128) : Asc ⟨#[c]⟩ := fun d hd => by
  rw [List.mem_singleton.mp (show d ∈ [c] from hd)]
  exact h
theorem Asc.at {a : Str} {i c : Nat} (h : Asc a) (e : a.cps.toList[i]? = some c) : c < 128 := h c (List.mem_of_getElem? e)
theorem asc_lit {z : Str} (h : (tl z).all (· < 128) = true) : Asc z := fun c hc => of_decide_eq_true (List.all_eq_true.mp h c hc)
theorem mem_joinL : ∀ {ls : List (List Nat)} {c : Nat}, c ∈ TL.joinL [] ls → ∃ l ∈ ls, c ∈ l
  | [], c, h => by cases h
  | [x], c, h => ⟨x, List.mem_cons_self .., by simpa [TL.joinL] using h⟩
  | x :: y :: ls, c, h => by
    have e : TL.joinL [] (x :: y :: ls) = x ++ [] ++ TL.joinL [] (y :: ls) := by first | rfl | simp [TL.joinL]
    rw [e, List.append_nil] at h
    rcases List.mem_append.mp h with h | h
    · exact ⟨x, List.mem_cons_self .., h⟩
    · obtain ⟨l, hl, k⟩ := mem_joinL h
      exact ⟨l, List.mem_cons_of_mem _ hl, k⟩
theorem tl_join0 (zs : List Str) : tl (Txt.join (Str.ofString "") zs) = TL.joinL [] (zs.map tl) := by
  rw [TL.join_eq, TL.tl_join, e_none]
theorem Asc.join {zs : List Str} (h : ∀ z ∈ zs, Asc z) : Asc (Txt.join (Str.ofString "") zs) := fun c hc => by
  rw [tl_join0] at hc
  obtain ⟨l, hl, k⟩ := mem_joinL hc
  obtain ⟨z, hz, rfl⟩ := List.mem_map.mp hl
  exact h z hz c k
theorem joinL_ones (f : Nat → Nat) : ∀ l : List Nat, TL.joinL [] (l.map fun c => [f c]) = l.map f
  | [] => rfl
  | [c] => by simp [TL.joinL]
  | c :: d :: l => by
    have e : TL.joinL [] ((c :: d :: l).map fun c => [f c]) = [f c] ++ [] ++ TL.joinL [] ((d :: l).map fun c => [f c]) := by first | rfl | simp [TL.joinL]
    rw [e, joinL_ones f (d :: l)]
    rfl
theorem join_ones (f : Nat → Nat) (l : List Nat) : Txt.join (Str.ofString "") (l.map fun c => (⟨#[f c]⟩ : Str)) = S (l.map f) := by
  refine ext_tl ?_
  rw [tl_join0, List.map_map]
  exact joinL_ones f l
theorem upper_tl {z : Str} (h : Asc z) : Txt.upper z = S ((tl z).map PyProof.Rows.up1) := by
  have e := upper_S (a := tl z) (List.all_eq_true.mpr fun c hc => decide_eq_true (h c hc))
  rw [S_tl z] at e
  exact e
theorem upper_one {c : Nat} (h : c < 128) : Txt.upper ⟨#[c]⟩ = ⟨#[PyProof.Rows.up1 c]⟩ := upper_tl (Asc.one h)
theorem lower_one {c : Nat} (h : c < 128) : Txt.lower ⟨#[c]⟩ = ⟨#[PyProof.Rows.lo1 c]⟩ := by
  have e := lower_S (a := [c]) (List.all_eq_true.mpr fun d hd => decide_eq_true (by rw [List.mem_singleton.mp hd]; exact h))
  exact e
theorem lo1_small {c : Nat} (h : c < 128) : PyProof.Rows.lo1 c < 128 := by
  unfold PyProof.Rows.lo1
  split <;> omega
theorem up1_small {c : Nat} (h : c < 128) : PyProof.Rows.up1 c < 128 := by
  unfold PyProof.Rows.up1
  split <;> omega
theorem upper_asc {z : Str} (h : Asc z) : Asc (Txt.upper z) := fun c hc => by
  rw [upper_tl h] at hc
  obtain ⟨d, hd, rfl⟩ := List.mem_map.mp (show c ∈ (tl z).map PyProof.Rows.up1 from hc)
  exact up1_small (h d hd)
theorem upper_len {z : Str} (h : Asc z) : (Txt.upper z).length = z.length := by
  rw [upper_tl h, S_len, List.length_map, len_tl]
theorem one_lt {c d : Nat} : ([c] : List Nat) < [d] ↔ c < d := by
  simp [List.cons_lt_cons_iff]
theorem sg_ge_a (c : Nat) : (!decide ((⟨#[c]⟩ : Str).cps.toList < (Str.ofString "a").cps.toList)) = decide (97 ≤ c) := by
  have e : (Str.ofString "a").cps.toList = [97] := by decide +kernel
  rw [e]
  show (!decide ([c] < [97])) = decide (97 ≤ c)
  by_cases h : c < 97
  · rw [decide_eq_true (one_lt.mpr h), decide_eq_false (by omega)]
    rfl
  · rw [decide_eq_false (fun z => h (one_lt.mp z)), decide_eq_true (by omega)]
    rfl
theorem sg_le_z (c : Nat) : (!decide ((Str.ofString "z").cps.toList < (⟨#[c]⟩ : Str).cps.toList)) = decide (c ≤ 122) := by
  have e : (Str.ofString "z").cps.toList = [122] := by decide +kernel
  rw [e]
  show (!decide ([122] < [c])) = decide (c ≤ 122)
  by_cases h : 122 < c
  · rw [decide_eq_true (one_lt.mpr h), decide_eq_false (by omega)]
    rfl
  · rw [decide_eq_false (fun z => h (one_lt.mp z)), decide_eq_true (by omega)]
    rfl
theorem up1_small_letter {c : Nat} (h : ¬ (97 ≤ c ∧ c ≤ 122)) : c = PyProof.Rows.up1 c := (if_neg h).symm
/-- an index into a text of such signs -/
theorem ixS_goA {z : Str} {i : Int} {H : Hp} {Q : VK} (ha : Asc z) (h : z.length ≤ 100000) (h0 : 0 ≤ i) (h1 : i < (z.length : Int)) (q : ∀ c, c < 128 → Q (.str ⟨#[c]⟩) H) : rIxS (.str z) (.int i) H Q := by
  obtain ⟨c, hc, e⟩ := atI_some (xs := z.cps.toList) h0 (by rw [← len_tl]; exact h1)
  exact ⟨z, i, c, rfl, rfl, hl1 h, e, q c (ha c hc)⟩
theorem show_asc (m : Int) : Asc (S (showL m)) := fun c hc => by
  have hc2 : c ∈ showL m := hc
  unfold showL at hc2
  rcases List.mem_append.mp hc2 with h | h
  · split at h
    · rw [List.mem_singleton.mp h]
      decide
    · cases h
  · rcases List.mem_append.mp h with h | h
    · have := TL.numL_digits _ c h
      omega
    · split at h
      · cases h
      · rcases List.mem_cons.mp h with rfl | h
        · decide
        · have := pad6_digits _ c (zt_sub h)
          omega
theorem more_asc {zs : List Str} {ch : Nat} (h : ∀ z ∈ zs, Asc z) (hc : ch < 128) : ∀ z ∈ zs ++ [(⟨#[ch]⟩ : Str)], Asc z := fun z hm => by
  rcases List.mem_append.mp hm with hm | hm
  · exact h z hm
  · rw [List.mem_singleton.mp hm]
    exact Asc.one hc
/-- an item of a tuple, whichever -/
theorem atT_go {K : PySem.W.Frag} {p : Addr} {xs : List V} {i : Int} {H : Hp} {Q : VK} (h : SqT K H p xs) (h0 : 0 ≤ i) (h1 : i < (xs.length : Int)) (q : ∀ v, v ∈ xs → Q v H) : rIxT K (.ref p) (.int i) H Q := by
  obtain ⟨v, hv, e⟩ := atI_mem h0 h1
  exact ⟨_, _, _, v, rfl, rfl, h, e, q v hv⟩
/-- a scalar by its kind -/
inductive Sc where
  | empty | num (m : Int) | tru (b : Bool) | txt (z : Str) | err (z : Str)
def Sc.vs : Sc → List V
  | .empty => [.str "empty"]
  | .num m => [.str "number", .int m]
  | .tru b => [.str "truth", .bl b]
  | .txt z => [.str "text", .str z]
  | .err z => [.str "error", .str z]
def Sc.ok : Sc → Prop
  | .num m => -1000000000000000000000 < m ∧ m < 1000000000000000000000
  | .txt z => z.length ≤ 2000 ∧ Asc z
  | .err z => z.length ≤ 20 ∧ Asc z
  | _ => True
theorem Sc.flat (s : Sc) : ∀ y ∈ s.vs, Flat3 y := by
  rcases s with _ | m | b | z | z
  all_goals (intro y hy; simp only [Sc.vs, List.mem_cons, List.not_mem_nil, or_false] at hy)
  · rw [hy]
    exact Or.inr (Or.inl ⟨_, rfl⟩)
  all_goals rcases hy with rfl | rfl
  all_goals first
    | exact Or.inr (Or.inl ⟨_, rfl⟩)
    | exact Or.inl ⟨_, rfl⟩
    | exact Or.inr (Or.inr ⟨_, rfl⟩)
theorem Sc.short (s : Sc) : s.vs.length ≤ 20 := by
  rcases s with _ | m | b | z | z
  all_goals exact Nat.le_of_ble_eq_true rfl

local macro_rules | `(tactic| walk_at "look") => `(tactic| first
  | exact upd_same
  | assumption
  | (refine (same_upd (by assumption)) _ _ ?_; walk_at "look"))
local macro_rules | `(tactic| walk_at "bat") => `(tactic| first
  | assumption
  | exact Bx.bat (by assumption)
  | (refine BoxAt.new ?_ (by assumption); walk_at "bat"))
local macro_rules | `(tactic| walk_at "bx") => `(tactic| first
  | assumption
  | exact Bx.refl (by assumption)
  | (refine Bx.new ?_ (by assumption); walk_at "bx")
  | (refine Bx.same ?_ (by assumption); walk_at "bx")
  | (refine Bx.trans ?_ (by assumption); walk_at "bx"))

local macro_rules | `(tactic| walk_at "len1") => `(tactic| first
  | with_reducible assumption
  | (with_reducible refine hl3 ?_; walk_at "len1")
  | (with_reducible refine hl4 ?_; walk_at "len1"))
local macro_rules | `(tactic| walk_at "len") => `(tactic| first
  | (with_reducible refine hl1 ?_; walk_at "len1")
  | (with_reducible refine hl2 ?_; with_reducible assumption))
local macro_rules | `(tactic| walk_at "sl") => `(tactic| (refine Nat.le_trans (Nat.le_of_eq (S_len _)) ?_; rw [sizeLine_eq]; (try simp only [List.length_append, List.length_cons, List.length_nil]); omega))
local macro_rules | `(tactic| walk_at "sl3") => `(tactic| (rw [sizeLine_eq]; (try simp only [S_len, Str.length_append, List.length_append, List.length_cons, List.length_nil]); omega))
local macro_rules | `(tactic| walk_at "lb") => `(tactic| first
  | with_reducible assumption
  | with_reducible exact c_one _
  | (with_reducible apply Lc; walk_at "lb")
  | (with_reducible refine' La ?hx ?hy; (case hx => walk_at "lb"); (case hy => walk_at "lb"))
  | (with_reducible refine Lr 50 ?hx ?hy; (case hx => assumption); (case hy => omega)))
local macro_rules | `(tactic| walk_at "ln") => `(tactic| (refine' Nat.le_trans (m := ?mm) ?hu ?hv; (case hu => walk_at "lb"); (case hv => first | omega | (rw [sizeLine_eq]; omega))))
local macro_rules | `(tactic| walk_at "ls") => `(tactic| (refine' Nat.le_trans (Nat.add_le_add ?hu ?hv) ?hw; (case hu => walk_at "lb"); (case hv => walk_at "lb"); (case hw => (rw [sizeLine_eq]; omega))))
local macro_rules | `(tactic| walk_at "sl2") => `(tactic| (rw [sizeLine_eq]; simp only [e_dot, e_minus, e_plus, S_len, Str.length_append, List.length_append, List.length_cons, List.length_nil]; omega))
local macro_rules | `(tactic| walk_at "own") => `(tactic| first
  | refine Or.inl ⟨_, _, _, rfl, rfl, ?_⟩
  | refine fun (n : Int) (H1 : Hp) (s1 : Same _ _) => ?_
  | refine fun (z : Str) (H1 : Hp) (s1 : Same _ _) => ?_
  | refine fun (H1 : Hp) (s1 : Same _ H1) => ?_
  | refine ⟨⟨_, rfl⟩, ?_⟩
  | refine ⟨_, rfl, rfl, trivial, ?_⟩
  | refine ⟨_, _, rfl, rfl, (show (0 : Int) < _ from by first | decide | omega), fun d d0 d1 => ?_⟩
  | refine ⟨_, _, rfl, (show Str.length _ ≤ 200000 from by with_reducible assumption), ?_⟩
  | refine ⟨_, _, rfl, (show CB _ _ from ⟨by decide, by decide⟩), fun p hp => ?_⟩
  | refine ⟨_, _, rfl, .inl (.inl upd_same), rfl, ?_⟩
  | refine ⟨_, _, _, _, rfl, rfl, .inl (.inl upd_same), rfl, ?_⟩
  | refine And.intro (show Str.length _ ≤ sizeLine from by walk_at "len") ?_
  | refine And.intro (show Str.length _ + Str.length _ ≤ sizeLine from by walk_at "sl2") ?_
  | (refine And.intro ?hc ?_; case hc => (show Str.length _ + Str.length _ ≤ sizeLine; walk_at "ls"))
  | (refine And.intro ?hc ?_; case hc => (show Str.length _ ≤ sizeLine; walk_at "ln"))
  | refine ⟨_, _, rfl, (show 0 < (1000000 : Int) ∧ (1000000 : Int) < _ from ⟨by decide, by decide⟩), fun H1 s1 => ?_⟩
  | refine And.intro (show (_ ∧ _) ∧ Str.length _ ≤ 16 from ⟨⟨by omega, by omega⟩, by decide +kernel⟩) ?_
  | refine And.intro (show Nat.log2 _ < 1920 from log_small (by omega)) ?_
  | refine And.intro (show PadOk _ = true from rfl) ?_
  | refine And.intro (show (Str.length _ == 0) = false from by decide +kernel) ?_)

/-- a chain of heaps -/
local macro_rules | `(tactic| walk_at "same") => `(tactic| first
  | assumption
  | exact Same.refl _
  | exact same_upd (by assumption)
  | (refine Same.trans ?_ (same_upd (by assumption)); walk_at "same")
  | (refine Same.trans ?_ (by assumption); walk_at "same"))
/-- a step of a reading, by its shape -/
local macro_rules | `(tactic| walk_at "st") => `(tactic| first
  | walk_at "own"
  | refine ⟨_, rfl, fun n h0 h1 => ?_⟩
  | refine ⟨_, rfl, ?_⟩
  | refine ⟨_, _, rfl, rfl, (by first | exact Or.inl ⟨by decide, by decide⟩ | exact Or.inr ⟨by decide, by decide⟩ | exact Or.inl (by omega) | exact Or.inr (by omega)), fun d hd hu hn => ?_⟩
  | refine ⟨_, _, rfl, rfl, by first | exact Or.inl ⟨by decide, by decide⟩ | exact Or.inr ⟨by decide, by decide⟩ | exact Or.inl (by omega) | exact Or.inr (by omega), ?_⟩
  | refine ⟨_, _, rfl, rfl, by first | (show (0 : Int) < _; first | omega | decide | (split <;> omega)) | (show _ ≠ (0 : Int); omega), ?_⟩
  | refine ⟨_, _, rfl, rfl, ⟨by decide, by decide⟩, ?_⟩
  | refine ⟨_, _, rfl, rfl, (by show (_ ∧ _) ∧ (_ ∧ _); omega), ?_⟩
  | refine ⟨_, _, rfl, rfl, (by show _ ∧ _; first | omega | (split <;> omega)), fun d hd hu hn => ?_⟩
  | refine ⟨_, _, rfl, rfl, (by show (0 : Int) < _ ∧ _; first | omega | (split <;> omega)), ?_⟩
  | refine ⟨_, _, rfl, rfl, ?_⟩
  | refine ⟨_, _, _, rfl, rfl, ?_⟩
  | refine ⟨_, _, _, _, rfl, rfl, .inl (.inl (by assumption)), rfl, ?_⟩
  | refine Or.inl ⟨_, rfl, ?_⟩
  | refine ⟨_, _, rfl, fun n H1 s1 h0 h1 => ?_⟩
  | refine ⟨_, _, rfl, fun n h0 h1 => ?_⟩
  | refine ⟨_, _, rfl, ?_⟩
  | refine ⟨Nat.le_of_ble_eq_true rfl, fun p hp => ?_⟩
  | refine ⟨rfl, ?_⟩
  | refine ⟨lim_flat _, ?_⟩
  | refine ⟨⟨by assumption, by assumption⟩, ?_⟩
  | refine And.intro (by assumption) ?_
  | refine ⟨Or.inl ⟨_, rfl⟩, ?_⟩
  | refine And.intro (by omega) (fun H1 s1 => ?_)
  | refine And.intro (by omega) ?_
  | refine iteF ?_
  | refine iteT ?_
  | refine iteSS ?_
  | refine iteIS ?_
  | refine iteEqI (fun _ => ?_) (fun _ => ?_)
  | refine iteNeI (fun _ => ?_) (fun _ => ?_)
  | refine iteD (fun _ => ?_) (fun _ => ?_)
  | refine ite2 (fun _ => ?_) (fun _ => ?_))
local macro_rules | `(tactic| walk_at "run") => `(tactic| repeat' (walk_at "st"))
local macro_rules | `(tactic| walk_at "own0") => `(tactic| first
  | refine ⟨⟨_, rfl⟩, ?_⟩
  | refine ⟨_, rfl, rfl, trivial, ?_⟩
  | refine ⟨_, _, rfl, rfl, (show (0 : Int) < _ from by first | decide | omega), fun d d0 d1 => ?_⟩
  | refine ⟨_, _, rfl, (show Str.length _ ≤ 200000 from by with_reducible assumption), ?_⟩
  | refine ⟨_, _, rfl, (show CB _ _ from ⟨by decide, by decide⟩), fun p hp => ?_⟩
  | refine ⟨_, _, rfl, .inl (.inl upd_same), rfl, ?_⟩
  | refine ⟨_, _, _, _, rfl, rfl, .inl (.inl upd_same), rfl, ?_⟩
  | refine And.intro (show Str.length _ ≤ sizeLine from by walk_at "len") ?_
  | refine And.intro (show Str.length _ + Str.length _ ≤ sizeLine from by walk_at "sl2") ?_
  | refine ⟨_, _, rfl, (show 0 < (1000000 : Int) ∧ (1000000 : Int) < _ from ⟨by decide, by decide⟩), fun H1 s1 => ?_⟩
  | refine And.intro (show (_ ∧ _) ∧ Str.length _ ≤ 16 from ⟨⟨by omega, by omega⟩, by decide +kernel⟩) ?_
  | refine And.intro (show Nat.log2 _ < 1920 from log_small (by omega)) ?_
  | refine And.intro (show PadOk _ = true from rfl) ?_
  | refine And.intro (show (Str.length _ == 0) = false from by decide +kernel) ?_)
/-- a step of a reading, by its shape -/
local macro_rules | `(tactic| walk_at "st0") => `(tactic| first
  | walk_at "own0"
  | refine ⟨_, rfl, fun n h0 h1 => ?_⟩
  | refine ⟨_, rfl, ?_⟩
  | refine ⟨_, _, rfl, rfl, (by first | exact Or.inl ⟨by decide, by decide⟩ | exact Or.inr ⟨by decide, by decide⟩ | exact Or.inl (by omega) | exact Or.inr (by omega)), fun d hd hu hn => ?_⟩
  | refine ⟨_, _, rfl, rfl, by first | exact Or.inl ⟨by decide, by decide⟩ | exact Or.inr ⟨by decide, by decide⟩ | exact Or.inl (by omega) | exact Or.inr (by omega), ?_⟩
  | refine ⟨_, _, rfl, rfl, by first | (show (0 : Int) < _; first | omega | decide | (split <;> omega)) | (show _ ≠ (0 : Int); omega), ?_⟩
  | refine ⟨_, _, rfl, rfl, ⟨by decide, by decide⟩, ?_⟩
  | refine ⟨_, _, rfl, rfl, (by show (_ ∧ _) ∧ (_ ∧ _); omega), ?_⟩
  | refine ⟨_, _, rfl, rfl, (by show _ ∧ _; first | omega | (split <;> omega)), fun d hd hu hn => ?_⟩
  | refine ⟨_, _, rfl, rfl, (by show (0 : Int) < _ ∧ _; first | omega | (split <;> omega)), ?_⟩
  | refine ⟨_, _, rfl, rfl, ?_⟩
  | refine ⟨_, _, _, rfl, rfl, ?_⟩
  | refine ⟨_, _, _, _, rfl, rfl, .inl (.inl (by assumption)), rfl, ?_⟩
  | refine Or.inl ⟨_, rfl, ?_⟩
  | refine ⟨_, _, rfl, fun n H1 s1 h0 h1 => ?_⟩
  | refine ⟨_, _, rfl, fun n h0 h1 => ?_⟩
  | refine ⟨_, _, rfl, ?_⟩
  | refine ⟨Nat.le_of_ble_eq_true rfl, fun p hp => ?_⟩
  | refine ⟨rfl, ?_⟩
  | refine ⟨lim_flat _, ?_⟩
  | refine ⟨⟨by assumption, by assumption⟩, ?_⟩
  | refine And.intro (by assumption) ?_
  | refine ⟨Or.inl ⟨_, rfl⟩, ?_⟩
  | refine And.intro (by omega) (fun H1 s1 => ?_)
  | refine And.intro (by omega) ?_
  | refine iteF ?_
  | refine iteT ?_
  | refine iteSS ?_
  | refine iteIS ?_
  | refine iteEqI (fun _ => ?_) (fun _ => ?_)
  | refine iteNeI (fun _ => ?_) (fun _ => ?_)
  | refine iteD (fun _ => ?_) (fun _ => ?_)
  | refine ite2 (fun _ => ?_) (fun _ => ?_))
local macro_rules | `(tactic| walk_at "run0") => `(tactic| repeat' (walk_at "st0"))

/-! ### the promises -/
def spBadPlace_init (K : PySem.W.Frag) : Sp := fun vs H Q E => spI K ["at"] vs H Q E
def spBadText_init (K : PySem.W.Frag) : Sp := fun vs H Q E => spI K ["at"] vs H Q E
def spFault_init (K : PySem.W.Frag) : Sp := fun vs H Q E => spI K ["at"] vs H Q E
def spBadName_init (K : PySem.W.Frag) : Sp := fun vs H Q E => spI K ["name"] vs H Q E
def spBlockCut_init (K : PySem.W.Frag) : Sp := fun vs H Q E => spI K ["sheet", "row", "column"] vs H Q E
def spNoRoom_init (K : PySem.W.Frag) : Sp := fun vs H Q E => spI K ["word"] vs H Q E
def spNothingThere_init (K : PySem.W.Frag) : Sp := fun vs H Q E => spI K ["word"] vs H Q E
def spBadJournal_init (K : PySem.W.Frag) : Sp := fun vs H Q E => spI K ["at"] vs H Q E
def sp_law_cell (K : PySem.W.Frag) : Sp := fun vs H Q _ => ∃ (a : Addr) (ns : List Int) (j : Nat), vs = [.ref a, .int j] ∧ SqL K H a (ns.map V.int) ∧ Q (.int (ns.getD j 0)) H
def sp_law_mix (K : PySem.W.Frag) : Sp := fun vs H Q _ => ∃ (c s : Int), vs = [.int c, .int s] ∧ ∀ n : Int, 0 ≤ n → n < 2147483629 → Q (.int n) H
def sp_law_number (K : PySem.W.Frag) : Sp := fun vs H Q _ => ∃ c s : Int, vs = [.int c, .int s] ∧ ∀ (n : Int) (H' : Hp), Same H H' → Q (.int n) H'
def sp_law_text (K : PySem.W.Frag) : Sp := fun vs H Q _ => ∃ c s : Int, vs = [.int c, .int s] ∧ ∀ (z : Str) (H' : Hp), Same H H' → Q (.str z) H'
def sp_law_is_number (K : PySem.W.Frag) : Sp := fun vs H Q _ => ∃ i : Int, vs = [.int i, .int i] ∧ Q (.bl true) H
def sp_law_is_text (K : PySem.W.Frag) : Sp := fun vs H Q _ => ∃ z : Str, vs = [.str z, .str z] ∧ Q (.bl true) H
def sp_law_alone (K : PySem.W.Frag) : Sp := fun vs H Q _ => ∃ (a : Addr) (i : Nat) (fs : List (Str × V)), vs = [.ref a, .int (i : Nat)] ∧ i < 8 ∧ ExAt H a (clK K i) fs ∧ ∀ H', Same H H' → Q (.bl true) H'
def sp_law_numbered (K : PySem.W.Frag) : Sp := fun vs H Q _ => ∃ x y : Int, vs = [.int x, .int y] ∧ ∀ H', Same H H' → Q (.bl true) H'
def sp_law_worded (K : PySem.W.Frag) : Sp := fun vs H Q _ => ∃ x y : Str, vs = [.str x, .str y] ∧ ∀ H', Same H H' → Q (.bl true) H'
def sp_law_cut (K : PySem.W.Frag) : Sp := fun vs H Q _ => ∃ x y z : Int, vs = [.int x, .int y, .int z] ∧ ∀ H', Same H H' → Q (.bl true) H'
def sp_law_raise (K : PySem.W.Frag) : Sp := fun vs H Q E => ∃ (k : Nat) (x : Int) (z : Str), vs = [.int (k : Nat), .int x, .str z] ∧ k < 8 ∧ ∀ (d : Addr) (H' : Hp), Same H H' → H' d = some (.xd (FS k x z)) → E (.ref (clK K k)) (some d) H'
def sp_law_caught (K : PySem.W.Frag) : Sp := fun vs H Q _ => ∃ (k : Nat) (x : Int) (z : Str), vs = [.int (k : Nat), .int x, .str z] ∧ k < 8 ∧ ∀ H', Same H H' → Q (.bl true) H'
def sp_law_beneath (K : PySem.W.Frag) : Sp := fun vs H Q _ => ∃ (k : Nat) (x : Int) (z : Str), vs = [.int (k : Nat), .int x, .str z] ∧ k < 8 ∧ ∀ H', Same H H' → Q (.bl true) H'
def splaw (K : PySem.W.Frag) : Sp := fun vs H Q _ => ∃ (a : Addr) (ns : List Int), vs = [.ref a] ∧ SqL K H a (ns.map V.int) ∧ ns.length ≤ 63 ∧ ∀ H', Q (.bl true) H'
section
variable {P : Program} {w : World} {K : PySem.W.Frag} {mg : Str → Option Value} {base : Heap}
theorem okBadPlace_init (T : Txt K mg) : FnOk P w K mg base CX0 1 T.aBadPlace_init T.dBadPlace_init PBadPlace_init (spI K ["at"]) := by
  refine T.FBadPlace_init.ok scBadPlace_init (fun vs H Q E h => ?_) (fun cdv A outer s H vs Q E hr h => ?_)
  · obtain ⟨a, C, ys, rfl, hy, _⟩ := h
    exact congrArg Nat.succ hy
  · obtain ⟨a, C, ys, rfl, hy, hT, ht, ha, q⟩ := h
    refine ⟨_, (pss_one (ps_est (pv 0) (pv 1))), ?_⟩
    obtain ⟨y, rfl⟩ : ∃ y, ys = [y] := by
      rcases ys with _ | ⟨y, _ | ⟨z, r⟩⟩
      · cases hy
      · exact ⟨y, rfl⟩
      · cases hy
    refine ⟨_, rfl, _, rfl, a, C, rfl, hT, ht _ (by decide), Or.inl ⟨ha, fun dx hd hne => ?_⟩⟩
    exact q dx _ hne hd upd_same (by rw [upd_ne hne]; exact upd_same) (fun b b1 b2 => by rw [upd_ne b1, upd_ne b2])

theorem okBadText_init (T : Txt K mg) : FnOk P w K mg base CX0 1 T.aBadText_init T.dBadText_init PBadText_init (spI K ["at"]) := by
  refine T.FBadText_init.ok scBadText_init (fun vs H Q E h => ?_) (fun cdv A outer s H vs Q E hr h => ?_)
  · obtain ⟨a, C, ys, rfl, hy, _⟩ := h
    exact congrArg Nat.succ hy
  · obtain ⟨a, C, ys, rfl, hy, hT, ht, ha, q⟩ := h
    refine ⟨_, (pss_one (ps_est (pv 0) (pv 1))), ?_⟩
    obtain ⟨y, rfl⟩ : ∃ y, ys = [y] := by
      rcases ys with _ | ⟨y, _ | ⟨z, r⟩⟩
      · cases hy
      · exact ⟨y, rfl⟩
      · cases hy
    refine ⟨_, rfl, _, rfl, a, C, rfl, hT, ht _ (by decide), Or.inl ⟨ha, fun dx hd hne => ?_⟩⟩
    exact q dx _ hne hd upd_same (by rw [upd_ne hne]; exact upd_same) (fun b b1 b2 => by rw [upd_ne b1, upd_ne b2])

theorem okFault_init (T : Txt K mg) : FnOk P w K mg base CX0 1 T.aFault_init T.dFault_init PFault_init (spI K ["at"]) := by
  refine T.FFault_init.ok scFault_init (fun vs H Q E h => ?_) (fun cdv A outer s H vs Q E hr h => ?_)
  · obtain ⟨a, C, ys, rfl, hy, _⟩ := h
    exact congrArg Nat.succ hy
  · obtain ⟨a, C, ys, rfl, hy, hT, ht, ha, q⟩ := h
    refine ⟨_, (pss_one (ps_est (pv 0) (pv 1))), ?_⟩
    obtain ⟨y, rfl⟩ : ∃ y, ys = [y] := by
      rcases ys with _ | ⟨y, _ | ⟨z, r⟩⟩
      · cases hy
      · exact ⟨y, rfl⟩
      · cases hy
    refine ⟨_, rfl, _, rfl, a, C, rfl, hT, ht _ (by decide), Or.inl ⟨ha, fun dx hd hne => ?_⟩⟩
    exact q dx _ hne hd upd_same (by rw [upd_ne hne]; exact upd_same) (fun b b1 b2 => by rw [upd_ne b1, upd_ne b2])

theorem okBadName_init (T : Txt K mg) : FnOk P w K mg base CX0 1 T.aBadName_init T.dBadName_init PBadName_init (spI K ["name"]) := by
  refine T.FBadName_init.ok scBadName_init (fun vs H Q E h => ?_) (fun cdv A outer s H vs Q E hr h => ?_)
  · obtain ⟨a, C, ys, rfl, hy, _⟩ := h
    exact congrArg Nat.succ hy
  · obtain ⟨a, C, ys, rfl, hy, hT, ht, ha, q⟩ := h
    refine ⟨_, (pss_one (ps_est (pv 0) (pv 1))), ?_⟩
    obtain ⟨y, rfl⟩ : ∃ y, ys = [y] := by
      rcases ys with _ | ⟨y, _ | ⟨z, r⟩⟩
      · cases hy
      · exact ⟨y, rfl⟩
      · cases hy
    refine ⟨_, rfl, _, rfl, a, C, rfl, hT, ht _ (by decide), Or.inl ⟨ha, fun dx hd hne => ?_⟩⟩
    exact q dx _ hne hd upd_same (by rw [upd_ne hne]; exact upd_same) (fun b b1 b2 => by rw [upd_ne b1, upd_ne b2])

theorem okBlockCut_init (T : Txt K mg) : FnOk P w K mg base CX0 1 T.aBlockCut_init T.dBlockCut_init PBlockCut_init (spI K ["sheet", "row", "column"]) := by
  refine T.FBlockCut_init.ok scBlockCut_init (fun vs H Q E h => ?_) (fun cdv A outer s H vs Q E hr h => ?_)
  · obtain ⟨a, C, ys, rfl, hy, _⟩ := h
    exact congrArg Nat.succ hy
  · obtain ⟨a, C, ys, rfl, hy, hT, ht, ha, q⟩ := h
    refine ⟨_, (pss_cons (ps_est (pv 0) (pv 1))
    (pss_cons (ps_est (pv 0) (pv 2))
    (pss_one (ps_est (pv 0) (pv 3))))), ?_⟩
    obtain ⟨y, z, u, rfl⟩ : ∃ y z u, ys = [y, z, u] := by
      rcases ys with _ | ⟨y, _ | ⟨z, _ | ⟨u, _ | ⟨v, r⟩⟩⟩⟩
      · cases hy
      · cases hy
      · cases hy
      · exact ⟨y, z, u, rfl⟩
      · cases hy
    refine ⟨_, rfl, _, rfl, a, C, rfl, hT, ht _ (by decide), Or.inl ⟨ha, fun dx hd hne => ?_⟩⟩
    refine ⟨_, rfl, _, rfl, a, C, rfl, hT, ht _ (by decide), Or.inr ⟨dx, _, upd_same, (by rw [upd_ne hne]; exact upd_same), by show 1 ≤ 900; decide, ?_⟩⟩
    refine ⟨_, rfl, _, rfl, a, C, rfl, hT, ht _ (by decide), Or.inr ⟨dx, _, (by rw [upd_ne (Ne.symm hne)]; exact upd_same), upd_same, by show 2 ≤ 900; decide, ?_⟩⟩
    exact q dx _ hne hd (by rw [upd_ne (Ne.symm hne), upd_ne (Ne.symm hne)]; exact upd_same) upd_same (fun b b1 b2 => by rw [upd_ne b2, upd_ne b2, upd_ne b1, upd_ne b2])

theorem okNoRoom_init (T : Txt K mg) : FnOk P w K mg base CX0 1 T.aNoRoom_init T.dNoRoom_init PNoRoom_init (spI K ["word"]) := by
  refine T.FNoRoom_init.ok scNoRoom_init (fun vs H Q E h => ?_) (fun cdv A outer s H vs Q E hr h => ?_)
  · obtain ⟨a, C, ys, rfl, hy, _⟩ := h
    exact congrArg Nat.succ hy
  · obtain ⟨a, C, ys, rfl, hy, hT, ht, ha, q⟩ := h
    refine ⟨_, (pss_one (ps_est (pv 0) (pv 1))), ?_⟩
    obtain ⟨y, rfl⟩ : ∃ y, ys = [y] := by
      rcases ys with _ | ⟨y, _ | ⟨z, r⟩⟩
      · cases hy
      · exact ⟨y, rfl⟩
      · cases hy
    refine ⟨_, rfl, _, rfl, a, C, rfl, hT, ht _ (by decide), Or.inl ⟨ha, fun dx hd hne => ?_⟩⟩
    exact q dx _ hne hd upd_same (by rw [upd_ne hne]; exact upd_same) (fun b b1 b2 => by rw [upd_ne b1, upd_ne b2])

theorem okNothingThere_init (T : Txt K mg) : FnOk P w K mg base CX0 1 T.aNothingThere_init T.dNothingThere_init PNothingThere_init (spI K ["word"]) := by
  refine T.FNothingThere_init.ok scNothingThere_init (fun vs H Q E h => ?_) (fun cdv A outer s H vs Q E hr h => ?_)
  · obtain ⟨a, C, ys, rfl, hy, _⟩ := h
    exact congrArg Nat.succ hy
  · obtain ⟨a, C, ys, rfl, hy, hT, ht, ha, q⟩ := h
    refine ⟨_, (pss_one (ps_est (pv 0) (pv 1))), ?_⟩
    obtain ⟨y, rfl⟩ : ∃ y, ys = [y] := by
      rcases ys with _ | ⟨y, _ | ⟨z, r⟩⟩
      · cases hy
      · exact ⟨y, rfl⟩
      · cases hy
    refine ⟨_, rfl, _, rfl, a, C, rfl, hT, ht _ (by decide), Or.inl ⟨ha, fun dx hd hne => ?_⟩⟩
    exact q dx _ hne hd upd_same (by rw [upd_ne hne]; exact upd_same) (fun b b1 b2 => by rw [upd_ne b1, upd_ne b2])

theorem okBadJournal_init (T : Txt K mg) : FnOk P w K mg base CX0 1 T.aBadJournal_init T.dBadJournal_init PBadJournal_init (spI K ["at"]) := by
  refine T.FBadJournal_init.ok scBadJournal_init (fun vs H Q E h => ?_) (fun cdv A outer s H vs Q E hr h => ?_)
  · obtain ⟨a, C, ys, rfl, hy, _⟩ := h
    exact congrArg Nat.succ hy
  · obtain ⟨a, C, ys, rfl, hy, hT, ht, ha, q⟩ := h
    refine ⟨_, (pss_one (ps_est (pv 0) (pv 1))), ?_⟩
    obtain ⟨y, rfl⟩ : ∃ y, ys = [y] := by
      rcases ys with _ | ⟨y, _ | ⟨z, r⟩⟩
      · cases hy
      · exact ⟨y, rfl⟩
      · cases hy
    refine ⟨_, rfl, _, rfl, a, C, rfl, hT, ht _ (by decide), Or.inl ⟨ha, fun dx hd hne => ?_⟩⟩
    exact q dx _ hne hd upd_same (by rw [upd_ne hne]; exact upd_same) (fun b b1 b2 => by rw [upd_ne b1, upd_ne b2])

theorem ok_law_cell (T : Txt K mg) : FnOk P w K mg base CX0 1 T.a_law_cell T.d_law_cell P_law_cell (sp_law_cell K) := by
  refine T.F_law_cell.ok sc_law_cell (fun vs H Q E h => ?_) (fun cdv A outer s H vs Q E hr h => ?_)
  · obtain ⟨a, ns, j, rfl, _⟩ := h
    rfl
  · obtain ⟨a, ns, j, rfl, hS, q⟩ := h
    refine ⟨_, (pss_cons (ps_if (pt_cmpR op_lt (pv 1) (pe_callB call_len_seq (by rfl) T.z_len (by decide +kernel) (pa_cons (pv 0) pa_nil)) (by first | exact nomark _ | rfl))
      (pss_one (ps_ret (pe_ix ix_list (pv 0) (pv 1) (fun _ _ => rfl))))
      pss_nil)
    (pss_one (ps_ret pe_int))), ?_⟩
    refine ⟨_, rfl, _, rfl, a, _, rfl, .inl hS, _, _, rfl, rfl, _, rfl, ite2 (fun e => ?_) (fun e => ?_)⟩
    · have e1 : j < ns.length := by
        have e2 := of_decide_eq_true e
        rw [List.length_map] at e2
        omega
      refine ⟨_, rfl, _, rfl, a, _, _, .int (ns.getD j 0), rfl, rfl, hS, atI_nat ?_, q⟩
      rw [List.getElem?_map, List.getD_eq_getElem?_getD, List.getElem?_eq_getElem e1]
      rfl
    · have e1 : ¬ j < ns.length := fun z => e (decide_eq_true (by rw [List.length_map]; omega))
      have e2 : ns.getD j 0 = 0 := by
        rw [List.getD_eq_getElem?_getD, List.getElem?_eq_none (by omega)]
        rfl
      rw [e2] at q
      exact q

theorem ok_law_mix (T : Txt K mg) : FnOk P w K mg base CX0 1 T.a_law_mix T.d_law_mix P_law_mix (sp_law_mix K) := by
  refine T.F_law_mix.ok sc_law_mix (fun vs H Q E h => ?_) (fun cdv A outer s H vs Q E hr h => ?_)
  · obtain ⟨c, s, rfl, _⟩ := h
    rfl
  · obtain ⟨c, s, rfl, q⟩ := h
    refine ⟨_, (pss_cons (ps_set (i := 2) sc_law_mix.nd rfl (by first | exact Or.inl rfl | exact Or.inr rfl) (pe_op op_mod (pe_callTy call_int1 (by rfl) T.z_int (by decide +kernel) (pa_cons (pe_op op_add (pe_op op_add (pe_op op_mul (pv 0) pe_int) (pe_op op_mul (pv 1) pe_int)) pe_int) pa_nil)) pe_int))
    (pss_one (ps_ret (pe_op op_mod (pe_callTy call_int1 (by rfl) T.z_int (by decide +kernel) (pa_cons (pe_op op_add (pe_op op_add (pe_op op_mul (pv 2) (pv 2)) (pe_op op_mul (pv 2) pe_int)) (pe_op op_mul (pv 1) pe_int)) pa_nil)) pe_int)))), ?_⟩
    walk_at "run"
    generalize e1 : (c * 48271 + s * 69621 + 12345) % 2147483647 = one
    have h0 : 0 ≤ one := by omega
    have h1 : one < 2147483647 := by omega
    walk_at "run"
    refine q _ ?_ ?_
    · omega
    · omega

theorem ok_law_number (T : Txt K mg) : FnOk P w K mg base CX0 2 T.a_law_number T.d_law_number P_law_number (sp_law_number K) := by
  refine T.F_law_number.ok sc_law_number (fun vs H Q E h => ?_) (fun cdv A outer s H vs Q E hr h => ?_)
  · obtain ⟨c, s, rfl, _⟩ := h
    rfl
  · obtain ⟨c, s, rfl, q⟩ := h
    refine ⟨_, (pss_cons (ps_if (pt_cmpR op_ge (pv 0) (pe_powc (c := 1000000000000000000) (by decide) (by decide +kernel)) (by first | exact nomark _ | rfl))
      (pss_one (ps_ret (pe_op op_modL (pe_callTy call_int1 (by rfl) T.z_int (by decide +kernel) (pa_cons (pe_op op_sub (pv 0) (pe_powc (c := 1000000000000000000) (by decide) (by decide +kernel))) pa_nil)) (pe_powc (c := 1000000000) (by decide) (by decide +kernel)))))
      pss_nil)
    (pss_cons (ps_set (i := 2) sc_law_number.nd rfl (by first | exact Or.inl rfl | exact Or.inr rfl) (pe_call (ok_law_mix T) (hr.mono (by decide)) (by rfl) T.g_law_mix T.F_law_mix.kp (T.b_law_mix) .nil pass0 (pa_cons (pv 0) (pa_cons (pv 1) pa_nil))))
    (pss_cons (ps_if (pt_cmpR op_eq (pe_op op_modL (pe_callTy call_int1 (by rfl) T.z_int (by decide +kernel) (pa_cons (pv 2) pa_nil)) pe_int) pe_int (by first | exact nomark _ | rfl))
      (pss_one (ps_ret (pe_op op_modL (pe_op op_fdiv (pe_callTy call_int1 (by rfl) T.z_int (by decide +kernel) (pa_cons (pv 2) pa_nil)) pe_int) pe_int)))
      pss_nil)
    (pss_one (ps_ret (pe_op op_modL (pe_op op_fdiv (pe_callTy call_int1 (by rfl) T.z_int (by decide +kernel) (pa_cons (pv 2) pa_nil)) pe_int) pe_int)))))), ?_⟩
    walk_at "run"
    all_goals exact q _ _ (by walk_at "same")

theorem ok_law_text (T : Txt K mg) : FnOk P w K mg base CX0 2 T.a_law_text T.d_law_text P_law_text (sp_law_text K) := by
  refine T.F_law_text.ok sc_law_text (fun vs H Q E h => ?_) (fun cdv A outer s H vs Q E hr h => ?_)
  · obtain ⟨c, s, rfl, _⟩ := h
    rfl
  · obtain ⟨c, s, rfl, q⟩ := h
    refine ⟨_, (pss_cons (ps_set (i := 2) sc_law_text.nd rfl (by first | exact Or.inl rfl | exact Or.inr rfl) pe_str)
    (pss_cons (ps_set (i := 2) sc_law_text.nd rfl (by first | exact Or.inl rfl | exact Or.inr rfl) (pe_op op_add_str (pv 2) pe_str))
    (pss_cons (ps_set (i := 3) sc_law_text.nd rfl (by first | exact Or.inl rfl | exact Or.inr rfl) (pe_op op_sub (pv 0) (pe_powc (c := 1000000000000000000) (by decide) (by decide +kernel))))
    (pss_cons (ps_set (i := 4) sc_law_text.nd rfl (by first | exact Or.inl rfl | exact Or.inr rfl) pe_int)
    (pss_cons (ps_if (pt_cmpR op_lt (pv 0) (pe_powc (c := 1000000000000000000) (by decide) (by decide +kernel)) (by first | exact nomark _ | rfl))
      (pss_cons (ps_set (i := 5) sc_law_text.nd rfl (by first | exact Or.inl rfl | exact Or.inr rfl) (pe_lst (pa_cons pe_str (pa_cons pe_str (pa_cons pe_str (pa_cons pe_str (pa_cons pe_str (pa_cons pe_str pa_nil))))))))
    (pss_cons (ps_set (i := 6) sc_law_text.nd rfl (by first | exact Or.inl rfl | exact Or.inr rfl) (pe_call (ok_law_mix T) (hr.mono (by decide)) (by rfl) T.g_law_mix T.F_law_mix.kp (T.b_law_mix) .nil pass0 (pa_cons (pv 0) (pa_cons (pv 1) pa_nil))))
    (pss_cons (ps_if (pt_cmpR op_eq (pe_op op_modL (pe_callTy call_int1 (by rfl) T.z_int (by decide +kernel) (pa_cons (pv 6) pa_nil)) pe_int) pe_int (by first | exact nomark _ | rfl))
      (pss_one (ps_ret (pe_ix ix_list (pv 5) (pe_op op_modL (pe_op op_fdiv (pe_callTy call_int1 (by rfl) T.z_int (by decide +kernel) (pa_cons (pv 6) pa_nil)) pe_int) pe_int) (fun _ _ => rfl))))
      pss_nil)
    (pss_cons (ps_set (i := 3) sc_law_text.nd rfl (by first | exact Or.inl rfl | exact Or.inr rfl) (pe_op op_mul (pv 6) (pv 6)))
    (pss_one (ps_set (i := 4) sc_law_text.nd rfl (by first | exact Or.inl rfl | exact Or.inr rfl) (pe_op op_add pe_int (pe_op op_modL (pe_op op_fdiv (pe_callTy call_int1 (by rfl) T.z_int (by decide +kernel) (pa_cons (pv 6) pa_nil)) pe_int) pe_int))))))))
      pss_nil)
    (pss_cons (ps_set (i := 7) sc_law_text.nd rfl (by first | exact Or.inl rfl | exact Or.inr rfl) (pe_lst pa_nil))
    (pss_cons (ps_for PassesOwn.never rfl (pi_range1 (by rfl) T.z_range (pa_cons (pv 4) pa_nil)) (pg_name (i := 8) sc_law_text.nd rfl (by first | exact Or.inl rfl | exact Or.inr rfl))
      (pss_one (ps_if (pt_cmpR op_gt (pv 3) pe_int (by first | exact nomark _ | rfl))
      (pss_cons (ps_expr (pe_bm PySem.F.plainAttrs_list PySem.F.slot_list_append PySem.F.type_list_append mt_append (pv 7) (pa_cons (pe_ix ix_str (pv 2) (pe_op op_modL (pe_callTy call_int1 (by rfl) T.z_int (by decide +kernel) (pa_cons (pe_op op_sub (pv 3) pe_int) pa_nil)) pe_int) (fun _ _ => rfl)) pa_nil)))
    (pss_one (ps_set (i := 3) sc_law_text.nd rfl (by first | exact Or.inl rfl | exact Or.inr rfl) (pe_op op_fdiv (pe_op op_sub (pv 3) pe_int) pe_int))))
      pss_nil)))
    (pss_one (ps_ret (pe_bm PySem.F.plainAttrs_str PySem.F.slot_str_join PySem.F.type_str_join mt_join pe_str (pa_cons (pv 7) pa_nil))))))))))), ?_⟩
    walk_at "run"
    refine And.intro (by decide +kernel) ?_
    have hl : (Str.ofString " !\"#$&'()*+,-./0123456789:;<=>?@ABCDEFGHIJKLMNOPQRSTUVWXYZ[\\]^_`" ++ Str.ofString "abcdefghijklmnopqrstuvwxyz{|}~").length = 94 := by decide +kernel
    have ga : Asc (Str.ofString " !\"#$&'()*+,-./0123456789:;<=>?@ABCDEFGHIJKLMNOPQRSTUVWXYZ[\\]^_`" ++ Str.ofString "abcdefghijklmnopqrstuvwxyz{|}~") := asc_lit (by decide +kernel)
    generalize (Str.ofString " !\"#$&'()*+,-./0123456789:;<=>?@ABCDEFGHIJKLMNOPQRSTUVWXYZ[\\]^_`" ++ Str.ofString "abcdefghijklmnopqrstuvwxyz{|}~") = g at hl ga
    have hgl : g.length ≤ 100000 := by omega
    walk_at "run"
    · rename_i p hp n h0 h1 d2 d20 d21 x d d0 d1
      refine atI_go (SqL.of upd_same) d0 (by show _ < (6 : Int); exact d1) fun v hv => ?_
      simp only [List.mem_cons, List.not_mem_nil, or_false] at hv
      rcases hv with rfl | rfl | rfl | rfl | rfl | rfl
      all_goals exact q _ _ (same_upd hp)
    · rename_i p1 hp1 n h0 h1 d2 d20 d21 x d d0 d1 p hp
      have sH := (same_upd (H := H) (o := HO.lst _) hp1).trans (same_upd (o := HO.lst []) hp)
      have hp0 : H p = none := upd_none hp
      refine for_range (lo := 0) (n := _) (fun i σ H' => Same H H' ∧ ∃ (zs : List Str) (l : Int) (u0 u1 u2 u3 : Option V), H' p = some (.lst (zs.map V.str)) ∧ zs.length ≤ i ∧ (∀ z ∈ zs, z.length ≤ 1) ∧ σ = [some (.int c), some (.int s), some (.str g), some (.int l), u0, u1, u2, some (.ref p), u3]) ⟨sH, [], _, _, _, _, _, upd_same, Nat.le_refl _, fun _ h => (nomatch h), rfl⟩ (fun i σ H' hi hp2 => ?_) (fun σ H' hp2 => ?_)
      · obtain ⟨s1, zs, l, u0, u1, u2, u3, hz, hl2, hz1, rfl⟩ := hp2
        have hi2 : i < 64 := by omega
        walk_at "run"
        · refine ⟨.inl ⟨rfl, _, SqL.of hz⟩, ?_⟩
          walk_at "run"
          rename_i e e0 e1
          refine ixS_goA ga hgl e0 (by omega) fun ch hc => ?_
          refine ⟨_, _, _, rfl, rfl, hz, (by rw [List.length_map]; exact small1000 (by omega)), ?_⟩
          rw [more_map]
          walk_at "run"
          exact ⟨same_put s1 hp0, _, _, _, _, _, _, upd_same, more_len hl2, more_one hz1, rfl⟩
        · exact ⟨zs, _, _, _, _, _, hz, by omega, hz1, rfl⟩
      · obtain ⟨s1, zs, l, u0, u1, u2, u3, hz, hl2, hz1, rfl⟩ := hp2
        have jl := join_len hz1
        walk_at "run"
        exact ⟨_, p, zs, rfl, rfl, Or.inl (SqL.of hz), Nat.le_trans (join_sum hz1) (by omega), q _ _ s1⟩
    · rename_i p hp
      have sH := same_upd (o := HO.lst []) hp
      have hp0 : H p = none := hp
      refine for_range (lo := 0) (n := _) (fun i σ H' => Same H H' ∧ ∃ (zs : List Str) (l : Int) (u0 u1 u2 u3 : Option V), H' p = some (.lst (zs.map V.str)) ∧ zs.length ≤ i ∧ (∀ z ∈ zs, z.length ≤ 1) ∧ σ = [some (.int c), some (.int s), some (.str g), some (.int l), u0, u1, u2, some (.ref p), u3]) ⟨sH, [], _, _, _, _, _, upd_same, Nat.le_refl _, fun _ h => (nomatch h), rfl⟩ (fun i σ H' hi hp2 => ?_) (fun σ H' hp2 => ?_)
      · obtain ⟨s1, zs, l, u0, u1, u2, u3, hz, hl2, hz1, rfl⟩ := hp2
        have hi2 : i < 64 := by omega
        walk_at "run"
        · refine ⟨.inl ⟨rfl, _, SqL.of hz⟩, ?_⟩
          walk_at "run"
          rename_i e e0 e1
          refine ixS_goA ga hgl e0 (by omega) fun ch hc => ?_
          refine ⟨_, _, _, rfl, rfl, hz, (by rw [List.length_map]; exact small1000 (by omega)), ?_⟩
          rw [more_map]
          walk_at "run"
          exact ⟨same_put s1 hp0, _, _, _, _, _, _, upd_same, more_len hl2, more_one hz1, rfl⟩
        · exact ⟨zs, _, _, _, _, _, hz, by omega, hz1, rfl⟩
      · obtain ⟨s1, zs, l, u0, u1, u2, u3, hz, hl2, hz1, rfl⟩ := hp2
        have jl := join_len hz1
        walk_at "run"
        exact ⟨_, p, zs, rfl, rfl, Or.inl (SqL.of hz), Nat.le_trans (join_sum hz1) (by omega), q _ _ s1⟩

theorem ok_law_is_number (T : Txt K mg) : FnOk P w K mg base CX0 1 T.a_law_is_number T.d_law_is_number P_law_is_number (sp_law_is_number K) := by
  refine T.F_law_is_number.ok sc_law_is_number (fun vs H Q E h => ?_) (fun cdv A outer s H vs Q E hr h => ?_)
  · obtain ⟨i, rfl, _⟩ := h
    rfl
  · obtain ⟨i, rfl, q⟩ := h
    refine ⟨_, (pss_one (ps_ret (pe_and (pe_callB call_isiR (by rfl) T.z_isinstance (by decide +kernel) (pa_cons (pv 0) (pa_cons (pe_bltn (v := .ty "int") (by rfl) T.z_int (by decide +kernel) rfl) pa_nil))) (pe_and (pe_not (pe_callB call_isiR (by rfl) T.z_isinstance (by decide +kernel) (pa_cons (pv 0) (pa_cons (pe_bltn (v := .ty "bool") (by rfl) T.z_bool (by decide +kernel) rfl) pa_nil)))) (pe_one (pe_cmpR op_eq (pv 0) (pv 1) (by first | exact nomark _ | rfl))))))), ?_⟩
    walk_at "run"
    rw [decide_eq_true rfl]
    exact q
theorem okH_law_is_number (T : Txt K mg) : L2H.FnH P w K mg base CX0 1 T.a_law_is_number T.d_law_is_number P_law_is_number (sp_law_is_number K) := by
  refine okHot T.F_law_is_number sc_law_is_number (fun vs H Q E h => ?_) (fun cdv A outer s H vs Q E p hot hr h => ?_)
  · obtain ⟨i, rfl, _⟩ := h
    rfl
  · obtain ⟨i, rfl, q⟩ := h
    refine ⟨_, (pss_one (ps_ret (pe_and (pe_callB call_isiR (by rfl) T.z_isinstance (by decide +kernel) (pa_cons (pv 0) (pa_cons (pe_bltn (v := .ty "int") (by rfl) T.z_int (by decide +kernel) rfl) pa_nil))) (pe_and (pe_not (pe_callB call_isiR (by rfl) T.z_isinstance (by decide +kernel) (pa_cons (pv 0) (pa_cons (pe_bltn (v := .ty "bool") (by rfl) T.z_bool (by decide +kernel) rfl) pa_nil)))) (pe_one (pe_cmpR op_eq (pv 0) (pv 1) (by first | exact nomark _ | rfl))))))), ?_⟩
    walk_at "run"
    rw [decide_eq_true rfl]
    exact q

theorem ok_law_is_text (T : Txt K mg) : FnOk P w K mg base CX0 1 T.a_law_is_text T.d_law_is_text P_law_is_text (sp_law_is_text K) := by
  refine T.F_law_is_text.ok sc_law_is_text (fun vs H Q E h => ?_) (fun cdv A outer s H vs Q E hr h => ?_)
  · obtain ⟨z, rfl, _⟩ := h
    rfl
  · obtain ⟨z, rfl, q⟩ := h
    refine ⟨_, (pss_one (ps_ret (pe_and (pe_callB call_isiR (by rfl) T.z_isinstance (by decide +kernel) (pa_cons (pv 0) (pa_cons (pe_bltn (v := .ty "str") (by rfl) T.z_str (by decide +kernel) rfl) pa_nil))) (pe_one (pe_cmpR op_eq (pv 0) (pv 1) (by first | exact nomark _ | rfl)))))), ?_⟩
    walk_at "run"
    rw [decide_eq_true rfl]
    exact q
theorem okH_law_is_text (T : Txt K mg) : L2H.FnH P w K mg base CX0 1 T.a_law_is_text T.d_law_is_text P_law_is_text (sp_law_is_text K) := by
  refine okHot T.F_law_is_text sc_law_is_text (fun vs H Q E h => ?_) (fun cdv A outer s H vs Q E p hot hr h => ?_)
  · obtain ⟨z, rfl, _⟩ := h
    rfl
  · obtain ⟨z, rfl, q⟩ := h
    refine ⟨_, (pss_one (ps_ret (pe_and (pe_callB call_isiR (by rfl) T.z_isinstance (by decide +kernel) (pa_cons (pv 0) (pa_cons (pe_bltn (v := .ty "str") (by rfl) T.z_str (by decide +kernel) rfl) pa_nil))) (pe_one (pe_cmpR op_eq (pv 0) (pv 1) (by first | exact nomark _ | rfl)))))), ?_⟩
    walk_at "run"
    rw [decide_eq_true rfl]
    exact q

theorem ok_law_alone (T : Txt K mg) : FnOk P w K mg base CX0 3 T.a_law_alone T.d_law_alone P_law_alone (sp_law_alone K) := by
  refine T.F_law_alone.ok sc_law_alone (fun vs H Q E h => ?_) (fun cdv A outer s H vs Q E hr h => ?_)
  · obtain ⟨a, i, fs, rfl, _⟩ := h
    rfl
  · obtain ⟨a, i, fs, rfl, hi, he, q⟩ := h
    refine ⟨_, (pss_cons (ps_set (i := 2) sc_law_alone.nd rfl (by first | exact Or.inl rfl | exact Or.inr rfl) (pe_lst (pa_cons (pe_callB (call_isH rfl) (by rfl) T.z_isinstance (by decide +kernel) (pa_cons (pv 0) (pa_cons (pe_glob (v := .ref (clK K 0)) (by rfl) T.gc_BadPlace rfl) pa_nil))) (pa_cons (pe_callB (call_isH rfl) (by rfl) T.z_isinstance (by decide +kernel) (pa_cons (pv 0) (pa_cons (pe_glob (v := .ref (clK K 1)) (by rfl) T.gc_BadText rfl) pa_nil))) (pa_cons (pe_callB (call_isH rfl) (by rfl) T.z_isinstance (by decide +kernel) (pa_cons (pv 0) (pa_cons (pe_glob (v := .ref (clK K 2)) (by rfl) T.gc_Fault rfl) pa_nil))) (pa_cons (pe_callB (call_isH rfl) (by rfl) T.z_isinstance (by decide +kernel) (pa_cons (pv 0) (pa_cons (pe_glob (v := .ref (clK K 3)) (by rfl) T.gc_BadName rfl) pa_nil))) pa_nil))))))
    (pss_cons (ps_set (i := 2) sc_law_alone.nd rfl (by first | exact Or.inl rfl | exact Or.inr rfl) (pe_op op_cat (pv 2) (pe_lst (pa_cons (pe_callB (call_isH rfl) (by rfl) T.z_isinstance (by decide +kernel) (pa_cons (pv 0) (pa_cons (pe_glob (v := .ref (clK K 4)) (by rfl) T.gc_BlockCut rfl) pa_nil))) (pa_cons (pe_callB (call_isH rfl) (by rfl) T.z_isinstance (by decide +kernel) (pa_cons (pv 0) (pa_cons (pe_glob (v := .ref (clK K 5)) (by rfl) T.gc_NoRoom rfl) pa_nil))) (pa_cons (pe_callB (call_isH rfl) (by rfl) T.z_isinstance (by decide +kernel) (pa_cons (pv 0) (pa_cons (pe_glob (v := .ref (clK K 6)) (by rfl) T.gc_NothingThere rfl) pa_nil))) pa_nil))))))
    (pss_cons (ps_set (i := 2) sc_law_alone.nd rfl (by first | exact Or.inl rfl | exact Or.inr rfl) (pe_op op_cat (pv 2) (pe_lst (pa_cons (pe_callB (call_isH rfl) (by rfl) T.z_isinstance (by decide +kernel) (pa_cons (pv 0) (pa_cons (pe_glob (v := .ref (clK K 7)) (by rfl) T.gc_BadJournal rfl) pa_nil))) pa_nil))))
    (pss_cons (ps_for PassesOwn.never rfl (pi_range1 (by rfl) T.z_range (pa_cons pe_int pa_nil)) (pg_name (i := 3) sc_law_alone.nd rfl (by first | exact Or.inl rfl | exact Or.inr rfl))
      (pss_one (ps_if (pt_cmpR op_ne (pe_ix ix_list (pv 2) (pv 3) (fun _ _ => rfl)) (pe_cmpR op_eq (pv 3) (pv 1) (by first | exact nomark _ | rfl)) (by first | exact nomark _ | rfl))
      (pss_one (ps_ret pe_bl))
      pss_nil)))
    (pss_one (ps_ret (pe_and (pe_callB (call_isH rfl) (by rfl) T.z_isinstance (by decide +kernel) (pa_cons (pv 0) (pa_cons (pe_glob (v := .ref (weK K)) (by rfl) T.gc_WorkError rfl) pa_nil))) (pe_and (pe_callB (call_isH rfl) (by rfl) T.z_isinstance (by decide +kernel) (pa_cons (pv 0) (pa_cons (pe_bltn (v := .ty "Exception") (by rfl) T.z_Exception (by decide +kernel) rfl) pa_nil))) (pe_one (pe_not (pe_callB (call_isH rfl) (by rfl) T.z_isinstance (by decide +kernel) (pa_cons (pv 0) (pa_cons (pe_bltn (v := .ty "ValueError") (by rfl) T.z_ValueError (by decide +kernel) rfl) pa_nil))))))))))))), ?_⟩
    obtain ⟨dd, e1, e2⟩ := he
    walk_at "run"
    refine ⟨a, clK K i, dd, fs, _, _, _, rfl, T.cs.ox i hi, e1, e2, fun u h => h, T.cs.kit i 0 hi (by decide), ?_⟩
    walk_at "run"
    refine ⟨a, clK K i, dd, fs, _, _, _, rfl, T.cs.ox i hi, e1, e2, fun u h => h, T.cs.kit i 1 hi (by decide), ?_⟩
    walk_at "run"
    refine ⟨a, clK K i, dd, fs, _, _, _, rfl, T.cs.ox i hi, e1, e2, fun u h => h, T.cs.kit i 2 hi (by decide), ?_⟩
    walk_at "run"
    refine ⟨a, clK K i, dd, fs, _, _, _, rfl, T.cs.ox i hi, e1, e2, fun u h => h, T.cs.kit i 3 hi (by decide), ?_⟩
    walk_at "run"
    rename_i p1 hp1
    refine ⟨a, clK K i, dd, fs, _, _, _, rfl, T.cs.ox i hi, same_upd hp1 _ _ e1, same_upd hp1 _ _ e2, fun u h => h, T.cs.kit i 4 hi (by decide), ?_⟩
    walk_at "run"
    refine ⟨a, clK K i, dd, fs, _, _, _, rfl, T.cs.ox i hi, same_upd hp1 _ _ e1, same_upd hp1 _ _ e2, fun u h => h, T.cs.kit i 5 hi (by decide), ?_⟩
    walk_at "run"
    refine ⟨a, clK K i, dd, fs, _, _, _, rfl, T.cs.ox i hi, same_upd hp1 _ _ e1, same_upd hp1 _ _ e2, fun u h => h, T.cs.kit i 6 hi (by decide), ?_⟩
    walk_at "run"
    rename_i p2 hp2
    refine ⟨p1, p2, _, _, rfl, rfl, same_upd hp2 _ _ upd_same, upd_same, (by show 7 ≤ sizeLine; decide), fun p3 hp3 => ?_⟩
    walk_at "run"
    refine ⟨a, clK K i, dd, fs, _, _, _, rfl, T.cs.ox i hi, same_upd hp3 _ _ (same_upd hp2 _ _ (same_upd hp1 _ _ e1)), same_upd hp3 _ _ (same_upd hp2 _ _ (same_upd hp1 _ _ e2)), fun u h => h, T.cs.kit i 7 hi (by decide), ?_⟩
    walk_at "run"
    rename_i p4 hp4
    refine ⟨p3, p4, _, _, rfl, rfl, same_upd hp4 _ _ upd_same, upd_same, (by show 8 ≤ sizeLine; decide), fun p5 hp5 => ?_⟩
    have sH := (((same_upd (o := HO.lst [V.bl (decide (i = 0)), V.bl (decide (i = 1)), V.bl (decide (i = 2)), V.bl (decide (i = 3))]) hp1).trans (same_upd (o := HO.lst [V.bl (decide (i = 4)), V.bl (decide (i = 5)), V.bl (decide (i = 6))]) hp2)).trans (same_upd hp3)).trans ((same_upd (o := HO.lst [V.bl (decide (i = 7))]) hp4).trans (same_upd (o := HO.lst [V.bl (decide (i = 0)), V.bl (decide (i = 1)), V.bl (decide (i = 2)), V.bl (decide (i = 3)), V.bl (decide (i = 4)), V.bl (decide (i = 5)), V.bl (decide (i = 6)), V.bl (decide (i = 7))]) hp5))
    walk_at "run"
    have hkk : ∀ k : Nat, k < 8 → atI [V.bl (decide (i = 0)), V.bl (decide (i = 1)), V.bl (decide (i = 2)), V.bl (decide (i = 3)), V.bl (decide (i = 4)), V.bl (decide (i = 5)), V.bl (decide (i = 6)), V.bl (decide (i = 7))] (0 + (k : Int)) = some (V.bl (decide (i = k))) := fun k hk => by
      rcases (by omega : k = 0 ∨ k = 1 ∨ k = 2 ∨ k = 3 ∨ k = 4 ∨ k = 5 ∨ k = 6 ∨ k = 7) with rfl | rfl | rfl | rfl | rfl | rfl | rfl | rfl
      all_goals rfl
    refine for_range (lo := 0) (n := 8) (fun k σ H' => Same H H' ∧ SqL K H' p5 [V.bl (decide (i = 0)), V.bl (decide (i = 1)), V.bl (decide (i = 2)), V.bl (decide (i = 3)), V.bl (decide (i = 4)), V.bl (decide (i = 5)), V.bl (decide (i = 6)), V.bl (decide (i = 7))] ∧ ExAt H' a (clK K i) fs ∧ ∃ u : Option V, σ = [some (.ref a), some (.int (i : Nat)), some (.ref p5), u]) ⟨sH, SqL.of upd_same, ⟨dd, sH _ _ e1, sH _ _ e2⟩, none, rfl⟩ (fun k σ H' hk hp => ?_) (fun σ H' hp => ?_)
    · obtain ⟨t, sq, hx, u, rfl⟩ := hp
      have f := hkk k hk
      have ee : decide (V.int (0 + (k : Int)) = V.int (i : Int)) = decide (i = k) := decide_eq_decide.mpr ⟨fun h => by have := V.int.inj h; omega, fun h => by rw [h]; congr 1; omega⟩
      walk_at "run"
      refine ⟨p5, _, _, _, rfl, rfl, sq, f, ?_⟩
      walk_at "run"
      · rename_i x
        exfalso
        rw [ee, decide_eq_true rfl] at x
        cases x
      · exact ⟨_, rfl⟩
    · obtain ⟨t, sq, hx, u, rfl⟩ := hp
      obtain ⟨d2, g1, g2⟩ := hx
      walk_at "run"
      refine ⟨a, clK K i, d2, fs, _, _, _, rfl, T.cs.ox i hi, g1, g2, fun u h => h, T.cs.kw i hi, ?_⟩
      walk_at "run"
      refine ⟨a, clK K i, d2, fs, _, _, _, rfl, T.cs.ox i hi, g1, g2, fun u h => h, T.cs.ke i hi, ?_⟩
      walk_at "run"
      refine ⟨a, clK K i, d2, fs, _, _, _, rfl, T.cs.ox i hi, g1, g2, fun u h => h, T.cs.kv i hi, ?_⟩
      walk_at "run"
      exact q _ t

theorem ok_law_numbered (T : Txt K mg) : FnOk P w K mg base CX0 4 T.a_law_numbered T.d_law_numbered P_law_numbered (sp_law_numbered K) := by
  refine T.F_law_numbered.ok sc_law_numbered (fun vs H Q E h => ?_) (fun cdv A outer s H vs Q E hr h => ?_)
  · obtain ⟨x, y, rfl, _⟩ := h
    rfl
  · obtain ⟨x, y, rfl, q⟩ := h
    refine ⟨_, (pss_cons (ps_set (i := 2) sc_law_numbered.nd rfl (by first | exact Or.inl rfl | exact Or.inr rfl) (pe_mkF (ns := ["at"]) (T.cs.ox 0 (by decide)) (T.cs.tk 0 (by decide)) (by decide) T.i_BadPlace T.ti_BadPlace (okBadPlace_init T) (hr.mono (by decide)) T.bBadPlace_init pass0 (by rfl) T.gc_BadPlace (pa_cons (pv 0) pa_nil)))
    (pss_cons (ps_set (i := 3) sc_law_numbered.nd rfl (by first | exact Or.inl rfl | exact Or.inr rfl) (pe_mkF (ns := ["at"]) (T.cs.ox 1 (by decide)) (T.cs.tk 1 (by decide)) (by decide) T.i_BadText T.ti_BadText (okBadText_init T) (hr.mono (by decide)) T.bBadText_init pass0 (by rfl) T.gc_BadText (pa_cons (pv 0) pa_nil)))
    (pss_cons (ps_set (i := 4) sc_law_numbered.nd rfl (by first | exact Or.inl rfl | exact Or.inr rfl) (pe_mkF (ns := ["at"]) (T.cs.ox 2 (by decide)) (T.cs.tk 2 (by decide)) (by decide) T.i_Fault T.ti_Fault (okFault_init T) (hr.mono (by decide)) T.bFault_init pass0 (by rfl) T.gc_Fault (pa_cons (pv 0) pa_nil)))
    (pss_cons (ps_set (i := 5) sc_law_numbered.nd rfl (by first | exact Or.inl rfl | exact Or.inr rfl) (pe_mkF (ns := ["at"]) (T.cs.ox 7 (by decide)) (T.cs.tk 7 (by decide)) (by decide) T.i_BadJournal T.ti_BadJournal (okBadJournal_init T) (hr.mono (by decide)) T.bBadJournal_init pass0 (by rfl) T.gc_BadJournal (pa_cons (pv 0) pa_nil)))
    (pss_cons (ps_set (i := 6) sc_law_numbered.nd rfl (by first | exact Or.inl rfl | exact Or.inr rfl) (pe_lst (pa_cons (pe_mkF (ns := ["at"]) (T.cs.ox 0 (by decide)) (T.cs.tk 0 (by decide)) (by decide) T.i_BadPlace T.ti_BadPlace (okBadPlace_init T) (hr.mono (by decide)) T.bBadPlace_init pass0 (by rfl) T.gc_BadPlace (pa_cons (pv 1) pa_nil)) (pa_cons (pe_mkF (ns := ["at"]) (T.cs.ox 1 (by decide)) (T.cs.tk 1 (by decide)) (by decide) T.i_BadText T.ti_BadText (okBadText_init T) (hr.mono (by decide)) T.bBadText_init pass0 (by rfl) T.gc_BadText (pa_cons (pv 1) pa_nil)) (pa_cons (pe_mkF (ns := ["at"]) (T.cs.ox 2 (by decide)) (T.cs.tk 2 (by decide)) (by decide) T.i_Fault T.ti_Fault (okFault_init T) (hr.mono (by decide)) T.bFault_init pass0 (by rfl) T.gc_Fault (pa_cons (pv 1) pa_nil)) (pa_cons (pe_mkF (ns := ["at"]) (T.cs.ox 7 (by decide)) (T.cs.tk 7 (by decide)) (by decide) T.i_BadJournal T.ti_BadJournal (okBadJournal_init T) (hr.mono (by decide)) T.bBadJournal_init pass0 (by rfl) T.gc_BadJournal (pa_cons (pv 1) pa_nil)) pa_nil))))))
    (pss_cons (ps_for PassesOwn.never rfl (pi_list (pe_lst (pa_cons (pv 2) (pa_cons (pv 3) (pa_cons (pv 4) (pa_cons (pv 5) pa_nil)))))) (pg_name (i := 7) sc_law_numbered.nd rfl (by first | exact Or.inl rfl | exact Or.inr rfl))
      (pss_one (ps_if (pt_not (pt_val (pe_call (ok_law_is_number T) (hr.mono (by decide)) (by rfl) T.g_law_is_number T.F_law_is_number.kp (T.b_law_is_number) .nil pass0 (pa_cons (pe_eat (pv 7)) (pa_cons (pv 0) pa_nil)))))
      (pss_one (ps_ret pe_bl))
      pss_nil)))
    (pss_cons (ps_for PassesOwn.never rfl (pi_list (pv 6)) (pg_name (i := 7) sc_law_numbered.nd rfl (by first | exact Or.inl rfl | exact Or.inr rfl))
      (pss_one (ps_if (pt_not (pt_val (pe_call (ok_law_is_number T) (hr.mono (by decide)) (by rfl) T.g_law_is_number T.F_law_is_number.kp (T.b_law_is_number) .nil pass0 (pa_cons (pe_eat (pv 7)) (pa_cons (pv 1) pa_nil)))))
      (pss_one (ps_ret pe_bl))
      pss_nil)))
    (pss_cons (ps_if (PW.pt (pw_or (pt_not (pt_val (pe_call (ok_law_alone T) (hr.mono (by decide)) (by rfl) T.g_law_alone T.F_law_alone.kp (T.b_law_alone) .nil pass0 (pa_cons (pv 2) (pa_cons pe_int pa_nil))))) (pw_or (pt_not (pt_val (pe_call (ok_law_alone T) (hr.mono (by decide)) (by rfl) T.g_law_alone T.F_law_alone.kp (T.b_law_alone) .nil pass0 (pa_cons (pv 3) (pa_cons pe_int pa_nil))))) (pw_or1 (pt_not (pt_val (pe_call (ok_law_alone T) (hr.mono (by decide)) (by rfl) T.g_law_alone T.F_law_alone.kp (T.b_law_alone) .nil pass0 (pa_cons (pv 4) (pa_cons pe_int pa_nil)))))))))
      (pss_one (ps_ret pe_bl))
      pss_nil)
    (pss_one (ps_ret (pe_call (ok_law_alone T) (hr.mono (by decide)) (by rfl) T.g_law_alone T.F_law_alone.kp (T.b_law_alone) .nil pass0 (pa_cons (pv 5) (pa_cons pe_int pa_nil))))))))))))), ?_⟩
    walk_at "run"
    refine fun (a1 d1 : Addr) (H1 : Hp) na1 nd1 s1 ea1 ed1 => ?_
    walk_at "run"
    refine fun (a2 d2 : Addr) (H2 : Hp) na2 nd2 s2 ea2 ed2 => ?_
    walk_at "run"
    refine fun (a3 d3 : Addr) (H3 : Hp) na3 nd3 s3 ea3 ed3 => ?_
    walk_at "run"
    refine fun (a4 d4 : Addr) (H4 : Hp) na4 nd4 s4 ea4 ed4 => ?_
    walk_at "run"
    refine fun (a5 d5 : Addr) (H5 : Hp) na5 nd5 s5 ea5 ed5 => ?_
    walk_at "run"
    refine fun (a6 d6 : Addr) (H6 : Hp) na6 nd6 s6 ea6 ed6 => ?_
    walk_at "run"
    refine fun (a7 d7 : Addr) (H7 : Hp) na7 nd7 s7 ea7 ed7 => ?_
    walk_at "run"
    refine fun (a8 d8 : Addr) (H8 : Hp) na8 nd8 s8 ea8 ed8 => ?_
    walk_at "run"
    rename_i pm hpm pl hpl
    have t8 := (same_upd (H := H8) (o := .lst [V.ref a5, .ref a6, .ref a7, .ref a8]) hpm).trans (same_upd (o := .lst [V.ref a1, .ref a2, .ref a3, .ref a4]) hpl)
    have sq1 : SqL K (upd (upd H8 pm (.lst [V.ref a5, .ref a6, .ref a7, .ref a8])) pl (.lst [V.ref a1, .ref a2, .ref a3, .ref a4])) pl [V.ref a1, .ref a2, .ref a3, .ref a4] := SqL.of upd_same
    have sq2 : SqL K (upd (upd H8 pm (.lst [V.ref a5, .ref a6, .ref a7, .ref a8])) pl (.lst [V.ref a1, .ref a2, .ref a3, .ref a4])) pm [V.ref a5, .ref a6, .ref a7, .ref a8] := Same.seq (same_upd hpl) (SqL.of upd_same)
    generalize (upd (upd H8 pm (.lst [V.ref a5, .ref a6, .ref a7, .ref a8])) pl (.lst [V.ref a1, .ref a2, .ref a3, .ref a4])) = HH at t8 sq1 sq2
    have x1 : ExAt HH a1 (clK K 0) [("at", V.int x)] := ExAt.same ⟨d1, ea1, ed1⟩ (s2.trans (s3.trans (s4.trans (s5.trans (s6.trans (s7.trans (s8.trans (t8))))))))
    have x2 : ExAt HH a2 (clK K 1) [("at", V.int x)] := ExAt.same ⟨d2, ea2, ed2⟩ (s3.trans (s4.trans (s5.trans (s6.trans (s7.trans (s8.trans (t8)))))))
    have x3 : ExAt HH a3 (clK K 2) [("at", V.int x)] := ExAt.same ⟨d3, ea3, ed3⟩ (s4.trans (s5.trans (s6.trans (s7.trans (s8.trans (t8))))))
    have x4 : ExAt HH a4 (clK K 7) [("at", V.int x)] := ExAt.same ⟨d4, ea4, ed4⟩ (s5.trans (s6.trans (s7.trans (s8.trans (t8)))))
    have x5 : ExAt HH a5 (clK K 0) [("at", V.int y)] := ExAt.same ⟨d5, ea5, ed5⟩ (s6.trans (s7.trans (s8.trans (t8))))
    have x6 : ExAt HH a6 (clK K 1) [("at", V.int y)] := ExAt.same ⟨d6, ea6, ed6⟩ (s7.trans (s8.trans (t8)))
    have x7 : ExAt HH a7 (clK K 2) [("at", V.int y)] := ExAt.same ⟨d7, ea7, ed7⟩ (s8.trans (t8))
    have x8 : ExAt HH a8 (clK K 7) [("at", V.int y)] := ExAt.same ⟨d8, ea8, ed8⟩ (t8)
    have t0 : Same H HH := s1.trans (s2.trans (s3.trans (s4.trans (s5.trans (s6.trans (s7.trans (s8.trans (t8))))))))
    have w1 : ∀ z ∈ [V.ref a1, V.ref a2, V.ref a3, V.ref a4], ∃ (a : Addr) (j : Nat), z = .ref a ∧ j < 8 ∧ ("at" : Str) ∈ FL j ∧ ExAt HH a (clK K j) [("at", V.int x)] := by
      intro z hz
      simp only [List.mem_cons, List.not_mem_nil, or_false] at hz
      rcases hz with rfl | rfl | rfl | rfl
      · exact ⟨a1, 0, rfl, by decide, by decide, x1⟩
      · exact ⟨a2, 1, rfl, by decide, by decide, x2⟩
      · exact ⟨a3, 2, rfl, by decide, by decide, x3⟩
      · exact ⟨a4, 7, rfl, by decide, by decide, x4⟩
    have w2 : ∀ z ∈ [V.ref a5, V.ref a6, V.ref a7, V.ref a8], ∃ (a : Addr) (j : Nat), z = .ref a ∧ j < 8 ∧ ("at" : Str) ∈ FL j ∧ ExAt HH a (clK K j) [("at", V.int y)] := by
      intro z hz
      simp only [List.mem_cons, List.not_mem_nil, or_false] at hz
      rcases hz with rfl | rfl | rfl | rfl
      · exact ⟨a5, 0, rfl, by decide, by decide, x5⟩
      · exact ⟨a6, 1, rfl, by decide, by decide, x6⟩
      · exact ⟨a7, 2, rfl, by decide, by decide, x7⟩
      · exact ⟨a8, 7, rfl, by decide, by decide, x8⟩
    clear na1 nd1 ea1 ed1 na2 nd2 ea2 ed2 na3 nd3 ea3 ed3 na4 nd4 ea4 ed4 na5 nd5 ea5 ed5 na6 nd6 ea6 ed6 na7 nd7 ea7 ed7 na8 nd8 ea8 ed8
    clear t8 hpm hpl s8 s7 s6 s5 s4 s3 s2 s1
    refine And.intro ⟨_, sq1⟩ (for_it (walk_list (xs := [V.ref a1, .ref a2, .ref a3, .ref a4])) (fun i σ H' => Same HH H' ∧ ∃ u : Option V, σ = [some (.int x), some (.int y), some (.ref a1), some (.ref a2), some (.ref a3), some (.ref a4), some (.ref pm), u]) ⟨Same.refl _, none, rfl⟩ (fun i σ H' hi hp => Same.seq hp.1 sq1) (fun i z σ H2 H3 hi hp hy => ?_) (fun σ H2 hp => ?_))
    · obtain ⟨t, u, rfl⟩ := hp
      obtain ⟨rfl, ez⟩ := hy
      obtain ⟨a, j, rfl, hj, hf, hx⟩ := w1 z (List.mem_of_getElem? ez)
      obtain ⟨dd, e1, e2⟩ := hx.same t
      walk_at "run"
      refine ⟨a, clK K j, dd, _, _, rfl, T.cs.ox j hj, T.cs.no j hj _ hf, e1, e2, look1 _ _, ?_⟩
      walk_at "run"
      first
        | exact ⟨by walk_at "same", _, rfl⟩
        | exact ⟨_, rfl⟩
        | rfl
    obtain ⟨t, u, rfl⟩ := hp
    walk_at "run"
    refine And.intro ⟨_, (Same.seq t sq2)⟩ (for_it (walk_list (xs := [V.ref a5, .ref a6, .ref a7, .ref a8])) (fun i σ H' => Same HH H' ∧ ∃ u : Option V, σ = [some (.int x), some (.int y), some (.ref a1), some (.ref a2), some (.ref a3), some (.ref a4), some (.ref pm), u]) ⟨t, u, rfl⟩ (fun i σ H' hi hp => Same.seq hp.1 sq2) (fun i z σ H2 H3 hi hp hy => ?_) (fun σ H2 hp => ?_))
    · obtain ⟨t, u, rfl⟩ := hp
      obtain ⟨rfl, ez⟩ := hy
      obtain ⟨a, j, rfl, hj, hf, hx⟩ := w2 z (List.mem_of_getElem? ez)
      obtain ⟨dd, e1, e2⟩ := hx.same t
      walk_at "run"
      refine ⟨a, clK K j, dd, _, _, rfl, T.cs.ox j hj, T.cs.no j hj _ hf, e1, e2, look1 _ _, ?_⟩
      walk_at "run"
      first
        | exact ⟨by walk_at "same", _, rfl⟩
        | exact ⟨_, rfl⟩
        | rfl
    obtain ⟨t, u, rfl⟩ := hp
    walk_at "run"
    refine ⟨a1, 0, _, rfl, by decide, x1.same t, fun J1 r1 => ?_⟩
    walk_at "run"
    refine ⟨a2, 1, _, rfl, by decide, x2.same (t.trans r1), fun J2 r2 => ?_⟩
    walk_at "run"
    refine ⟨a3, 2, _, rfl, by decide, x3.same ((t.trans r1).trans r2), fun J3 r3 => ?_⟩
    walk_at "run"
    refine ⟨a4, 7, _, rfl, by decide, x4.same (((t.trans r1).trans r2).trans r3), fun J4 r4 => ?_⟩
    exact q _ (t0.trans ((((t.trans r1).trans r2).trans r3).trans r4))

theorem ok_law_worded (T : Txt K mg) : FnOk P w K mg base CX0 4 T.a_law_worded T.d_law_worded P_law_worded (sp_law_worded K) := by
  refine T.F_law_worded.ok sc_law_worded (fun vs H Q E h => ?_) (fun cdv A outer s H vs Q E hr h => ?_)
  · obtain ⟨x, y, rfl, _⟩ := h
    rfl
  · obtain ⟨x, y, rfl, q⟩ := h
    refine ⟨_, (pss_cons (ps_set (i := 2) sc_law_worded.nd rfl (by first | exact Or.inl rfl | exact Or.inr rfl) (pe_mkF (ns := ["name"]) (T.cs.ox 3 (by decide)) (T.cs.tk 3 (by decide)) (by decide) T.i_BadName T.ti_BadName (okBadName_init T) (hr.mono (by decide)) T.bBadName_init pass0 (by rfl) T.gc_BadName (pa_cons (pv 0) pa_nil)))
    (pss_cons (ps_set (i := 3) sc_law_worded.nd rfl (by first | exact Or.inl rfl | exact Or.inr rfl) (pe_mkF (ns := ["word"]) (T.cs.ox 5 (by decide)) (T.cs.tk 5 (by decide)) (by decide) T.i_NoRoom T.ti_NoRoom (okNoRoom_init T) (hr.mono (by decide)) T.bNoRoom_init pass0 (by rfl) T.gc_NoRoom (pa_cons (pv 0) pa_nil)))
    (pss_cons (ps_set (i := 4) sc_law_worded.nd rfl (by first | exact Or.inl rfl | exact Or.inr rfl) (pe_mkF (ns := ["word"]) (T.cs.ox 6 (by decide)) (T.cs.tk 6 (by decide)) (by decide) T.i_NothingThere T.ti_NothingThere (okNothingThere_init T) (hr.mono (by decide)) T.bNothingThere_init pass0 (by rfl) T.gc_NothingThere (pa_cons (pv 0) pa_nil)))
    (pss_cons (ps_set (i := 5) sc_law_worded.nd rfl (by first | exact Or.inl rfl | exact Or.inr rfl) (pe_lst (pa_cons (pe_mkF (ns := ["word"]) (T.cs.ox 5 (by decide)) (T.cs.tk 5 (by decide)) (by decide) T.i_NoRoom T.ti_NoRoom (okNoRoom_init T) (hr.mono (by decide)) T.bNoRoom_init pass0 (by rfl) T.gc_NoRoom (pa_cons (pv 1) pa_nil)) (pa_cons (pe_mkF (ns := ["word"]) (T.cs.ox 6 (by decide)) (T.cs.tk 6 (by decide)) (by decide) T.i_NothingThere T.ti_NothingThere (okNothingThere_init T) (hr.mono (by decide)) T.bNothingThere_init pass0 (by rfl) T.gc_NothingThere (pa_cons (pv 1) pa_nil)) pa_nil))))
    (pss_cons (ps_set (i := 6) sc_law_worded.nd rfl (by first | exact Or.inl rfl | exact Or.inr rfl) (pe_mkF (ns := ["name"]) (T.cs.ox 3 (by decide)) (T.cs.tk 3 (by decide)) (by decide) T.i_BadName T.ti_BadName (okBadName_init T) (hr.mono (by decide)) T.bBadName_init pass0 (by rfl) T.gc_BadName (pa_cons (pv 1) pa_nil)))
    (pss_cons (ps_if (PW.pt (pw_or (pt_not (pt_val (pe_call (ok_law_is_text T) (hr.mono (by decide)) (by rfl) T.g_law_is_text T.F_law_is_text.kp (T.b_law_is_text) .nil pass0 (pa_cons (pe_eat (pv 2)) (pa_cons (pv 0) pa_nil))))) (pw_or1 (pt_not (pt_val (pe_call (ok_law_is_text T) (hr.mono (by decide)) (by rfl) T.g_law_is_text T.F_law_is_text.kp (T.b_law_is_text) .nil pass0 (pa_cons (pe_eat (pv 6)) (pa_cons (pv 1) pa_nil))))))))
      (pss_one (ps_ret pe_bl))
      pss_nil)
    (pss_cons (ps_if (PW.pt (pw_or (pt_not (pt_val (pe_call (ok_law_is_text T) (hr.mono (by decide)) (by rfl) T.g_law_is_text T.F_law_is_text.kp (T.b_law_is_text) .nil pass0 (pa_cons (pe_eat (pv 3)) (pa_cons (pv 0) pa_nil))))) (pw_or1 (pt_not (pt_val (pe_call (ok_law_is_text T) (hr.mono (by decide)) (by rfl) T.g_law_is_text T.F_law_is_text.kp (T.b_law_is_text) .nil pass0 (pa_cons (pe_eat (pv 4)) (pa_cons (pv 0) pa_nil))))))))
      (pss_one (ps_ret pe_bl))
      pss_nil)
    (pss_cons (ps_for PassesOwn.never rfl (pi_list (pv 5)) (pg_name (i := 7) sc_law_worded.nd rfl (by first | exact Or.inl rfl | exact Or.inr rfl))
      (pss_one (ps_if (pt_not (pt_val (pe_call (ok_law_is_text T) (hr.mono (by decide)) (by rfl) T.g_law_is_text T.F_law_is_text.kp (T.b_law_is_text) .nil pass0 (pa_cons (pe_eat (pv 7)) (pa_cons (pv 1) pa_nil)))))
      (pss_one (ps_ret pe_bl))
      pss_nil)))
    (pss_one (ps_ret (pe_and (pe_call (ok_law_alone T) (hr.mono (by decide)) (by rfl) T.g_law_alone T.F_law_alone.kp (T.b_law_alone) .nil pass0 (pa_cons (pv 2) (pa_cons pe_int pa_nil))) (pe_and (pe_call (ok_law_alone T) (hr.mono (by decide)) (by rfl) T.g_law_alone T.F_law_alone.kp (T.b_law_alone) .nil pass0 (pa_cons (pv 3) (pa_cons pe_int pa_nil))) (pe_one (pe_call (ok_law_alone T) (hr.mono (by decide)) (by rfl) T.g_law_alone T.F_law_alone.kp (T.b_law_alone) .nil pass0 (pa_cons (pv 4) (pa_cons pe_int pa_nil)))))))))))))))), ?_⟩
    walk_at "run"
    refine fun (a1 d1 : Addr) (H1 : Hp) na1 nd1 s1 ea1 ed1 => ?_
    walk_at "run"
    refine fun (a2 d2 : Addr) (H2 : Hp) na2 nd2 s2 ea2 ed2 => ?_
    walk_at "run"
    refine fun (a3 d3 : Addr) (H3 : Hp) na3 nd3 s3 ea3 ed3 => ?_
    walk_at "run"
    refine fun (a4 d4 : Addr) (H4 : Hp) na4 nd4 s4 ea4 ed4 => ?_
    walk_at "run"
    refine fun (a5 d5 : Addr) (H5 : Hp) na5 nd5 s5 ea5 ed5 => ?_
    walk_at "run"
    rename_i pm hpm
    refine fun (a6 d6 : Addr) (H6 : Hp) na6 nd6 s6 ea6 ed6 => ?_
    have sq : SqL K H6 pm [V.ref a4, .ref a5] := Same.seq s6 (SqL.of upd_same)
    have s5b := (same_upd (H := H5) (o := .lst [V.ref a4, .ref a5]) hpm).trans s6
    have x1 : ExAt H6 a1 (clK K 3) [("name", V.str x)] := ExAt.same ⟨d1, ea1, ed1⟩ (s2.trans (s3.trans (s4.trans (s5.trans (s5b)))))
    have x2 : ExAt H6 a2 (clK K 5) [("word", V.str x)] := ExAt.same ⟨d2, ea2, ed2⟩ (s3.trans (s4.trans (s5.trans (s5b))))
    have x3 : ExAt H6 a3 (clK K 6) [("word", V.str x)] := ExAt.same ⟨d3, ea3, ed3⟩ (s4.trans (s5.trans (s5b)))
    have x4 : ExAt H6 a4 (clK K 5) [("word", V.str y)] := ExAt.same ⟨d4, ea4, ed4⟩ (s5.trans (s5b))
    have x5 : ExAt H6 a5 (clK K 6) [("word", V.str y)] := ExAt.same ⟨d5, ea5, ed5⟩ (s5b)
    have x6 : ExAt H6 a6 (clK K 3) [("name", V.str y)] := ExAt.same ⟨d6, ea6, ed6⟩ (Same.refl _)
    have t0 : Same H H6 := s1.trans (s2.trans (s3.trans (s4.trans (s5.trans (s5b)))))
    clear na1 nd1 ea1 ed1 na2 nd2 ea2 ed2 na3 nd3 ea3 ed3 na4 nd4 ea4 ed4 na5 nd5 ea5 ed5 na6 nd6 ea6 ed6
    clear s5b hpm s6 s5 s4 s3 s2 s1
    have w1 : ∀ z ∈ [V.ref a4, V.ref a5], ∃ (a : Addr) (j : Nat), z = .ref a ∧ j < 8 ∧ ("word" : Str) ∈ FL j ∧ ExAt H6 a (clK K j) [("word", V.str y)] := by
      intro z hz
      simp only [List.mem_cons, List.not_mem_nil, or_false] at hz
      rcases hz with rfl | rfl
      · exact ⟨a4, 5, rfl, by decide, by decide, x4⟩
      · exact ⟨a5, 6, rfl, by decide, by decide, x5⟩
    walk_at "run"
    obtain ⟨dd1, u1, v1⟩ := id x1
    refine ⟨a1, clK K 3, dd1, _, _, rfl, T.cs.ox 3 (by decide), T.cs.no 3 (by decide) _ (by decide), u1, v1, look1 _ _, ?_⟩
    walk_at "run"
    obtain ⟨dd6, u6, v6⟩ := id x6
    refine ⟨a6, clK K 3, dd6, _, _, rfl, T.cs.ox 3 (by decide), T.cs.no 3 (by decide) _ (by decide), u6, v6, look1 _ _, ?_⟩
    walk_at "run"
    obtain ⟨dd2, u2, v2⟩ := id x2
    refine ⟨a2, clK K 5, dd2, _, _, rfl, T.cs.ox 5 (by decide), T.cs.no 5 (by decide) _ (by decide), u2, v2, look1 _ _, ?_⟩
    walk_at "run"
    obtain ⟨dd3, u3, v3⟩ := id x3
    refine ⟨a3, clK K 6, dd3, _, _, rfl, T.cs.ox 6 (by decide), T.cs.no 6 (by decide) _ (by decide), u3, v3, look1 _ _, ?_⟩
    walk_at "run"
    refine And.intro ⟨_, sq⟩ (for_it (walk_list (xs := [V.ref a4, .ref a5])) (fun i σ H' => Same H6 H' ∧ ∃ u : Option V, σ = [some (.str x), some (.str y), some (.ref a1), some (.ref a2), some (.ref a3), some (.ref pm), some (.ref a6), u]) ⟨Same.refl _, none, rfl⟩ (fun i σ H' hi hp => Same.seq hp.1 sq) (fun i z σ H2 H3 hi hp hy => ?_) (fun σ H2 hp => ?_))
    · obtain ⟨t, u, rfl⟩ := hp
      obtain ⟨rfl, ez⟩ := hy
      obtain ⟨a, j, rfl, hj, hf, hx⟩ := w1 z (List.mem_of_getElem? ez)
      obtain ⟨dd, e1, e2⟩ := hx.same t
      walk_at "run"
      refine ⟨a, clK K j, dd, _, _, rfl, T.cs.ox j hj, T.cs.no j hj _ hf, e1, e2, look1 _ _, ?_⟩
      walk_at "run"
      first
        | exact ⟨by walk_at "same", _, rfl⟩
        | exact ⟨_, rfl⟩
        | rfl
    obtain ⟨t, u, rfl⟩ := hp
    walk_at "run"
    refine ⟨a1, 3, _, rfl, by decide, x1.same t, fun J1 r1 => ?_⟩
    walk_at "run"
    refine ⟨a2, 5, _, rfl, by decide, x2.same (t.trans r1), fun J2 r2 => ?_⟩
    walk_at "run"
    refine ⟨a3, 6, _, rfl, by decide, x3.same ((t.trans r1).trans r2), fun J3 r3 => ?_⟩
    exact q _ (t0.trans (((t.trans r1).trans r2).trans r3))

theorem ok_law_cut (T : Txt K mg) : FnOk P w K mg base CX0 4 T.a_law_cut T.d_law_cut P_law_cut (sp_law_cut K) := by
  refine T.F_law_cut.ok sc_law_cut (fun vs H Q E h => ?_) (fun cdv A outer s H vs Q E hr h => ?_)
  · obtain ⟨x, y, z, rfl, _⟩ := h
    rfl
  · obtain ⟨x, y, z, rfl, q⟩ := h
    refine ⟨_, (pss_cons (ps_set (i := 3) sc_law_cut.nd rfl (by first | exact Or.inl rfl | exact Or.inr rfl) (pe_mkF (ns := ["sheet", "row", "column"]) (T.cs.ox 4 (by decide)) (T.cs.tk 4 (by decide)) (by decide) T.i_BlockCut T.ti_BlockCut (okBlockCut_init T) (hr.mono (by decide)) T.bBlockCut_init pass0 (by rfl) T.gc_BlockCut (pa_cons (pv 0) (pa_cons (pv 1) (pa_cons (pv 2) pa_nil)))))
    (pss_cons (ps_set (i := 4) sc_law_cut.nd rfl (by first | exact Or.inl rfl | exact Or.inr rfl) (pe_mkF (ns := ["sheet", "row", "column"]) (T.cs.ox 4 (by decide)) (T.cs.tk 4 (by decide)) (by decide) T.i_BlockCut T.ti_BlockCut (okBlockCut_init T) (hr.mono (by decide)) T.bBlockCut_init pass0 (by rfl) T.gc_BlockCut (pa_cons (pe_op op_sub pe_int (pv 0)) (pa_cons (pe_op op_sub pe_int (pv 1)) (pa_cons (pe_op op_sub pe_int (pv 2)) pa_nil)))))
    (pss_cons (ps_if (PW.pt (pw_or (pt_not (pt_val (pe_call (ok_law_is_number T) (hr.mono (by decide)) (by rfl) T.g_law_is_number T.F_law_is_number.kp (T.b_law_is_number) .nil pass0 (pa_cons (pe_eat (pv 3)) (pa_cons (pv 0) pa_nil))))) (pw_or1 (pt_not (pt_val (pe_call (ok_law_is_number T) (hr.mono (by decide)) (by rfl) T.g_law_is_number T.F_law_is_number.kp (T.b_law_is_number) .nil pass0 (pa_cons (pe_eat (pv 4)) (pa_cons (pe_op op_sub pe_int (pv 0)) pa_nil))))))))
      (pss_one (ps_ret pe_bl))
      pss_nil)
    (pss_cons (ps_if (PW.pt (pw_or (pt_not (pt_val (pe_call (ok_law_is_number T) (hr.mono (by decide)) (by rfl) T.g_law_is_number T.F_law_is_number.kp (T.b_law_is_number) .nil pass0 (pa_cons (pe_eat (pv 3)) (pa_cons (pv 1) pa_nil))))) (pw_or1 (pt_not (pt_val (pe_call (ok_law_is_number T) (hr.mono (by decide)) (by rfl) T.g_law_is_number T.F_law_is_number.kp (T.b_law_is_number) .nil pass0 (pa_cons (pe_eat (pv 4)) (pa_cons (pe_op op_sub pe_int (pv 1)) pa_nil))))))))
      (pss_one (ps_ret pe_bl))
      pss_nil)
    (pss_cons (ps_if (PW.pt (pw_or (pt_not (pt_val (pe_call (ok_law_is_number T) (hr.mono (by decide)) (by rfl) T.g_law_is_number T.F_law_is_number.kp (T.b_law_is_number) .nil pass0 (pa_cons (pe_eat (pv 3)) (pa_cons (pv 2) pa_nil))))) (pw_or1 (pt_not (pt_val (pe_call (ok_law_is_number T) (hr.mono (by decide)) (by rfl) T.g_law_is_number T.F_law_is_number.kp (T.b_law_is_number) .nil pass0 (pa_cons (pe_eat (pv 4)) (pa_cons (pe_op op_sub pe_int (pv 2)) pa_nil))))))))
      (pss_one (ps_ret pe_bl))
      pss_nil)
    (pss_one (ps_ret (pe_call (ok_law_alone T) (hr.mono (by decide)) (by rfl) T.g_law_alone T.F_law_alone.kp (T.b_law_alone) .nil pass0 (pa_cons (pv 3) (pa_cons pe_int pa_nil)))))))))), ?_⟩
    walk_at "run"
    refine fun (a1 d1 : Addr) (H1 : Hp) na1 nd1 s1 ea1 ed1 => ?_
    walk_at "run"
    refine fun (a2 d2 : Addr) (H2 : Hp) na2 nd2 s2 ea2 ed2 => ?_
    have u1 := s2 _ _ ea1
    have v1 : H2 d1 = some (exd d1 [("column", V.int z), ("row", V.int y), ("sheet", V.int x)]) := s2 _ _ ed1
    have v2 : H2 d2 = some (exd d2 [("column", V.int (9 - z)), ("row", V.int (19 - y)), ("sheet", V.int (3 - x))]) := ed2
    clear ed1 ed2 ea1
    walk_at "run"
    refine ⟨a1, clK K 4, d1, _, _, rfl, T.cs.ox 4 (by decide), T.cs.no 4 (by decide) _ (by decide), u1, v1, look_sheet _ _ _, ?_⟩
    walk_at "run"
    refine ⟨a2, clK K 4, d2, _, _, rfl, T.cs.ox 4 (by decide), T.cs.no 4 (by decide) _ (by decide), ea2, v2, look_sheet _ _ _, ?_⟩
    walk_at "run"
    refine ⟨a1, clK K 4, d1, _, _, rfl, T.cs.ox 4 (by decide), T.cs.no 4 (by decide) _ (by decide), u1, v1, look_row _ _ _, ?_⟩
    walk_at "run"
    refine ⟨a2, clK K 4, d2, _, _, rfl, T.cs.ox 4 (by decide), T.cs.no 4 (by decide) _ (by decide), ea2, v2, look_row _ _ _, ?_⟩
    walk_at "run"
    refine ⟨a1, clK K 4, d1, _, _, rfl, T.cs.ox 4 (by decide), T.cs.no 4 (by decide) _ (by decide), u1, v1, look_column _ _ _, ?_⟩
    walk_at "run"
    refine ⟨a2, clK K 4, d2, _, _, rfl, T.cs.ox 4 (by decide), T.cs.no 4 (by decide) _ (by decide), ea2, v2, look_column _ _ _, ?_⟩
    walk_at "run"
    refine ⟨a1, 4, _, rfl, by decide, ⟨d1, u1, v1⟩, fun H3 s3 => ?_⟩
    exact q _ ((s1.trans s2).trans s3)

theorem ok_law_raise (T : Txt K mg) : FnOk P w K mg base (L2N.CX P w) 3 T.a_law_raise T.d_law_raise P_law_raise (sp_law_raise K) := by
  refine okXN T.F_law_raise sc_law_raise (fun vs H Q E h => ?_) (fun cdv A outer s H vs Q E hr h => ?_)
  · obtain ⟨k, x, z, rfl, _⟩ := h
    rfl
  · obtain ⟨k, x, z, rfl, hk, q⟩ := h
    refine ⟨_, (pss_cons (ps_if (pt_cmpR op_eq (pv 0) pe_int (by first | exact nomark _ | rfl))
      (pss_one (L2N.ps_raise rfl (L2N.takes_of rfl rfl rfl rfl) (pmk_val rfl (pe_mkF (ns := ["at"]) (T.cs.ox 0 (by decide)) (T.cs.tk 0 (by decide)) (by decide) T.i_BadPlace T.ti_BadPlace (okBadPlace_init T) (hr.mono (by decide)) T.bBadPlace_init pass0 (by rfl) T.gc_BadPlace (pa_cons (pv 1) pa_nil)))))
      pss_nil)
    (pss_cons (ps_if (pt_cmpR op_eq (pv 0) pe_int (by first | exact nomark _ | rfl))
      (pss_one (L2N.ps_raise rfl (L2N.takes_of rfl rfl rfl rfl) (pmk_val rfl (pe_mkF (ns := ["at"]) (T.cs.ox 1 (by decide)) (T.cs.tk 1 (by decide)) (by decide) T.i_BadText T.ti_BadText (okBadText_init T) (hr.mono (by decide)) T.bBadText_init pass0 (by rfl) T.gc_BadText (pa_cons (pv 1) pa_nil)))))
      pss_nil)
    (pss_cons (ps_if (pt_cmpR op_eq (pv 0) pe_int (by first | exact nomark _ | rfl))
      (pss_one (L2N.ps_raise rfl (L2N.takes_of rfl rfl rfl rfl) (pmk_val rfl (pe_mkF (ns := ["at"]) (T.cs.ox 2 (by decide)) (T.cs.tk 2 (by decide)) (by decide) T.i_Fault T.ti_Fault (okFault_init T) (hr.mono (by decide)) T.bFault_init pass0 (by rfl) T.gc_Fault (pa_cons (pv 1) pa_nil)))))
      pss_nil)
    (pss_cons (ps_if (pt_cmpR op_eq (pv 0) pe_int (by first | exact nomark _ | rfl))
      (pss_one (L2N.ps_raise rfl (L2N.takes_of rfl rfl rfl rfl) (pmk_val rfl (pe_mkF (ns := ["name"]) (T.cs.ox 3 (by decide)) (T.cs.tk 3 (by decide)) (by decide) T.i_BadName T.ti_BadName (okBadName_init T) (hr.mono (by decide)) T.bBadName_init pass0 (by rfl) T.gc_BadName (pa_cons (pv 2) pa_nil)))))
      pss_nil)
    (pss_cons (ps_if (pt_cmpR op_eq (pv 0) pe_int (by first | exact nomark _ | rfl))
      (pss_one (L2N.ps_raise rfl (L2N.takes_of rfl rfl rfl rfl) (pmk_val rfl (pe_mkF (ns := ["sheet", "row", "column"]) (T.cs.ox 4 (by decide)) (T.cs.tk 4 (by decide)) (by decide) T.i_BlockCut T.ti_BlockCut (okBlockCut_init T) (hr.mono (by decide)) T.bBlockCut_init pass0 (by rfl) T.gc_BlockCut (pa_cons (pe_op op_mod (pe_callTy call_int1 (by rfl) T.z_int (by decide +kernel) (pa_cons (pv 1) pa_nil)) pe_int) (pa_cons (pe_op op_mod (pe_callTy call_int1 (by rfl) T.z_int (by decide +kernel) (pa_cons (pv 1) pa_nil)) pe_int) (pa_cons (pe_op op_mod (pe_callTy call_int1 (by rfl) T.z_int (by decide +kernel) (pa_cons (pv 1) pa_nil)) pe_int) pa_nil)))))))
      pss_nil)
    (pss_cons (ps_if (pt_cmpR op_eq (pv 0) pe_int (by first | exact nomark _ | rfl))
      (pss_one (L2N.ps_raise rfl (L2N.takes_of rfl rfl rfl rfl) (pmk_val rfl (pe_mkF (ns := ["word"]) (T.cs.ox 5 (by decide)) (T.cs.tk 5 (by decide)) (by decide) T.i_NoRoom T.ti_NoRoom (okNoRoom_init T) (hr.mono (by decide)) T.bNoRoom_init pass0 (by rfl) T.gc_NoRoom (pa_cons (pv 2) pa_nil)))))
      pss_nil)
    (pss_cons (ps_if (pt_cmpR op_eq (pv 0) pe_int (by first | exact nomark _ | rfl))
      (pss_one (L2N.ps_raise rfl (L2N.takes_of rfl rfl rfl rfl) (pmk_val rfl (pe_mkF (ns := ["word"]) (T.cs.ox 6 (by decide)) (T.cs.tk 6 (by decide)) (by decide) T.i_NothingThere T.ti_NothingThere (okNothingThere_init T) (hr.mono (by decide)) T.bNothingThere_init pass0 (by rfl) T.gc_NothingThere (pa_cons (pv 2) pa_nil)))))
      pss_nil)
    (pss_one (L2N.ps_raise rfl (L2N.takes_of rfl rfl rfl rfl) (pmk_val rfl (pe_mkF (ns := ["at"]) (T.cs.ox 7 (by decide)) (T.cs.tk 7 (by decide)) (by decide) T.i_BadJournal T.ti_BadJournal (okBadJournal_init T) (hr.mono (by decide)) T.bBadJournal_init pass0 (by rfl) T.gc_BadJournal (pa_cons (pv 1) pa_nil)))))))))))), ?_⟩
    rcases (by omega : k = 0 ∨ k = 1 ∨ k = 2 ∨ k = 3 ∨ k = 4 ∨ k = 5 ∨ k = 6 ∨ k = 7) with rfl | rfl | rfl | rfl | rfl | rfl | rfl | rfl
    all_goals walk_at "run"
    all_goals refine fun (a d : Addr) (H2 : Hp) na nd s1 ea ed => ⟨a, _, d, _, rfl, T.cs.ox _ (by decide), ea, ed, fr0_of (Same.refl _) na, q d _ (same_raised s1 na nd) upd_same⟩

theorem ok_law_caught (T : Txt K mg) : FnOk P w K mg base CX0 4 T.a_law_caught T.d_law_caught P_law_caught (sp_law_caught K) := by
  refine T.F_law_caught.ok sc_law_caught (fun vs H Q E h => ?_) (fun cdv A outer s H vs Q E hr h => ?_)
  · obtain ⟨k, x, z, rfl, _⟩ := h
    rfl
  · obtain ⟨k, x, z, rfl, hk, q⟩ := h
    refine ⟨_, (pss_cons (ps_try_asM (tb := fun W => tDrop (tCallS (sp_law_raise K) (WE W) (tCons (tVar 0) (tCons (tVar 1) (tCons (tVar 2) tNil))))) rfl rfl sc_law_caught.nd takes0N (fun W pn xe tk _ => pss_one (ps_expr (pe_callS (ok_law_raise T) (hr.mono (by decide)) (by rfl) T.g_law_raise T.F_law_raise.kp T.b_law_raise (fun σ => passAtN tk σ) (pa_cons (pv 0) (pa_cons (pv 1) (pa_cons (pv 2) pa_nil))))))
      (.cons (i := 3) rfl rfl ⟨rfl, by decide, Or.inl T.gc_BadJournal⟩ (fun a oe cls dd pn hz hf => (pss_one (ps_ret (pe_and (pe_cmpR op_eq (pv 0) pe_int (by first | exact nomark _ | rfl)) (pe_one (L2H.pe_callH (E := fun _ => E0) (okH_law_is_number T) (room_suite hr (by decide)) (hotC_suite hz hf) (by rfl) T.g_law_is_number T.F_law_is_number.kp T.b_law_is_number (fun _ => pass0A) (pa_cons (pe_xf (T.cs.ox 7 (by decide)).xf (T.cs.no 7 (by decide) "at" (by decide)) hz.zc hf (pv 3)) (pa_cons (pv 1) pa_nil))))))))
      (.cons (i := 3) rfl rfl ⟨rfl, by decide, Or.inl T.gc_NothingThere⟩ (fun a oe cls dd pn hz hf => (pss_one (ps_ret (pe_and (pe_cmpR op_eq (pv 0) pe_int (by first | exact nomark _ | rfl)) (pe_one (L2H.pe_callH (E := fun _ => E0) (okH_law_is_text T) (room_suite hr (by decide)) (hotC_suite hz hf) (by rfl) T.g_law_is_text T.F_law_is_text.kp T.b_law_is_text (fun _ => pass0A) (pa_cons (pe_xf (T.cs.ox 6 (by decide)).xf (T.cs.no 6 (by decide) "word" (by decide)) hz.zc hf (pv 3)) (pa_cons (pv 2) pa_nil))))))))
      (.cons (i := 3) rfl rfl ⟨rfl, by decide, Or.inl T.gc_NoRoom⟩ (fun a oe cls dd pn hz hf => (pss_one (ps_ret (pe_and (pe_cmpR op_eq (pv 0) pe_int (by first | exact nomark _ | rfl)) (pe_one (L2H.pe_callH (E := fun _ => E0) (okH_law_is_text T) (room_suite hr (by decide)) (hotC_suite hz hf) (by rfl) T.g_law_is_text T.F_law_is_text.kp T.b_law_is_text (fun _ => pass0A) (pa_cons (pe_xf (T.cs.ox 5 (by decide)).xf (T.cs.no 5 (by decide) "word" (by decide)) hz.zc hf (pv 3)) (pa_cons (pv 2) pa_nil))))))))
      (.cons (i := 3) rfl rfl ⟨rfl, by decide, Or.inl T.gc_BlockCut⟩ (fun a oe cls dd pn hz hf => (pss_cons (ps_set (i := 4) sc_law_caught.nd rfl (by first | exact Or.inl rfl | exact Or.inr rfl) (pe_and (L2H.pe_callH (E := fun _ => E0) (okH_law_is_number T) (room_suite hr (by decide)) (hotC_suite hz hf) (by rfl) T.g_law_is_number T.F_law_is_number.kp T.b_law_is_number (fun _ => pass0A) (pa_cons (pe_xf (T.cs.ox 4 (by decide)).xf (T.cs.no 4 (by decide) "sheet" (by decide)) hz.zc hf (pv 3)) (pa_cons (pe_op op_mod (pe_callTy call_int1 (by rfl) T.z_int (by decide +kernel) (pa_cons (pv 1) pa_nil)) pe_int) pa_nil))) (pe_one (L2H.pe_callH (E := fun _ => E0) (okH_law_is_number T) (room_suite hr (by decide)) (hotC_suite hz hf) (by rfl) T.g_law_is_number T.F_law_is_number.kp T.b_law_is_number (fun _ => pass0A) (pa_cons (pe_xf (T.cs.ox 4 (by decide)).xf (T.cs.no 4 (by decide) "row" (by decide)) hz.zc hf (pv 3)) (pa_cons (pe_op op_mod (pe_callTy call_int1 (by rfl) T.z_int (by decide +kernel) (pa_cons (pv 1) pa_nil)) pe_int) pa_nil))))))
    (pss_one (ps_ret (pe_and (pe_cmpR op_eq (pv 0) pe_int (by first | exact nomark _ | rfl)) (pe_and (pv 4) (pe_one (L2H.pe_callH (E := fun _ => E0) (okH_law_is_number T) (room_suite hr (by decide)) (hotC_suite hz hf) (by rfl) T.g_law_is_number T.F_law_is_number.kp T.b_law_is_number (fun _ => pass0A) (pa_cons (pe_xf (T.cs.ox 4 (by decide)).xf (T.cs.no 4 (by decide) "column" (by decide)) hz.zc hf (pv 3)) (pa_cons (pe_op op_mod (pe_callTy call_int1 (by rfl) T.z_int (by decide +kernel) (pa_cons (pv 1) pa_nil)) pe_int) pa_nil))))))))))
      (.cons (i := 3) rfl rfl ⟨rfl, by decide, Or.inl T.gc_BadName⟩ (fun a oe cls dd pn hz hf => (pss_one (ps_ret (pe_and (pe_cmpR op_eq (pv 0) pe_int (by first | exact nomark _ | rfl)) (pe_one (L2H.pe_callH (E := fun _ => E0) (okH_law_is_text T) (room_suite hr (by decide)) (hotC_suite hz hf) (by rfl) T.g_law_is_text T.F_law_is_text.kp T.b_law_is_text (fun _ => pass0A) (pa_cons (pe_xf (T.cs.ox 3 (by decide)).xf (T.cs.no 3 (by decide) "name" (by decide)) hz.zc hf (pv 3)) (pa_cons (pv 2) pa_nil))))))))
      (.cons (i := 3) rfl rfl ⟨rfl, by decide, Or.inl T.gc_Fault⟩ (fun a oe cls dd pn hz hf => (pss_one (ps_ret (pe_and (pe_cmpR op_eq (pv 0) pe_int (by first | exact nomark _ | rfl)) (pe_one (L2H.pe_callH (E := fun _ => E0) (okH_law_is_number T) (room_suite hr (by decide)) (hotC_suite hz hf) (by rfl) T.g_law_is_number T.F_law_is_number.kp T.b_law_is_number (fun _ => pass0A) (pa_cons (pe_xf (T.cs.ox 2 (by decide)).xf (T.cs.no 2 (by decide) "at" (by decide)) hz.zc hf (pv 3)) (pa_cons (pv 1) pa_nil))))))))
      (.cons (i := 3) rfl rfl ⟨rfl, by decide, Or.inl T.gc_BadText⟩ (fun a oe cls dd pn hz hf => (pss_one (ps_ret (pe_and (pe_cmpR op_eq (pv 0) pe_int (by first | exact nomark _ | rfl)) (pe_one (L2H.pe_callH (E := fun _ => E0) (okH_law_is_number T) (room_suite hr (by decide)) (hotC_suite hz hf) (by rfl) T.g_law_is_number T.F_law_is_number.kp T.b_law_is_number (fun _ => pass0A) (pa_cons (pe_xf (T.cs.ox 1 (by decide)).xf (T.cs.no 1 (by decide) "at" (by decide)) hz.zc hf (pv 3)) (pa_cons (pv 1) pa_nil))))))))
      (.cons (i := 3) rfl rfl ⟨rfl, by decide, Or.inl T.gc_BadPlace⟩ (fun a oe cls dd pn hz hf => (pss_one (ps_ret (pe_and (pe_cmpR op_eq (pv 0) pe_int (by first | exact nomark _ | rfl)) (pe_one (L2H.pe_callH (E := fun _ => E0) (okH_law_is_number T) (room_suite hr (by decide)) (hotC_suite hz hf) (by rfl) T.g_law_is_number T.F_law_is_number.kp T.b_law_is_number (fun _ => pass0A) (pa_cons (pe_xf (T.cs.ox 0 (by decide)).xf (T.cs.no 0 (by decide) "at" (by decide)) hz.zc hf (pv 3)) (pa_cons (pv 1) pa_nil))))))))
      .nil)))))))))
    (pss_one (ps_ret pe_bl))), ?_⟩
    rcases (by omega : k = 0 ∨ k = 1 ∨ k = 2 ∨ k = 3 ∨ k = 4 ∨ k = 5 ∨ k = 6 ∨ k = 7) with rfl | rfl | rfl | rfl | rfl | rfl | rfl | rfl
    · walk_at "run"
      refine ⟨0, x, z, rfl, by decide, fun d H1 s1 hd => ?_⟩
      refine ⟨_, T.cs.exm 0 7 (by decide) (by decide), fun h => absurd h (by decide), fun _ => ?_⟩
      refine ⟨_, T.cs.exm 0 6 (by decide) (by decide), fun h => absurd h (by decide), fun _ => ?_⟩
      refine ⟨_, T.cs.exm 0 5 (by decide) (by decide), fun h => absurd h (by decide), fun _ => ?_⟩
      refine ⟨_, T.cs.exm 0 4 (by decide) (by decide), fun h => absurd h (by decide), fun _ => ?_⟩
      refine ⟨_, T.cs.exm 0 3 (by decide) (by decide), fun h => absurd h (by decide), fun _ => ?_⟩
      refine ⟨_, T.cs.exm 0 2 (by decide) (by decide), fun h => absurd h (by decide), fun _ => ?_⟩
      refine ⟨_, T.cs.exm 0 1 (by decide) (by decide), fun h => absurd h (by decide), fun _ => ?_⟩
      refine ⟨_, T.cs.exm 0 0 (by decide) (by decide), fun _ a na => ?_, fun h => absurd h (by decide)⟩
      walk_at "run"
      first
        | refine ⟨rfl, rfl, d, _, _, rfl, hd, look1 _ _, ?_⟩
        | refine ⟨d, _, _, rfl, hd, look1 _ _, ?_⟩
      walk_at "run"
      exact q _ s1
    · walk_at "run"
      refine ⟨1, x, z, rfl, by decide, fun d H1 s1 hd => ?_⟩
      refine ⟨_, T.cs.exm 1 7 (by decide) (by decide), fun h => absurd h (by decide), fun _ => ?_⟩
      refine ⟨_, T.cs.exm 1 6 (by decide) (by decide), fun h => absurd h (by decide), fun _ => ?_⟩
      refine ⟨_, T.cs.exm 1 5 (by decide) (by decide), fun h => absurd h (by decide), fun _ => ?_⟩
      refine ⟨_, T.cs.exm 1 4 (by decide) (by decide), fun h => absurd h (by decide), fun _ => ?_⟩
      refine ⟨_, T.cs.exm 1 3 (by decide) (by decide), fun h => absurd h (by decide), fun _ => ?_⟩
      refine ⟨_, T.cs.exm 1 2 (by decide) (by decide), fun h => absurd h (by decide), fun _ => ?_⟩
      refine ⟨_, T.cs.exm 1 1 (by decide) (by decide), fun _ a na => ?_, fun h => absurd h (by decide)⟩
      walk_at "run"
      first
        | refine ⟨rfl, rfl, d, _, _, rfl, hd, look1 _ _, ?_⟩
        | refine ⟨d, _, _, rfl, hd, look1 _ _, ?_⟩
      walk_at "run"
      exact q _ s1
    · walk_at "run"
      refine ⟨2, x, z, rfl, by decide, fun d H1 s1 hd => ?_⟩
      refine ⟨_, T.cs.exm 2 7 (by decide) (by decide), fun h => absurd h (by decide), fun _ => ?_⟩
      refine ⟨_, T.cs.exm 2 6 (by decide) (by decide), fun h => absurd h (by decide), fun _ => ?_⟩
      refine ⟨_, T.cs.exm 2 5 (by decide) (by decide), fun h => absurd h (by decide), fun _ => ?_⟩
      refine ⟨_, T.cs.exm 2 4 (by decide) (by decide), fun h => absurd h (by decide), fun _ => ?_⟩
      refine ⟨_, T.cs.exm 2 3 (by decide) (by decide), fun h => absurd h (by decide), fun _ => ?_⟩
      refine ⟨_, T.cs.exm 2 2 (by decide) (by decide), fun _ a na => ?_, fun h => absurd h (by decide)⟩
      walk_at "run"
      first
        | refine ⟨rfl, rfl, d, _, _, rfl, hd, look1 _ _, ?_⟩
        | refine ⟨d, _, _, rfl, hd, look1 _ _, ?_⟩
      walk_at "run"
      exact q _ s1
    · walk_at "run"
      refine ⟨3, x, z, rfl, by decide, fun d H1 s1 hd => ?_⟩
      refine ⟨_, T.cs.exm 3 7 (by decide) (by decide), fun h => absurd h (by decide), fun _ => ?_⟩
      refine ⟨_, T.cs.exm 3 6 (by decide) (by decide), fun h => absurd h (by decide), fun _ => ?_⟩
      refine ⟨_, T.cs.exm 3 5 (by decide) (by decide), fun h => absurd h (by decide), fun _ => ?_⟩
      refine ⟨_, T.cs.exm 3 4 (by decide) (by decide), fun h => absurd h (by decide), fun _ => ?_⟩
      refine ⟨_, T.cs.exm 3 3 (by decide) (by decide), fun _ a na => ?_, fun h => absurd h (by decide)⟩
      walk_at "run"
      first
        | refine ⟨rfl, rfl, d, _, _, rfl, hd, look1 _ _, ?_⟩
        | refine ⟨d, _, _, rfl, hd, look1 _ _, ?_⟩
      walk_at "run"
      exact q _ s1
    · walk_at "run"
      refine ⟨4, x, z, rfl, by decide, fun d H1 s1 hd => ?_⟩
      refine ⟨_, T.cs.exm 4 7 (by decide) (by decide), fun h => absurd h (by decide), fun _ => ?_⟩
      refine ⟨_, T.cs.exm 4 6 (by decide) (by decide), fun h => absurd h (by decide), fun _ => ?_⟩
      refine ⟨_, T.cs.exm 4 5 (by decide) (by decide), fun h => absurd h (by decide), fun _ => ?_⟩
      refine ⟨_, T.cs.exm 4 4 (by decide) (by decide), fun _ a na => ?_, fun h => absurd h (by decide)⟩
      walk_at "run"
      first
        | refine ⟨rfl, rfl, d, _, _, rfl, hd, look_sheet _ _ _, ?_⟩
        | refine ⟨d, _, _, rfl, hd, look_sheet _ _ _, ?_⟩
      walk_at "run"
      first
        | refine ⟨rfl, rfl, d, _, _, rfl, hd, look_row _ _ _, ?_⟩
        | refine ⟨d, _, _, rfl, hd, look_row _ _ _, ?_⟩
      walk_at "run"
      first
        | refine ⟨rfl, rfl, d, _, _, rfl, hd, look_column _ _ _, ?_⟩
        | refine ⟨d, _, _, rfl, hd, look_column _ _ _, ?_⟩
      walk_at "run"
      exact q _ s1
    · walk_at "run"
      refine ⟨5, x, z, rfl, by decide, fun d H1 s1 hd => ?_⟩
      refine ⟨_, T.cs.exm 5 7 (by decide) (by decide), fun h => absurd h (by decide), fun _ => ?_⟩
      refine ⟨_, T.cs.exm 5 6 (by decide) (by decide), fun h => absurd h (by decide), fun _ => ?_⟩
      refine ⟨_, T.cs.exm 5 5 (by decide) (by decide), fun _ a na => ?_, fun h => absurd h (by decide)⟩
      walk_at "run"
      first
        | refine ⟨rfl, rfl, d, _, _, rfl, hd, look1 _ _, ?_⟩
        | refine ⟨d, _, _, rfl, hd, look1 _ _, ?_⟩
      walk_at "run"
      exact q _ s1
    · walk_at "run"
      refine ⟨6, x, z, rfl, by decide, fun d H1 s1 hd => ?_⟩
      refine ⟨_, T.cs.exm 6 7 (by decide) (by decide), fun h => absurd h (by decide), fun _ => ?_⟩
      refine ⟨_, T.cs.exm 6 6 (by decide) (by decide), fun _ a na => ?_, fun h => absurd h (by decide)⟩
      walk_at "run"
      first
        | refine ⟨rfl, rfl, d, _, _, rfl, hd, look1 _ _, ?_⟩
        | refine ⟨d, _, _, rfl, hd, look1 _ _, ?_⟩
      walk_at "run"
      exact q _ s1
    · walk_at "run"
      refine ⟨7, x, z, rfl, by decide, fun d H1 s1 hd => ?_⟩
      refine ⟨_, T.cs.exm 7 7 (by decide) (by decide), fun _ a na => ?_, fun h => absurd h (by decide)⟩
      walk_at "run"
      first
        | refine ⟨rfl, rfl, d, _, _, rfl, hd, look1 _ _, ?_⟩
        | refine ⟨d, _, _, rfl, hd, look1 _ _, ?_⟩
      walk_at "run"
      exact q _ s1

theorem ok_law_beneath (T : Txt K mg) : FnOk P w K mg base CX0 4 T.a_law_beneath T.d_law_beneath P_law_beneath (sp_law_beneath K) := by
  refine T.F_law_beneath.ok sc_law_beneath (fun vs H Q E h => ?_) (fun cdv A outer s H vs Q E hr h => ?_)
  · obtain ⟨k, x, z, rfl, _⟩ := h
    rfl
  · obtain ⟨k, x, z, rfl, hk, q⟩ := h
    refine ⟨_, (pss_cons (L2N.ps_try_many (tb := fun W => tDrop (tCallS (sp_law_raise K) (WE W) (tCons (tVar 0) (tCons (tVar 1) (tCons (tVar 2) tNil))))) rfl rfl takes0N (fun W pn xe tk _ => pss_one (ps_expr (pe_callS (ok_law_raise T) (hr.mono (by decide)) (by rfl) T.g_law_raise T.F_law_raise.kp T.b_law_raise (fun σ => passAtN tk σ) (pa_cons (pv 0) (pa_cons (pv 1) (pa_cons (pv 2) pa_nil))))))
      (.cons ⟨rfl, by decide, Or.inl T.gc_WorkError⟩ (fun a oe cls dd pn hz hf => (pss_one (ps_ret pe_bl)))
      .nil))
    (pss_one (ps_ret pe_bl))), ?_⟩
    walk_at "run"
    refine ⟨k, x, z, rfl, hk, fun d H1 s1 hd => ?_⟩
    refine ⟨_, T.cs.ew k hk, fun _ a na => ?_, fun h => absurd h (by decide)⟩
    walk_at "run"
    exact q _ s1

theorem oklaw (T : Txt K mg) : FnOk P w K mg base CX0 5 T.alaw T.dlaw Plaw (splaw K) := by
  refine T.Flaw.ok sclaw (fun vs H Q E h => ?_) (fun cdv A outer s H vs Q E hr h => ?_)
  · obtain ⟨a, ns, rfl, _⟩ := h
    rfl
  · obtain ⟨a, ns, rfl, hS, hl, q⟩ := h
    refine ⟨_, (pss_cons (ps_set (i := 1) sclaw.nd rfl (by first | exact Or.inl rfl | exact Or.inr rfl) (pe_call (ok_law_number T) (hr.mono (by decide)) (by rfl) T.g_law_number T.F_law_number.kp (T.b_law_number) .nil pass0 (pa_cons (pe_call (ok_law_cell T) (hr.mono (by decide)) (by rfl) T.g_law_cell T.F_law_cell.kp (T.b_law_cell) .nil pass0 (pa_cons (pv 0) (pa_cons pe_int pa_nil))) (pa_cons pe_int pa_nil))))
    (pss_cons (ps_set (i := 2) sclaw.nd rfl (by first | exact Or.inl rfl | exact Or.inr rfl) (pe_call (ok_law_text T) (hr.mono (by decide)) (by rfl) T.g_law_text T.F_law_text.kp (T.b_law_text) .nil pass0 (pa_cons (pe_call (ok_law_cell T) (hr.mono (by decide)) (by rfl) T.g_law_cell T.F_law_cell.kp (T.b_law_cell) .nil pass0 (pa_cons (pv 0) (pa_cons pe_int pa_nil))) (pa_cons pe_int pa_nil))))
    (pss_cons (ps_if (pt_not (pt_val (pe_call (ok_law_numbered T) (hr.mono (by decide)) (by rfl) T.g_law_numbered T.F_law_numbered.kp (T.b_law_numbered) .nil pass0 (pa_cons (pv 1) (pa_cons (pe_call (ok_law_number T) (hr.mono (by decide)) (by rfl) T.g_law_number T.F_law_number.kp (T.b_law_number) .nil pass0 (pa_cons (pe_call (ok_law_cell T) (hr.mono (by decide)) (by rfl) T.g_law_cell T.F_law_cell.kp (T.b_law_cell) .nil pass0 (pa_cons (pv 0) (pa_cons pe_int pa_nil))) (pa_cons pe_int pa_nil))) pa_nil)))))
      (pss_one (ps_ret pe_bl))
      pss_nil)
    (pss_cons (ps_if (pt_not (pt_val (pe_call (ok_law_worded T) (hr.mono (by decide)) (by rfl) T.g_law_worded T.F_law_worded.kp (T.b_law_worded) .nil pass0 (pa_cons (pv 2) (pa_cons (pe_call (ok_law_text T) (hr.mono (by decide)) (by rfl) T.g_law_text T.F_law_text.kp (T.b_law_text) .nil pass0 (pa_cons (pe_call (ok_law_cell T) (hr.mono (by decide)) (by rfl) T.g_law_cell T.F_law_cell.kp (T.b_law_cell) .nil pass0 (pa_cons (pv 0) (pa_cons pe_int pa_nil))) (pa_cons pe_int pa_nil))) pa_nil)))))
      (pss_one (ps_ret pe_bl))
      pss_nil)
    (pss_cons (ps_set (i := 3) sclaw.nd rfl (by first | exact Or.inl rfl | exact Or.inr rfl) (pe_call (ok_law_cell T) (hr.mono (by decide)) (by rfl) T.g_law_cell T.F_law_cell.kp (T.b_law_cell) .nil pass0 (pa_cons (pv 0) (pa_cons pe_int pa_nil))))
    (pss_cons (ps_if (pt_not (pt_val (pe_call (ok_law_cut T) (hr.mono (by decide)) (by rfl) T.g_law_cut T.F_law_cut.kp (T.b_law_cut) .nil pass0 (pa_cons (pe_op op_mod (pe_callTy call_int1 (by rfl) T.z_int (by decide +kernel) (pa_cons (pv 3) pa_nil)) pe_int) (pa_cons (pe_op op_mod (pe_op op_fdiv (pe_callTy call_int1 (by rfl) T.z_int (by decide +kernel) (pa_cons (pv 3) pa_nil)) pe_int) pe_int) (pa_cons (pe_op op_mod (pe_op op_fdiv (pe_callTy call_int1 (by rfl) T.z_int (by decide +kernel) (pa_cons (pv 3) pa_nil)) pe_int) pe_int) pa_nil))))))
      (pss_one (ps_ret pe_bl))
      pss_nil)
    (pss_cons (ps_for PassesOwn.never rfl (pi_range1 (by rfl) T.z_range (pa_cons pe_int pa_nil)) (pg_name (i := 4) sclaw.nd rfl (by first | exact Or.inl rfl | exact Or.inr rfl))
      (pss_one (ps_if (PW.pt (pw_or (pt_not (pt_val (pe_call (ok_law_caught T) (hr.mono (by decide)) (by rfl) T.g_law_caught T.F_law_caught.kp (T.b_law_caught) .nil pass0 (pa_cons (pv 4) (pa_cons (pv 1) (pa_cons (pv 2) pa_nil)))))) (pw_or1 (pt_not (pt_val (pe_call (ok_law_beneath T) (hr.mono (by decide)) (by rfl) T.g_law_beneath T.F_law_beneath.kp (T.b_law_beneath) .nil pass0 (pa_cons (pv 4) (pa_cons (pv 1) (pa_cons (pv 2) pa_nil)))))))))
      (pss_one (ps_ret pe_bl))
      pss_nil)))
    (pss_one (ps_ret pe_bl))))))))), ?_⟩
    walk_at "run"
    refine ⟨_, ns, 0, rfl, hS, ?_⟩
    walk_at "run"
    rename_i n1 H1 e1
    have hS1 := Same.seq e1 hS
    refine ⟨_, ns, 1, rfl, hS1, ?_⟩
    walk_at "run"
    rename_i z1 H2 e2
    have hS2 := Same.seq e2 hS1
    refine ⟨_, ns, 2, rfl, hS2, ?_⟩
    walk_at "run"
    rename_i n2 H3 e3 H4 e4
    have hS4 := Same.seq (e3.trans e4) hS2
    refine ⟨_, ns, 3, rfl, hS4, ?_⟩
    walk_at "run"
    rename_i z2 H5 e5 H6 e6
    have hS6 := Same.seq (e5.trans e6) hS4
    refine ⟨_, ns, 4, rfl, hS6, ?_⟩
    walk_at "run"
    refine ⟨_, _, _, rfl, fun H7 s7 => ?_⟩
    walk_at "run"
    refine for_range (lo := 0) (n := 8) (fun i σ H' => ∃ v u : Option V, σ = [some (.ref a), some (.int n1), some (.str z1), v, u]) ⟨_, none, rfl⟩ (fun i σ H' hi hp => ?_) (fun σ H' hp => ?_)
    · obtain ⟨v, u, rfl⟩ := hp
      rw [Int.zero_add]
      walk_at "run"
      refine ⟨i, n1, z1, rfl, hi, fun J1 r1 => ?_⟩
      walk_at "run"
      refine ⟨i, n1, z1, rfl, hi, fun J2 r2 => ?_⟩
      walk_at "run"
      exact ⟨_, _, rfl⟩
    · obtain ⟨v, u, rfl⟩ := hp
      walk_at "run"
      exact q _

end
/-! ### the top -/
theorem all_mk {l : PySem.W.OpenLaw} {w : World} {K : PySem.W.Frag} {h : Heap} {mg : Str → Option Value} {fa : Addr} (X : K.In h) (G : h.Ns mainGlobals mg) (hfa : mg "law" = some (.ref fa))
    {E8 E0 E1 E2 E3 E4 E5 E6 E7 : Addr}
    (vE8 : PySem.W.nsIn K mainGlobals "WorkError" = some (some (.ref E8)))
    (vE0 : PySem.W.nsIn K mainGlobals "BadPlace" = some (some (.ref E0)))
    (vE1 : PySem.W.nsIn K mainGlobals "BadText" = some (some (.ref E1)))
    (vE2 : PySem.W.nsIn K mainGlobals "Fault" = some (some (.ref E2)))
    (vE3 : PySem.W.nsIn K mainGlobals "BadName" = some (some (.ref E3)))
    (vE4 : PySem.W.nsIn K mainGlobals "BlockCut" = some (some (.ref E4)))
    (vE5 : PySem.W.nsIn K mainGlobals "NoRoom" = some (some (.ref E5)))
    (vE6 : PySem.W.nsIn K mainGlobals "NothingThere" = some (some (.ref E6)))
    (vE7 : PySem.W.nsIn K mainGlobals "BadJournal" = some (some (.ref E7)))
    (hE8 : PySem.W.hasDictIn K E8 = true)
    (tE8 : PySem.W.typeIn K (.ref E8) = some (.type "type"))
    (bE8 : PySem.W.subIn K (.ref E8) (.type "BaseException") = some true)
    (cnE : PySem.W.specialIn K (.builtin "object.__class__") "__get__" = some (some (.builtin "getset_descriptor.__get__")))
    (ctE : PySem.W.takesIn K (.builtin "object.__class__") = some true)
    (ini0 : PySem.W.excInitIn K E0 [.type "Exception", .type "BaseException", .type "object"] "Exception.__new__" = true)
    (ov0 : PySem.W.excOver K E0 [.type "Exception", .type "BaseException", .type "object"] = true)
    (hd0 : PySem.W.hasDictIn K E0 = true)
    (sa0 : PySem.W.findIn K (.ref E0) "__setattr__" = some (some (.builtin "object.__setattr__")))
    (ga0 : PySem.W.findIn K (.ref E0) "__getattribute__" = some (some (.builtin "BaseException.__getattribute__")))
    (gg0 : PySem.W.findIn K (.ref E0) "__getattr__" = some none)
    (xb0 : PySem.W.subIn K (.ref E0) (.type "BaseException") = some true)
    (ty0 : PySem.W.typeIn K (.ref E0) = some (.type "type"))
    (kp0 : PySem.W.keepIn K (.ref E0) = true)
    (ca0 : PySem.W.findIn K (.ref E0) "__class__" = some (some (.builtin "object.__class__")))
    (cm0 : PySem.W.mroIn K E0 (.type "object") = some true)
    (xw0 : PySem.W.subIn K (.ref E0) (.ref E8) = some true)
    (xe0 : PySem.W.subIn K (.ref E0) (.type "Exception") = some true)
    (xv0 : PySem.W.subIn K (.ref E0) (.type "ValueError") = some false)
    (tk0at : PySem.W.takerIn K E0 "at" = some none)
    (no0at : PySem.W.findIn K (.ref E0) "at" = some none)
    (ini1 : PySem.W.excInitIn K E1 [.type "Exception", .type "BaseException", .type "object"] "Exception.__new__" = true)
    (ov1 : PySem.W.excOver K E1 [.type "Exception", .type "BaseException", .type "object"] = true)
    (hd1 : PySem.W.hasDictIn K E1 = true)
    (sa1 : PySem.W.findIn K (.ref E1) "__setattr__" = some (some (.builtin "object.__setattr__")))
    (ga1 : PySem.W.findIn K (.ref E1) "__getattribute__" = some (some (.builtin "BaseException.__getattribute__")))
    (gg1 : PySem.W.findIn K (.ref E1) "__getattr__" = some none)
    (xb1 : PySem.W.subIn K (.ref E1) (.type "BaseException") = some true)
    (ty1 : PySem.W.typeIn K (.ref E1) = some (.type "type"))
    (kp1 : PySem.W.keepIn K (.ref E1) = true)
    (ca1 : PySem.W.findIn K (.ref E1) "__class__" = some (some (.builtin "object.__class__")))
    (cm1 : PySem.W.mroIn K E1 (.type "object") = some true)
    (xw1 : PySem.W.subIn K (.ref E1) (.ref E8) = some true)
    (xe1 : PySem.W.subIn K (.ref E1) (.type "Exception") = some true)
    (xv1 : PySem.W.subIn K (.ref E1) (.type "ValueError") = some false)
    (tk1at : PySem.W.takerIn K E1 "at" = some none)
    (no1at : PySem.W.findIn K (.ref E1) "at" = some none)
    (ini2 : PySem.W.excInitIn K E2 [.type "Exception", .type "BaseException", .type "object"] "Exception.__new__" = true)
    (ov2 : PySem.W.excOver K E2 [.type "Exception", .type "BaseException", .type "object"] = true)
    (hd2 : PySem.W.hasDictIn K E2 = true)
    (sa2 : PySem.W.findIn K (.ref E2) "__setattr__" = some (some (.builtin "object.__setattr__")))
    (ga2 : PySem.W.findIn K (.ref E2) "__getattribute__" = some (some (.builtin "BaseException.__getattribute__")))
    (gg2 : PySem.W.findIn K (.ref E2) "__getattr__" = some none)
    (xb2 : PySem.W.subIn K (.ref E2) (.type "BaseException") = some true)
    (ty2 : PySem.W.typeIn K (.ref E2) = some (.type "type"))
    (kp2 : PySem.W.keepIn K (.ref E2) = true)
    (ca2 : PySem.W.findIn K (.ref E2) "__class__" = some (some (.builtin "object.__class__")))
    (cm2 : PySem.W.mroIn K E2 (.type "object") = some true)
    (xw2 : PySem.W.subIn K (.ref E2) (.ref E8) = some true)
    (xe2 : PySem.W.subIn K (.ref E2) (.type "Exception") = some true)
    (xv2 : PySem.W.subIn K (.ref E2) (.type "ValueError") = some false)
    (tk2at : PySem.W.takerIn K E2 "at" = some none)
    (no2at : PySem.W.findIn K (.ref E2) "at" = some none)
    (ini3 : PySem.W.excInitIn K E3 [.type "Exception", .type "BaseException", .type "object"] "Exception.__new__" = true)
    (ov3 : PySem.W.excOver K E3 [.type "Exception", .type "BaseException", .type "object"] = true)
    (hd3 : PySem.W.hasDictIn K E3 = true)
    (sa3 : PySem.W.findIn K (.ref E3) "__setattr__" = some (some (.builtin "object.__setattr__")))
    (ga3 : PySem.W.findIn K (.ref E3) "__getattribute__" = some (some (.builtin "BaseException.__getattribute__")))
    (gg3 : PySem.W.findIn K (.ref E3) "__getattr__" = some none)
    (xb3 : PySem.W.subIn K (.ref E3) (.type "BaseException") = some true)
    (ty3 : PySem.W.typeIn K (.ref E3) = some (.type "type"))
    (kp3 : PySem.W.keepIn K (.ref E3) = true)
    (ca3 : PySem.W.findIn K (.ref E3) "__class__" = some (some (.builtin "object.__class__")))
    (cm3 : PySem.W.mroIn K E3 (.type "object") = some true)
    (xw3 : PySem.W.subIn K (.ref E3) (.ref E8) = some true)
    (xe3 : PySem.W.subIn K (.ref E3) (.type "Exception") = some true)
    (xv3 : PySem.W.subIn K (.ref E3) (.type "ValueError") = some false)
    (tk3name : PySem.W.takerIn K E3 "name" = some none)
    (no3name : PySem.W.findIn K (.ref E3) "name" = some none)
    (ini4 : PySem.W.excInitIn K E4 [.type "Exception", .type "BaseException", .type "object"] "Exception.__new__" = true)
    (ov4 : PySem.W.excOver K E4 [.type "Exception", .type "BaseException", .type "object"] = true)
    (hd4 : PySem.W.hasDictIn K E4 = true)
    (sa4 : PySem.W.findIn K (.ref E4) "__setattr__" = some (some (.builtin "object.__setattr__")))
    (ga4 : PySem.W.findIn K (.ref E4) "__getattribute__" = some (some (.builtin "BaseException.__getattribute__")))
    (gg4 : PySem.W.findIn K (.ref E4) "__getattr__" = some none)
    (xb4 : PySem.W.subIn K (.ref E4) (.type "BaseException") = some true)
    (ty4 : PySem.W.typeIn K (.ref E4) = some (.type "type"))
    (kp4 : PySem.W.keepIn K (.ref E4) = true)
    (ca4 : PySem.W.findIn K (.ref E4) "__class__" = some (some (.builtin "object.__class__")))
    (cm4 : PySem.W.mroIn K E4 (.type "object") = some true)
    (xw4 : PySem.W.subIn K (.ref E4) (.ref E8) = some true)
    (xe4 : PySem.W.subIn K (.ref E4) (.type "Exception") = some true)
    (xv4 : PySem.W.subIn K (.ref E4) (.type "ValueError") = some false)
    (tk4sheet : PySem.W.takerIn K E4 "sheet" = some none)
    (no4sheet : PySem.W.findIn K (.ref E4) "sheet" = some none)
    (tk4row : PySem.W.takerIn K E4 "row" = some none)
    (no4row : PySem.W.findIn K (.ref E4) "row" = some none)
    (tk4column : PySem.W.takerIn K E4 "column" = some none)
    (no4column : PySem.W.findIn K (.ref E4) "column" = some none)
    (ini5 : PySem.W.excInitIn K E5 [.type "Exception", .type "BaseException", .type "object"] "Exception.__new__" = true)
    (ov5 : PySem.W.excOver K E5 [.type "Exception", .type "BaseException", .type "object"] = true)
    (hd5 : PySem.W.hasDictIn K E5 = true)
    (sa5 : PySem.W.findIn K (.ref E5) "__setattr__" = some (some (.builtin "object.__setattr__")))
    (ga5 : PySem.W.findIn K (.ref E5) "__getattribute__" = some (some (.builtin "BaseException.__getattribute__")))
    (gg5 : PySem.W.findIn K (.ref E5) "__getattr__" = some none)
    (xb5 : PySem.W.subIn K (.ref E5) (.type "BaseException") = some true)
    (ty5 : PySem.W.typeIn K (.ref E5) = some (.type "type"))
    (kp5 : PySem.W.keepIn K (.ref E5) = true)
    (ca5 : PySem.W.findIn K (.ref E5) "__class__" = some (some (.builtin "object.__class__")))
    (cm5 : PySem.W.mroIn K E5 (.type "object") = some true)
    (xw5 : PySem.W.subIn K (.ref E5) (.ref E8) = some true)
    (xe5 : PySem.W.subIn K (.ref E5) (.type "Exception") = some true)
    (xv5 : PySem.W.subIn K (.ref E5) (.type "ValueError") = some false)
    (tk5word : PySem.W.takerIn K E5 "word" = some none)
    (no5word : PySem.W.findIn K (.ref E5) "word" = some none)
    (ini6 : PySem.W.excInitIn K E6 [.type "Exception", .type "BaseException", .type "object"] "Exception.__new__" = true)
    (ov6 : PySem.W.excOver K E6 [.type "Exception", .type "BaseException", .type "object"] = true)
    (hd6 : PySem.W.hasDictIn K E6 = true)
    (sa6 : PySem.W.findIn K (.ref E6) "__setattr__" = some (some (.builtin "object.__setattr__")))
    (ga6 : PySem.W.findIn K (.ref E6) "__getattribute__" = some (some (.builtin "BaseException.__getattribute__")))
    (gg6 : PySem.W.findIn K (.ref E6) "__getattr__" = some none)
    (xb6 : PySem.W.subIn K (.ref E6) (.type "BaseException") = some true)
    (ty6 : PySem.W.typeIn K (.ref E6) = some (.type "type"))
    (kp6 : PySem.W.keepIn K (.ref E6) = true)
    (ca6 : PySem.W.findIn K (.ref E6) "__class__" = some (some (.builtin "object.__class__")))
    (cm6 : PySem.W.mroIn K E6 (.type "object") = some true)
    (xw6 : PySem.W.subIn K (.ref E6) (.ref E8) = some true)
    (xe6 : PySem.W.subIn K (.ref E6) (.type "Exception") = some true)
    (xv6 : PySem.W.subIn K (.ref E6) (.type "ValueError") = some false)
    (tk6word : PySem.W.takerIn K E6 "word" = some none)
    (no6word : PySem.W.findIn K (.ref E6) "word" = some none)
    (ini7 : PySem.W.excInitIn K E7 [.type "Exception", .type "BaseException", .type "object"] "Exception.__new__" = true)
    (ov7 : PySem.W.excOver K E7 [.type "Exception", .type "BaseException", .type "object"] = true)
    (hd7 : PySem.W.hasDictIn K E7 = true)
    (sa7 : PySem.W.findIn K (.ref E7) "__setattr__" = some (some (.builtin "object.__setattr__")))
    (ga7 : PySem.W.findIn K (.ref E7) "__getattribute__" = some (some (.builtin "BaseException.__getattribute__")))
    (gg7 : PySem.W.findIn K (.ref E7) "__getattr__" = some none)
    (xb7 : PySem.W.subIn K (.ref E7) (.type "BaseException") = some true)
    (ty7 : PySem.W.typeIn K (.ref E7) = some (.type "type"))
    (kp7 : PySem.W.keepIn K (.ref E7) = true)
    (ca7 : PySem.W.findIn K (.ref E7) "__class__" = some (some (.builtin "object.__class__")))
    (cm7 : PySem.W.mroIn K E7 (.type "object") = some true)
    (xw7 : PySem.W.subIn K (.ref E7) (.ref E8) = some true)
    (xe7 : PySem.W.subIn K (.ref E7) (.type "Exception") = some true)
    (xv7 : PySem.W.subIn K (.ref E7) (.type "ValueError") = some false)
    (tk7at : PySem.W.takerIn K E7 "at" = some none)
    (no7at : PySem.W.findIn K (.ref E7) "at" = some none)
    (s0_0 : PySem.W.subIn K (.ref E0) (.ref E0) = some true)
    (s0_1 : PySem.W.subIn K (.ref E0) (.ref E1) = some false)
    (s0_2 : PySem.W.subIn K (.ref E0) (.ref E2) = some false)
    (s0_3 : PySem.W.subIn K (.ref E0) (.ref E3) = some false)
    (s0_4 : PySem.W.subIn K (.ref E0) (.ref E4) = some false)
    (s0_5 : PySem.W.subIn K (.ref E0) (.ref E5) = some false)
    (s0_6 : PySem.W.subIn K (.ref E0) (.ref E6) = some false)
    (s0_7 : PySem.W.subIn K (.ref E0) (.ref E7) = some false)
    (s1_0 : PySem.W.subIn K (.ref E1) (.ref E0) = some false)
    (s1_1 : PySem.W.subIn K (.ref E1) (.ref E1) = some true)
    (s1_2 : PySem.W.subIn K (.ref E1) (.ref E2) = some false)
    (s1_3 : PySem.W.subIn K (.ref E1) (.ref E3) = some false)
    (s1_4 : PySem.W.subIn K (.ref E1) (.ref E4) = some false)
    (s1_5 : PySem.W.subIn K (.ref E1) (.ref E5) = some false)
    (s1_6 : PySem.W.subIn K (.ref E1) (.ref E6) = some false)
    (s1_7 : PySem.W.subIn K (.ref E1) (.ref E7) = some false)
    (s2_0 : PySem.W.subIn K (.ref E2) (.ref E0) = some false)
    (s2_1 : PySem.W.subIn K (.ref E2) (.ref E1) = some false)
    (s2_2 : PySem.W.subIn K (.ref E2) (.ref E2) = some true)
    (s2_3 : PySem.W.subIn K (.ref E2) (.ref E3) = some false)
    (s2_4 : PySem.W.subIn K (.ref E2) (.ref E4) = some false)
    (s2_5 : PySem.W.subIn K (.ref E2) (.ref E5) = some false)
    (s2_6 : PySem.W.subIn K (.ref E2) (.ref E6) = some false)
    (s2_7 : PySem.W.subIn K (.ref E2) (.ref E7) = some false)
    (s3_0 : PySem.W.subIn K (.ref E3) (.ref E0) = some false)
    (s3_1 : PySem.W.subIn K (.ref E3) (.ref E1) = some false)
    (s3_2 : PySem.W.subIn K (.ref E3) (.ref E2) = some false)
    (s3_3 : PySem.W.subIn K (.ref E3) (.ref E3) = some true)
    (s3_4 : PySem.W.subIn K (.ref E3) (.ref E4) = some false)
    (s3_5 : PySem.W.subIn K (.ref E3) (.ref E5) = some false)
    (s3_6 : PySem.W.subIn K (.ref E3) (.ref E6) = some false)
    (s3_7 : PySem.W.subIn K (.ref E3) (.ref E7) = some false)
    (s4_0 : PySem.W.subIn K (.ref E4) (.ref E0) = some false)
    (s4_1 : PySem.W.subIn K (.ref E4) (.ref E1) = some false)
    (s4_2 : PySem.W.subIn K (.ref E4) (.ref E2) = some false)
    (s4_3 : PySem.W.subIn K (.ref E4) (.ref E3) = some false)
    (s4_4 : PySem.W.subIn K (.ref E4) (.ref E4) = some true)
    (s4_5 : PySem.W.subIn K (.ref E4) (.ref E5) = some false)
    (s4_6 : PySem.W.subIn K (.ref E4) (.ref E6) = some false)
    (s4_7 : PySem.W.subIn K (.ref E4) (.ref E7) = some false)
    (s5_0 : PySem.W.subIn K (.ref E5) (.ref E0) = some false)
    (s5_1 : PySem.W.subIn K (.ref E5) (.ref E1) = some false)
    (s5_2 : PySem.W.subIn K (.ref E5) (.ref E2) = some false)
    (s5_3 : PySem.W.subIn K (.ref E5) (.ref E3) = some false)
    (s5_4 : PySem.W.subIn K (.ref E5) (.ref E4) = some false)
    (s5_5 : PySem.W.subIn K (.ref E5) (.ref E5) = some true)
    (s5_6 : PySem.W.subIn K (.ref E5) (.ref E6) = some false)
    (s5_7 : PySem.W.subIn K (.ref E5) (.ref E7) = some false)
    (s6_0 : PySem.W.subIn K (.ref E6) (.ref E0) = some false)
    (s6_1 : PySem.W.subIn K (.ref E6) (.ref E1) = some false)
    (s6_2 : PySem.W.subIn K (.ref E6) (.ref E2) = some false)
    (s6_3 : PySem.W.subIn K (.ref E6) (.ref E3) = some false)
    (s6_4 : PySem.W.subIn K (.ref E6) (.ref E4) = some false)
    (s6_5 : PySem.W.subIn K (.ref E6) (.ref E5) = some false)
    (s6_6 : PySem.W.subIn K (.ref E6) (.ref E6) = some true)
    (s6_7 : PySem.W.subIn K (.ref E6) (.ref E7) = some false)
    (s7_0 : PySem.W.subIn K (.ref E7) (.ref E0) = some false)
    (s7_1 : PySem.W.subIn K (.ref E7) (.ref E1) = some false)
    (s7_2 : PySem.W.subIn K (.ref E7) (.ref E2) = some false)
    (s7_3 : PySem.W.subIn K (.ref E7) (.ref E3) = some false)
    (s7_4 : PySem.W.subIn K (.ref E7) (.ref E4) = some false)
    (s7_5 : PySem.W.subIn K (.ref E7) (.ref E5) = some false)
    (s7_6 : PySem.W.subIn K (.ref E7) (.ref E6) = some false)
    (s7_7 : PySem.W.subIn K (.ref E7) (.ref E7) = some true)
    {od0 an0 : Option Addr} {sl0 : Array (Option Value)} {oc0 kV0 dc0 pm0 cd0 ct0 : Value} {f0 : Addr}
    (a0 : PySem.W.findIn K (.ref E0) "__init__" = some (some (.ref f0))) (tf0 : PySem.W.typeIn K (.ref f0) = some (.type "function")) (l0 : K.lookup f0 = some ⟨oc0, od0, .func (PySem.W.fnOf "__init__" "BadPlace.__init__" (defArgs sBadPlace_init) (defBody sBadPlace_init) (defScope sBadPlace_init) .none kV0 dc0 pm0 an0 cd0 ct0), sl0⟩) (c0 : PySem.W.codeIn K cd0 "BadPlace.__init__" = true) (k0 : PySem.W.keepIn K (.ref f0) = true)
    {od1 an1 : Option Addr} {sl1 : Array (Option Value)} {oc1 kV1 dc1 pm1 cd1 ct1 : Value} {f1 : Addr}
    (a1 : PySem.W.findIn K (.ref E1) "__init__" = some (some (.ref f1))) (tf1 : PySem.W.typeIn K (.ref f1) = some (.type "function")) (l1 : K.lookup f1 = some ⟨oc1, od1, .func (PySem.W.fnOf "__init__" "BadText.__init__" (defArgs sBadText_init) (defBody sBadText_init) (defScope sBadText_init) .none kV1 dc1 pm1 an1 cd1 ct1), sl1⟩) (c1 : PySem.W.codeIn K cd1 "BadText.__init__" = true) (k1 : PySem.W.keepIn K (.ref f1) = true)
    {od2 an2 : Option Addr} {sl2 : Array (Option Value)} {oc2 kV2 dc2 pm2 cd2 ct2 : Value} {f2 : Addr}
    (a2 : PySem.W.findIn K (.ref E2) "__init__" = some (some (.ref f2))) (tf2 : PySem.W.typeIn K (.ref f2) = some (.type "function")) (l2 : K.lookup f2 = some ⟨oc2, od2, .func (PySem.W.fnOf "__init__" "Fault.__init__" (defArgs sFault_init) (defBody sFault_init) (defScope sFault_init) .none kV2 dc2 pm2 an2 cd2 ct2), sl2⟩) (c2 : PySem.W.codeIn K cd2 "Fault.__init__" = true) (k2 : PySem.W.keepIn K (.ref f2) = true)
    {od3 an3 : Option Addr} {sl3 : Array (Option Value)} {oc3 kV3 dc3 pm3 cd3 ct3 : Value} {f3 : Addr}
    (a3 : PySem.W.findIn K (.ref E3) "__init__" = some (some (.ref f3))) (tf3 : PySem.W.typeIn K (.ref f3) = some (.type "function")) (l3 : K.lookup f3 = some ⟨oc3, od3, .func (PySem.W.fnOf "__init__" "BadName.__init__" (defArgs sBadName_init) (defBody sBadName_init) (defScope sBadName_init) .none kV3 dc3 pm3 an3 cd3 ct3), sl3⟩) (c3 : PySem.W.codeIn K cd3 "BadName.__init__" = true) (k3 : PySem.W.keepIn K (.ref f3) = true)
    {od4 an4 : Option Addr} {sl4 : Array (Option Value)} {oc4 kV4 dc4 pm4 cd4 ct4 : Value} {f4 : Addr}
    (a4 : PySem.W.findIn K (.ref E4) "__init__" = some (some (.ref f4))) (tf4 : PySem.W.typeIn K (.ref f4) = some (.type "function")) (l4 : K.lookup f4 = some ⟨oc4, od4, .func (PySem.W.fnOf "__init__" "BlockCut.__init__" (defArgs sBlockCut_init) (defBody sBlockCut_init) (defScope sBlockCut_init) .none kV4 dc4 pm4 an4 cd4 ct4), sl4⟩) (c4 : PySem.W.codeIn K cd4 "BlockCut.__init__" = true) (k4 : PySem.W.keepIn K (.ref f4) = true)
    {od5 an5 : Option Addr} {sl5 : Array (Option Value)} {oc5 kV5 dc5 pm5 cd5 ct5 : Value} {f5 : Addr}
    (a5 : PySem.W.findIn K (.ref E5) "__init__" = some (some (.ref f5))) (tf5 : PySem.W.typeIn K (.ref f5) = some (.type "function")) (l5 : K.lookup f5 = some ⟨oc5, od5, .func (PySem.W.fnOf "__init__" "NoRoom.__init__" (defArgs sNoRoom_init) (defBody sNoRoom_init) (defScope sNoRoom_init) .none kV5 dc5 pm5 an5 cd5 ct5), sl5⟩) (c5 : PySem.W.codeIn K cd5 "NoRoom.__init__" = true) (k5 : PySem.W.keepIn K (.ref f5) = true)
    {od6 an6 : Option Addr} {sl6 : Array (Option Value)} {oc6 kV6 dc6 pm6 cd6 ct6 : Value} {f6 : Addr}
    (a6 : PySem.W.findIn K (.ref E6) "__init__" = some (some (.ref f6))) (tf6 : PySem.W.typeIn K (.ref f6) = some (.type "function")) (l6 : K.lookup f6 = some ⟨oc6, od6, .func (PySem.W.fnOf "__init__" "NothingThere.__init__" (defArgs sNothingThere_init) (defBody sNothingThere_init) (defScope sNothingThere_init) .none kV6 dc6 pm6 an6 cd6 ct6), sl6⟩) (c6 : PySem.W.codeIn K cd6 "NothingThere.__init__" = true) (k6 : PySem.W.keepIn K (.ref f6) = true)
    {od7 an7 : Option Addr} {sl7 : Array (Option Value)} {oc7 kV7 dc7 pm7 cd7 ct7 : Value} {f7 : Addr}
    (a7 : PySem.W.findIn K (.ref E7) "__init__" = some (some (.ref f7))) (tf7 : PySem.W.typeIn K (.ref f7) = some (.type "function")) (l7 : K.lookup f7 = some ⟨oc7, od7, .func (PySem.W.fnOf "__init__" "BadJournal.__init__" (defArgs sBadJournal_init) (defBody sBadJournal_init) (defScope sBadJournal_init) .none kV7 dc7 pm7 an7 cd7 ct7), sl7⟩) (c7 : PySem.W.codeIn K cd7 "BadJournal.__init__" = true) (k7 : PySem.W.keepIn K (.ref f7) = true)
    {od8 an8 : Option Addr} {sl8 : Array (Option Value)} {oc8 kV8 dc8 pm8 cd8 ct8 : Value} {f8 : Addr}
    (a8 : PySem.W.nsIn K mainGlobals "_law_cell" = some (some (.ref f8))) (l8 : K.lookup f8 = some ⟨oc8, od8, .func (PySem.W.fnOf "_law_cell" "_law_cell" (defArgs s_law_cell) (defBody s_law_cell) (defScope s_law_cell) .none kV8 dc8 pm8 an8 cd8 ct8), sl8⟩) (c8 : PySem.W.codeIn K cd8 "_law_cell" = true) (k8 : PySem.W.keepIn K (.ref f8) = true)
    {od9 an9 : Option Addr} {sl9 : Array (Option Value)} {oc9 kV9 dc9 pm9 cd9 ct9 : Value} {f9 : Addr}
    (a9 : PySem.W.nsIn K mainGlobals "_law_mix" = some (some (.ref f9))) (l9 : K.lookup f9 = some ⟨oc9, od9, .func (PySem.W.fnOf "_law_mix" "_law_mix" (defArgs s_law_mix) (defBody s_law_mix) (defScope s_law_mix) .none kV9 dc9 pm9 an9 cd9 ct9), sl9⟩) (c9 : PySem.W.codeIn K cd9 "_law_mix" = true) (k9 : PySem.W.keepIn K (.ref f9) = true)
    {od10 an10 : Option Addr} {sl10 : Array (Option Value)} {oc10 kV10 dc10 pm10 cd10 ct10 : Value} {f10 : Addr}
    (a10 : PySem.W.nsIn K mainGlobals "_law_number" = some (some (.ref f10))) (l10 : K.lookup f10 = some ⟨oc10, od10, .func (PySem.W.fnOf "_law_number" "_law_number" (defArgs s_law_number) (defBody s_law_number) (defScope s_law_number) .none kV10 dc10 pm10 an10 cd10 ct10), sl10⟩) (c10 : PySem.W.codeIn K cd10 "_law_number" = true) (k10 : PySem.W.keepIn K (.ref f10) = true)
    {od11 an11 : Option Addr} {sl11 : Array (Option Value)} {oc11 kV11 dc11 pm11 cd11 ct11 : Value} {f11 : Addr}
    (a11 : PySem.W.nsIn K mainGlobals "_law_text" = some (some (.ref f11))) (l11 : K.lookup f11 = some ⟨oc11, od11, .func (PySem.W.fnOf "_law_text" "_law_text" (defArgs s_law_text) (defBody s_law_text) (defScope s_law_text) .none kV11 dc11 pm11 an11 cd11 ct11), sl11⟩) (c11 : PySem.W.codeIn K cd11 "_law_text" = true) (k11 : PySem.W.keepIn K (.ref f11) = true)
    {od12 an12 : Option Addr} {sl12 : Array (Option Value)} {oc12 kV12 dc12 pm12 cd12 ct12 : Value} {f12 : Addr}
    (a12 : PySem.W.nsIn K mainGlobals "_law_is_number" = some (some (.ref f12))) (l12 : K.lookup f12 = some ⟨oc12, od12, .func (PySem.W.fnOf "_law_is_number" "_law_is_number" (defArgs s_law_is_number) (defBody s_law_is_number) (defScope s_law_is_number) .none kV12 dc12 pm12 an12 cd12 ct12), sl12⟩) (c12 : PySem.W.codeIn K cd12 "_law_is_number" = true) (k12 : PySem.W.keepIn K (.ref f12) = true)
    {od13 an13 : Option Addr} {sl13 : Array (Option Value)} {oc13 kV13 dc13 pm13 cd13 ct13 : Value} {f13 : Addr}
    (a13 : PySem.W.nsIn K mainGlobals "_law_is_text" = some (some (.ref f13))) (l13 : K.lookup f13 = some ⟨oc13, od13, .func (PySem.W.fnOf "_law_is_text" "_law_is_text" (defArgs s_law_is_text) (defBody s_law_is_text) (defScope s_law_is_text) .none kV13 dc13 pm13 an13 cd13 ct13), sl13⟩) (c13 : PySem.W.codeIn K cd13 "_law_is_text" = true) (k13 : PySem.W.keepIn K (.ref f13) = true)
    {od14 an14 : Option Addr} {sl14 : Array (Option Value)} {oc14 kV14 dc14 pm14 cd14 ct14 : Value} {f14 : Addr}
    (a14 : PySem.W.nsIn K mainGlobals "_law_alone" = some (some (.ref f14))) (l14 : K.lookup f14 = some ⟨oc14, od14, .func (PySem.W.fnOf "_law_alone" "_law_alone" (defArgs s_law_alone) (defBody s_law_alone) (defScope s_law_alone) .none kV14 dc14 pm14 an14 cd14 ct14), sl14⟩) (c14 : PySem.W.codeIn K cd14 "_law_alone" = true) (k14 : PySem.W.keepIn K (.ref f14) = true)
    {od15 an15 : Option Addr} {sl15 : Array (Option Value)} {oc15 kV15 dc15 pm15 cd15 ct15 : Value} {f15 : Addr}
    (a15 : PySem.W.nsIn K mainGlobals "_law_numbered" = some (some (.ref f15))) (l15 : K.lookup f15 = some ⟨oc15, od15, .func (PySem.W.fnOf "_law_numbered" "_law_numbered" (defArgs s_law_numbered) (defBody s_law_numbered) (defScope s_law_numbered) .none kV15 dc15 pm15 an15 cd15 ct15), sl15⟩) (c15 : PySem.W.codeIn K cd15 "_law_numbered" = true) (k15 : PySem.W.keepIn K (.ref f15) = true)
    {od16 an16 : Option Addr} {sl16 : Array (Option Value)} {oc16 kV16 dc16 pm16 cd16 ct16 : Value} {f16 : Addr}
    (a16 : PySem.W.nsIn K mainGlobals "_law_worded" = some (some (.ref f16))) (l16 : K.lookup f16 = some ⟨oc16, od16, .func (PySem.W.fnOf "_law_worded" "_law_worded" (defArgs s_law_worded) (defBody s_law_worded) (defScope s_law_worded) .none kV16 dc16 pm16 an16 cd16 ct16), sl16⟩) (c16 : PySem.W.codeIn K cd16 "_law_worded" = true) (k16 : PySem.W.keepIn K (.ref f16) = true)
    {od17 an17 : Option Addr} {sl17 : Array (Option Value)} {oc17 kV17 dc17 pm17 cd17 ct17 : Value} {f17 : Addr}
    (a17 : PySem.W.nsIn K mainGlobals "_law_cut" = some (some (.ref f17))) (l17 : K.lookup f17 = some ⟨oc17, od17, .func (PySem.W.fnOf "_law_cut" "_law_cut" (defArgs s_law_cut) (defBody s_law_cut) (defScope s_law_cut) .none kV17 dc17 pm17 an17 cd17 ct17), sl17⟩) (c17 : PySem.W.codeIn K cd17 "_law_cut" = true) (k17 : PySem.W.keepIn K (.ref f17) = true)
    {od18 an18 : Option Addr} {sl18 : Array (Option Value)} {oc18 kV18 dc18 pm18 cd18 ct18 : Value} {f18 : Addr}
    (a18 : PySem.W.nsIn K mainGlobals "_law_raise" = some (some (.ref f18))) (l18 : K.lookup f18 = some ⟨oc18, od18, .func (PySem.W.fnOf "_law_raise" "_law_raise" (defArgs s_law_raise) (defBody s_law_raise) (defScope s_law_raise) .none kV18 dc18 pm18 an18 cd18 ct18), sl18⟩) (c18 : PySem.W.codeIn K cd18 "_law_raise" = true) (k18 : PySem.W.keepIn K (.ref f18) = true)
    {od19 an19 : Option Addr} {sl19 : Array (Option Value)} {oc19 kV19 dc19 pm19 cd19 ct19 : Value} {f19 : Addr}
    (a19 : PySem.W.nsIn K mainGlobals "_law_caught" = some (some (.ref f19))) (l19 : K.lookup f19 = some ⟨oc19, od19, .func (PySem.W.fnOf "_law_caught" "_law_caught" (defArgs s_law_caught) (defBody s_law_caught) (defScope s_law_caught) .none kV19 dc19 pm19 an19 cd19 ct19), sl19⟩) (c19 : PySem.W.codeIn K cd19 "_law_caught" = true) (k19 : PySem.W.keepIn K (.ref f19) = true)
    {od20 an20 : Option Addr} {sl20 : Array (Option Value)} {oc20 kV20 dc20 pm20 cd20 ct20 : Value} {f20 : Addr}
    (a20 : PySem.W.nsIn K mainGlobals "_law_beneath" = some (some (.ref f20))) (l20 : K.lookup f20 = some ⟨oc20, od20, .func (PySem.W.fnOf "_law_beneath" "_law_beneath" (defArgs s_law_beneath) (defBody s_law_beneath) (defScope s_law_beneath) .none kV20 dc20 pm20 an20 cd20 ct20), sl20⟩) (c20 : PySem.W.codeIn K cd20 "_law_beneath" = true) (k20 : PySem.W.keepIn K (.ref f20) = true)
    {od21 an21 : Option Addr} {sl21 : Array (Option Value)} {oc21 kV21 dc21 pm21 cd21 ct21 : Value} {f21 : Addr}
    (a21 : PySem.W.nsIn K mainGlobals "law" = some (some (.ref f21))) (l21 : K.lookup f21 = some ⟨oc21, od21, .func (PySem.W.fnOf "law" "law" (defArgs slaw) (defBody slaw) (defScope slaw) .none kV21 dc21 pm21 an21 cd21 ct21), sl21⟩) (c21 : PySem.W.codeIn K cd21 "law" = true) (k21 : PySem.W.keepIn K (.ref f21) = true)
    (z_Exception : PySem.W.nsIn K mainGlobals "Exception" = some none)
    (z_ValueError : PySem.W.nsIn K mainGlobals "ValueError" = some none)
    (z_bool : PySem.W.nsIn K mainGlobals "bool" = some none)
    (z_int : PySem.W.nsIn K mainGlobals "int" = some none)
    (z_isinstance : PySem.W.nsIn K mainGlobals "isinstance" = some none)
    (z_len : PySem.W.nsIn K mainGlobals "len" = some none)
    (z_range : PySem.W.nsIn K mainGlobals "range" = some none)
    (z_str : PySem.W.nsIn K mainGlobals "str" = some none) :
    ∃ fd : FuncData, (∀ (s : Shared) (v : Value), BindsTo s fd ⟨[v], []⟩ [("script", v)]) ∧ ∀ base : Heap, K.In base → base.Ns mainGlobals mg → FnOk l.prog w K mg base CX0 5 fa fd ["script"] (splaw K) := by
  have e := hfa.symm.trans (PySem.W.mg_of X G a21)
  cases e
  have F0 := fun_mk (st := sBadPlace_init) l0 c0 k0
  have b0 := F0.binds (ps := PBadPlace_init) fun _ _ _ _ _ _ us hl => match us, hl with | [_, _], _ => rfl
  have F1 := fun_mk (st := sBadText_init) l1 c1 k1
  have b1 := F1.binds (ps := PBadText_init) fun _ _ _ _ _ _ us hl => match us, hl with | [_, _], _ => rfl
  have F2 := fun_mk (st := sFault_init) l2 c2 k2
  have b2 := F2.binds (ps := PFault_init) fun _ _ _ _ _ _ us hl => match us, hl with | [_, _], _ => rfl
  have F3 := fun_mk (st := sBadName_init) l3 c3 k3
  have b3 := F3.binds (ps := PBadName_init) fun _ _ _ _ _ _ us hl => match us, hl with | [_, _], _ => rfl
  have F4 := fun_mk (st := sBlockCut_init) l4 c4 k4
  have b4 := F4.binds (ps := PBlockCut_init) fun _ _ _ _ _ _ us hl => match us, hl with | [_, _, _, _], _ => rfl
  have F5 := fun_mk (st := sNoRoom_init) l5 c5 k5
  have b5 := F5.binds (ps := PNoRoom_init) fun _ _ _ _ _ _ us hl => match us, hl with | [_, _], _ => rfl
  have F6 := fun_mk (st := sNothingThere_init) l6 c6 k6
  have b6 := F6.binds (ps := PNothingThere_init) fun _ _ _ _ _ _ us hl => match us, hl with | [_, _], _ => rfl
  have F7 := fun_mk (st := sBadJournal_init) l7 c7 k7
  have b7 := F7.binds (ps := PBadJournal_init) fun _ _ _ _ _ _ us hl => match us, hl with | [_, _], _ => rfl
  have F8 := fun_mk (st := s_law_cell) l8 c8 k8
  have b8 := F8.binds (ps := P_law_cell) fun _ _ _ _ _ _ us hl => match us, hl with | [_, _], _ => rfl
  have F9 := fun_mk (st := s_law_mix) l9 c9 k9
  have b9 := F9.binds (ps := P_law_mix) fun _ _ _ _ _ _ us hl => match us, hl with | [_, _], _ => rfl
  have F10 := fun_mk (st := s_law_number) l10 c10 k10
  have b10 := F10.binds (ps := P_law_number) fun _ _ _ _ _ _ us hl => match us, hl with | [_, _], _ => rfl
  have F11 := fun_mk (st := s_law_text) l11 c11 k11
  have b11 := F11.binds (ps := P_law_text) fun _ _ _ _ _ _ us hl => match us, hl with | [_, _], _ => rfl
  have F12 := fun_mk (st := s_law_is_number) l12 c12 k12
  have b12 := F12.binds (ps := P_law_is_number) fun _ _ _ _ _ _ us hl => match us, hl with | [_, _], _ => rfl
  have F13 := fun_mk (st := s_law_is_text) l13 c13 k13
  have b13 := F13.binds (ps := P_law_is_text) fun _ _ _ _ _ _ us hl => match us, hl with | [_, _], _ => rfl
  have F14 := fun_mk (st := s_law_alone) l14 c14 k14
  have b14 := F14.binds (ps := P_law_alone) fun _ _ _ _ _ _ us hl => match us, hl with | [_, _], _ => rfl
  have F15 := fun_mk (st := s_law_numbered) l15 c15 k15
  have b15 := F15.binds (ps := P_law_numbered) fun _ _ _ _ _ _ us hl => match us, hl with | [_, _], _ => rfl
  have F16 := fun_mk (st := s_law_worded) l16 c16 k16
  have b16 := F16.binds (ps := P_law_worded) fun _ _ _ _ _ _ us hl => match us, hl with | [_, _], _ => rfl
  have F17 := fun_mk (st := s_law_cut) l17 c17 k17
  have b17 := F17.binds (ps := P_law_cut) fun _ _ _ _ _ _ us hl => match us, hl with | [_, _, _], _ => rfl
  have F18 := fun_mk (st := s_law_raise) l18 c18 k18
  have b18 := F18.binds (ps := P_law_raise) fun _ _ _ _ _ _ us hl => match us, hl with | [_, _, _], _ => rfl
  have F19 := fun_mk (st := s_law_caught) l19 c19 k19
  have b19 := F19.binds (ps := P_law_caught) fun _ _ _ _ _ _ us hl => match us, hl with | [_, _, _], _ => rfl
  have F20 := fun_mk (st := s_law_beneath) l20 c20 k20
  have b20 := F20.binds (ps := P_law_beneath) fun _ _ _ _ _ _ us hl => match us, hl with | [_, _, _], _ => rfl
  have F21 := fun_mk (st := slaw) l21 c21 k21
  have b21 := F21.binds (ps := Plaw) fun _ _ _ _ _ _ us hl => match us, hl with | [_], _ => rfl
  have q0 : clK K 0 = E0 := clK_of rfl vE0
  have q1 : clK K 1 = E1 := clK_of rfl vE1
  have q2 : clK K 2 = E2 := clK_of rfl vE2
  have q3 : clK K 3 = E3 := clK_of rfl vE3
  have q4 : clK K 4 = E4 := clK_of rfl vE4
  have q5 : clK K 5 = E5 := clK_of rfl vE5
  have q6 : clK K 6 = E6 := clK_of rfl vE6
  have q7 : clK K 7 = E7 := clK_of rfl vE7
  have q8 : weK K = E8 := weK_of vE8
  have cs : ClsE K := by
    refine { ox := fun i hi => ?_, kit := fun i j hi hj => ?_, exm := fun i j hi hj => ?_, kw := fun i hi => ?_, ew := fun i hi => ?_, ke := fun i hi => ?_, kv := fun i hi => ?_, tk := fun i hi f hf => ?_, no := fun i hi f hf => ?_ }
    · rcases (by omega : i = 0 ∨ i = 1 ∨ i = 2 ∨ i = 3 ∨ i = 4 ∨ i = 5 ∨ i = 6 ∨ i = 7) with rfl | rfl | rfl | rfl | rfl | rfl | rfl | rfl
      · rw [q0]; exact ⟨ini0, ov0, hd0, sa0, ga0, gg0, xb0, ty0, kp0, ca0, cnE, ctE, cm0⟩
      · rw [q1]; exact ⟨ini1, ov1, hd1, sa1, ga1, gg1, xb1, ty1, kp1, ca1, cnE, ctE, cm1⟩
      · rw [q2]; exact ⟨ini2, ov2, hd2, sa2, ga2, gg2, xb2, ty2, kp2, ca2, cnE, ctE, cm2⟩
      · rw [q3]; exact ⟨ini3, ov3, hd3, sa3, ga3, gg3, xb3, ty3, kp3, ca3, cnE, ctE, cm3⟩
      · rw [q4]; exact ⟨ini4, ov4, hd4, sa4, ga4, gg4, xb4, ty4, kp4, ca4, cnE, ctE, cm4⟩
      · rw [q5]; exact ⟨ini5, ov5, hd5, sa5, ga5, gg5, xb5, ty5, kp5, ca5, cnE, ctE, cm5⟩
      · rw [q6]; exact ⟨ini6, ov6, hd6, sa6, ga6, gg6, xb6, ty6, kp6, ca6, cnE, ctE, cm6⟩
      · rw [q7]; exact ⟨ini7, ov7, hd7, sa7, ga7, gg7, xb7, ty7, kp7, ca7, cnE, ctE, cm7⟩
    · rcases (by omega : i = 0 ∨ i = 1 ∨ i = 2 ∨ i = 3 ∨ i = 4 ∨ i = 5 ∨ i = 6 ∨ i = 7) with rfl | rfl | rfl | rfl | rfl | rfl | rfl | rfl
      · rcases (by omega : j = 0 ∨ j = 1 ∨ j = 2 ∨ j = 3 ∨ j = 4 ∨ j = 5 ∨ j = 6 ∨ j = 7) with rfl | rfl | rfl | rfl | rfl | rfl | rfl | rfl
        · rw [q0]; exact ekit_self
        · rw [q0, q1]; exact ekit_sub hd1 ty1 s0_1 (fun e => by have z := s0_0; rw [e] at z; rw [e] at s0_1; rw [z] at s0_1; cases s0_1)
        · rw [q0, q2]; exact ekit_sub hd2 ty2 s0_2 (fun e => by have z := s0_0; rw [e] at z; rw [e] at s0_2; rw [z] at s0_2; cases s0_2)
        · rw [q0, q3]; exact ekit_sub hd3 ty3 s0_3 (fun e => by have z := s0_0; rw [e] at z; rw [e] at s0_3; rw [z] at s0_3; cases s0_3)
        · rw [q0, q4]; exact ekit_sub hd4 ty4 s0_4 (fun e => by have z := s0_0; rw [e] at z; rw [e] at s0_4; rw [z] at s0_4; cases s0_4)
        · rw [q0, q5]; exact ekit_sub hd5 ty5 s0_5 (fun e => by have z := s0_0; rw [e] at z; rw [e] at s0_5; rw [z] at s0_5; cases s0_5)
        · rw [q0, q6]; exact ekit_sub hd6 ty6 s0_6 (fun e => by have z := s0_0; rw [e] at z; rw [e] at s0_6; rw [z] at s0_6; cases s0_6)
        · rw [q0, q7]; exact ekit_sub hd7 ty7 s0_7 (fun e => by have z := s0_0; rw [e] at z; rw [e] at s0_7; rw [z] at s0_7; cases s0_7)
      · rcases (by omega : j = 0 ∨ j = 1 ∨ j = 2 ∨ j = 3 ∨ j = 4 ∨ j = 5 ∨ j = 6 ∨ j = 7) with rfl | rfl | rfl | rfl | rfl | rfl | rfl | rfl
        · rw [q1, q0]; exact ekit_sub hd0 ty0 s1_0 (fun e => by have z := s1_1; rw [e] at z; rw [e] at s1_0; rw [z] at s1_0; cases s1_0)
        · rw [q1]; exact ekit_self
        · rw [q1, q2]; exact ekit_sub hd2 ty2 s1_2 (fun e => by have z := s1_1; rw [e] at z; rw [e] at s1_2; rw [z] at s1_2; cases s1_2)
        · rw [q1, q3]; exact ekit_sub hd3 ty3 s1_3 (fun e => by have z := s1_1; rw [e] at z; rw [e] at s1_3; rw [z] at s1_3; cases s1_3)
        · rw [q1, q4]; exact ekit_sub hd4 ty4 s1_4 (fun e => by have z := s1_1; rw [e] at z; rw [e] at s1_4; rw [z] at s1_4; cases s1_4)
        · rw [q1, q5]; exact ekit_sub hd5 ty5 s1_5 (fun e => by have z := s1_1; rw [e] at z; rw [e] at s1_5; rw [z] at s1_5; cases s1_5)
        · rw [q1, q6]; exact ekit_sub hd6 ty6 s1_6 (fun e => by have z := s1_1; rw [e] at z; rw [e] at s1_6; rw [z] at s1_6; cases s1_6)
        · rw [q1, q7]; exact ekit_sub hd7 ty7 s1_7 (fun e => by have z := s1_1; rw [e] at z; rw [e] at s1_7; rw [z] at s1_7; cases s1_7)
      · rcases (by omega : j = 0 ∨ j = 1 ∨ j = 2 ∨ j = 3 ∨ j = 4 ∨ j = 5 ∨ j = 6 ∨ j = 7) with rfl | rfl | rfl | rfl | rfl | rfl | rfl | rfl
        · rw [q2, q0]; exact ekit_sub hd0 ty0 s2_0 (fun e => by have z := s2_2; rw [e] at z; rw [e] at s2_0; rw [z] at s2_0; cases s2_0)
        · rw [q2, q1]; exact ekit_sub hd1 ty1 s2_1 (fun e => by have z := s2_2; rw [e] at z; rw [e] at s2_1; rw [z] at s2_1; cases s2_1)
        · rw [q2]; exact ekit_self
        · rw [q2, q3]; exact ekit_sub hd3 ty3 s2_3 (fun e => by have z := s2_2; rw [e] at z; rw [e] at s2_3; rw [z] at s2_3; cases s2_3)
        · rw [q2, q4]; exact ekit_sub hd4 ty4 s2_4 (fun e => by have z := s2_2; rw [e] at z; rw [e] at s2_4; rw [z] at s2_4; cases s2_4)
        · rw [q2, q5]; exact ekit_sub hd5 ty5 s2_5 (fun e => by have z := s2_2; rw [e] at z; rw [e] at s2_5; rw [z] at s2_5; cases s2_5)
        · rw [q2, q6]; exact ekit_sub hd6 ty6 s2_6 (fun e => by have z := s2_2; rw [e] at z; rw [e] at s2_6; rw [z] at s2_6; cases s2_6)
        · rw [q2, q7]; exact ekit_sub hd7 ty7 s2_7 (fun e => by have z := s2_2; rw [e] at z; rw [e] at s2_7; rw [z] at s2_7; cases s2_7)
      · rcases (by omega : j = 0 ∨ j = 1 ∨ j = 2 ∨ j = 3 ∨ j = 4 ∨ j = 5 ∨ j = 6 ∨ j = 7) with rfl | rfl | rfl | rfl | rfl | rfl | rfl | rfl
        · rw [q3, q0]; exact ekit_sub hd0 ty0 s3_0 (fun e => by have z := s3_3; rw [e] at z; rw [e] at s3_0; rw [z] at s3_0; cases s3_0)
        · rw [q3, q1]; exact ekit_sub hd1 ty1 s3_1 (fun e => by have z := s3_3; rw [e] at z; rw [e] at s3_1; rw [z] at s3_1; cases s3_1)
        · rw [q3, q2]; exact ekit_sub hd2 ty2 s3_2 (fun e => by have z := s3_3; rw [e] at z; rw [e] at s3_2; rw [z] at s3_2; cases s3_2)
        · rw [q3]; exact ekit_self
        · rw [q3, q4]; exact ekit_sub hd4 ty4 s3_4 (fun e => by have z := s3_3; rw [e] at z; rw [e] at s3_4; rw [z] at s3_4; cases s3_4)
        · rw [q3, q5]; exact ekit_sub hd5 ty5 s3_5 (fun e => by have z := s3_3; rw [e] at z; rw [e] at s3_5; rw [z] at s3_5; cases s3_5)
        · rw [q3, q6]; exact ekit_sub hd6 ty6 s3_6 (fun e => by have z := s3_3; rw [e] at z; rw [e] at s3_6; rw [z] at s3_6; cases s3_6)
        · rw [q3, q7]; exact ekit_sub hd7 ty7 s3_7 (fun e => by have z := s3_3; rw [e] at z; rw [e] at s3_7; rw [z] at s3_7; cases s3_7)
      · rcases (by omega : j = 0 ∨ j = 1 ∨ j = 2 ∨ j = 3 ∨ j = 4 ∨ j = 5 ∨ j = 6 ∨ j = 7) with rfl | rfl | rfl | rfl | rfl | rfl | rfl | rfl
        · rw [q4, q0]; exact ekit_sub hd0 ty0 s4_0 (fun e => by have z := s4_4; rw [e] at z; rw [e] at s4_0; rw [z] at s4_0; cases s4_0)
        · rw [q4, q1]; exact ekit_sub hd1 ty1 s4_1 (fun e => by have z := s4_4; rw [e] at z; rw [e] at s4_1; rw [z] at s4_1; cases s4_1)
        · rw [q4, q2]; exact ekit_sub hd2 ty2 s4_2 (fun e => by have z := s4_4; rw [e] at z; rw [e] at s4_2; rw [z] at s4_2; cases s4_2)
        · rw [q4, q3]; exact ekit_sub hd3 ty3 s4_3 (fun e => by have z := s4_4; rw [e] at z; rw [e] at s4_3; rw [z] at s4_3; cases s4_3)
        · rw [q4]; exact ekit_self
        · rw [q4, q5]; exact ekit_sub hd5 ty5 s4_5 (fun e => by have z := s4_4; rw [e] at z; rw [e] at s4_5; rw [z] at s4_5; cases s4_5)
        · rw [q4, q6]; exact ekit_sub hd6 ty6 s4_6 (fun e => by have z := s4_4; rw [e] at z; rw [e] at s4_6; rw [z] at s4_6; cases s4_6)
        · rw [q4, q7]; exact ekit_sub hd7 ty7 s4_7 (fun e => by have z := s4_4; rw [e] at z; rw [e] at s4_7; rw [z] at s4_7; cases s4_7)
      · rcases (by omega : j = 0 ∨ j = 1 ∨ j = 2 ∨ j = 3 ∨ j = 4 ∨ j = 5 ∨ j = 6 ∨ j = 7) with rfl | rfl | rfl | rfl | rfl | rfl | rfl | rfl
        · rw [q5, q0]; exact ekit_sub hd0 ty0 s5_0 (fun e => by have z := s5_5; rw [e] at z; rw [e] at s5_0; rw [z] at s5_0; cases s5_0)
        · rw [q5, q1]; exact ekit_sub hd1 ty1 s5_1 (fun e => by have z := s5_5; rw [e] at z; rw [e] at s5_1; rw [z] at s5_1; cases s5_1)
        · rw [q5, q2]; exact ekit_sub hd2 ty2 s5_2 (fun e => by have z := s5_5; rw [e] at z; rw [e] at s5_2; rw [z] at s5_2; cases s5_2)
        · rw [q5, q3]; exact ekit_sub hd3 ty3 s5_3 (fun e => by have z := s5_5; rw [e] at z; rw [e] at s5_3; rw [z] at s5_3; cases s5_3)
        · rw [q5, q4]; exact ekit_sub hd4 ty4 s5_4 (fun e => by have z := s5_5; rw [e] at z; rw [e] at s5_4; rw [z] at s5_4; cases s5_4)
        · rw [q5]; exact ekit_self
        · rw [q5, q6]; exact ekit_sub hd6 ty6 s5_6 (fun e => by have z := s5_5; rw [e] at z; rw [e] at s5_6; rw [z] at s5_6; cases s5_6)
        · rw [q5, q7]; exact ekit_sub hd7 ty7 s5_7 (fun e => by have z := s5_5; rw [e] at z; rw [e] at s5_7; rw [z] at s5_7; cases s5_7)
      · rcases (by omega : j = 0 ∨ j = 1 ∨ j = 2 ∨ j = 3 ∨ j = 4 ∨ j = 5 ∨ j = 6 ∨ j = 7) with rfl | rfl | rfl | rfl | rfl | rfl | rfl | rfl
        · rw [q6, q0]; exact ekit_sub hd0 ty0 s6_0 (fun e => by have z := s6_6; rw [e] at z; rw [e] at s6_0; rw [z] at s6_0; cases s6_0)
        · rw [q6, q1]; exact ekit_sub hd1 ty1 s6_1 (fun e => by have z := s6_6; rw [e] at z; rw [e] at s6_1; rw [z] at s6_1; cases s6_1)
        · rw [q6, q2]; exact ekit_sub hd2 ty2 s6_2 (fun e => by have z := s6_6; rw [e] at z; rw [e] at s6_2; rw [z] at s6_2; cases s6_2)
        · rw [q6, q3]; exact ekit_sub hd3 ty3 s6_3 (fun e => by have z := s6_6; rw [e] at z; rw [e] at s6_3; rw [z] at s6_3; cases s6_3)
        · rw [q6, q4]; exact ekit_sub hd4 ty4 s6_4 (fun e => by have z := s6_6; rw [e] at z; rw [e] at s6_4; rw [z] at s6_4; cases s6_4)
        · rw [q6, q5]; exact ekit_sub hd5 ty5 s6_5 (fun e => by have z := s6_6; rw [e] at z; rw [e] at s6_5; rw [z] at s6_5; cases s6_5)
        · rw [q6]; exact ekit_self
        · rw [q6, q7]; exact ekit_sub hd7 ty7 s6_7 (fun e => by have z := s6_6; rw [e] at z; rw [e] at s6_7; rw [z] at s6_7; cases s6_7)
      · rcases (by omega : j = 0 ∨ j = 1 ∨ j = 2 ∨ j = 3 ∨ j = 4 ∨ j = 5 ∨ j = 6 ∨ j = 7) with rfl | rfl | rfl | rfl | rfl | rfl | rfl | rfl
        · rw [q7, q0]; exact ekit_sub hd0 ty0 s7_0 (fun e => by have z := s7_7; rw [e] at z; rw [e] at s7_0; rw [z] at s7_0; cases s7_0)
        · rw [q7, q1]; exact ekit_sub hd1 ty1 s7_1 (fun e => by have z := s7_7; rw [e] at z; rw [e] at s7_1; rw [z] at s7_1; cases s7_1)
        · rw [q7, q2]; exact ekit_sub hd2 ty2 s7_2 (fun e => by have z := s7_7; rw [e] at z; rw [e] at s7_2; rw [z] at s7_2; cases s7_2)
        · rw [q7, q3]; exact ekit_sub hd3 ty3 s7_3 (fun e => by have z := s7_7; rw [e] at z; rw [e] at s7_3; rw [z] at s7_3; cases s7_3)
        · rw [q7, q4]; exact ekit_sub hd4 ty4 s7_4 (fun e => by have z := s7_7; rw [e] at z; rw [e] at s7_4; rw [z] at s7_4; cases s7_4)
        · rw [q7, q5]; exact ekit_sub hd5 ty5 s7_5 (fun e => by have z := s7_7; rw [e] at z; rw [e] at s7_5; rw [z] at s7_5; cases s7_5)
        · rw [q7, q6]; exact ekit_sub hd6 ty6 s7_6 (fun e => by have z := s7_7; rw [e] at z; rw [e] at s7_6; rw [z] at s7_6; cases s7_6)
        · rw [q7]; exact ekit_self
    · rcases (by omega : i = 0 ∨ i = 1 ∨ i = 2 ∨ i = 3 ∨ i = 4 ∨ i = 5 ∨ i = 6 ∨ i = 7) with rfl | rfl | rfl | rfl | rfl | rfl | rfl | rfl
      · rcases (by omega : j = 0 ∨ j = 1 ∨ j = 2 ∨ j = 3 ∨ j = 4 ∨ j = 5 ∨ j = 6 ∨ j = 7) with rfl | rfl | rfl | rfl | rfl | rfl | rfl | rfl
        · rw [q0]; exact PySem.W.exm_ref xb0 hd0 ty0 s0_0
        · rw [q0, q1]; exact PySem.W.exm_ref xb1 hd1 ty1 s0_1
        · rw [q0, q2]; exact PySem.W.exm_ref xb2 hd2 ty2 s0_2
        · rw [q0, q3]; exact PySem.W.exm_ref xb3 hd3 ty3 s0_3
        · rw [q0, q4]; exact PySem.W.exm_ref xb4 hd4 ty4 s0_4
        · rw [q0, q5]; exact PySem.W.exm_ref xb5 hd5 ty5 s0_5
        · rw [q0, q6]; exact PySem.W.exm_ref xb6 hd6 ty6 s0_6
        · rw [q0, q7]; exact PySem.W.exm_ref xb7 hd7 ty7 s0_7
      · rcases (by omega : j = 0 ∨ j = 1 ∨ j = 2 ∨ j = 3 ∨ j = 4 ∨ j = 5 ∨ j = 6 ∨ j = 7) with rfl | rfl | rfl | rfl | rfl | rfl | rfl | rfl
        · rw [q1, q0]; exact PySem.W.exm_ref xb0 hd0 ty0 s1_0
        · rw [q1]; exact PySem.W.exm_ref xb1 hd1 ty1 s1_1
        · rw [q1, q2]; exact PySem.W.exm_ref xb2 hd2 ty2 s1_2
        · rw [q1, q3]; exact PySem.W.exm_ref xb3 hd3 ty3 s1_3
        · rw [q1, q4]; exact PySem.W.exm_ref xb4 hd4 ty4 s1_4
        · rw [q1, q5]; exact PySem.W.exm_ref xb5 hd5 ty5 s1_5
        · rw [q1, q6]; exact PySem.W.exm_ref xb6 hd6 ty6 s1_6
        · rw [q1, q7]; exact PySem.W.exm_ref xb7 hd7 ty7 s1_7
      · rcases (by omega : j = 0 ∨ j = 1 ∨ j = 2 ∨ j = 3 ∨ j = 4 ∨ j = 5 ∨ j = 6 ∨ j = 7) with rfl | rfl | rfl | rfl | rfl | rfl | rfl | rfl
        · rw [q2, q0]; exact PySem.W.exm_ref xb0 hd0 ty0 s2_0
        · rw [q2, q1]; exact PySem.W.exm_ref xb1 hd1 ty1 s2_1
        · rw [q2]; exact PySem.W.exm_ref xb2 hd2 ty2 s2_2
        · rw [q2, q3]; exact PySem.W.exm_ref xb3 hd3 ty3 s2_3
        · rw [q2, q4]; exact PySem.W.exm_ref xb4 hd4 ty4 s2_4
        · rw [q2, q5]; exact PySem.W.exm_ref xb5 hd5 ty5 s2_5
        · rw [q2, q6]; exact PySem.W.exm_ref xb6 hd6 ty6 s2_6
        · rw [q2, q7]; exact PySem.W.exm_ref xb7 hd7 ty7 s2_7
      · rcases (by omega : j = 0 ∨ j = 1 ∨ j = 2 ∨ j = 3 ∨ j = 4 ∨ j = 5 ∨ j = 6 ∨ j = 7) with rfl | rfl | rfl | rfl | rfl | rfl | rfl | rfl
        · rw [q3, q0]; exact PySem.W.exm_ref xb0 hd0 ty0 s3_0
        · rw [q3, q1]; exact PySem.W.exm_ref xb1 hd1 ty1 s3_1
        · rw [q3, q2]; exact PySem.W.exm_ref xb2 hd2 ty2 s3_2
        · rw [q3]; exact PySem.W.exm_ref xb3 hd3 ty3 s3_3
        · rw [q3, q4]; exact PySem.W.exm_ref xb4 hd4 ty4 s3_4
        · rw [q3, q5]; exact PySem.W.exm_ref xb5 hd5 ty5 s3_5
        · rw [q3, q6]; exact PySem.W.exm_ref xb6 hd6 ty6 s3_6
        · rw [q3, q7]; exact PySem.W.exm_ref xb7 hd7 ty7 s3_7
      · rcases (by omega : j = 0 ∨ j = 1 ∨ j = 2 ∨ j = 3 ∨ j = 4 ∨ j = 5 ∨ j = 6 ∨ j = 7) with rfl | rfl | rfl | rfl | rfl | rfl | rfl | rfl
        · rw [q4, q0]; exact PySem.W.exm_ref xb0 hd0 ty0 s4_0
        · rw [q4, q1]; exact PySem.W.exm_ref xb1 hd1 ty1 s4_1
        · rw [q4, q2]; exact PySem.W.exm_ref xb2 hd2 ty2 s4_2
        · rw [q4, q3]; exact PySem.W.exm_ref xb3 hd3 ty3 s4_3
        · rw [q4]; exact PySem.W.exm_ref xb4 hd4 ty4 s4_4
        · rw [q4, q5]; exact PySem.W.exm_ref xb5 hd5 ty5 s4_5
        · rw [q4, q6]; exact PySem.W.exm_ref xb6 hd6 ty6 s4_6
        · rw [q4, q7]; exact PySem.W.exm_ref xb7 hd7 ty7 s4_7
      · rcases (by omega : j = 0 ∨ j = 1 ∨ j = 2 ∨ j = 3 ∨ j = 4 ∨ j = 5 ∨ j = 6 ∨ j = 7) with rfl | rfl | rfl | rfl | rfl | rfl | rfl | rfl
        · rw [q5, q0]; exact PySem.W.exm_ref xb0 hd0 ty0 s5_0
        · rw [q5, q1]; exact PySem.W.exm_ref xb1 hd1 ty1 s5_1
        · rw [q5, q2]; exact PySem.W.exm_ref xb2 hd2 ty2 s5_2
        · rw [q5, q3]; exact PySem.W.exm_ref xb3 hd3 ty3 s5_3
        · rw [q5, q4]; exact PySem.W.exm_ref xb4 hd4 ty4 s5_4
        · rw [q5]; exact PySem.W.exm_ref xb5 hd5 ty5 s5_5
        · rw [q5, q6]; exact PySem.W.exm_ref xb6 hd6 ty6 s5_6
        · rw [q5, q7]; exact PySem.W.exm_ref xb7 hd7 ty7 s5_7
      · rcases (by omega : j = 0 ∨ j = 1 ∨ j = 2 ∨ j = 3 ∨ j = 4 ∨ j = 5 ∨ j = 6 ∨ j = 7) with rfl | rfl | rfl | rfl | rfl | rfl | rfl | rfl
        · rw [q6, q0]; exact PySem.W.exm_ref xb0 hd0 ty0 s6_0
        · rw [q6, q1]; exact PySem.W.exm_ref xb1 hd1 ty1 s6_1
        · rw [q6, q2]; exact PySem.W.exm_ref xb2 hd2 ty2 s6_2
        · rw [q6, q3]; exact PySem.W.exm_ref xb3 hd3 ty3 s6_3
        · rw [q6, q4]; exact PySem.W.exm_ref xb4 hd4 ty4 s6_4
        · rw [q6, q5]; exact PySem.W.exm_ref xb5 hd5 ty5 s6_5
        · rw [q6]; exact PySem.W.exm_ref xb6 hd6 ty6 s6_6
        · rw [q6, q7]; exact PySem.W.exm_ref xb7 hd7 ty7 s6_7
      · rcases (by omega : j = 0 ∨ j = 1 ∨ j = 2 ∨ j = 3 ∨ j = 4 ∨ j = 5 ∨ j = 6 ∨ j = 7) with rfl | rfl | rfl | rfl | rfl | rfl | rfl | rfl
        · rw [q7, q0]; exact PySem.W.exm_ref xb0 hd0 ty0 s7_0
        · rw [q7, q1]; exact PySem.W.exm_ref xb1 hd1 ty1 s7_1
        · rw [q7, q2]; exact PySem.W.exm_ref xb2 hd2 ty2 s7_2
        · rw [q7, q3]; exact PySem.W.exm_ref xb3 hd3 ty3 s7_3
        · rw [q7, q4]; exact PySem.W.exm_ref xb4 hd4 ty4 s7_4
        · rw [q7, q5]; exact PySem.W.exm_ref xb5 hd5 ty5 s7_5
        · rw [q7, q6]; exact PySem.W.exm_ref xb6 hd6 ty6 s7_6
        · rw [q7]; exact PySem.W.exm_ref xb7 hd7 ty7 s7_7
    · rcases (by omega : i = 0 ∨ i = 1 ∨ i = 2 ∨ i = 3 ∨ i = 4 ∨ i = 5 ∨ i = 6 ∨ i = 7) with rfl | rfl | rfl | rfl | rfl | rfl | rfl | rfl
      · rw [q0, q8]; exact ekit_sub hE8 tE8 xw0 (fun _ => rfl)
      · rw [q1, q8]; exact ekit_sub hE8 tE8 xw1 (fun _ => rfl)
      · rw [q2, q8]; exact ekit_sub hE8 tE8 xw2 (fun _ => rfl)
      · rw [q3, q8]; exact ekit_sub hE8 tE8 xw3 (fun _ => rfl)
      · rw [q4, q8]; exact ekit_sub hE8 tE8 xw4 (fun _ => rfl)
      · rw [q5, q8]; exact ekit_sub hE8 tE8 xw5 (fun _ => rfl)
      · rw [q6, q8]; exact ekit_sub hE8 tE8 xw6 (fun _ => rfl)
      · rw [q7, q8]; exact ekit_sub hE8 tE8 xw7 (fun _ => rfl)
    · rcases (by omega : i = 0 ∨ i = 1 ∨ i = 2 ∨ i = 3 ∨ i = 4 ∨ i = 5 ∨ i = 6 ∨ i = 7) with rfl | rfl | rfl | rfl | rfl | rfl | rfl | rfl
      · rw [q0, q8]; exact PySem.W.exm_ref bE8 hE8 tE8 xw0
      · rw [q1, q8]; exact PySem.W.exm_ref bE8 hE8 tE8 xw1
      · rw [q2, q8]; exact PySem.W.exm_ref bE8 hE8 tE8 xw2
      · rw [q3, q8]; exact PySem.W.exm_ref bE8 hE8 tE8 xw3
      · rw [q4, q8]; exact PySem.W.exm_ref bE8 hE8 tE8 xw4
      · rw [q5, q8]; exact PySem.W.exm_ref bE8 hE8 tE8 xw5
      · rw [q6, q8]; exact PySem.W.exm_ref bE8 hE8 tE8 xw6
      · rw [q7, q8]; exact PySem.W.exm_ref bE8 hE8 tE8 xw7
    · rcases (by omega : i = 0 ∨ i = 1 ∨ i = 2 ∨ i = 3 ∨ i = 4 ∨ i = 5 ∨ i = 6 ∨ i = 7) with rfl | rfl | rfl | rfl | rfl | rfl | rfl | rfl
      · rw [q0]; exact ekit_ty (by decide +kernel) xe0
      · rw [q1]; exact ekit_ty (by decide +kernel) xe1
      · rw [q2]; exact ekit_ty (by decide +kernel) xe2
      · rw [q3]; exact ekit_ty (by decide +kernel) xe3
      · rw [q4]; exact ekit_ty (by decide +kernel) xe4
      · rw [q5]; exact ekit_ty (by decide +kernel) xe5
      · rw [q6]; exact ekit_ty (by decide +kernel) xe6
      · rw [q7]; exact ekit_ty (by decide +kernel) xe7
    · rcases (by omega : i = 0 ∨ i = 1 ∨ i = 2 ∨ i = 3 ∨ i = 4 ∨ i = 5 ∨ i = 6 ∨ i = 7) with rfl | rfl | rfl | rfl | rfl | rfl | rfl | rfl
      · rw [q0]; exact ekit_ty (by decide +kernel) xv0
      · rw [q1]; exact ekit_ty (by decide +kernel) xv1
      · rw [q2]; exact ekit_ty (by decide +kernel) xv2
      · rw [q3]; exact ekit_ty (by decide +kernel) xv3
      · rw [q4]; exact ekit_ty (by decide +kernel) xv4
      · rw [q5]; exact ekit_ty (by decide +kernel) xv5
      · rw [q6]; exact ekit_ty (by decide +kernel) xv6
      · rw [q7]; exact ekit_ty (by decide +kernel) xv7
    · rcases (by omega : i = 0 ∨ i = 1 ∨ i = 2 ∨ i = 3 ∨ i = 4 ∨ i = 5 ∨ i = 6 ∨ i = 7) with rfl | rfl | rfl | rfl | rfl | rfl | rfl | rfl
      · have hf2 : f ∈ (["at"] : List Str) := hf
        simp only [List.mem_cons, List.not_mem_nil, or_false] at hf2
        rcases hf2 with rfl
        · rw [q0]; exact tk0at
      · have hf2 : f ∈ (["at"] : List Str) := hf
        simp only [List.mem_cons, List.not_mem_nil, or_false] at hf2
        rcases hf2 with rfl
        · rw [q1]; exact tk1at
      · have hf2 : f ∈ (["at"] : List Str) := hf
        simp only [List.mem_cons, List.not_mem_nil, or_false] at hf2
        rcases hf2 with rfl
        · rw [q2]; exact tk2at
      · have hf2 : f ∈ (["name"] : List Str) := hf
        simp only [List.mem_cons, List.not_mem_nil, or_false] at hf2
        rcases hf2 with rfl
        · rw [q3]; exact tk3name
      · have hf2 : f ∈ (["sheet", "row", "column"] : List Str) := hf
        simp only [List.mem_cons, List.not_mem_nil, or_false] at hf2
        rcases hf2 with rfl | rfl | rfl
        · rw [q4]; exact tk4sheet
        · rw [q4]; exact tk4row
        · rw [q4]; exact tk4column
      · have hf2 : f ∈ (["word"] : List Str) := hf
        simp only [List.mem_cons, List.not_mem_nil, or_false] at hf2
        rcases hf2 with rfl
        · rw [q5]; exact tk5word
      · have hf2 : f ∈ (["word"] : List Str) := hf
        simp only [List.mem_cons, List.not_mem_nil, or_false] at hf2
        rcases hf2 with rfl
        · rw [q6]; exact tk6word
      · have hf2 : f ∈ (["at"] : List Str) := hf
        simp only [List.mem_cons, List.not_mem_nil, or_false] at hf2
        rcases hf2 with rfl
        · rw [q7]; exact tk7at
    · rcases (by omega : i = 0 ∨ i = 1 ∨ i = 2 ∨ i = 3 ∨ i = 4 ∨ i = 5 ∨ i = 6 ∨ i = 7) with rfl | rfl | rfl | rfl | rfl | rfl | rfl | rfl
      · have hf2 : f ∈ (["at"] : List Str) := hf
        simp only [List.mem_cons, List.not_mem_nil, or_false] at hf2
        rcases hf2 with rfl
        · rw [q0]; exact no0at
      · have hf2 : f ∈ (["at"] : List Str) := hf
        simp only [List.mem_cons, List.not_mem_nil, or_false] at hf2
        rcases hf2 with rfl
        · rw [q1]; exact no1at
      · have hf2 : f ∈ (["at"] : List Str) := hf
        simp only [List.mem_cons, List.not_mem_nil, or_false] at hf2
        rcases hf2 with rfl
        · rw [q2]; exact no2at
      · have hf2 : f ∈ (["name"] : List Str) := hf
        simp only [List.mem_cons, List.not_mem_nil, or_false] at hf2
        rcases hf2 with rfl
        · rw [q3]; exact no3name
      · have hf2 : f ∈ (["sheet", "row", "column"] : List Str) := hf
        simp only [List.mem_cons, List.not_mem_nil, or_false] at hf2
        rcases hf2 with rfl | rfl | rfl
        · rw [q4]; exact no4sheet
        · rw [q4]; exact no4row
        · rw [q4]; exact no4column
      · have hf2 : f ∈ (["word"] : List Str) := hf
        simp only [List.mem_cons, List.not_mem_nil, or_false] at hf2
        rcases hf2 with rfl
        · rw [q5]; exact no5word
      · have hf2 : f ∈ (["word"] : List Str) := hf
        simp only [List.mem_cons, List.not_mem_nil, or_false] at hf2
        rcases hf2 with rfl
        · rw [q6]; exact no6word
      · have hf2 : f ∈ (["at"] : List Str) := hf
        simp only [List.mem_cons, List.not_mem_nil, or_false] at hf2
        rcases hf2 with rfl
        · rw [q7]; exact no7at
  let T : Txt K mg := { gc_BadPlace := (by rw [q0]; exact PySem.W.mg_of X G vE0), i_BadPlace := (by rw [q0]; exact a0), ti_BadPlace := tf0, gc_BadText := (by rw [q1]; exact PySem.W.mg_of X G vE1), i_BadText := (by rw [q1]; exact a1), ti_BadText := tf1, gc_Fault := (by rw [q2]; exact PySem.W.mg_of X G vE2), i_Fault := (by rw [q2]; exact a2), ti_Fault := tf2, gc_BadName := (by rw [q3]; exact PySem.W.mg_of X G vE3), i_BadName := (by rw [q3]; exact a3), ti_BadName := tf3, gc_BlockCut := (by rw [q4]; exact PySem.W.mg_of X G vE4), i_BlockCut := (by rw [q4]; exact a4), ti_BlockCut := tf4, gc_NoRoom := (by rw [q5]; exact PySem.W.mg_of X G vE5), i_NoRoom := (by rw [q5]; exact a5), ti_NoRoom := tf5, gc_NothingThere := (by rw [q6]; exact PySem.W.mg_of X G vE6), i_NothingThere := (by rw [q6]; exact a6), ti_NothingThere := tf6, gc_BadJournal := (by rw [q7]; exact PySem.W.mg_of X G vE7), i_BadJournal := (by rw [q7]; exact a7), ti_BadJournal := tf7, cs := cs, gc_WorkError := (by rw [q8]; exact PySem.W.mg_of X G vE8), aBadPlace_init := f0, dBadPlace_init := _, FBadPlace_init := F0, bBadPlace_init := b0, aBadText_init := f1, dBadText_init := _, FBadText_init := F1, bBadText_init := b1, aFault_init := f2, dFault_init := _, FFault_init := F2, bFault_init := b2, aBadName_init := f3, dBadName_init := _, FBadName_init := F3, bBadName_init := b3, aBlockCut_init := f4, dBlockCut_init := _, FBlockCut_init := F4, bBlockCut_init := b4, aNoRoom_init := f5, dNoRoom_init := _, FNoRoom_init := F5, bNoRoom_init := b5, aNothingThere_init := f6, dNothingThere_init := _, FNothingThere_init := F6, bNothingThere_init := b6, aBadJournal_init := f7, dBadJournal_init := _, FBadJournal_init := F7, bBadJournal_init := b7, a_law_cell := f8, d_law_cell := _, F_law_cell := F8, g_law_cell := PySem.W.mg_of X G a8, b_law_cell := b8, a_law_mix := f9, d_law_mix := _, F_law_mix := F9, g_law_mix := PySem.W.mg_of X G a9, b_law_mix := b9, a_law_number := f10, d_law_number := _, F_law_number := F10, g_law_number := PySem.W.mg_of X G a10, b_law_number := b10, a_law_text := f11, d_law_text := _, F_law_text := F11, g_law_text := PySem.W.mg_of X G a11, b_law_text := b11, a_law_is_number := f12, d_law_is_number := _, F_law_is_number := F12, g_law_is_number := PySem.W.mg_of X G a12, b_law_is_number := b12, a_law_is_text := f13, d_law_is_text := _, F_law_is_text := F13, g_law_is_text := PySem.W.mg_of X G a13, b_law_is_text := b13, a_law_alone := f14, d_law_alone := _, F_law_alone := F14, g_law_alone := PySem.W.mg_of X G a14, b_law_alone := b14, a_law_numbered := f15, d_law_numbered := _, F_law_numbered := F15, g_law_numbered := PySem.W.mg_of X G a15, b_law_numbered := b15, a_law_worded := f16, d_law_worded := _, F_law_worded := F16, g_law_worded := PySem.W.mg_of X G a16, b_law_worded := b16, a_law_cut := f17, d_law_cut := _, F_law_cut := F17, g_law_cut := PySem.W.mg_of X G a17, b_law_cut := b17, a_law_raise := f18, d_law_raise := _, F_law_raise := F18, g_law_raise := PySem.W.mg_of X G a18, b_law_raise := b18, a_law_caught := f19, d_law_caught := _, F_law_caught := F19, g_law_caught := PySem.W.mg_of X G a19, b_law_caught := b19, a_law_beneath := f20, d_law_beneath := _, F_law_beneath := F20, g_law_beneath := PySem.W.mg_of X G a20, b_law_beneath := b20, alaw := fa, dlaw := _, Flaw := F21, glaw := PySem.W.mg_of X G a21, blaw := b21, z_Exception := PySem.W.mg_none_of X G z_Exception, z_ValueError := PySem.W.mg_none_of X G z_ValueError, z_bool := PySem.W.mg_none_of X G z_bool, z_int := PySem.W.mg_none_of X G z_int, z_isinstance := PySem.W.mg_none_of X G z_isinstance, z_len := PySem.W.mg_none_of X G z_len, z_range := PySem.W.mg_none_of X G z_range, z_str := PySem.W.mg_none_of X G z_str }
  exact ⟨T.dlaw, fun s v => .of_eq rfl, fun base _ _ => oklaw T⟩

end Mysheetworks_k00_errors
open PySem PySem.W PyProof.Rows
set_option maxHeartbeats 0 in
theorem PySem.Challenge.cw_sheetworks_k00_errors_holds : PySem.Challenge.rw_sheetworks_k00_errors.Holds := by
  w_on; o_law; k_head; (case hw => w_witness2)
  k_fill
  refine L2.walk_of (l := PySem.Challenge.rw_sheetworks_k00_errors) (n := 63) (k := 5) (x := "script") (CX := fun _ => L2.CX0) (sp := fun w => Mysheetworks_k00_errors.splaw _) rfl (by decide) rfl ⟨rfl, by decide, by decide⟩ (fun w h Y => PySem.W.kIn_of Y) ?F (fun _ _ a ns hl _ hS => ⟨a, ns, rfl, hS, hl, fun _ => rfl⟩) (fun _ _ _ _ _ h => h)
  case F =>
    intro w mg fa h KX G hmg
    refine' Mysheetworks_k00_errors.all_mk KX G hmg ?vE8 ?vE0 ?vE1 ?vE2 ?vE3 ?vE4 ?vE5 ?vE6 ?vE7 ?hE8 ?tE8 ?bE8 ?cnE ?ctE ?ini0 ?ov0 ?hd0 ?sa0 ?ga0 ?gg0 ?xb0 ?ty0 ?kp0 ?ca0 ?cm0 ?xw0 ?xe0 ?xv0 ?tk0at ?no0at ?ini1 ?ov1 ?hd1 ?sa1 ?ga1 ?gg1 ?xb1 ?ty1 ?kp1 ?ca1 ?cm1 ?xw1 ?xe1 ?xv1 ?tk1at ?no1at ?ini2 ?ov2 ?hd2 ?sa2 ?ga2 ?gg2 ?xb2 ?ty2 ?kp2 ?ca2 ?cm2 ?xw2 ?xe2 ?xv2 ?tk2at ?no2at ?ini3 ?ov3 ?hd3 ?sa3 ?ga3 ?gg3 ?xb3 ?ty3 ?kp3 ?ca3 ?cm3 ?xw3 ?xe3 ?xv3 ?tk3name ?no3name ?ini4 ?ov4 ?hd4 ?sa4 ?ga4 ?gg4 ?xb4 ?ty4 ?kp4 ?ca4 ?cm4 ?xw4 ?xe4 ?xv4 ?tk4sheet ?no4sheet ?tk4row ?no4row ?tk4column ?no4column ?ini5 ?ov5 ?hd5 ?sa5 ?ga5 ?gg5 ?xb5 ?ty5 ?kp5 ?ca5 ?cm5 ?xw5 ?xe5 ?xv5 ?tk5word ?no5word ?ini6 ?ov6 ?hd6 ?sa6 ?ga6 ?gg6 ?xb6 ?ty6 ?kp6 ?ca6 ?cm6 ?xw6 ?xe6 ?xv6 ?tk6word ?no6word ?ini7 ?ov7 ?hd7 ?sa7 ?ga7 ?gg7 ?xb7 ?ty7 ?kp7 ?ca7 ?cm7 ?xw7 ?xe7 ?xv7 ?tk7at ?no7at ?s0_0 ?s0_1 ?s0_2 ?s0_3 ?s0_4 ?s0_5 ?s0_6 ?s0_7 ?s1_0 ?s1_1 ?s1_2 ?s1_3 ?s1_4 ?s1_5 ?s1_6 ?s1_7 ?s2_0 ?s2_1 ?s2_2 ?s2_3 ?s2_4 ?s2_5 ?s2_6 ?s2_7 ?s3_0 ?s3_1 ?s3_2 ?s3_3 ?s3_4 ?s3_5 ?s3_6 ?s3_7 ?s4_0 ?s4_1 ?s4_2 ?s4_3 ?s4_4 ?s4_5 ?s4_6 ?s4_7 ?s5_0 ?s5_1 ?s5_2 ?s5_3 ?s5_4 ?s5_5 ?s5_6 ?s5_7 ?s6_0 ?s6_1 ?s6_2 ?s6_3 ?s6_4 ?s6_5 ?s6_6 ?s6_7 ?s7_0 ?s7_1 ?s7_2 ?s7_3 ?s7_4 ?s7_5 ?s7_6 ?s7_7 ?a0 ?tf0 ?l0 ?c0 ?k0 ?a1 ?tf1 ?l1 ?c1 ?k1 ?a2 ?tf2 ?l2 ?c2 ?k2 ?a3 ?tf3 ?l3 ?c3 ?k3 ?a4 ?tf4 ?l4 ?c4 ?k4 ?a5 ?tf5 ?l5 ?c5 ?k5 ?a6 ?tf6 ?l6 ?c6 ?k6 ?a7 ?tf7 ?l7 ?c7 ?k7 ?a8 ?l8 ?c8 ?k8 ?a9 ?l9 ?c9 ?k9 ?a10 ?l10 ?c10 ?k10 ?a11 ?l11 ?c11 ?k11 ?a12 ?l12 ?c12 ?k12 ?a13 ?l13 ?c13 ?k13 ?a14 ?l14 ?c14 ?k14 ?a15 ?l15 ?c15 ?k15 ?a16 ?l16 ?c16 ?k16 ?a17 ?l17 ?c17 ?k17 ?a18 ?l18 ?c18 ?k18 ?a19 ?l19 ?c19 ?k19 ?a20 ?l20 ?c20 ?k20 ?a21 ?l21 ?c21 ?k21 ?z_Exception ?z_ValueError ?z_bool ?z_int ?z_isinstance ?z_len ?z_range ?z_str
    (case vE8 => k_is); (case vE0 => k_is); (case vE1 => k_is); (case vE2 => k_is); (case vE3 => k_is); (case vE4 => k_is); (case vE5 => k_is); (case vE6 => k_is); (case vE7 => k_is); (case hE8 => k_is); (case tE8 => k_is); (case bE8 => k_is); (case cnE => k_is); (case ctE => k_is); (case ini0 => kx_is); (case ov0 => kx_is); (case hd0 => k_is); (case sa0 => k_is); (case ga0 => k_is); (case gg0 => k_is); (case xb0 => k_is); (case ty0 => k_is); (case kp0 => k_is); (case ca0 => k_is); (case cm0 => k_is); (case xw0 => k_is); (case xe0 => k_is); (case xv0 => k_is); (case tk0at => k_is); (case no0at => k_is); (case ini1 => kx_is); (case ov1 => kx_is); (case hd1 => k_is); (case sa1 => k_is); (case ga1 => k_is); (case gg1 => k_is); (case xb1 => k_is); (case ty1 => k_is); (case kp1 => k_is); (case ca1 => k_is); (case cm1 => k_is); (case xw1 => k_is); (case xe1 => k_is); (case xv1 => k_is); (case tk1at => k_is); (case no1at => k_is); (case ini2 => kx_is); (case ov2 => kx_is); (case hd2 => k_is); (case sa2 => k_is); (case ga2 => k_is); (case gg2 => k_is); (case xb2 => k_is); (case ty2 => k_is); (case kp2 => k_is); (case ca2 => k_is); (case cm2 => k_is); (case xw2 => k_is); (case xe2 => k_is); (case xv2 => k_is); (case tk2at => k_is); (case no2at => k_is); (case ini3 => kx_is); (case ov3 => kx_is); (case hd3 => k_is); (case sa3 => k_is); (case ga3 => k_is); (case gg3 => k_is); (case xb3 => k_is); (case ty3 => k_is); (case kp3 => k_is); (case ca3 => k_is); (case cm3 => k_is); (case xw3 => k_is); (case xe3 => k_is); (case xv3 => k_is); (case tk3name => k_is); (case no3name => k_is); (case ini4 => kx_is); (case ov4 => kx_is); (case hd4 => k_is); (case sa4 => k_is); (case ga4 => k_is); (case gg4 => k_is); (case xb4 => k_is); (case ty4 => k_is); (case kp4 => k_is); (case ca4 => k_is); (case cm4 => k_is); (case xw4 => k_is); (case xe4 => k_is); (case xv4 => k_is); (case tk4sheet => k_is); (case no4sheet => k_is); (case tk4row => k_is); (case no4row => k_is); (case tk4column => k_is); (case no4column => k_is); (case ini5 => kx_is); (case ov5 => kx_is); (case hd5 => k_is); (case sa5 => k_is); (case ga5 => k_is); (case gg5 => k_is); (case xb5 => k_is); (case ty5 => k_is); (case kp5 => k_is); (case ca5 => k_is); (case cm5 => k_is); (case xw5 => k_is); (case xe5 => k_is); (case xv5 => k_is); (case tk5word => k_is); (case no5word => k_is); (case ini6 => kx_is); (case ov6 => kx_is); (case hd6 => k_is); (case sa6 => k_is); (case ga6 => k_is); (case gg6 => k_is); (case xb6 => k_is); (case ty6 => k_is); (case kp6 => k_is); (case ca6 => k_is); (case cm6 => k_is); (case xw6 => k_is); (case xe6 => k_is); (case xv6 => k_is); (case tk6word => k_is); (case no6word => k_is); (case ini7 => kx_is); (case ov7 => kx_is); (case hd7 => k_is); (case sa7 => k_is); (case ga7 => k_is); (case gg7 => k_is); (case xb7 => k_is); (case ty7 => k_is); (case kp7 => k_is); (case ca7 => k_is); (case cm7 => k_is); (case xw7 => k_is); (case xe7 => k_is); (case xv7 => k_is); (case tk7at => k_is); (case no7at => k_is); (case s0_0 => k_is); (case s0_1 => k_is); (case s0_2 => k_is); (case s0_3 => k_is); (case s0_4 => k_is); (case s0_5 => k_is); (case s0_6 => k_is); (case s0_7 => k_is); (case s1_0 => k_is); (case s1_1 => k_is); (case s1_2 => k_is); (case s1_3 => k_is); (case s1_4 => k_is); (case s1_5 => k_is); (case s1_6 => k_is); (case s1_7 => k_is); (case s2_0 => k_is); (case s2_1 => k_is); (case s2_2 => k_is); (case s2_3 => k_is); (case s2_4 => k_is); (case s2_5 => k_is); (case s2_6 => k_is); (case s2_7 => k_is); (case s3_0 => k_is); (case s3_1 => k_is); (case s3_2 => k_is); (case s3_3 => k_is); (case s3_4 => k_is); (case s3_5 => k_is); (case s3_6 => k_is); (case s3_7 => k_is); (case s4_0 => k_is); (case s4_1 => k_is); (case s4_2 => k_is); (case s4_3 => k_is); (case s4_4 => k_is); (case s4_5 => k_is); (case s4_6 => k_is); (case s4_7 => k_is); (case s5_0 => k_is); (case s5_1 => k_is); (case s5_2 => k_is); (case s5_3 => k_is); (case s5_4 => k_is); (case s5_5 => k_is); (case s5_6 => k_is); (case s5_7 => k_is); (case s6_0 => k_is); (case s6_1 => k_is); (case s6_2 => k_is); (case s6_3 => k_is); (case s6_4 => k_is); (case s6_5 => k_is); (case s6_6 => k_is); (case s6_7 => k_is); (case s7_0 => k_is); (case s7_1 => k_is); (case s7_2 => k_is); (case s7_3 => k_is); (case s7_4 => k_is); (case s7_5 => k_is); (case s7_6 => k_is); (case s7_7 => k_is); (case a0 => k_is); (case tf0 => k_is); (case l0 => k_is); (case c0 => k_is); (case k0 => k_is); (case a1 => k_is); (case tf1 => k_is); (case l1 => k_is); (case c1 => k_is); (case k1 => k_is); (case a2 => k_is); (case tf2 => k_is); (case l2 => k_is); (case c2 => k_is); (case k2 => k_is); (case a3 => k_is); (case tf3 => k_is); (case l3 => k_is); (case c3 => k_is); (case k3 => k_is); (case a4 => k_is); (case tf4 => k_is); (case l4 => k_is); (case c4 => k_is); (case k4 => k_is); (case a5 => k_is); (case tf5 => k_is); (case l5 => k_is); (case c5 => k_is); (case k5 => k_is); (case a6 => k_is); (case tf6 => k_is); (case l6 => k_is); (case c6 => k_is); (case k6 => k_is); (case a7 => k_is); (case tf7 => k_is); (case l7 => k_is); (case c7 => k_is); (case k7 => k_is); (case a8 => k_is); (case l8 => k_is); (case c8 => k_is); (case k8 => k_is); (case a9 => k_is); (case l9 => k_is); (case c9 => k_is); (case k9 => k_is); (case a10 => k_is); (case l10 => k_is); (case c10 => k_is); (case k10 => k_is); (case a11 => k_is); (case l11 => k_is); (case c11 => k_is); (case k11 => k_is); (case a12 => k_is); (case l12 => k_is); (case c12 => k_is); (case k12 => k_is); (case a13 => k_is); (case l13 => k_is); (case c13 => k_is); (case k13 => k_is); (case a14 => k_is); (case l14 => k_is); (case c14 => k_is); (case k14 => k_is); (case a15 => k_is); (case l15 => k_is); (case c15 => k_is); (case k15 => k_is); (case a16 => k_is); (case l16 => k_is); (case c16 => k_is); (case k16 => k_is); (case a17 => k_is); (case l17 => k_is); (case c17 => k_is); (case k17 => k_is); (case a18 => k_is); (case l18 => k_is); (case c18 => k_is); (case k18 => k_is); (case a19 => k_is); (case l19 => k_is); (case c19 => k_is); (case k19 => k_is); (case a20 => k_is); (case l20 => k_is); (case c20 => k_is); (case k20 => k_is); (case a21 => k_is); (case l21 => k_is); (case c21 => k_is); (case k21 => k_is); (case z_Exception => k_is); (case z_ValueError => k_is); (case z_bool => k_is); (case z_int => k_is); (case z_isinstance => k_is); (case z_len => k_is); (case z_range => k_is); (case z_str => k_is)

