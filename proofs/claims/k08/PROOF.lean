import PyProof.Rows.All
import Wide.All
import OpenK.AllK
import Wide.FinOn
import HandS.ForMost
import HandS.Gcd
import Flt.RightSqrt
import KE.KMathG
import HandS.IsInst
import HandS.Wide
import HandS.WideBits
import HandS.StrMore
import HandS.FStr
import HandS.EndBits
import HandS.Codes
import HandS.Walk
import HandS.Strs
import PyProof.Rows.StrPadFill
import HandS.RaiseMore
import HandS.TupLe
import HandS.TupAny
import HandS.WrittenGet
import PySem.Challenge.RW_sheetworks_k08_whole_order
set_option Elab.async false
set_option linter.all false
set_option maxRecDepth 100000
set_option maxHeartbeats 4000000
namespace Mysheetworks_k08_whole_order
open PySem PySem.Spec PyProof.Rows L2
def topS (i : Nat) : Stmt := PySem.Challenge.pw_sheetworks_k08_whole_order.main.body.getD i (.Pass ⟨0, 0, 0, 0⟩)
abbrev scapital : Stmt := topS 1
abbrev Ncapital : List Str := ["text", "sign"]
abbrev Pcapital : List Str := ["text"]
theorem sccapital : FnScope Ncapital Pcapital (defScope scapital) := ⟨rfl, rfl, rfl, by decide +kernel, rfl, by decide +kernel, by decide +kernel⟩
abbrev scompared : Stmt := topS 5
abbrev Ncompared : List Str := ["a", "b", "first", "second"]
abbrev Pcompared : List Str := ["a", "b"]
theorem sccompared : FnScope Ncompared Pcompared (defScope scompared) := ⟨rfl, rfl, rfl, by decide +kernel, rfl, by decide +kernel, by decide +kernel⟩
abbrev staken_beside : Stmt := topS 6
abbrev Ntaken_beside : List Str := ["v", "other"]
abbrev Ptaken_beside : List Str := ["v", "other"]
theorem sctaken_beside : FnScope Ntaken_beside Ptaken_beside (defScope staken_beside) := ⟨rfl, rfl, rfl, by decide +kernel, rfl, by decide +kernel, by decide +kernel⟩
abbrev sorder_key : Stmt := topS 7
abbrev Norder_key : List Str := ["v", "kind"]
abbrev Porder_key : List Str := ["v"]
theorem scorder_key : FnScope Norder_key Porder_key (defScope sorder_key) := ⟨rfl, rfl, rfl, by decide +kernel, rfl, by decide +kernel, by decide +kernel⟩
abbrev s_law_cell : Stmt := topS 9
abbrev N_law_cell : List Str := ["script", "k"]
abbrev P_law_cell : List Str := ["script", "k"]
theorem sc_law_cell : FnScope N_law_cell P_law_cell (defScope s_law_cell) := ⟨rfl, rfl, rfl, by decide +kernel, rfl, by decide +kernel, by decide +kernel⟩
abbrev s_law_mix : Stmt := topS 10
abbrev N_law_mix : List Str := ["cell", "salt", "one"]
abbrev P_law_mix : List Str := ["cell", "salt"]
theorem sc_law_mix : FnScope N_law_mix P_law_mix (defScope s_law_mix) := ⟨rfl, rfl, rfl, by decide +kernel, rfl, by decide +kernel, by decide +kernel⟩
abbrev s_law_amount : Stmt := topS 11
abbrev N_law_amount : List Str := ["cell", "salt", "bound", "choice", "one", "edges", "wide"]
abbrev P_law_amount : List Str := ["cell", "salt"]
theorem sc_law_amount : FnScope N_law_amount P_law_amount (defScope s_law_amount) := ⟨rfl, rfl, rfl, by decide +kernel, rfl, by decide +kernel, by decide +kernel⟩
abbrev s_law_words : Stmt := topS 12
abbrev N_law_words : List Str := []
abbrev P_law_words : List Str := []
theorem sc_law_words : FnScope N_law_words P_law_words (defScope s_law_words) := ⟨rfl, rfl, rfl, by decide +kernel, rfl, by decide +kernel, by decide +kernel⟩
abbrev s_law_signs : Stmt := topS 13
abbrev N_law_signs : List Str := ["left", "most", "signs", "row", "k"]
abbrev P_law_signs : List Str := ["left", "most", "signs"]
theorem sc_law_signs : FnScope N_law_signs P_law_signs (defScope s_law_signs) := ⟨rfl, rfl, rfl, by decide +kernel, rfl, by decide +kernel, by decide +kernel⟩
abbrev s_law_alphabet : Stmt := topS 14
abbrev N_law_alphabet : List Str := ["signs"]
abbrev P_law_alphabet : List Str := []
theorem sc_law_alphabet : FnScope N_law_alphabet P_law_alphabet (defScope s_law_alphabet) := ⟨rfl, rfl, rfl, by decide +kernel, rfl, by decide +kernel, by decide +kernel⟩
abbrev s_law_scalar : Stmt := topS 15
abbrev N_law_scalar : List Str := ["cell", "salt", "kind", "left", "number", "text"]
abbrev P_law_scalar : List Str := ["cell", "salt"]
theorem sc_law_scalar : FnScope N_law_scalar P_law_scalar (defScope s_law_scalar) := ⟨rfl, rfl, rfl, by decide +kernel, rfl, by decide +kernel, by decide +kernel⟩
abbrev s_law_near_text : Stmt := topS 16
abbrev N_law_near_text : List Str := ["text", "mode", "number", "signs", "at", "sign"]
abbrev P_law_near_text : List Str := ["text", "mode", "number"]
theorem sc_law_near_text : FnScope N_law_near_text P_law_near_text (defScope s_law_near_text) := ⟨rfl, rfl, rfl, by decide +kernel, rfl, by decide +kernel, by decide +kernel⟩
abbrev s_law_near : Stmt := topS 17
abbrev N_law_near : List Str := ["v", "cell", "salt", "mode", "one"]
abbrev P_law_near : List Str := ["v", "cell", "salt"]
theorem sc_law_near : FnScope N_law_near P_law_near (defScope s_law_near) := ⟨rfl, rfl, rfl, by decide +kernel, rfl, by decide +kernel, by decide +kernel⟩
abbrev s_law_scalars : Stmt := topS 18
abbrev N_law_scalars : List Str := ["script", "first", "second", "third", "mode"]
abbrev P_law_scalars : List Str := ["script"]
theorem sc_law_scalars : FnScope N_law_scalars P_law_scalars (defScope s_law_scalars) := ⟨rfl, rfl, rfl, by decide +kernel, rfl, by decide +kernel, by decide +kernel⟩
abbrev s_law_step : Stmt := topS 19
abbrev N_law_step : List Str := ["a", "b"]
abbrev P_law_step : List Str := ["a", "b"]
theorem sc_law_step : FnScope N_law_step P_law_step (defScope s_law_step) := ⟨rfl, rfl, rfl, by decide +kernel, rfl, by decide +kernel, by decide +kernel⟩
abbrev s_law_rank : Stmt := topS 20
abbrev N_law_rank : List Str := ["v"]
abbrev P_law_rank : List Str := ["v"]
theorem sc_law_rank : FnScope N_law_rank P_law_rank (defScope s_law_rank) := ⟨rfl, rfl, rfl, by decide +kernel, rfl, by decide +kernel, by decide +kernel⟩
abbrev s_law_order : Stmt := topS 21
abbrev N_law_order : List Str := ["v", "w", "step"]
abbrev P_law_order : List Str := ["v", "w"]
theorem sc_law_order : FnScope N_law_order P_law_order (defScope s_law_order) := ⟨rfl, rfl, rfl, by decide +kernel, rfl, by decide +kernel, by decide +kernel⟩
abbrev s_law_beside : Stmt := topS 22
abbrev N_law_beside : List Str := ["v", "w"]
abbrev P_law_beside : List Str := ["v", "w"]
theorem sc_law_beside : FnScope N_law_beside P_law_beside (defScope s_law_beside) := ⟨rfl, rfl, rfl, by decide +kernel, rfl, by decide +kernel, by decide +kernel⟩
abbrev s_law_compared : Stmt := topS 23
abbrev N_law_compared : List Str := ["v", "w", "left", "right"]
abbrev P_law_compared : List Str := ["v", "w"]
theorem sc_law_compared : FnScope N_law_compared P_law_compared (defScope s_law_compared) := ⟨rfl, rfl, rfl, by decide +kernel, rfl, by decide +kernel, by decide +kernel⟩
abbrev s_law_is_step : Stmt := topS 24
abbrev N_law_is_step : List Str := ["actual", "due"]
abbrev P_law_is_step : List Str := ["actual", "due"]
theorem sc_law_is_step : FnScope N_law_is_step P_law_is_step (defScope s_law_is_step) := ⟨rfl, rfl, rfl, by decide +kernel, rfl, by decide +kernel, by decide +kernel⟩
abbrev s_law_is_key : Stmt := topS 25
abbrev N_law_is_key : List Str := ["key", "part"]
abbrev P_law_is_key : List Str := ["key"]
theorem sc_law_is_key : FnScope N_law_is_key P_law_is_key (defScope s_law_is_key) := ⟨rfl, rfl, rfl, by decide +kernel, rfl, by decide +kernel, by decide +kernel⟩
abbrev s_law_key_order : Stmt := topS 26
abbrev N_law_key_order : List Str := ["a", "b", "k", "step"]
abbrev P_law_key_order : List Str := ["a", "b"]
theorem sc_law_key_order : FnScope N_law_key_order P_law_key_order (defScope s_law_key_order) := ⟨rfl, rfl, rfl, by decide +kernel, rfl, by decide +kernel, by decide +kernel⟩
abbrev s_law_pair : Stmt := topS 27
abbrev N_law_pair : List Str := ["v", "w", "key", "other", "step", "due"]
abbrev P_law_pair : List Str := ["v", "w", "key", "other"]
theorem sc_law_pair : FnScope N_law_pair P_law_pair (defScope s_law_pair) := ⟨rfl, rfl, rfl, by decide +kernel, rfl, by decide +kernel, by decide +kernel⟩
abbrev s_law_rising : Stmt := topS 28
abbrev N_law_rising : List Str := ["key", "other"]
abbrev P_law_rising : List Str := ["key", "other"]
theorem sc_law_rising : FnScope N_law_rising P_law_rising (defScope s_law_rising) := ⟨rfl, rfl, rfl, by decide +kernel, rfl, by decide +kernel, by decide +kernel⟩
abbrev slaw : Stmt := topS 29
abbrev Nlaw : List Str := ["script", "values", "keys", "v", "k", "i", "j", "rising"]
abbrev Plaw : List Str := ["script"]
theorem sclaw : FnScope Nlaw Plaw (defScope slaw) := ⟨rfl, rfl, rfl, by decide +kernel, rfl, by decide +kernel, by decide +kernel⟩

/-! ### own rules -/
theorem pe_powc {X : Cx} {a b c : Int} {j k : Nat} {p q pos : Pos} (hb : 0 ≤ b ∧ b ≤ 1000000 ∧ a.natAbs < 2 ^ 64) (h : a ^ b.toNat = c) : PE X (.BinOp (.Constant (.int a) j p) .Pow (.Constant (.int b) k q) pos) (tC (.int c)) :=
  ⟨fun pins s σ H Q I hq => (pe_op op_pow pe_int pe_int).run pins s σ H Q I ⟨a, b, rfl, rfl, hb, by
    show Q (.int (a ^ b.toNat)) H
    rw [h]
    exact hq⟩⟩
/-- isinstance of a flat value: told by its kind -/
def isiV : V → String → Option Bool
  | .int _, "int" => some true | .bl _, "int" => some true | .str _, "int" => some false | .non, "int" => some false
  | .int _, "bool" => some false | .bl _, "bool" => some true | .str _, "bool" => some false | .non, "bool" => some false
  | .int _, "str" => some false | .bl _, "str" => some false | .str _, "str" => some true | .non, "str" => some false
  | .int _, "tuple" => some false | .bl _, "tuple" => some false | .str _, "tuple" => some false | .non, "tuple" => some false
  | _, _ => none
theorem call_isiV {X : Cx} : CallR X (.builtin "isinstance") (fun xs H Q => ∃ x n b, xs = [x, .ty n] ∧ isiV x n = some b ∧ Q (.bl b) H) := by
  intro pins s σ H xs us Q I r h
  obtain ⟨x, n, b, rfl, e, q⟩ := h
  refine call_isi pins s σ H _ us Q I r ?_
  unfold isiV at e
  split at e
  case h_17 => cases e
  all_goals (cases e)
  all_goals first
    | exact ⟨_, _, .type "int", _, _, rfl, .ty _, .base (.int _), kit_ty (by decide +kernel), q⟩
    | exact ⟨_, _, .type "bool", _, _, rfl, .ty _, .base (.bl _), kit_ty (by decide +kernel), q⟩
    | exact ⟨_, _, .type "str", _, _, rfl, .ty _, .base (.str _), kit_ty (by decide +kernel), q⟩
    | exact ⟨_, _, .type "NoneType", _, _, rfl, .ty _, .base .non, kit_ty (by decide +kernel), q⟩
/-- how a call by keywords alone binds -/
structure KB0 (K : PySem.W.Frag) (fd : FuncData) (ps ks : List Str) (g : List Value → List Value) (gV : List V → List V) : Prop where
  to : ∀ (s : Shared) (ws : List Value), ws.length = ks.length → BindsTo s fd ⟨[], ks.zip ws⟩ (ps.zip (g ws))
  rel : ∀ {zs : List V} {ws : List Value}, Vals zs ws → Vals (gV zs) (g ws)
def tCallK0 (n : Nat) (sp : Sp) (gV : List V → List V) (E : XK) (tk : TA) : TE := fun σ H Q => tk σ H fun zs H2 => zs.length = n ∧ sp (gV zs) H2 Q E
theorem pe_callK0 {X : Cx} {CX : CXT} {k : Nat} {f : Addr} {fd : FuncData} {ps ks : List Str} {sp : Sp} {E : XK} {x : Str} {p pos : Pos} {kws : List Keyword} {tk : TA} {g : List Value → List Value} {gV : List V → List V}
    (F : FnOk X.prog X.w X.K X.mg X.base CX k f fd ps sp) (hr : Room k X.A) (hg : Gl X x) (hm : X.mg x = some (.ref f)) (hk : PySem.W.keepIn X.K (.ref f) = true) (hb : KB0 X.K fd ps ks g gV) (hx : Passes CX X E)
    (hkw : PK X kws tk) (hall : (backToKw pos (keywordEach kws X.env)).all (·.1.isSome) = true := by rfl) (hks : (backToKw pos (keywordEach kws X.env)).filterMap (·.1) = ks := by rfl)
    (hdb : (x == ("__debug__" : Str)) = false := by decide)
    (hpl : ((backTo pos (starEach [] X.env)).any (·.1) || (backToKw pos (keywordEach kws X.env)).any (·.1.isNone)) = false := by rfl) :
    PE X (.Call (.Name x p) [] kws pos) (tCallK0 ks.length sp gV E tk) := by
  refine ⟨fun pins s σ H Q I h => ?_⟩
  refine wpAny_Call_Name_kw (ld_glob I hg hm ?_ hdb)
  refine PySem.W.callWith_KW0 (h₀ := X.base) I.ok.mod.kin hk hall (thn (hkw.run pos pins s σ H _ I h) fun ws s2 ⟨zs, H2, I2, rz, l2, q2⟩ => ⟨I2.kIn, ?_⟩) hpl
  rw [hks]
  have r2 := hb.rel rz
  refine wpAny_call (codeAny_mono (F.run X.A X.stack s2 H2 ⟨[], ks.zip ws⟩ (g ws) (gV zs) Q E hr I2.env0 (hb.to s2 ws (rz.length.symm.trans l2)) r2 q2) fun r s' hq => ?_)
  cases r with
  | error e => exact hx pins σ H2 s2 e s' I2 hq
  | ok fl =>
    cases fl with
    | ret u => exact I2.after hq
    | next => exact False.elim hq
    | brk => exact False.elim hq
    | cont => exact False.elim hq
theorem atI_mem {xs : List V} {i : Int} (h0 : 0 ≤ i) (h1 : i < (xs.length : Int)) : ∃ v, v ∈ xs ∧ atI xs i = some v := by
  obtain ⟨n, rfl⟩ := Int.eq_ofNat_of_zero_le h0
  have h2 : n < xs.length := by omega
  exact ⟨xs[n], List.getElem_mem h2, atI_nat (List.getElem?_eq_getElem h2)⟩
/-- rules with conditions that are linear -/
theorem opr_imp {X : Cx} {f : Value → Value → Sem Value} {C C' : Int → Int → Prop} {g : Int → Int → V} (h : OpR X f (rI C g)) (k : ∀ i j, C' i j → C i j) : OpR X f (rI C' g) := fun pins s σ H x y v u Q I rx ry hq => by
  obtain ⟨i, j, ex, ey, hc, q⟩ := hq
  exact h pins s σ H x y v u Q I rx ry ⟨i, j, ex, ey, k i j hc, q⟩
def CB (_ j : Int) : Prop := 0 < j ∧ j < 1267650600228229401496703205376
def CMB (i j : Int) : Prop := (-1000000000000000000000000000000000000000000000000000000000000 < i ∧ i < 1000000000000000000000000000000000000000000000000000000000000) ∧ (-1000000000000000000000000000000000000000000000000000000000000 < j ∧ j < 1000000000000000000000000000000000000000000000000000000000000)
theorem abs200 {i : Int} (h : -1000000000000000000000000000000000000000000000000000000000000 < i ∧ i < 1000000000000000000000000000000000000000000000000000000000000) : i.natAbs < 2 ^ 200 := by
  have e : (2 : Nat) ^ 200 = 1606938044258990275541962092341162602522202993782792835301376 := by decide
  rw [e]
  omega
theorem abs100 {i : Int} (h : 0 < i ∧ i < 1267650600228229401496703205376) : i.natAbs < 2 ^ 100 := by
  have e : (2 : Nat) ^ 100 = 1267650600228229401496703205376 := by decide
  rw [e]
  omega
theorem op_mulB {X : Cx} : OpR X (binaryOp .Mult) (rI CMB fun i j => .int (i * j)) := opr_imp op_mulW fun i j h => wide_mul (abs200 h.1) (abs200 h.2) (by decide) (by decide) (by decide)
theorem op_fdivB {X : Cx} : OpR X (binaryOp .FloorDiv) (rI CB fun i j => .int (i / j)) := opr_imp op_fdivW fun i j h => wide_div h.1 (abs100 h) (by decide) (by decide)
theorem ediv_up {i j : Int} (h : 0 < j) (h0 : 0 ≤ i) : 0 ≤ i / j ∧ i / j ≤ i := ⟨Int.ediv_nonneg h0 (Int.le_of_lt h), Int.ediv_le_self j h0⟩
theorem ediv_dn {i j : Int} (h : 0 < j) (h0 : i < 0) : i ≤ i / j ∧ i / j < 0 := by
  refine ⟨?_, Int.ediv_neg_of_neg_of_pos h0 h⟩
  rw [Int.le_ediv_iff_mul_le h]
  have a : i * (j - 1) ≤ 0 := Int.mul_nonpos_of_nonpos_of_nonneg (Int.le_of_lt h0) (by omega)
  rw [Int.mul_sub, Int.mul_one] at a
  omega
/-- the quotient as a letter, with its bounds -/
theorem op_fdivL {X : Cx} : OpR X (binaryOp .FloorDiv) (fun x y H Q => ∃ i j, x = .int i ∧ y = .int j ∧ CB i j ∧ ∀ d, d = i / j → (0 ≤ i → 0 ≤ d ∧ d ≤ i) → (i < 0 → i ≤ d ∧ d < 0) → Q (.int d) H) := fun pins s σ H x y v u Q I rx ry hq => by
  obtain ⟨i, j, ex, ey, hc, q⟩ := hq
  exact op_fdivB pins s σ H x y v u Q I rx ry ⟨i, j, ex, ey, hc, q _ rfl (ediv_up hc.1) (ediv_dn hc.1)⟩
theorem call_divmodB {X : Cx} : CallR X (.builtin "divmod") (fun xs H Q => ∃ i j, xs = [.int i, .int j] ∧ CB i j ∧ ∀ p, H p = none → Q (.ref p) (upd H p (.tup [.int (i / j), .int (i % j)]))) := fun pins s σ H xs us Q I r hq => by
  obtain ⟨i, j, ex, hc, q⟩ := hq
  have w := wide_div (i := i) hc.1 (abs100 hc) (by decide) (by decide)
  exact call_divmodW pins s σ H xs us Q I r ⟨i, j, ex, ⟨hc.1, PyProof.noPylong_of_log2 w.2⟩, q⟩
theorem iteEqI {i j : Int} {A B : Prop} (h1 : i = j → A) (h2 : ¬ i = j → B) : if decide (V.int i = V.int j) = true then A else B := by
  by_cases h : i = j
  · rw [if_pos (decide_eq_true (congrArg V.int h))]
    exact h1 h
  · rw [if_neg (fun z => h (V.int.inj (of_decide_eq_true z)))]
    exact h2 h
theorem iteNeI {i j : Int} {A B : Prop} (h1 : ¬ i = j → A) (h2 : i = j → B) : if (!decide (V.int i = V.int j)) = true then A else B := by
  by_cases h : i = j
  · rw [decide_eq_true (congrArg V.int h)]
    exact iteF (h2 h)
  · rw [decide_eq_false (fun z => h (V.int.inj z))]
    exact iteT (h1 h)
theorem iteSS {x : Str} {A B : Prop} (h : A) : if decide (V.str x = V.str x) = true then A else B := by
  rw [if_pos (decide_eq_true rfl)]
  exact h
theorem iteIS {i : Int} {x : Str} {A B : Prop} (h : B) : if decide (V.int i = V.str x) = true then A else B := by
  rw [if_neg (fun z => V.noConfusion (of_decide_eq_true z))]
  exact h
theorem iteD {c A B : Prop} [Decidable c] (h1 : c → A) (h2 : ¬ c → B) : if decide c = true then A else B := by
  by_cases h : c
  · rw [if_pos (decide_eq_true h)]
    exact h1 h
  · rw [if_neg (fun z => h (of_decide_eq_true z))]
    exact h2 h
theorem same_upd {H : Hp} {p : Addr} {o : HO} (h : H p = none) : Same H (upd H p o) := fun b x e => by
  rw [upd_ne (ne_of_none e h)]
  exact e
theorem ix_listK {X : Cx} {K : PySem.W.Frag} (e : X.K = K) : IxR X (rIxL K) := e ▸ ix_list
theorem ix_tupK {X : Cx} {K : PySem.W.Frag} (e : X.K = K) : IxR X (rIxT K) := e ▸ ix_tup
theorem ix_seqK {X : Cx} {K : PySem.W.Frag} (e : X.K = K) : IxR X (rIx K) := e ▸ ix_seq
theorem call_len_seqK {X : Cx} {K : PySem.W.Frag} (e : X.K = K) : CallR X (.builtin "len") (fun xs H Q => ∃ p ys, xs = [.ref p] ∧ (SqL K H p ys ∨ SqT K H p ys) ∧ Q (.int ys.length) H) := e ▸ call_len_seq
/-- an item of a list, whichever -/
theorem atI_go {K : PySem.W.Frag} {p : Addr} {xs : List V} {i : Int} {H : Hp} {Q : VK} (h : SqL K H p xs) (h0 : 0 ≤ i) (h1 : i < (xs.length : Int)) (q : ∀ v, v ∈ xs → Q v H) : rIxL K (.ref p) (.int i) H Q := by
  obtain ⟨v, hv, e⟩ := atI_mem h0 h1
  exact ⟨_, _, _, v, rfl, rfl, h, e, q v hv⟩

/-- the product as a letter, with its bounds -/
theorem op_mulL {X : Cx} : OpR X (binaryOp .Mult) (fun x y H Q => ∃ i j, x = .int i ∧ y = .int j ∧ CMul i j ∧ ∀ d, d = i * j → (0 ≤ i → 0 ≤ j → 0 ≤ d) → (0 ≤ i → i ≤ 100000000000000 → 0 ≤ j → j ≤ 100000000000000 → d ≤ 10000000000000000000000000000) → Q (.int d) H) := fun pins s σ H x y v u Q I rx ry hq => by
  obtain ⟨i, j, ex, ey, hc, q⟩ := hq
  exact op_mul pins s σ H x y v u Q I rx ry ⟨i, j, ex, ey, hc, q _ rfl (fun a b => Int.mul_nonneg a b) (fun a b c d => Int.le_trans (Int.mul_le_mul b d c (by decide)) (by decide))⟩

/-! ### the mathematics -/
theorem merge2 {G : Prop} {C : Str → Bool → Prop} (R : Str → V → Prop) (tail : ∀ U vb b, vb = V.bl b → C U b → R U vb) (rest : (∀ U vb b, vb = V.bl b → C U b → R U vb) → G) : G := rest tail

/-- an amount, or NUM -/
def lim (n : Int) : V := if -1000000000000000000000 < n ∧ n < 1000000000000000000000 then .int n else .str "NUM"
theorem lim_in {n : Int} (h : -1000000000000000000000 < n ∧ n < 1000000000000000000000) : lim n = .int n := if_pos h
theorem lim_out {n : Int} (h : ¬ (-1000000000000000000000 < n ∧ n < 1000000000000000000000)) : lim n = .str "NUM" := if_neg h
def Flat (x : V) : Prop := (∃ i, x = .int i) ∨ ∃ s, x = .str s
theorem lim_flat (n : Int) : Flat (lim n) := by
  unfold lim
  split
  · exact Or.inl ⟨_, rfl⟩
  · exact Or.inr ⟨_, rfl⟩

/-- the integer nearest to a / b, of two equally near ones the even one -/
def near (a b : Int) : Int := if 2 * (a % b) > b then a / b + 1 else if 2 * (a % b) = b then a / b + a / b % 2 else a / b

theorem atI_some {α : Type} {xs : List α} {i : Int} (h0 : 0 ≤ i) (h1 : i < (xs.length : Int)) : ∃ v, v ∈ xs ∧ atI xs i = some v := by
  obtain ⟨n, rfl⟩ := Int.eq_ofNat_of_zero_le h0
  have h2 : n < xs.length := by omega
  exact ⟨xs[n], List.getElem_mem h2, atI_nat (List.getElem?_eq_getElem h2)⟩
theorem atI_at {α : Type} {xs : List α} {i : Int} {n : Nat} (e : i = (n : Int)) {v : α} (h : xs[n]? = some v) : atI xs i = some v := by
  rw [e]
  exact atI_nat h
theorem sqT_ty {K : PySem.W.Frag} {H : Hp} {p : Addr} {xs : List V} (h : SqT K H p xs) : TyX K H (.ref p) (.type "tuple") := by
  rcases h with (h | ⟨o, h⟩) | ⟨o, its, n, e, c, _⟩
  · exact .base (.tup h)
  · exact .fTuple h
  · exact .kTuple e c
theorem sqL_ty {K : PySem.W.Frag} {H : Hp} {p : Addr} {xs : List V} (h : SqL K H p xs) : TyX K H (.ref p) (.type "list") := by
  rcases h with (h | ⟨o, h⟩) | ⟨o, its, n, e, c, _⟩
  · exact .base (.lst h)
  · exact .base (.frz h)
  · exact .kList e c
/-- isinstance: flat values, tuples, lists -/
theorem call_isiR {X : Cx} : CallR X (.builtin "isinstance") (fun xs H Q => (∃ x n b, xs = [x, .ty n] ∧ isiV x n = some b ∧ Q (.bl b) H) ∨ (∃ p ys n b, xs = [.ref p, .ty n] ∧ SqT X.K H p ys ∧ kitB "tuple" n = some b ∧ Q (.bl b) H) ∨ ∃ p ys n b, xs = [.ref p, .ty n] ∧ SqL X.K H p ys ∧ kitB "list" n = some b ∧ Q (.bl b) H) := by
  intro pins s σ H xs us Q I r h
  rcases h with h | ⟨p, ys, n, b, rfl, hp, e, q⟩ | ⟨p, ys, n, b, rfl, hp, e, q⟩
  · exact call_isiV pins s σ H xs us Q I r h
  · exact call_isi pins s σ H _ us Q I r ⟨_, _, .type "tuple", _, _, rfl, .ty _, sqT_ty hp, kit_ty e, q⟩
  · exact call_isi pins s σ H _ us Q I r ⟨_, _, .type "list", _, _, rfl, .ty _, sqL_ty hp, kit_ty e, q⟩
theorem iteSN {x y : Str} {A B : Prop} (h : x ≠ y) (b : B) : if decide (V.str x = V.str y) = true then A else B := by
  rw [if_neg (fun z => h (V.str.inj (of_decide_eq_true z)))]
  exact b
theorem iteSNn {x y : Str} {A B : Prop} (h : x ≠ y) (a : A) : if (!decide (V.str x = V.str y)) = true then A else B := by
  rw [decide_eq_false (fun z => h (V.str.inj z))]
  exact iteT a
theorem iteSSn {x : Str} {A B : Prop} (b : B) : if (!decide (V.str x = V.str x)) = true then A else B := by
  rw [decide_eq_true rfl]
  exact iteF b
/-- a flat value -/
def Flat3 (x : V) : Prop := (∃ i, x = .int i) ∨ (∃ s, x = .str s) ∨ ∃ b, x = .bl b
/-- the tuples stand as they were -/
def TK (K : PySem.W.Frag) (H H' : Hp) : Prop := ∀ p xs, SqT K H p xs → SqT K H' p xs
theorem TK.refl {K : PySem.W.Frag} {H : Hp} : TK K H H := fun _ _ h => h
theorem TK.trans {K : PySem.W.Frag} {H H1 H2 : Hp} (a : TK K H H1) (b : TK K H1 H2) : TK K H H2 := fun p xs h => b p xs (a p xs h)
theorem same_tk {K : PySem.W.Frag} {H H' : Hp} (e : Same H H') : TK K H H' := by
  intro p xs h
  rcases h with (h | ⟨o, h⟩) | h
  · exact .inl (.inl (e _ _ h))
  · exact .inl (.inr ⟨o, e _ _ h⟩)
  · exact .inr h
theorem but_tk {K : PySem.W.Frag} {H H' : Hp} {b : Addr} {ys : List V} (h : H b = some (.lst ys)) (e : ∀ a o, a ≠ b → H a = some o → H' a = some o) : TK K H H' := by
  intro p xs q
  rcases q with (q | ⟨o, q⟩) | q
  · exact .inl (.inl (e _ _ (ne_of q h (fun z => nomatch z)) q))
  · exact .inl (.inr ⟨o, e _ _ (ne_of q h (fun z => nomatch z)) q⟩)
  · exact .inr q
theorem upd_but {H : Hp} {b : Addr} {u : HO} : ∀ a o, a ≠ b → H a = some o → upd H b u a = some o := fun a o n e => by
  rw [upd_ne n]
  exact e
theorem lst_tk {K : PySem.W.Frag} {H : Hp} {b : Addr} {ys zs : List V} (h : H b = some (.lst ys)) : TK K H (upd H b (.lst zs)) := but_tk h upd_but
theorem same_put {H H' : Hp} {D : Addr} {o : HO} (e : Same H H') (h : H D = none) : Same H (upd H' D o) := fun a x q => by
  rw [upd_ne (ne_of_none q h)]
  exact e _ _ q
/-- likeness, so deep -/
def Al (K : PySem.W.Frag) : Nat → Hp → V → V → Prop
  | 0, _, _, _ => False
  | n + 1, H, x, y => (Flat3 x ∧ x = y) ∨ ∃ (p q : Addr) (xs ys : List V), x = .ref p ∧ y = .ref q ∧ SqT K H p xs ∧ SqT K H q ys ∧ (xs.length = ys.length ∧ ys.length ≤ 5000) ∧ ∀ (k : Nat) (a b : V), xs[k]? = some a → ys[k]? = some b → Al K n H a b
theorem Al.flat {K : PySem.W.Frag} {n : Nat} {H : Hp} {x : V} (h : Flat3 x) : Al K (n + 1) H x x := Or.inl ⟨h, rfl⟩
theorem Al.tup {K : PySem.W.Frag} {n : Nat} {H : Hp} {p q : Addr} {xs : List V} (hl : xs.length ≤ 5000) (hp : SqT K H p xs) (hq : SqT K H q xs) (h : ∀ x ∈ xs, Al K n H x x) : Al K (n + 1) H (.ref p) (.ref q) :=
  Or.inr ⟨p, q, xs, xs, rfl, rfl, hp, hq, ⟨rfl, hl⟩, fun k a b e1 e2 => by
    obtain rfl := Option.some.inj (e1.symm.trans e2)
    exact h _ (List.mem_of_getElem? e1)⟩
/-- a scalar -/
def Sca (K : PySem.W.Frag) (H : Hp) (x : V) : Prop := ∃ p k rest, x = .ref p ∧ SqT K H p (.str k :: rest) ∧ k ≠ ("array" : Str) ∧ rest.length ≤ 20 ∧ ∀ y ∈ rest, Flat3 y
theorem Sca.keep {K : PySem.W.Frag} {H H' : Hp} {x : V} (e : TK K H H') (h : Sca K H x) : Sca K H' x := by
  obtain ⟨p, k, rest, rfl, a, b, c⟩ := h
  exact ⟨p, k, rest, rfl, e _ _ a, b, c⟩
theorem Sca.al {K : PySem.W.Frag} {H : Hp} {x : V} (n : Nat) (h : Sca K H x) : Al K (n + 2) H x x := by
  obtain ⟨p, k, rest, rfl, a, b, l, c⟩ := h
  refine Al.tup (by rw [List.length_cons]; omega) a a fun y hy => Al.flat ?_
  rcases List.mem_cons.mp hy with rfl | hy
  · exact Or.inr (Or.inl ⟨_, rfl⟩)
  · exact c y hy
theorem sca1 {K : PySem.W.Frag} {H : Hp} {p : Addr} {k : Str} (h : k ≠ ("array" : Str)) : Sca K (upd H p (.tup [.str k])) (.ref p) := ⟨p, k, [], rfl, SqT.of upd_same, h, by decide, fun y hy => by cases hy⟩
theorem sca2 {K : PySem.W.Frag} {H : Hp} {p : Addr} {k : Str} {x : V} (h : k ≠ ("array" : Str)) (hx : Flat3 x) : Sca K (upd H p (.tup [.str k, x])) (.ref p) := ⟨p, k, [x], rfl, SqT.of upd_same, h, (show 1 ≤ 20 by decide), fun y hy => by
  rcases List.mem_cons.mp hy with rfl | hy
  · exact hx
  · cases hy⟩
/-- all the signs -/
def SG : Str := (" !\"#$&'()*+,-./0123456789:;<=>?@ABCDEFGHIJKLMNOPQRSTUVWXYZ[\\]^_`" : Str) ++ ("abcdefghijklmnopqrstuvwxyz{|}~" : Str)
theorem sg_len : SG.cps.toList.length = 94 := by decide +kernel
theorem sg_line : SG.length ≤ sizeLine := by decide +kernel
theorem sg_at {n : Int} (h0 : 0 ≤ n) (h1 : n < 94) : ∃ c, atI SG.cps.toList n = some c := by
  obtain ⟨c, _, e⟩ := atI_some (xs := SG.cps.toList) h0 (by rw [sg_len]; exact h1)
  exact ⟨c, e⟩
theorem ones_sum : ∀ (zs : List Str), (∀ z ∈ zs, z.length = 1) → (zs.map (·.length)).sum = zs.length
  | [], _ => rfl
  | z :: zs, h => by
    rw [List.map_cons, List.sum_cons, ones_sum zs (fun y hy => h y (List.mem_cons_of_mem _ hy)), h z (List.mem_cons_self ..), List.length_cons]
    omega
theorem ones_join {zs : List Str} (h : ∀ z ∈ zs, z.length = 1) (hl : zs.length ≤ 1000) : (zs.map (·.length)).sum + zs.length * ("" : Str).length ≤ 16777216 := by
  rw [ones_sum zs h, show ("" : Str).length = 0 from by decide +kernel]
  omega
/-- the box of draws -/
def BoxAt (b : Addr) (H : Hp) : Prop := ∃ c d z : Int, H b = some (.lst [.int c, .int d, .int z])
def Bx (b : Addr) (H H' : Hp) : Prop := (∀ a o, a ≠ b → H a = some o → H' a = some o) ∧ BoxAt b H'
theorem Bx.refl {b : Addr} {H : Hp} (h : BoxAt b H) : Bx b H H := ⟨fun _ _ _ e => e, h⟩
theorem Bx.trans {b : Addr} {H H1 H2 : Hp} (x : Bx b H H1) (y : Bx b H1 H2) : Bx b H H2 := ⟨fun a o n e => y.1 a o n (x.1 a o n e), y.2⟩
theorem Bx.bat {b : Addr} {H H1 : Hp} (x : Bx b H H1) : BoxAt b H1 := x.2
theorem BoxAt.ne {b p : Addr} {H : Hp} (x : BoxAt b H) (h : H p = none) : b ≠ p := by
  obtain ⟨c, d, z, e⟩ := x
  exact ne_of_none e h
theorem BoxAt.new {b p : Addr} {H : Hp} {o : HO} (x : BoxAt b H) (h : H p = none) : BoxAt b (upd H p o) := by
  have n := x.ne h
  obtain ⟨c, d, z, e⟩ := x
  exact ⟨c, d, z, by rw [upd_ne n]; exact e⟩
theorem Bx.same {b : Addr} {H H1 H2 : Hp} (x : Bx b H H1) (y : Same H1 H2) : Bx b H H2 := by
  obtain ⟨x1, c, d, z, e⟩ := x
  exact ⟨fun a o n e => y _ _ (x1 a o n e), c, d, z, y _ _ e⟩
theorem Bx.new {b p : Addr} {H H1 : Hp} {o : HO} (x : Bx b H H1) (h : H1 p = none) : Bx b H (upd H1 p o) := x.same (same_upd h)
theorem Bx.put {b : Addr} {H H1 : Hp} {c d z : Int} (x : Bx b H H1) : Bx b H (upd H1 b (.lst [.int c, .int d, .int z])) := ⟨fun a o n e => by
  rw [upd_ne n]
  exact x.1 a o n e, c, d, z, upd_same⟩
theorem Bx.tk {K : PySem.W.Frag} {b : Addr} {H H1 : Hp} (x : Bx b H H1) (h : BoxAt b H) : TK K H H1 := by
  obtain ⟨c, d, z, e⟩ := h
  exact but_tk e x.1
/-- a new list beside the box, longer by one -/
theorem Bx.more {b D : Addr} {H0 H : Hp} {o : HO} (x : Bx b H0 H) (hD : H0 D = none) (n : b ≠ D) : Bx b H0 (upd H D o) := by
  obtain ⟨x1, c, d, z, e⟩ := x
  refine ⟨fun a o m q => ?_, c, d, z, by rw [upd_ne n]; exact e⟩
  rw [upd_ne (ne_of_none q hD)]
  exact x1 a o m q
theorem Bx.back {b D : Addr} {H0 H : Hp} (x : Bx b H0 H) (h : BoxAt b H0) (hD : H D = none) : H0 D = none ∧ b ≠ D := by
  have n := x.2.ne hD
  refine ⟨?_, n⟩
  cases q : H0 D with
  | none => rfl
  | some o =>
    rw [x.1 D o (Ne.symm n) q] at hD
    cases hD

open TL SX NumText
/-- z * n -/
def repS (z : Str) (n : Nat) : Str := S (List.replicate n (tl z)).flatten
theorem foldl_cat (a : Array Nat) : ∀ (n : Nat) (b : Array Nat), ((List.replicate n a).foldl (· ++ ·) b).toList = b.toList ++ (List.replicate n a.toList).flatten
  | 0, b => by simp
  | n + 1, b => by
    rw [List.replicate_succ, List.foldl_cons, foldl_cat a n, List.replicate_succ, List.flatten_cons, Array.toList_append, List.append_assoc]
theorem rep_len (l : List Nat) : ∀ n : Nat, (List.replicate n l).flatten.length = l.length * n
  | 0 => rfl
  | n + 1 => by
    rw [List.replicate_succ, List.flatten_cons, List.length_append, rep_len l n, Nat.mul_succ, Nat.add_comm]
theorem repS_len (z : Str) (n : Nat) : (repS z n).length = z.length * n := by
  rw [len_tl, len_tl]
  exact rep_len (tl z) n
theorem op_repS {X : Cx} : OpR X (binaryOp .Mult) (fun x y H Q => ∃ (z : Str) (k : Int), x = .str z ∧ y = .int k ∧ ((-1000000 ≤ k ∧ k ≤ 1000000) ∧ z.length ≤ 16) ∧ Q (.str (repS z k.toNat)) H) := by
  intro pins s σ H x y v u Q I rx ry h
  obtain ⟨z, k, rfl, rfl, ⟨⟨h1, h2⟩, h3⟩, q⟩ := h
  obtain ⟨t, rfl⟩ := rx
  obtain ⟨t', rfl⟩ := ry
  have h4 : z.length * k.toNat ≤ 16 * 1000000 := Nat.mul_le_mul h3 (by omega)
  refine PySem.P.mul_str ?_ (fun a _ => ?_) (fun a _ => ?_) ?_
  · rw [decide_eq_false (by omega), decide_eq_false (by omega)]
    rfl
  · have b : (z.length : Int) ≤ (2 ^ 63 - 1) / k := by
      rw [Int.le_ediv_iff_mul_le (by omega)]
      have c : (z.length : Int) * k ≤ 16 * 1000000 := Int.mul_le_mul (by omega) h2 (by omega) (by decide)
      omega
    omega
  · show decide (_ > sizeLine) = false
    rw [sizeLine_eq]
    exact decide_eq_false (by omega)
  · by_cases a : k < 1
    · rw [if_pos a]
      have e : repS z k.toNat = Str.empty := by
        rw [show k.toNat = 0 by omega]
        rfl
      rw [e] at q
      exact ⟨by decide, .str _, H, I.tok _, ⟨_, rfl⟩, q⟩
    · rw [if_neg a]
      by_cases b : (k == 1 || z.length == 0) = true
      · rw [if_pos b]
        have e : repS z k.toNat = z := by
          refine ext_tl ?_
          show (List.replicate k.toNat (tl z)).flatten = tl z
          rcases Bool.or_eq_true_iff.mp b with c | c
          · rw [show k.toNat = 1 by have := eq_of_beq c; omega]
            simp
          · have c2 : tl z = [] := List.eq_nil_of_length_eq_zero (by rw [← len_tl]; exact eq_of_beq c)
            rw [c2]
            exact List.eq_nil_of_length_eq_zero (by rw [rep_len]; exact Nat.zero_mul _)
        rw [e] at q
        exact ⟨.str _, H, I, ⟨_, rfl⟩, q⟩
      · rw [if_neg b]
        have e : (⟨(List.replicate k.toNat z.cps).foldl (· ++ ·) #[]⟩ : Str) = repS z k.toNat := ext_tl (by
          show ((List.replicate k.toNat z.cps).foldl (· ++ ·) #[]).toList = (List.replicate k.toNat (tl z)).flatten
          rw [foldl_cat]
          rfl)
        rw [e]
        refine ⟨?_, .str _, H, I.tok _, ⟨_, rfl⟩, q⟩
        rw [repS_len, sizeLine_eq]
        omega
theorem one_of {z : Str} {c : Nat} (h : tl z = [c]) : z = ⟨#[c]⟩ := ext_tl h
theorem mt_ljustF {X : Cx} : MtR X "str.ljust" (fun x xs H Q => ∃ (a f : Str) (i : Int) (c : Nat), x = .str a ∧ xs = [.int i, .str f] ∧ tl f = [c] ∧ PadOk i = true ∧ Q (.str (Txt.ljustF a i c)) H) := by
  intro pins s σ H x xs v us Q I rx rs h
  obtain ⟨a, f, i, c, rfl, rfl, hf, hc, h⟩ := h
  obtain rfl := one_of hf
  obtain ⟨t, rfl⟩ := rx
  cases rs with
  | cons r1 rs =>
    cases rs with
    | cons r2 rs =>
      cases rs
      obtain ⟨u, rfl⟩ := r1
      obtain ⟨z, rfl⟩ := r2
      exact ljust_fill hc rfl fun t' k => ⟨.str _, H, I.tok k, ⟨_, rfl⟩, h⟩
def isD (c : Nat) : Bool := decide (48 ≤ c) && decide (c ≤ 57)
theorem digit_ascii : ∀ c : Nat, c < 128 → Unicode.isDigit c = isD c := by decide +kernel
/-- as many figures, no other sign -/
def figs (l : List Nat) (most : Int) : Bool := l.all isD && decide (1 ≤ l.length) && decide ((l.length : Int) ≤ most)
theorem isD_iff {c : Nat} : isD c = true ↔ 48 ≤ c ∧ c ≤ 57 := by
  unfold isD
  rw [Bool.and_eq_true, decide_eq_true_eq, decide_eq_true_eq]
theorem all_digits {l : List Nat} (h : l.all isD = true) : AllDigits l := fun c hc => isD_iff.mp (List.all_eq_true.mp h c hc)
theorem digits_all {l : List Nat} (h : AllDigits l) : l.all isD = true := List.all_eq_true.mpr fun c hc => isD_iff.mpr (h c hc)
theorem figs_code (z : Str) (most : Int) : (Txt.isascii z && (Txt.isdigit z && decide ((z.length : Int) ≤ most))) = figs (tl z) most := by
  unfold Txt.isascii Txt.isdigit figs
  rw [← Array.all_toList, ← Array.all_toList, ← len_tl]
  have e : ((tl z).all (· < 128) && (tl z).all Unicode.isDigit) = (tl z).all isD := by
    cases h : (tl z).all (· < 128) with
    | true =>
      rw [Bool.true_and]
      refine Bool.eq_iff_iff.mpr ⟨fun k => List.all_eq_true.mpr fun c hc => ?_, fun k => List.all_eq_true.mpr fun c hc => ?_⟩
      · rw [← digit_ascii c (of_decide_eq_true (List.all_eq_true.mp h c hc))]
        exact List.all_eq_true.mp k c hc
      · rw [digit_ascii c (of_decide_eq_true (List.all_eq_true.mp h c hc))]
        exact List.all_eq_true.mp k c hc
    | false =>
      rw [Bool.false_and]
      refine (Bool.eq_false_iff.mpr fun k => ?_).symm
      refine (Bool.eq_false_iff.mp h) (List.all_eq_true.mpr fun c hc => decide_eq_true ?_)
      have := isD_iff.mp (List.all_eq_true.mp k c hc)
      omega
  rw [← e]
  have e2 : decide (z.length > 0) = decide (1 ≤ z.length) := rfl
  rw [e2]
  cases (tl z).all (· < 128) <;> cases (tl z).all Unicode.isDigit <;> cases decide (1 ≤ z.length) <;> cases decide ((z.length : Int) ≤ most) <;> rfl

theorem str_empty : Str.empty = S [] := rfl
theorem e_none : (Str.ofString "") = S [] := by decide +kernel
theorem e_zero : (Str.ofString "0") = S [48] := by decide +kernel
theorem e_minus : (Str.ofString "-") = S [45] := by decide +kernel
theorem e_plus : (Str.ofString "+") = S [43] := by decide +kernel
theorem e_dot : (Str.ofString ".") = S [46] := by decide +kernel
theorem e_blank : (Str.ofString " ") = S [32] := by decide +kernel
theorem starts_S (l : List Nat) (c : Nat) : Txt.startswith (S l) (S [c]) = decide (l.head? = some c) := by
  unfold Txt.startswith Builtin.Str.subAt
  cases l with
  | nil => rfl
  | cons a l =>
    have h1 : (S (a :: l)).length = l.length + 1 := S_len (a :: l)
    have h2 : (S [c]).length = 1 := S_len [c]
    rw [h1, h2, decide_eq_true (show 0 + 1 ≤ l.length + 1 by omega), Bool.true_and]
    have e : (S (a :: l)).cps.extract 0 (0 + 1) = #[a] := Array.toList_inj.mp (by rw [Array.toList_extract]; rfl)
    rw [e]
    by_cases k : a = c
    · rw [k]
      simp
    · have k2 : (#[a] == (S [c]).cps) = false := by
        refine beq_eq_false_iff_ne.mpr fun z => k ?_
        have z2 := congrArg Array.toList z
        exact (List.cons.inj z2).1
      rw [k2]
      exact (decide_eq_false (fun z => k (Option.some.inj z))).symm
theorem cut_one (l : List Nat) : cutS (S l) (some 1) none = S (l.drop 1) := by
  have h1 : (S l).length = l.length := S_len l
  unfold cutS
  rw [h1, show HT.sIx l.length 0 (some 1) = min 1 l.length from HT.sIx_nat l.length 0 1, HT.sIx_none]
  refine congrArg S ?_
  show (l.drop (min 1 l.length)).take (l.length - min 1 l.length) = l.drop 1
  cases l with
  | nil => rfl
  | cons a l =>
    rw [List.length_cons, Nat.min_eq_left (by omega), List.drop_one, List.tail_cons]
    exact List.take_of_length_le (by omega)
theorem cut_head (l : List Nat) : cutS (S l) none (some 1) = S (l.take 1) := by
  have h1 : (S l).length = l.length := S_len l
  unfold cutS
  rw [h1, show HT.sIx l.length l.length (some 1) = min 1 l.length from HT.sIx_nat l.length l.length 1, HT.sIx_none]
  refine congrArg S ?_
  show (l.drop 0).take (min 1 l.length - 0) = l.take 1
  cases l with
  | nil => rfl
  | cons a l => rw [List.length_cons, Nat.min_eq_left (by omega)]; rfl
theorem head_starts (u : Str) (c : Nat) : decide (V.str (cutS u none (some 1)) = V.str (S [c])) = Txt.startswith u (S [c]) := by
  rw [← S_tl u]
  generalize u.cps.toList = l
  rw [cut_head, starts_S]
  refine decide_eq_decide.mpr ⟨fun h => ?_, fun h => ?_⟩
  · have k := S_inj (V.str.inj h)
    cases l with
    | nil => cases k
    | cons a l => rw [(List.cons.inj k).1]; rfl
  · cases l with
    | nil => cases h
    | cons a l => rw [← Option.some.inj h]; rfl
theorem tw_none {p : Nat → Bool} {l : List Nat} (h : ∀ c ∈ l, p c = false) : l.takeWhile p = [] := by
  cases l with
  | nil => rfl
  | cons a l => rw [List.takeWhile_cons, h a (List.mem_cons_self ..)]; rfl
theorem strip_free {l : List Nat} {c : Nat} (h : c ∉ l) : Txt.stripChars (S l) (S [c]) = S l := by
  have hp : ∀ d ∈ l, (S [c]).cps.contains d = false := fun d hd => by
    cases k : (S [c]).cps.contains d with
    | false => rfl
    | true =>
      have e : d = c := by simpa [S] using k
      rw [e] at hd
      exact absurd hd h
  unfold Txt.stripChars
  rw [stripBy_eq]
  have lo : stripLo (S [c]).cps.contains true (S l) = 0 := by
    show (l.takeWhile _).length = 0
    rw [tw_none hp]
    rfl
  have hi : stripHi (S [c]).cps.contains true (S l) 0 = l.length := by
    show (S l).length - ((l.drop 0).reverse.takeWhile _).length = l.length
    rw [List.drop_zero, tw_none (fun d hd => hp d (List.mem_reverse.mp hd)), S_len]
    rfl
  rw [lo, hi]
  refine ext_tl ?_
  rw [tl_strSub]
  exact List.take_of_length_le (Nat.le_refl _)
/-- without noughts at the end -/
def zt (l : List Nat) : List Nat := l.take (l.length - (l.reverse.takeWhile (· == 48)).length)
theorem rstrip_S (l : List Nat) : Txt.rstripChars (S l) (S [48]) = S (zt l) := by
  unfold Txt.rstripChars
  rw [stripBy_eq]
  have hp : ((S [48]).cps.contains : Nat → Bool) = (· == 48) := by
    funext d
    rw [Bool.eq_iff_iff]
    simp [S]
  rw [hp]
  have lo : stripLo (· == 48) false (S l) = 0 := rfl
  have hi : stripHi (· == 48) true (S l) 0 = l.length - (l.reverse.takeWhile (· == 48)).length := by
    show (S l).length - ((l.drop 0).reverse.takeWhile _).length = _
    rw [S_len]
    rfl
  rw [lo, hi]
  refine ext_tl ?_
  rw [tl_strSub]
  rfl
theorem tw_all {p : Nat → Bool} : ∀ l : List Nat, ∀ c ∈ l.takeWhile p, p c = true
  | [], c, h => by cases h
  | a :: l, c, h => by
    rw [List.takeWhile_cons] at h
    cases e : p a with
    | true =>
      rw [e] at h
      rcases List.mem_cons.mp h with rfl | h
      · exact e
      · exact tw_all l c h
    | false => rw [e] at h; cases h
theorem zt_back (l : List Nat) : l = zt l ++ List.replicate (l.length - (zt l).length) 48 := by
  have h1 : (l.reverse.takeWhile (· == 48)).length ≤ l.length := by
    have a := (List.takeWhile_sublist (l := l.reverse) (· == 48)).length_le
    rw [List.length_reverse] at a
    exact a
  have h2 : (zt l).length = l.length - (l.reverse.takeWhile (· == 48)).length := by
    unfold zt
    rw [List.length_take]
    omega
  have h3 : l.drop (l.length - (l.reverse.takeWhile (· == 48)).length) = (l.reverse.takeWhile (· == 48)).reverse := by
    have a := List.takeWhile_append_dropWhile (p := (· == 48)) (l := l.reverse)
    have b := congrArg List.reverse a
    rw [List.reverse_append, List.reverse_reverse] at b
    conv => lhs; arg 2; rw [← b]
    rw [List.drop_append, List.drop_of_length_le, List.nil_append]
    · have c : l.length - (l.reverse.takeWhile (· == 48)).length - ((l.reverse.dropWhile (· == 48)).reverse).length = 0 := by
        have d := congrArg List.length b
        rw [List.length_append, List.length_reverse, List.length_reverse] at d
        rw [List.length_reverse]
        omega
      rw [c]
      rfl
    · have d := congrArg List.length b
      rw [List.length_append, List.length_reverse, List.length_reverse] at d
      rw [List.length_reverse]
      omega
  have h4 : (l.reverse.takeWhile (· == 48)).reverse = List.replicate (l.length - (zt l).length) 48 := by
    refine List.eq_replicate_iff.mpr ⟨?_, fun c hc => ?_⟩
    · rw [List.length_reverse, h2]
      omega
    · exact eq_of_beq (tw_all _ c (List.mem_reverse.mp hc))
  conv => lhs; rw [← List.take_append_drop (l.length - (l.reverse.takeWhile (· == 48)).length) l]
  rw [h3, h4]
  rfl
/-- six figures -/
def pad6 (r : Nat) : List Nat := [48 + r / 100000 % 10, 48 + r / 10000 % 10, 48 + r / 1000 % 10, 48 + r / 100 % 10, 48 + r / 10 % 10, 48 + r % 10]
theorem num_mill {r : Nat} (h : r < 1000000) : numL (1000000 + r) = 49 :: pad6 r := by
  rw [numL_step (by omega), numL_step (by omega), numL_step (by omega), numL_step (by omega), numL_step (by omega), numL_step (by omega), numL_lt (by omega)]
  unfold pad6
  simp only [List.cons_append, List.nil_append, List.append_assoc, List.cons.injEq, and_true]
  omega
theorem zfill_six {r : Nat} (h : r < 1000000) : Txt.zfill (S (numL r)) 6 = S (pad6 r) := by
  have hd := numL_digits r
  unfold Txt.zfill
  rw [S_len]
  have z : ∀ k, zfilled (S (numL r)) k = S (List.replicate k 48 ++ numL r) := fun k => by
    have e : zfilled (S (numL r)) k = Builtin.Str.padded (S (numL r)) k 0 48 := by
      unfold zfilled
      split
      · rename_i q
        have m := hd 43 (by have := List.mem_of_getElem? (l := numL r) (i := 0) (by simpa [S] using q); exact this)
        omega
      · rename_i q
        have m := hd 45 (by have := List.mem_of_getElem? (l := numL r) (i := 0) (by simpa [S] using q); exact this)
        omega
      · rfl
    rw [e]
    refine ext_tl ?_
    show (Array.replicate k 48 ++ (S (numL r)).cps ++ Array.replicate 0 48).toList = _
    simp [S]
  have fin : ∀ k l, numL r = l → l.length + k = 6 → List.replicate k 48 ++ l = pad6 r → (if (6 : Int) ≤ ((numL r).length : Int) then S (numL r) else zfilled (S (numL r)) ((6 : Int).toNat - (numL r).length)) = S (pad6 r) := fun k l e1 e2 e3 => by
    have e4 : (numL r).length = l.length := congrArg List.length e1
    by_cases c : (6 : Int) ≤ ((numL r).length : Int)
    · rw [if_pos c, ← e3, e1, show k = 0 by omega]
      rfl
    · rw [if_neg c, z, show (6 : Int).toNat - (numL r).length = k by omega, e1, e3]
  by_cases h1 : r < 10
  · refine fin 5 [48 + r] (numL_lt h1) rfl ?_
    simp only [pad6, List.replicate, List.cons_append, List.nil_append, List.cons.injEq, and_true]
    omega
  by_cases h2 : r < 100
  · refine fin 4 [48 + r / 10, 48 + r % 10] (by rw [numL_step (by omega), numL_lt (by omega)]; rfl) rfl ?_
    simp only [pad6, List.replicate, List.cons_append, List.nil_append, List.cons.injEq, and_true]
    omega
  by_cases h3 : r < 1000
  · refine fin 3 [48 + r / 10 / 10, 48 + r / 10 % 10, 48 + r % 10] (by rw [numL_step (by omega), numL_step (by omega), numL_lt (by omega)]; rfl) rfl ?_
    simp only [pad6, List.replicate, List.cons_append, List.nil_append, List.cons.injEq, and_true]
    omega
  by_cases h4 : r < 10000
  · refine fin 2 [48 + r / 10 / 10 / 10, 48 + r / 10 / 10 % 10, 48 + r / 10 % 10, 48 + r % 10] (by rw [numL_step (by omega), numL_step (by omega), numL_step (by omega), numL_lt (by omega)]; rfl) rfl ?_
    simp only [pad6, List.replicate, List.cons_append, List.nil_append, List.cons.injEq, and_true]
    omega
  by_cases h5 : r < 100000
  · refine fin 1 [48 + r / 10 / 10 / 10 / 10, 48 + r / 10 / 10 / 10 % 10, 48 + r / 10 / 10 % 10, 48 + r / 10 % 10, 48 + r % 10] (by rw [numL_step (by omega), numL_step (by omega), numL_step (by omega), numL_step (by omega), numL_lt (by omega)]; rfl) rfl ?_
    simp only [pad6, List.replicate, List.cons_append, List.nil_append, List.cons.injEq, and_true]
    omega
  · refine fin 0 [48 + r / 10 / 10 / 10 / 10 / 10, 48 + r / 10 / 10 / 10 / 10 % 10, 48 + r / 10 / 10 / 10 % 10, 48 + r / 10 / 10 % 10, 48 + r / 10 % 10, 48 + r % 10] (by rw [numL_step (by omega), numL_step (by omega), numL_step (by omega), numL_step (by omega), numL_step (by omega), numL_lt (by omega)]; rfl) rfl ?_
    simp only [pad6, List.replicate, List.cons_append, List.nil_append, List.cons.injEq, and_true]
    omega
theorem pad6_digits (r : Nat) : AllDigits (pad6 r) := fun c hc => by
  simp only [pad6, List.mem_cons, List.not_mem_nil, or_false] at hc
  omega
theorem val_app (a b : List Nat) : digitsVal (a ++ b) = digitsVal a * 10 ^ b.length + digitsVal b := by
  have key : ∀ (b : List Nat) (s : Nat), b.foldl (fun acc c => acc * 10 + (c - 48)) s = s * 10 ^ b.length + b.foldl (fun acc c => acc * 10 + (c - 48)) 0 := by
    intro b
    induction b with
    | nil => intro s; simp
    | cons c b ih =>
      intro s
      rw [List.foldl_cons, List.foldl_cons, ih, ih (0 * 10 + (c - 48)), List.length_cons, Nat.pow_succ, Nat.add_mul, Nat.zero_mul, Nat.zero_add, Nat.mul_assoc, Nat.mul_comm 10, Nat.add_assoc]
  unfold digitsVal
  rw [List.foldl_append, key]
theorem val_pad6 {r : Nat} (h : r < 1000000) : digitsVal (pad6 r) = r := by
  simp only [digitsVal, pad6, List.foldl_cons, List.foldl_nil]
  omega
theorem val_noughts : ∀ n : Nat, digitsVal (List.replicate n 48) = 0
  | 0 => rfl
  | n + 1 => by
    rw [List.replicate_succ']
    rw [val_app, val_noughts n]
    rfl

/-- the signs of an amount -/
def showL (m : Int) : List Nat := (if m < 0 then [45] else []) ++ (numL (m.natAbs / 1000000) ++ (if m.natAbs % 1000000 = 0 then [] else 46 :: zt (pad6 (m.natAbs % 1000000))))
def readN (neg : Bool) (s : Int) : V := if 1000000000000000000000 ≤ s then .non else .int (if neg = true then -s else s)
def readP (neg : Bool) (P : Str × Str × Str) : V :=
  if figs (tl P.1) 15 = false then .non
  else if P.2.1 ≠ Str.empty ∧ figs (tl P.2.2) 12 = false then .non
  else readN neg (near (digitsVal (tl P.1 ++ tl P.2.2 ++ List.replicate (12 - (tl P.2.2).length) 48) : Nat) 1000000)
def unS (u : Str) : Str := if Txt.startswith u (S [45]) = true ∨ Txt.startswith u (S [43]) = true then cutS u (some 1) none else u
/-- the amount that a text tells, or none -/
def readV (z : Str) : V := readP (Txt.startswith (Txt.stripChars z (S [32])) (S [45])) (Txt.partition (unS (Txt.stripChars z (S [32]))) (S [46]))
theorem part_cases (u : Str) : (Txt.partition u (S [46])).2.1 = S [46] ∨ ((Txt.partition u (S [46])).2.1 = Str.empty ∧ (Txt.partition u (S [46])).2.2 = Str.empty) := by
  unfold Txt.partition
  split
  · exact Or.inl rfl
  · exact Or.inr ⟨rfl, rfl⟩
theorem near_exact (k : Int) : near (k * 1000000) 1000000 = k := by
  unfold near
  (repeat' split) <;> omega
theorem zt_sub {l : List Nat} {c : Nat} (h : c ∈ zt l) : c ∈ l := List.mem_of_mem_take h
theorem zt_len (l : List Nat) : (zt l).length ≤ l.length := by
  unfold zt
  rw [List.length_take]
  omega
theorem zt_ne {r : Nat} (h : r < 1000000) (h0 : r ≠ 0) : zt (pad6 r) ≠ [] := fun e => by
  have b := zt_back (pad6 r)
  rw [e, List.nil_append] at b
  have v := val_pad6 h
  rw [b, val_noughts] at v
  exact h0 v.symm
theorem figs_ok {l : List Nat} {k : Nat} (hd : AllDigits l) (h1 : l ≠ []) (h2 : l.length ≤ k) : figs l (k : Int) = true := by
  have h3 : 1 ≤ l.length := by
    cases l with
    | nil => exact absurd rfl h1
    | cons a l => exact Nat.succ_le_succ (Nat.zero_le _)
  unfold figs
  rw [digits_all hd, decide_eq_true h3, decide_eq_true (show (l.length : Int) ≤ (k : Int) by omega)]
  rfl
theorem head_num (w : Nat) : ∃ d l, numL w = d :: l ∧ 48 ≤ d ∧ d ≤ 57 := by
  have a := numL_digits w
  cases e : numL w with
  | nil => exact absurd e (numL_ne w)
  | cons d l =>
    rw [e] at a
    exact ⟨d, l, rfl, a.head⟩
theorem read_body {w r : Nat} (hw : w < 1000000000000000) (hr : r < 1000000) (neg : Bool) :
    readP neg (Txt.partition (S (numL w ++ (if r = 0 then [] else 46 :: zt (pad6 r)))) (S [46])) = .int (if neg = true then -((w * 1000000 + r : Nat) : Int) else ((w * 1000000 + r : Nat) : Int)) := by
  have dw := numL_digits w
  have lw : (numL w).length ≤ 15 := numL_len (by decide) (by rw [show (10 : Nat) ^ 15 = 1000000000000000 by decide]; exact hw)
  have hfree : (46 : Nat) ∉ numL w := numL_free (by omega)
  have fw : figs (numL w) 15 = true := figs_ok dw (numL_ne w) lw
  have fin : ∀ P : Str × Str × Str, tl P.1 = numL w → (P.2.1 = Str.empty ∨ figs (tl P.2.2) 12 = true) → digitsVal (tl P.1 ++ tl P.2.2 ++ List.replicate (12 - (tl P.2.2).length) 48) = (w * 1000000 + r) * 1000000 →
      readP neg P = .int (if neg = true then -((w * 1000000 + r : Nat) : Int) else ((w * 1000000 + r : Nat) : Int)) := fun P e1 e2 e3 => by
    unfold readP
    rw [e3, e1, if_neg (by rw [fw]; decide), if_neg (fun z => by
      rcases e2 with e2 | e2
      · exact z.1 e2
      · rw [e2] at z
        cases z.2), Int.natCast_mul, show ((1000000 : Nat) : Int) = 1000000 from rfl, near_exact]
    unfold readN
    rw [if_neg (by omega)]
  by_cases h0 : r = 0
  · rw [if_pos h0, List.append_nil, TL.partition_none (y := S [46]) (s := 46) (S := []) rfl (a := S (numL w)) hfree]
    refine fin _ rfl (Or.inl rfl) ?_
    show digitsVal (numL w ++ [] ++ List.replicate 12 48) = _
    rw [List.append_nil, val_app, val_noughts, numL_val, List.length_replicate, h0]
    omega
  · have e : S (numL w ++ (46 :: zt (pad6 r))) = S (numL w) ++ S [46] ++ S (zt (pad6 r)) := by
      rw [S_cat, S_cat, List.append_assoc]
      rfl
    rw [if_neg h0, e, TL.partition_app (y := S [46]) (s := 46) (S := []) rfl (a := S (numL w)) hfree]
    have lz : (zt (pad6 r)).length ≤ 6 := zt_len (pad6 r)
    refine fin _ rfl (Or.inr (figs_ok (fun c hc => pad6_digits r c (zt_sub hc)) (zt_ne hr h0) (show (zt (pad6 r)).length ≤ 12 by omega))) ?_
    show digitsVal (numL w ++ zt (pad6 r) ++ List.replicate (12 - (zt (pad6 r)).length) 48) = _
    have b : zt (pad6 r) ++ List.replicate (12 - (zt (pad6 r)).length) 48 = pad6 r ++ List.replicate 6 48 := by
      conv => rhs; rw [zt_back (pad6 r)]
      rw [List.append_assoc, List.replicate_append_replicate]
      have l6 : (pad6 r).length = 6 := rfl
      rw [l6, show 6 - (zt (pad6 r)).length + 6 = 12 - (zt (pad6 r)).length by omega]
    rw [List.append_assoc, b, val_app, val_app, val_noughts, val_pad6 hr, numL_val, List.length_append, List.length_replicate, show (pad6 r).length = 6 from rfl]
    omega
/-- what was written is read back -/
theorem read_show {m : Int} (h : -1000000000000000000000 < m ∧ m < 1000000000000000000000) : readV (S (showL m)) = .int m := by
  have hw : m.natAbs / 1000000 < 1000000000000000 := by omega
  have hr : m.natAbs % 1000000 < 1000000 := by omega
  have body := read_body hw hr
  obtain ⟨d, l, en, d1, d2⟩ := head_num (m.natAbs / 1000000)
  have nd := numL_digits (m.natAbs / 1000000)
  have free : (32 : Nat) ∉ showL m := fun z => by
    unfold showL at z
    rcases List.mem_append.mp z with z | z
    · split at z
      · simp at z
      · cases z
    · rcases List.mem_append.mp z with z | z
      · have := nd 32 z
        omega
      · split at z
        · cases z
        · rcases List.mem_cons.mp z with z | z
          · omega
          · have := pad6_digits _ 32 (zt_sub z)
            omega
  unfold readV
  rw [strip_free free, starts_S]
  unfold unS
  rw [starts_S, starts_S]
  by_cases hm : m < 0
  · have e : showL m = 45 :: (numL (m.natAbs / 1000000) ++ (if m.natAbs % 1000000 = 0 then [] else 46 :: zt (pad6 (m.natAbs % 1000000)))) := by
      unfold showL
      rw [if_pos hm]
      rfl
    rw [e, List.head?_cons, decide_eq_true rfl, if_pos (Or.inl rfl), cut_one, List.drop_one, List.tail_cons, body true, if_pos rfl]
    refine congrArg V.int ?_
    omega
  · have e : showL m = numL (m.natAbs / 1000000) ++ (if m.natAbs % 1000000 = 0 then [] else 46 :: zt (pad6 (m.natAbs % 1000000))) := by
      unfold showL
      rw [if_neg hm]
      rfl
    have eh : (showL m).head? = some d := by
      rw [e, en]
      rfl
    rw [eh, decide_eq_false (fun z => by have := Option.some.inj z; omega), decide_eq_false (fun z => by have := Option.some.inj z; omega), if_neg (by simp), e, body false, if_neg (by simp)]
    refine congrArg V.int ?_
    omega

theorem tens : tl (Str.ofString "0123456789") = [48, 49, 50, 51, 52, 53, 54, 55, 56, 57] := by decide +kernel
theorem mem_tens {c : Nat} : c ∈ (Str.ofString "0123456789").cps.toList ↔ isD c = true := by
  rw [show (Str.ofString "0123456789").cps.toList = [48, 49, 50, 51, 52, 53, 54, 55, 56, 57] from tens, isD_iff]
  simp only [List.mem_cons, List.not_mem_nil, or_false]
  omega
theorem find_tens : ∀ c : Nat, 48 ≤ c → c ≤ 57 → Txt.find (Str.ofString "0123456789") ⟨#[c]⟩ = (c : Int) - 48 := fun c h1 h2 => by
  have e : c = 48 ∨ c = 49 ∨ c = 50 ∨ c = 51 ∨ c = 52 ∨ c = 53 ∨ c = 54 ∨ c = 55 ∨ c = 56 ∨ c = 57 := by omega
  rcases e with rfl | rfl | rfl | rfl | rfl | rfl | rfl | rfl | rfl | rfl <;> decide +kernel
theorem figs_len {l : List Nat} {most : Int} (h : (l.length : Int) < 1 ∨ most < (l.length : Int)) : figs l most = false := by
  unfold figs
  rcases h with h | h
  · rw [decide_eq_false (show ¬ 1 ≤ l.length by omega), Bool.and_false, Bool.false_and]
  · rw [decide_eq_false (show ¬ (l.length : Int) ≤ most by omega), Bool.and_false]
theorem figs_bad {l : List Nat} {most : Int} {i c : Nat} (h : l[i]? = some c) (hc : ¬ isD c = true) : figs l most = false := by
  unfold figs
  have e : l.all isD = false := Bool.eq_false_iff.mpr fun k => hc (List.all_eq_true.mp k c (List.mem_of_getElem? h))
  rw [e, Bool.false_and, Bool.false_and]
theorem figs_good {l : List Nat} {most : Int} (h : ∀ (i c : Nat), l[i]? = some c → isD c = true) (h1 : ¬ (l.length : Int) < 1) (h2 : ¬ most < (l.length : Int)) : figs l most = true := by
  unfold figs
  have e : l.all isD = true := List.all_eq_true.mpr fun c hc => by
    obtain ⟨i, hi⟩ := List.getElem?_of_mem hc
    exact h i c hi
  rw [e, decide_eq_true (show 1 ≤ l.length by omega), decide_eq_true (show (l.length : Int) ≤ most by omega)]
  rfl
theorem str_nat {k : Int} {w : Nat} (h : k = (w : Int)) : Str.ofString (toString k) = S (numL w) := by
  rw [h]
  exact num_S w
theorem log_small {k : Int} (h : -1267650600228229401496703205376 < k ∧ k < 1267650600228229401496703205376) : k.natAbs.log2 < 1920 := by
  have e : (2 : Nat) ^ 100 = 1267650600228229401496703205376 := by decide
  exact Nat.lt_trans (PySem.Flt.log2_lt_of (by decide) (show k.natAbs < 2 ^ 100 by rw [e]; omega)) (by decide)
theorem numL_short {w : Nat} (h : w < 1000000000000000000000000) : (numL w).length ≤ 24 := numL_len (by decide) (by rw [show (10 : Nat) ^ 24 = 1000000000000000000000000 by decide]; exact h)

theorem hl1 {z : Str} (h : z.length ≤ 100000) : z.length ≤ sizeLine := Nat.le_trans h (by decide)
theorem hl2 {z : Str} (h : z.length ≤ 200000) : z.length ≤ sizeLine := Nat.le_trans h (by decide)
theorem hl3 {z y : Str} (h : z.length ≤ 100000) : (Txt.stripChars z y).length ≤ 100000 := Nat.le_trans (len_stripChars _ _) h
theorem hl4 {z : Str} {a b : Option Int} (h : z.length ≤ 100000) : (cutS z a b).length ≤ 100000 := Nat.le_trans (cutS_length _ _ _) h

theorem part_len (u y : Str) : (Txt.partition u y).1.length ≤ u.length ∧ (Txt.partition u y).2.2.length ≤ u.length := by
  have sub : ∀ i j, (Builtin.Str.strSub u i j).length ≤ u.length := fun i j => by
    rw [len_tl, len_tl, tl_strSub, List.length_take, List.length_drop]
    omega
  unfold Txt.partition
  split
  · exact ⟨sub _ _, sub _ _⟩
  · exact ⟨Nat.le_refl _, Nat.zero_le _⟩
theorem readV_1 {z : Str} (h : Txt.startswith (Txt.stripChars z (S [32])) (S [45]) = true) : readV z = readP true (Txt.partition (cutS (Txt.stripChars z (S [32])) (some 1) none) (S [46])) := by
  unfold readV unS
  rw [h, if_pos (Or.inl rfl)]
theorem readV_2 {z : Str} (h : ¬ Txt.startswith (Txt.stripChars z (S [32])) (S [45]) = true) (h2 : Txt.startswith (Txt.stripChars z (S [32])) (S [43]) = true) : readV z = readP false (Txt.partition (cutS (Txt.stripChars z (S [32])) (some 1) none) (S [46])) := by
  unfold readV unS
  rw [Bool.eq_false_iff.mpr h, h2, if_pos (Or.inr rfl)]
theorem readV_3 {z : Str} (h : ¬ Txt.startswith (Txt.stripChars z (S [32])) (S [45]) = true) (h2 : ¬ Txt.startswith (Txt.stripChars z (S [32])) (S [43]) = true) : readV z = readP false (Txt.partition (Txt.stripChars z (S [32])) (S [46])) := by
  unfold readV unS
  rw [Bool.eq_false_iff.mpr h, Bool.eq_false_iff.mpr h2, if_neg (by decide)]
theorem readP_bad1 {b : Bool} {P : Str × Str × Str} (h : ¬ figs (tl P.1) 15 = true) : readP b P = .non := by
  unfold readP
  rw [if_pos (Bool.eq_false_iff.mpr h)]
theorem readP_bad2 {b : Bool} {P : Str × Str × Str} (h1 : ¬ P.2.1 = Str.empty) (h : ¬ figs (tl P.2.2) 12 = true) : readP b P = .non := by
  unfold readP
  split
  · rfl
  · rw [if_pos ⟨h1, Bool.eq_false_iff.mpr h⟩]
def worthP (P : Str × Str × Str) : Nat := digitsVal (tl P.1 ++ tl P.2.2 ++ List.replicate (12 - (tl P.2.2).length) 48)
theorem readP_good {b : Bool} {P : Str × Str × Str} (h : figs (tl P.1) 15 = true) (h2 : P.2.1 = Str.empty ∨ figs (tl P.2.2) 12 = true) : readP b P = readN b (near (worthP P : Nat) 1000000) := by
  unfold readP
  rw [if_neg (by rw [h]; decide), if_neg (fun z => by
    rcases h2 with h2 | h2
    · exact z.1 h2
    · rw [h2] at z
      cases z.2)]
  rfl
theorem figs_out {l : List Nat} {k : Int} (h : figs l k = true) : AllDigits l ∧ 1 ≤ l.length ∧ (l.length : Int) ≤ k := by
  unfold figs at h
  rw [Bool.and_eq_true, Bool.and_eq_true, decide_eq_true_eq, decide_eq_true_eq] at h
  exact ⟨all_digits h.1.1, h.1.2, h.2⟩
theorem just_tl (z : Str) : tl (Txt.ljustF z 12 48) = tl z ++ List.replicate (12 - (tl z).length) 48 := by
  unfold Txt.ljustF
  have e := len_tl z
  by_cases h : (12 : Int) ≤ (z.length : Int)
  · rw [if_pos h, show 12 - (tl z).length = 0 by omega]
    exact (List.append_nil _).symm
  · rw [if_neg h, e]
    show (Array.replicate 0 48 ++ z.cps ++ Array.replicate ((12 : Int).toNat - (tl z).length) 48).toList = _
    simp [tl]
theorem behind_ok {P : Str × Str × Str} (hc : P.2.1 = S [46] ∨ (P.2.1 = Str.empty ∧ P.2.2 = Str.empty)) (h2 : P.2.1 = Str.empty ∨ figs (tl P.2.2) 12 = true) : AllDigits (tl P.2.2) ∧ (tl P.2.2).length ≤ 12 := by
  rcases h2 with h2 | h2
  · rcases hc with hc | hc
    · rw [hc] at h2
      exact absurd (congrArg tl h2) (fun z => nomatch z)
    · rw [hc.2]
      exact ⟨fun c hc => (nomatch hc), Nat.zero_le _⟩
  · have f := figs_out h2
    exact ⟨f.1, by omega⟩
theorem worth_text {P : Str × Str × Str} (hc : P.2.1 = S [46] ∨ (P.2.1 = Str.empty ∧ P.2.2 = Str.empty)) (h : figs (tl P.1) 15 = true) (h2 : P.2.1 = Str.empty ∨ figs (tl P.2.2) 12 = true) :
    intText? (P.1 ++ Txt.ljustF P.2.2 12 48) = some ((worthP P : Nat) : Int) ∧ (P.1 ++ Txt.ljustF P.2.2 12 48).length ≤ 27 ∧ P.1.length ≤ 15 ∧ (Txt.ljustF P.2.2 12 48).length ≤ 12 := by
  have f := figs_out h
  have b := behind_ok hc h2
  have e : tl (P.1 ++ Txt.ljustF P.2.2 12 48) = tl P.1 ++ tl P.2.2 ++ List.replicate (12 - (tl P.2.2).length) 48 := by
    rw [tl_append, just_tl, List.append_assoc]
  have l2 : (Txt.ljustF P.2.2 12 48).length = 12 := by
    rw [len_tl, just_tl, List.length_append, List.length_replicate]
    omega
  have l1 : P.1.length = (tl P.1).length := len_tl _
  have l : (P.1 ++ Txt.ljustF P.2.2 12 48).length ≤ 27 := by
    rw [Str.length_append]
    omega
  refine ⟨?_, l, by omega, by omega⟩
  have d := intText_digits (x := P.1 ++ Txt.ljustF P.2.2 12 48) (fun c hc => by
    rw [show (P.1 ++ Txt.ljustF P.2.2 12 48).cps.toList = _ from e] at hc
    rcases List.mem_append.mp hc with hc | hc
    · rcases List.mem_append.mp hc with hc | hc
      · exact f.1 c hc
      · exact b.1 c hc
    · rw [List.eq_of_mem_replicate hc]
      decide) (fun z => by
    have z2 := congrArg List.length z
    rw [show (P.1 ++ Txt.ljustF P.2.2 12 48).cps.toList = _ from e, List.length_append, List.length_append] at z2
    have z3 : (tl P.1).length + (tl P.2.2).length + _ = 0 := z2
    omega) (by omega)
  rw [show (P.1 ++ Txt.ljustF P.2.2 12 48).cps.toList = _ from e] at d
  exact d
theorem near_nn {a : Int} (h : 0 ≤ a) : 0 ≤ near a 1000000 := by
  unfold near
  (repeat' split) <;> omega

theorem ne_empty {a : Str} : (!decide (V.str a = V.str (Str.ofString ""))) = true ↔ ¬ a = Str.empty := by
  rw [e_none, str_empty, Bool.not_eq_true', decide_eq_false_iff_not]
  exact ⟨fun h z => h (congrArg V.str z), fun h z => h (V.str.inj z)⟩

theorem show_S (m : Int) : S (showL m) = (if m < 0 then S [45] else S []) ++ (S (numL (m.natAbs / 1000000)) ++ (if m.natAbs % 1000000 = 0 then S [] else S [46] ++ S (zt (pad6 (m.natAbs % 1000000))))) := by
  unfold showL
  by_cases h : m < 0
  · by_cases k : m.natAbs % 1000000 = 0
    · rw [if_pos h, if_pos h, if_pos k, if_pos k]; simp only [S_cat]
    · rw [if_pos h, if_pos h, if_neg k, if_neg k]; simp only [S_cat]; rfl
  · by_cases k : m.natAbs % 1000000 = 0
    · rw [if_neg h, if_neg h, if_pos k, if_pos k]; simp only [S_cat]
    · rw [if_neg h, if_neg h, if_neg k, if_neg k]; simp only [S_cat]; rfl
theorem rest_zero : zt (pad6 0) = [] := by decide +kernel
theorem nots {b : Bool} (h : ¬ (!b) = true) : b = true := by simpa using h
theorem readN_in {b : Bool} {s : Int} (h : s < 1000000000000000000000) : readN b s = .int (if b = true then -s else s) := if_neg (by omega)
theorem readN_out {b : Bool} {s : Int} (h : ¬ s < 1000000000000000000000) : readN b s = .non := if_pos (by omega)

theorem val_bound : ∀ {l : List Nat}, AllDigits l → digitsVal l < 10 ^ l.length := by
  have key : ∀ (l : List Nat) (s : Nat), AllDigits l → l.foldl (fun acc c => acc * 10 + (c - 48)) s < (s + 1) * 10 ^ l.length := by
    intro l
    induction l with
    | nil => intro s _; simp
    | cons c l ih =>
      intro s h
      have hc := h.head
      rw [List.foldl_cons, List.length_cons, Nat.pow_succ]
      refine Nat.lt_of_lt_of_le (ih _ h.tail) ?_
      rw [Nat.mul_comm (10 ^ l.length) 10, ← Nat.mul_assoc]
      exact Nat.mul_le_mul_right _ (by omega)
  intro l h
  have a := key l 0 h
  rw [Nat.zero_add, Nat.one_mul] at a
  exact a
theorem val_step {l : List Nat} {i c : Nat} (h : l[i]? = some c) : digitsVal (l.take (i + 1)) = digitsVal (l.take i) * 10 + (c - 48) := by
  obtain ⟨hi, e⟩ := List.getElem?_eq_some_iff.mp h
  rw [List.take_succ_eq_append_getElem hi, val_app, e]
  show _ * 10 ^ 1 + (0 * 10 + (c - 48)) = _
  omega
def allP (P : Str × Str × Str) : Str := P.1 ++ P.2.2 ++ repS (Str.ofString "0") ((12 : Int) - (P.2.2.length : Int)).toNat
theorem allP_tl (P : Str × Str × Str) : tl (allP P) = tl P.1 ++ tl P.2.2 ++ List.replicate (12 - (tl P.2.2).length) 48 := by
  unfold allP
  rw [tl_append, tl_append, e_zero, len_tl P.2.2, show ((12 : Int) - ((tl P.2.2).length : Int)).toNat = 12 - (tl P.2.2).length by omega]
  refine congrArg (fun z => tl P.1 ++ tl P.2.2 ++ z) ?_
  show (List.replicate (12 - (tl P.2.2).length) [48]).flatten = _
  generalize 12 - (tl P.2.2).length = n
  induction n with
  | zero => rfl
  | succ n ih => rw [List.replicate_succ, List.flatten_cons, ih, List.replicate_succ]; rfl
theorem allP_ok {P : Str × Str × Str} (hc : P.2.1 = S [46] ∨ (P.2.1 = Str.empty ∧ P.2.2 = Str.empty)) (h : figs (tl P.1) 15 = true) (h2 : P.2.1 = Str.empty ∨ figs (tl P.2.2) 12 = true) :
    AllDigits (tl (allP P)) ∧ digitsVal (tl (allP P)) = worthP P ∧ (worthP P : Int) < 1000000000000000000000000000000 ∧ (tl P.1).length ≤ 15 ∧ (tl P.2.2).length ≤ 12 := by
  have f := figs_out h
  have b := behind_ok hc h2
  have d : AllDigits (tl (allP P)) := fun c hc => by
    rw [allP_tl] at hc
    rcases List.mem_append.mp hc with hc | hc
    · rcases List.mem_append.mp hc with hc | hc
      · exact f.1 c hc
      · exact b.1 c hc
    · rw [List.eq_of_mem_replicate hc]
      decide
  have e : digitsVal (tl (allP P)) = worthP P := congrArg digitsVal (allP_tl P)
  refine ⟨d, e, ?_, by omega, b.2⟩
  have v := val_bound d
  rw [e] at v
  have l : (tl (allP P)).length ≤ 27 := by
    rw [allP_tl, List.length_append, List.length_append, List.length_replicate]
    omega
  have v2 : worthP P < 10 ^ 27 := Nat.lt_of_lt_of_le v (Nat.pow_le_pow_right (by decide) l)
  rw [show (10 : Nat) ^ 27 = 1000000000000000000000000000 by decide] at v2
  omega
theorem head_is {u : Str} {c : Nat} (h : V.str (cutS u none (some 1)) = V.str (S [c])) : Txt.startswith u (S [c]) = true := (head_starts u c).symm.trans (decide_eq_true h)
theorem head_not {u : Str} {c : Nat} (h : ¬ V.str (cutS u none (some 1)) = V.str (S [c])) : ¬ Txt.startswith u (S [c]) = true := by
  rw [← head_starts u c]
  exact fun z => h (of_decide_eq_true z)

theorem show_len {m : Int} (h : -1000000000000000000000 < m ∧ m < 1000000000000000000000) : (S (showL m)).length ≤ 40 := by
  rw [S_len]
  unfold showL
  have n1 : (numL (m.natAbs / 1000000)).length ≤ 24 := numL_short (by omega)
  have n2 := zt_len (pad6 (m.natAbs % 1000000))
  have n3 : (pad6 (m.natAbs % 1000000)).length = 6 := rfl
  rw [List.length_append, List.length_append]
  split <;> split <;> simp only [List.length_cons, List.length_nil] <;> omega

theorem readP_kind (b : Bool) (P : Str × Str × Str) : readP b P = .non ∨ ∃ s : Int, readP b P = .int s ∧ (-1000000000000000000000 < s ∧ s < 1000000000000000000000) := by
  unfold readP
  split
  · exact Or.inl rfl
  · split
    · exact Or.inl rfl
    · have nn := near_nn (a := (digitsVal (tl P.1 ++ tl P.2.2 ++ List.replicate (12 - (tl P.2.2).length) 48) : Nat)) (Int.natCast_nonneg _)
      unfold readN
      split
      · exact Or.inl rfl
      · refine Or.inr ⟨_, rfl, ?_⟩
        split <;> omega
theorem readV_kind (z : Str) : readV z = .non ∨ ∃ s : Int, readV z = .int s ∧ (-1000000000000000000000 < s ∧ s < 1000000000000000000000) := readP_kind _ _

theorem op_modL {X : Cx} : OpR X (binaryOp .Mod) (fun x y H Q => ∃ i j, x = .int i ∧ y = .int j ∧ 0 < j ∧ ∀ d : Int, 0 ≤ d → d < j → Q (.int d) H) := fun pins s σ H x y v u Q I rx ry hq => by
  obtain ⟨i, j, ex, ey, hc, q⟩ := hq
  exact op_mod pins s σ H x y v u Q I rx ry ⟨i, j, ex, ey, hc, q _ (Int.emod_nonneg _ (by omega)) (Int.emod_lt_of_pos _ hc)⟩
theorem ixS_go {z : Str} {i : Int} {H : Hp} {Q : VK} (h : z.length ≤ 100000) (h0 : 0 ≤ i) (h1 : i < (z.length : Int)) (q : ∀ c, Q (.str ⟨#[c]⟩) H) : rIxS (.str z) (.int i) H Q := by
  obtain ⟨c, _, e⟩ := atI_some (xs := z.cps.toList) h0 (by rw [← len_tl]; exact h1)
  exact ⟨z, i, c, rfl, rfl, hl1 h, e, q c⟩
theorem joinL_len : ∀ ls : List (List Nat), (TL.joinL [] ls).length = (ls.map List.length).sum
  | [] => rfl
  | [x] => by simp [TL.joinL]
  | x :: y :: ls => by
    have e : TL.joinL [] (x :: y :: ls) = x ++ [] ++ TL.joinL [] (y :: ls) := by first | rfl | simp [TL.joinL]
    rw [e, List.length_append, List.append_nil, joinL_len (y :: ls)]
    simp
theorem sum_le {n : Nat} : ∀ {zs : List Str}, (∀ z ∈ zs, z.length ≤ n) → (zs.map (·.length)).sum ≤ n * zs.length
  | [], _ => Nat.zero_le _
  | z :: zs, h => by
    rw [List.map_cons, List.sum_cons, List.length_cons, Nat.mul_succ]
    have a := sum_le (fun y hy => h y (List.mem_cons_of_mem _ hy))
    have b := h z (List.mem_cons_self ..)
    omega
theorem join_len {n : Nat} {zs : List Str} (h : ∀ z ∈ zs, z.length ≤ n) : (Txt.join (Str.ofString "") zs).length ≤ n * zs.length := by
  rw [len_tl, TL.join_eq, TL.tl_join, e_none, joinL_len, List.map_map]
  exact Nat.le_trans (Nat.le_of_eq (congrArg List.sum (List.map_congr_left fun z _ => (len_tl z).symm))) (sum_le h)
theorem join_sum {n : Nat} {zs : List Str} (h : ∀ z ∈ zs, z.length ≤ n) : (zs.map (·.length)).sum + zs.length * (Str.ofString "").length ≤ n * zs.length := by
  rw [show (Str.ofString "").length = 0 from by decide +kernel, Nat.mul_zero, Nat.add_zero]
  exact sum_le h
theorem more_map (zs : List Str) (ch : Nat) : zs.map V.str ++ [V.str ⟨#[ch]⟩] = (zs ++ [(⟨#[ch]⟩ : Str)]).map V.str := by
  rw [List.map_append]
  rfl
theorem more_one {zs : List Str} {ch : Nat} (h : ∀ z ∈ zs, z.length ≤ 1) : ∀ z ∈ zs ++ [(⟨#[ch]⟩ : Str)], z.length ≤ 1 := fun z hm => by
  rcases List.mem_append.mp hm with hm | hm
  · exact h z hm
  · rw [List.mem_singleton.mp hm]
    exact Nat.le_refl _
theorem more_len {zs : List Str} {ch i : Nat} (h : zs.length ≤ i) : (zs ++ [(⟨#[ch]⟩ : Str)]).length ≤ i + 1 := by
  rw [List.length_append, List.length_singleton]
  omega
theorem tens_len : (Str.ofString "0123456789").length = 10 := by decide +kernel

theorem La {A B : Str} {a b : Nat} (h : A.length ≤ a) (k : B.length ≤ b) : (A ++ B).length ≤ a + b := by
  rw [Str.length_append]
  omega
theorem Lc {z : Str} {x y : Option Int} {n : Nat} (h : z.length ≤ n) : (cutS z x y).length ≤ n := Nat.le_trans (cutS_length _ _ _) h
theorem Lr {z : Str} {k : Int} (n : Nat) (h : z.length ≤ 1) (hk : k ≤ (n : Int)) : (repS z k.toNat).length ≤ n := by
  rw [repS_len]
  exact Nat.le_trans (Nat.mul_le_mul_right _ h) (by omega)
theorem c_one (c : Nat) : (⟨#[c]⟩ : Str).length ≤ 1 := Nat.le_refl 1

theorem pe_bm0k {X : Cx} {K : PySem.W.Frag} {T name id : String} {r : V → List V → Hp → VK → Prop} {o : Expr} {to : TE} {apos cpos : Pos} (ek : X.K = K) (pa : PlainAttrs T) (slot : Slot T name id) (hty : typeOf (.builtin id) = pure (.type "method_descriptor")) (hm : MtR X id r) (ho : PE X o to)
    (hb : attributeBase o name X.env (eval o X.env) = eval o X.env := by rfl) (hl : (apos.endLine == cpos.line) = true := by rfl) : PE X (.Call (.Attribute o name apos) [] [] cpos) (tBM0 K T r to) := ek ▸ pe_bm0 pa slot hty hm ho hb hl
/-- signs below 128 -/
def Asc (z : Str) : Prop := ∀ c ∈ tl z, c < 128
theorem Asc.app {a b : Str} (h : Asc a) (k : Asc b) : Asc (a ++ b) := fun c hc => by
  rw [TL.tl_append] at hc
  rcases List.mem_append.mp hc with hc | hc
  · exact h c hc
  · exact k c hc
theorem Asc.cut {a : Str} {x y : Option Int} (h : Asc a) : Asc (cutS a x y) := fun c hc => by
  have e : tl (cutS a x y) = ((a.cps.toList.drop (HT.sIx a.length 0 x)).take (HT.sIx a.length a.length y - HT.sIx a.length 0 x)) := rfl
  rw [e] at hc
  exact h c (List.mem_of_mem_drop (List.mem_of_mem_take hc))
theorem Asc.rep {a : Str} {n : Nat} (h : Asc a) : Asc (repS a n) := fun c hc => by
  have e : tl (repS a n) = (List.replicate n (tl a)).flatten := rfl
  rw [e] at hc
  obtain ⟨l, hl, hc⟩ := List.mem_flatten.mp hc
  rw [(List.mem_replicate.mp hl).2] at hc
  exact h c hc
theorem Asc.one {c : Nat} (h : c < 128) : Asc ⟨#[c]⟩ := fun d hd => by
  rw [List.mem_singleton.mp (show d ∈ [c] from hd)]
  exact h
theorem Asc.at {a : Str} {i c : Nat} (h : Asc a) (e : a.cps.toList[i]? = some c) : c < 128 := h c (List.mem_of_getElem? e)
theorem asc_lit {z : Str} (h : (tl z).all (· < 128) = true) : Asc z := fun c hc => of_decide_eq_true (List.all_eq_true.mp h c hc)
theorem mem_joinL : ∀ {ls : List (List Nat)} {c : Nat}, c ∈ TL.joinL [] ls → ∃ l ∈ ls, c ∈ l
  | [], c, h => by cases h
  | [x], c, h => ⟨x, List.mem_cons_self .., by simpa [TL.joinL] using h⟩
  | x :: y :: ls, c, h => by
    have e : TL.joinL [] (x :: y :: ls) = x ++ [] ++ TL.joinL [] (y :: ls) := by first | rfl | simp [TL.joinL]
    rw [e, List.append_nil] at h
    rcases List.mem_append.mp h with h | h
    · exact ⟨x, List.mem_cons_self .., h⟩
    · obtain ⟨l, hl, k⟩ := mem_joinL h
      exact ⟨l, List.mem_cons_of_mem _ hl, k⟩
theorem tl_join0 (zs : List Str) : tl (Txt.join (Str.ofString "") zs) = TL.joinL [] (zs.map tl) := by
  rw [TL.join_eq, TL.tl_join, e_none]
theorem Asc.join {zs : List Str} (h : ∀ z ∈ zs, Asc z) : Asc (Txt.join (Str.ofString "") zs) := fun c hc => by
  rw [tl_join0] at hc
  obtain ⟨l, hl, k⟩ := mem_joinL hc
  obtain ⟨z, hz, rfl⟩ := List.mem_map.mp hl
  exact h z hz c k
theorem joinL_ones (f : Nat → Nat) : ∀ l : List Nat, TL.joinL [] (l.map fun c => [f c]) = l.map f
  | [] => rfl
  | [c] => by simp [TL.joinL]
  | c :: d :: l => by
    have e : TL.joinL [] ((c :: d :: l).map fun c => [f c]) = [f c] ++ [] ++ TL.joinL [] ((d :: l).map fun c => [f c]) := by first | rfl | simp [TL.joinL]
    rw [e, joinL_ones f (d :: l)]
    rfl
theorem join_ones (f : Nat → Nat) (l : List Nat) : Txt.join (Str.ofString "") (l.map fun c => (⟨#[f c]⟩ : Str)) = S (l.map f) := by
  refine ext_tl ?_
  rw [tl_join0, List.map_map]
  exact joinL_ones f l
theorem upper_tl {z : Str} (h : Asc z) : Txt.upper z = S ((tl z).map PyProof.Rows.up1) := by
  have e := upper_S (a := tl z) (List.all_eq_true.mpr fun c hc => decide_eq_true (h c hc))
  rw [S_tl z] at e
  exact e
theorem upper_one {c : Nat} (h : c < 128) : Txt.upper ⟨#[c]⟩ = ⟨#[PyProof.Rows.up1 c]⟩ := upper_tl (Asc.one h)
theorem lower_one {c : Nat} (h : c < 128) : Txt.lower ⟨#[c]⟩ = ⟨#[PyProof.Rows.lo1 c]⟩ := by
  have e := lower_S (a := [c]) (List.all_eq_true.mpr fun d hd => decide_eq_true (by rw [List.mem_singleton.mp hd]; exact h))
  exact e
theorem lo1_small {c : Nat} (h : c < 128) : PyProof.Rows.lo1 c < 128 := by
  unfold PyProof.Rows.lo1
  split <;> omega
theorem up1_small {c : Nat} (h : c < 128) : PyProof.Rows.up1 c < 128 := by
  unfold PyProof.Rows.up1
  split <;> omega
theorem upper_asc {z : Str} (h : Asc z) : Asc (Txt.upper z) := fun c hc => by
  rw [upper_tl h] at hc
  obtain ⟨d, hd, rfl⟩ := List.mem_map.mp (show c ∈ (tl z).map PyProof.Rows.up1 from hc)
  exact up1_small (h d hd)
theorem upper_len {z : Str} (h : Asc z) : (Txt.upper z).length = z.length := by
  rw [upper_tl h, S_len, List.length_map, len_tl]
theorem one_lt {c d : Nat} : ([c] : List Nat) < [d] ↔ c < d := by
  simp [List.cons_lt_cons_iff]
theorem sg_ge_a (c : Nat) : (!decide ((⟨#[c]⟩ : Str).cps.toList < (Str.ofString "a").cps.toList)) = decide (97 ≤ c) := by
  have e : (Str.ofString "a").cps.toList = [97] := by decide +kernel
  rw [e]
  show (!decide ([c] < [97])) = decide (97 ≤ c)
  by_cases h : c < 97
  · rw [decide_eq_true (one_lt.mpr h), decide_eq_false (by omega)]
    rfl
  · rw [decide_eq_false (fun z => h (one_lt.mp z)), decide_eq_true (by omega)]
    rfl
theorem sg_le_z (c : Nat) : (!decide ((Str.ofString "z").cps.toList < (⟨#[c]⟩ : Str).cps.toList)) = decide (c ≤ 122) := by
  have e : (Str.ofString "z").cps.toList = [122] := by decide +kernel
  rw [e]
  show (!decide ([122] < [c])) = decide (c ≤ 122)
  by_cases h : 122 < c
  · rw [decide_eq_true (one_lt.mpr h), decide_eq_false (by omega)]
    rfl
  · rw [decide_eq_false (fun z => h (one_lt.mp z)), decide_eq_true (by omega)]
    rfl
theorem up1_small_letter {c : Nat} (h : ¬ (97 ≤ c ∧ c ≤ 122)) : c = PyProof.Rows.up1 c := (if_neg h).symm
/-- an index into a text of such signs -/
theorem ixS_goA {z : Str} {i : Int} {H : Hp} {Q : VK} (ha : Asc z) (h : z.length ≤ 100000) (h0 : 0 ≤ i) (h1 : i < (z.length : Int)) (q : ∀ c, c < 128 → Q (.str ⟨#[c]⟩) H) : rIxS (.str z) (.int i) H Q := by
  obtain ⟨c, hc, e⟩ := atI_some (xs := z.cps.toList) h0 (by rw [← len_tl]; exact h1)
  exact ⟨z, i, c, rfl, rfl, hl1 h, e, q c (ha c hc)⟩
theorem show_asc (m : Int) : Asc (S (showL m)) := fun c hc => by
  have hc2 : c ∈ showL m := hc
  unfold showL at hc2
  rcases List.mem_append.mp hc2 with h | h
  · split at h
    · rw [List.mem_singleton.mp h]
      decide
    · cases h
  · rcases List.mem_append.mp h with h | h
    · have := TL.numL_digits _ c h
      omega
    · split at h
      · cases h
      · rcases List.mem_cons.mp h with rfl | h
        · decide
        · have := pad6_digits _ c (zt_sub h)
          omega
theorem more_asc {zs : List Str} {ch : Nat} (h : ∀ z ∈ zs, Asc z) (hc : ch < 128) : ∀ z ∈ zs ++ [(⟨#[ch]⟩ : Str)], Asc z := fun z hm => by
  rcases List.mem_append.mp hm with hm | hm
  · exact h z hm
  · rw [List.mem_singleton.mp hm]
    exact Asc.one hc
/-- an item of a tuple, whichever -/
theorem atT_go {K : PySem.W.Frag} {p : Addr} {xs : List V} {i : Int} {H : Hp} {Q : VK} (h : SqT K H p xs) (h0 : 0 ≤ i) (h1 : i < (xs.length : Int)) (q : ∀ v, v ∈ xs → Q v H) : rIxT K (.ref p) (.int i) H Q := by
  obtain ⟨v, hv, e⟩ := atI_mem h0 h1
  exact ⟨_, _, _, v, rfl, rfl, h, e, q v hv⟩
/-- a scalar by its kind -/
inductive Sc where
  | empty | num (m : Int) | tru (b : Bool) | txt (z : Str) | err (z : Str)
def Sc.vs : Sc → List V
  | .empty => [.str "empty"]
  | .num m => [.str "number", .int m]
  | .tru b => [.str "truth", .bl b]
  | .txt z => [.str "text", .str z]
  | .err z => [.str "error", .str z]
def Sc.ok : Sc → Prop
  | .num m => -1000000000000000000000 < m ∧ m < 1000000000000000000000
  | .txt z => z.length ≤ 2000 ∧ Asc z
  | .err z => z.length ≤ 20 ∧ Asc z
  | _ => True
theorem Sc.flat (s : Sc) : ∀ y ∈ s.vs, Flat3 y := by
  rcases s with _ | m | b | z | z
  all_goals (intro y hy; simp only [Sc.vs, List.mem_cons, List.not_mem_nil, or_false] at hy)
  · rw [hy]
    exact Or.inr (Or.inl ⟨_, rfl⟩)
  all_goals rcases hy with rfl | rfl
  all_goals first
    | exact Or.inr (Or.inl ⟨_, rfl⟩)
    | exact Or.inl ⟨_, rfl⟩
    | exact Or.inr (Or.inr ⟨_, rfl⟩)
theorem Sc.short (s : Sc) : s.vs.length ≤ 20 := by
  rcases s with _ | m | b | z | z
  all_goals exact Nat.le_of_ble_eq_true rfl
def WDS : List V := [.str "DIV", .str "VALUE", .str "REF", .str "NAME", .str "NUM", .str "NA", .str "CALC", .str "SIZE", .str "LIMIT", .str "CIRC"]
theorem wds_mem {v : V} (h : v ∈ WDS) : ∃ y, v = .str y ∧ y.length ≤ 10 ∧ Asc y := by
  simp only [WDS, List.mem_cons, List.not_mem_nil, or_false] at h
  rcases h with rfl | rfl | rfl | rfl | rfl | rfl | rfl | rfl | rfl | rfl
  all_goals exact ⟨_, rfl, by decide +kernel, asc_lit (by decide +kernel)⟩

/-- two tuples whose first parts are unlike ints: nothing behind them is looked at -/
theorem lt_first {l b : Addr} {i j : Int} {t u : Tok} {xs ys : List Value} {n n2 : Nat} {dd dd2 : Option Addr} {sl sl2 : Array (Option Value)} (hne : i ≠ j) : PySem.Meets (PySem.Builtin.«tuple.__lt__» ⟨[.ref l, .ref b], []⟩) fun A R s =>
    s.heap.get? l = some ⟨.type "tuple", dd, .seq (Value.int i t :: xs).toArray n, sl⟩ ∧ s.heap.get? b = some ⟨.type "tuple", dd2, .seq (Value.int j u :: ys).toArray n2, sl2⟩ ∧ R (.ok (.ret (.bool (decide (i < j))))) s :=
  .of_wp fun prog w A R s h => by
    obtain ⟨hp, g, d, tk, os⟩ := s
    obtain ⟨h1, h2, hR⟩ := h
    have tt := PySem.AutoSeq1.sub_tuple_tuple
    wp_walk using PySem.AutoSeq1.wpAny_loadPart' h1, PySem.AutoSeq1.wpAny_loadPart' h2, wpAny_forIn_list _ (fun rest st s' => st.1 = none ∧ s' = ⟨hp, g, d, tk, os⟩ ∧ rest = (Value.int i t :: xs).zip (Value.int j u :: ys)) _
    case turn =>
      rintro ⟨y, x⟩ rest st s' ⟨hn, rfl, hz⟩
      rw [List.zip_cons_cons] at hz
      obtain ⟨hyx, _⟩ := List.cons.inj hz
      obtain ⟨rfl, rfl⟩ := Prod.mk.inj hyx
      have ee : PySem.SeqAt.EqAt A.in1 ⟨hp, g, d, tk, os⟩ (.int i t) (.int j u) (i == j) := PySem.SeqAt.EqAt.int_int _ _ _ _
      rw [show (i == j) = false from beq_eq_false_iff_ne.mpr hne] at ee
      refine wpAny_bind (ee prog w _ _ ?_)
      have rr := Ob.RcOp.lt_int (A := A.in1) (s := ⟨hp, g, d, tk, os⟩) i j t u prog w
      wp_walk using rr
      exact ⟨_, rfl, by simpa using hR⟩
    case fin =>
      rintro ⟨b1, b2⟩ s' ⟨_, _, hz⟩
      cases hz
    case h => exact ⟨rfl, rfl, rfl⟩
/-- .. and above -/
theorem gt_first {l b : Addr} {i j : Int} {t u : Tok} {xs ys : List Value} {n n2 : Nat} {dd dd2 : Option Addr} {sl sl2 : Array (Option Value)} (hne : i ≠ j) : PySem.Meets (PySem.Builtin.«tuple.__gt__» ⟨[.ref l, .ref b], []⟩) fun A R s =>
    s.heap.get? l = some ⟨.type "tuple", dd, .seq (Value.int i t :: xs).toArray n, sl⟩ ∧ s.heap.get? b = some ⟨.type "tuple", dd2, .seq (Value.int j u :: ys).toArray n2, sl2⟩ ∧ R (.ok (.ret (.bool (decide (j < i))))) s :=
  .of_wp fun prog w A R s h => by
    obtain ⟨hp, g, d, tk, os⟩ := s
    obtain ⟨h1, h2, hR⟩ := h
    have tt := PySem.AutoSeq1.sub_tuple_tuple
    wp_walk using PySem.AutoSeq1.wpAny_loadPart' h1, PySem.AutoSeq1.wpAny_loadPart' h2, wpAny_forIn_list _ (fun rest st s' => st.1 = none ∧ s' = ⟨hp, g, d, tk, os⟩ ∧ rest = (Value.int i t :: xs).zip (Value.int j u :: ys)) _
    case turn =>
      rintro ⟨y, x⟩ rest st s' ⟨hn, rfl, hz⟩
      rw [List.zip_cons_cons] at hz
      obtain ⟨hyx, _⟩ := List.cons.inj hz
      obtain ⟨rfl, rfl⟩ := Prod.mk.inj hyx
      have ee : PySem.SeqAt.EqAt A.in1 ⟨hp, g, d, tk, os⟩ (.int i t) (.int j u) (i == j) := PySem.SeqAt.EqAt.int_int _ _ _ _
      rw [show (i == j) = false from beq_eq_false_iff_ne.mpr hne] at ee
      refine wpAny_bind (ee prog w _ _ ?_)
      have rr := Ob.RcOp.gt_int (A := A.in1) (s := ⟨hp, g, d, tk, os⟩) i j t u prog w
      wp_walk using rr
      exact ⟨_, rfl, by simpa using hR⟩
    case fin =>
      rintro ⟨b1, b2⟩ s' ⟨_, _, hz⟩
      cases hz
    case h => exact ⟨rfl, rfl, rfl⟩
/-- the order of two such rows of parts: by the first unlike part -/
inductive LtV : List V → List V → Bool → Prop
  | first {i j : Int} {xs ys : List V} (h : i ≠ j) : LtV (.int i :: xs) (.int j :: ys) (decide (i < j))
  | twoI (i m n : Int) : LtV [.int i, .int m] [.int i, .int n] (decide (m < n))
  | twoS (i : Int) (a b : Str) : LtV [.int i, .str a] [.int i, .str b] (decide (a.cps.toList < b.cps.toList))
  | oneI (i : Int) : LtV [.int i] [.int i] false
theorem eq_bl {α : Type} [DecidableEq α] [BEq α] [LawfulBEq α] (a b : α) : (a == b) = decide (a = b) := by
  by_cases h : a = b
  · rw [decide_eq_true h]
    exact beq_iff_eq.mpr h
  · rw [decide_eq_false h]
    exact beq_eq_false_iff_ne.mpr h
def rLtP (K : PySem.W.Frag) : R2 := fun x y H Q => ∃ (a b : Addr) (xs ys : List V) (r : Bool), x = .ref a ∧ y = .ref b ∧ SqT K H a xs ∧ SqT K H b ys ∧ LtV xs ys r ∧ Q (.bl r) H
def rGtP (K : PySem.W.Frag) : R2 := fun x y H Q => ∃ (a b : Addr) (xs ys : List V) (r : Bool), x = .ref a ∧ y = .ref b ∧ SqT K H a xs ∧ SqT K H b ys ∧ LtV ys xs r ∧ Q (.bl r) H
theorem op_ltP {X : Cx} (hu : X.A.units < cLine) : OpR X (compareOp .Lt) (rLtP X.K) := by
  intro pins s σ H x y v u Q I rx ry h
  obtain ⟨a, b, xs, ys, r, rfl, rfl, ha, hb, hl, q⟩ := h
  cases rx
  cases ry
  obtain ⟨its, r1, p1, _⟩ := I.tuple ha
  obtain ⟨its2, r2, p2, _⟩ := I.tuple hb
  cases hl with
  | @first i j xs ys hne =>
    cases r1 with
    | @cons _ u1 _ us1 ra rb =>
      cases r2 with
      | @cons _ u2 _ us2 ra2 rb2 =>
        obtain ⟨t1, rfl⟩ : ∃ t, u1 = Value.int i t := ra
        obtain ⟨t2, rfl⟩ : ∃ t, u2 = Value.int j t := ra2
        obtain ⟨⟨c1, dd, d1, sl⟩, ho, hc, n, hd⟩ := id p1
        obtain ⟨⟨c2, dd2, d2, sl2⟩, ho2, hc2, n2, hd2⟩ := id p2
        simp only at hc hd hc2 hd2
        subst hc hd hc2 hd2
        exact richCompare_meets_room (op := .Lt) ⟨_, ho, rfl⟩ ⟨_, ho2, rfl⟩ PySem.F.slot_tuple_lt PySem.F.entry_tuple_lt (PySem.F.args_tuple_lt_2 _ _) (lt_first hne) ⟨ho, ho2, (fun z => nomatch z), ⟨.bl _, H, I, rfl, q⟩⟩ hu
  | twoI i m n =>
    cases r1 with
    | @cons _ u1 _ us1 ra rb =>
      cases rb with
      | @cons _ u2 _ us2 rc rd =>
        cases rd
        cases r2 with
        | @cons _ w1 _ ws1 sa sb =>
          cases sb with
          | @cons _ w2 _ ws2 sc sd =>
            cases sd
            obtain ⟨t1, rfl⟩ : ∃ t, u1 = Value.int i t := ra
            obtain ⟨t2, rfl⟩ : ∃ t, w1 = Value.int i t := sa
            obtain ⟨t3, rfl⟩ : ∃ t, u2 = Value.int m t := rc
            obtain ⟨t4, rfl⟩ : ∃ t, w2 = Value.int n t := sc
            have R := Ob.RcOp.tuples_lt (A := X.A) (s := s) (e := fun j => if j = 0 then true else decide (m = n)) (r := fun _ => decide (m < n)) p1 p2 hu (fun j h1 h2 => by
              match j, h1, h2 with
              | 0, _, _ =>
                have e : PySem.SeqAt.EqAt X.A.in1 s (.int i t1) (.int i t2) (i == i) := PySem.SeqAt.EqAt.int_int _ _ _ _
                rw [beq_self_eq_true] at e
                exact e
              | 1, _, _ =>
                have e : PySem.SeqAt.EqAt X.A.in1 s (.int m t3) (.int n t4) (m == n) := PySem.SeqAt.EqAt.int_int _ _ _ _
                rw [eq_bl] at e
                exact e
              | j + 2, h, _ => exact absurd h (by show ¬ (j + 2 < 2); omega)) (fun j h1 h2 he => by
              match j, h1, h2, he with
              | 0, _, _, he => exact absurd he (by simp)
              | 1, _, _, _ => exact Ob.RcOp.lt_int _ _ _ _
              | j + 2, h, _, _ => exact absurd h (by show ¬ (j + 2 < 2); omega))
            have z : Ob.lexAt (fun j => if j = 0 then true else decide (m = n)) (fun _ => decide (m < n)) (decide (2 < 2)) 0 (min 2 2) = decide (m < n) := by
              show (if (if (0 : Nat) = 0 then true else decide (m = n)) = true then (if (if (1 : Nat) = 0 then true else decide (m = n)) = true then (decide (2 < 2)) else decide (m < n)) else decide (m < n)) = decide (m < n)
              by_cases h : m = n
              · subst h
                simp
              · simp [h]
            have z2 : EP X pins σ Q (Value.bool _) s := ⟨.bl _, H, I, rfl, q⟩
            rw [← z] at z2
            exact R X.prog X.w X.xe (EP X pins σ Q) z2
  | twoS i a b =>
    cases r1 with
    | @cons _ u1 _ us1 ra rb =>
      cases rb with
      | @cons _ u2 _ us2 rc rd =>
        cases rd
        cases r2 with
        | @cons _ w1 _ ws1 sa sb =>
          cases sb with
          | @cons _ w2 _ ws2 sc sd =>
            cases sd
            obtain ⟨t1, rfl⟩ : ∃ t, u1 = Value.int i t := ra
            obtain ⟨t2, rfl⟩ : ∃ t, w1 = Value.int i t := sa
            obtain ⟨t3, rfl⟩ : ∃ t, u2 = Value.str a t := rc
            obtain ⟨t4, rfl⟩ : ∃ t, w2 = Value.str b t := sc
            have R := Ob.RcOp.tuples_lt (A := X.A) (s := s) (e := fun j => if j = 0 then true else decide (a = b)) (r := fun _ => decide (a.cps.toList < b.cps.toList)) p1 p2 hu (fun j h1 h2 => by
              match j, h1, h2 with
              | 0, _, _ =>
                have e : PySem.SeqAt.EqAt X.A.in1 s (.int i t1) (.int i t2) (i == i) := PySem.SeqAt.EqAt.int_int _ _ _ _
                rw [beq_self_eq_true] at e
                exact e
              | 1, _, _ =>
                have e : PySem.SeqAt.EqAt X.A.in1 s (.str a t3) (.str b t4) (a == b) := PySem.SeqAt.EqAt.str_str _ _ _ _
                rw [eq_bl] at e
                exact e
              | j + 2, h, _ => exact absurd h (by show ¬ (j + 2 < 2); omega)) (fun j h1 h2 he => by
              match j, h1, h2, he with
              | 0, _, _, he => exact absurd he (by simp)
              | 1, _, _, _ => exact fun _ _ _ _ h => PyProof.Rows.lt_str h
              | j + 2, h, _, _ => exact absurd h (by show ¬ (j + 2 < 2); omega))
            have z : Ob.lexAt (fun j => if j = 0 then true else decide (a = b)) (fun _ => decide (a.cps.toList < b.cps.toList)) (decide (2 < 2)) 0 (min 2 2) = decide (a.cps.toList < b.cps.toList) := by
              show (if (if (0 : Nat) = 0 then true else decide (a = b)) = true then (if (if (1 : Nat) = 0 then true else decide (a = b)) = true then (decide (2 < 2)) else decide (a.cps.toList < b.cps.toList)) else decide (a.cps.toList < b.cps.toList)) = decide (a.cps.toList < b.cps.toList)
              by_cases h : a = b
              · subst h
                simp [List.lt_irrefl]
              · simp [h]
            have z2 : EP X pins σ Q (Value.bool _) s := ⟨.bl _, H, I, rfl, q⟩
            rw [← z] at z2
            exact R X.prog X.w X.xe (EP X pins σ Q) z2
  | oneI i =>
    cases r1 with
    | @cons _ u1 _ us1 ra rb =>
      cases rb
      cases r2 with
      | @cons _ w1 _ ws1 sa sb =>
        cases sb
        obtain ⟨t1, rfl⟩ : ∃ t, u1 = Value.int i t := ra
        obtain ⟨t2, rfl⟩ : ∃ t, w1 = Value.int i t := sa
        have R := Ob.RcOp.tuples_lt (A := X.A) (s := s) (e := fun _ => true) (r := fun _ => false) p1 p2 hu (fun j h1 h2 => by
          match j, h1, h2 with
          | 0, _, _ =>
            have e : PySem.SeqAt.EqAt X.A.in1 s (.int i t1) (.int i t2) (i == i) := PySem.SeqAt.EqAt.int_int _ _ _ _
            rw [beq_self_eq_true] at e
            exact e
          | j + 1, h, _ => exact absurd h (by show ¬ (j + 1 < 1); omega)) (fun j h1 h2 he => by cases he)
        exact R X.prog X.w X.xe (EP X pins σ Q) ⟨.bl _, H, I, rfl, q⟩
theorem op_gtP {X : Cx} (hu : X.A.units < cLine) : OpR X (compareOp .Gt) (rGtP X.K) := by
  intro pins s σ H x y v u Q I rx ry h
  obtain ⟨a, b, xs, ys, r, rfl, rfl, ha, hb, hl, q⟩ := h
  cases rx
  cases ry
  obtain ⟨its, r1, p1, _⟩ := I.tuple ha
  obtain ⟨its2, r2, p2, _⟩ := I.tuple hb
  cases hl with
  | @first i j xs ys hne =>
    cases r2 with
    | @cons _ u1 _ us1 ra rb =>
      cases r1 with
      | @cons _ u2 _ us2 ra2 rb2 =>
        obtain ⟨t1, rfl⟩ : ∃ t, u1 = Value.int i t := ra
        obtain ⟨t2, rfl⟩ : ∃ t, u2 = Value.int j t := ra2
        obtain ⟨⟨c1, dd, d1, sl⟩, ho, hc, n, hd⟩ := id p1
        obtain ⟨⟨c2, dd2, d2, sl2⟩, ho2, hc2, n2, hd2⟩ := id p2
        simp only at hc hd hc2 hd2
        subst hc hd hc2 hd2
        exact richCompare_meets_room (op := .Gt) ⟨_, ho, rfl⟩ ⟨_, ho2, rfl⟩ PySem.F.slot_tuple_gt PySem.F.entry_tuple_gt (PySem.F.args_tuple_gt_2 _ _) (gt_first (Ne.symm hne)) ⟨ho, ho2, (fun z => nomatch z), ⟨.bl _, H, I, rfl, q⟩⟩ hu
  | twoI i m n =>
    cases r1 with
    | @cons _ u1 _ us1 ra rb =>
      cases rb with
      | @cons _ u2 _ us2 rc rd =>
        cases rd
        cases r2 with
        | @cons _ w1 _ ws1 sa sb =>
          cases sb with
          | @cons _ w2 _ ws2 sc sd =>
            cases sd
            obtain ⟨t1, rfl⟩ : ∃ t, u1 = Value.int i t := ra
            obtain ⟨t2, rfl⟩ : ∃ t, w1 = Value.int i t := sa
            obtain ⟨t3, rfl⟩ : ∃ t, u2 = Value.int n t := rc
            obtain ⟨t4, rfl⟩ : ∃ t, w2 = Value.int m t := sc
            have R := Ob.RcOp.tuples_gt (A := X.A) (s := s) (e := fun j => if j = 0 then true else decide (n = m)) (r := fun _ => decide (m < n)) p1 p2 hu (fun j h1 h2 => by
              match j, h1, h2 with
              | 0, _, _ =>
                have e : PySem.SeqAt.EqAt X.A.in1 s (.int i t1) (.int i t2) (i == i) := PySem.SeqAt.EqAt.int_int _ _ _ _
                rw [beq_self_eq_true] at e
                exact e
              | 1, _, _ =>
                have e : PySem.SeqAt.EqAt X.A.in1 s (.int n t3) (.int m t4) (n == m) := PySem.SeqAt.EqAt.int_int _ _ _ _
                rw [eq_bl] at e
                exact e
              | j + 2, h, _ => exact absurd h (by show ¬ (j + 2 < 2); omega)) (fun j h1 h2 he => by
              match j, h1, h2, he with
              | 0, _, _, he => exact absurd he (by simp)
              | 1, _, _, _ => exact Ob.RcOp.gt_int _ _ _ _
              | j + 2, h, _, _ => exact absurd h (by show ¬ (j + 2 < 2); omega))
            have z : Ob.lexAt (fun j => if j = 0 then true else decide (n = m)) (fun _ => decide (m < n)) (decide (2 > 2)) 0 (min 2 2) = decide (m < n) := by
              show (if (if (0 : Nat) = 0 then true else decide (n = m)) = true then (if (if (1 : Nat) = 0 then true else decide (n = m)) = true then (decide (2 > 2)) else decide (m < n)) else decide (m < n)) = decide (m < n)
              by_cases h : n = m
              · subst h
                simp
              · simp [h]
            have z2 : EP X pins σ Q (Value.bool _) s := ⟨.bl _, H, I, rfl, q⟩
            rw [← z] at z2
            exact R X.prog X.w X.xe (EP X pins σ Q) z2
  | twoS i a b =>
    cases r1 with
    | @cons _ u1 _ us1 ra rb =>
      cases rb with
      | @cons _ u2 _ us2 rc rd =>
        cases rd
        cases r2 with
        | @cons _ w1 _ ws1 sa sb =>
          cases sb with
          | @cons _ w2 _ ws2 sc sd =>
            cases sd
            obtain ⟨t1, rfl⟩ : ∃ t, u1 = Value.int i t := ra
            obtain ⟨t2, rfl⟩ : ∃ t, w1 = Value.int i t := sa
            obtain ⟨t3, rfl⟩ : ∃ t, u2 = Value.str b t := rc
            obtain ⟨t4, rfl⟩ : ∃ t, w2 = Value.str a t := sc
            have R := Ob.RcOp.tuples_gt (A := X.A) (s := s) (e := fun j => if j = 0 then true else decide (b = a)) (r := fun _ => decide (a.cps.toList < b.cps.toList)) p1 p2 hu (fun j h1 h2 => by
              match j, h1, h2 with
              | 0, _, _ =>
                have e : PySem.SeqAt.EqAt X.A.in1 s (.int i t1) (.int i t2) (i == i) := PySem.SeqAt.EqAt.int_int _ _ _ _
                rw [beq_self_eq_true] at e
                exact e
              | 1, _, _ =>
                have e : PySem.SeqAt.EqAt X.A.in1 s (.str b t3) (.str a t4) (b == a) := PySem.SeqAt.EqAt.str_str _ _ _ _
                rw [eq_bl] at e
                exact e
              | j + 2, h, _ => exact absurd h (by show ¬ (j + 2 < 2); omega)) (fun j h1 h2 he => by
              match j, h1, h2, he with
              | 0, _, _, he => exact absurd he (by simp)
              | 1, _, _, _ => exact fun _ _ _ _ h => PySem.P.gt_str h
              | j + 2, h, _, _ => exact absurd h (by show ¬ (j + 2 < 2); omega))
            have z : Ob.lexAt (fun j => if j = 0 then true else decide (b = a)) (fun _ => decide (a.cps.toList < b.cps.toList)) (decide (2 > 2)) 0 (min 2 2) = decide (a.cps.toList < b.cps.toList) := by
              show (if (if (0 : Nat) = 0 then true else decide (b = a)) = true then (if (if (1 : Nat) = 0 then true else decide (b = a)) = true then (decide (2 > 2)) else decide (a.cps.toList < b.cps.toList)) else decide (a.cps.toList < b.cps.toList)) = decide (a.cps.toList < b.cps.toList)
              by_cases h : b = a
              · subst h
                simp [List.lt_irrefl]
              · simp [h]
            have z2 : EP X pins σ Q (Value.bool _) s := ⟨.bl _, H, I, rfl, q⟩
            rw [← z] at z2
            exact R X.prog X.w X.xe (EP X pins σ Q) z2
  | oneI i =>
    cases r1 with
    | @cons _ u1 _ us1 ra rb =>
      cases rb
      cases r2 with
      | @cons _ w1 _ ws1 sa sb =>
        cases sb
        obtain ⟨t1, rfl⟩ : ∃ t, u1 = Value.int i t := ra
        obtain ⟨t2, rfl⟩ : ∃ t, w1 = Value.int i t := sa
        have R := Ob.RcOp.tuples_gt (A := X.A) (s := s) (e := fun _ => true) (r := fun _ => false) p1 p2 hu (fun j h1 h2 => by
          match j, h1, h2 with
          | 0, _, _ =>
            have e : PySem.SeqAt.EqAt X.A.in1 s (.int i t1) (.int i t2) (i == i) := PySem.SeqAt.EqAt.int_int _ _ _ _
            rw [beq_self_eq_true] at e
            exact e
          | j + 1, h, _ => exact absurd h (by show ¬ (j + 1 < 1); omega)) (fun j h1 h2 he => by cases he)
        exact R X.prog X.w X.xe (EP X pins σ Q) ⟨.bl _, H, I, rfl, q⟩
/-- a dict of the written part -/
def KD (K : PySem.W.Frag) (w : World) (a : Addr) : Prop := ∃ es n, K.lookup a = some ⟨.type "dict", none, .dict es n, #[]⟩ ∧ PySem.W.KeysLit w.params es.toList ∧ (a == sysModules) = false
/-- its answer to a text -/
def KGet (K : PySem.W.Frag) (w : World) (a : Addr) (k : Str) (r : Option V) : Prop := KD K w a ∧ ∃ ro, PySem.W.nsIn K a k = some ro ∧ RelO r ro
theorem kget_call {P : Program} {w : World} {A : Around} {E : Value → Shared → Prop} {X : Cx} {pins : List (Addr × Obj)} {σ : L2.St} {H : Hp} {s : Shared} {a : Addr} {k : Str} {t : Tok} {r : Option V} {d : V} {dv : Value} {Q : Value → Shared → Prop} (I : L2.Inv X pins σ H s) (g : KGet X.K X.w a k r) (rd : RelV d dv)
    (h : ∀ w' s', L2.Inv X pins σ H s' → RelV (r.getD d) w' → Q w' s') : wpAny (model X.prog X.w) A (call (.builtin "dict.get") [.ref a, .str k t, dv]) Q E s := by
  obtain ⟨⟨es, n, hl, hk, hd⟩, ro, e, rr⟩ := g
  have hm := PySem.W.mapOf_K (prog := X.prog) (w := X.w) I.kIn hl hk
  refine call_meetsIn PySem.F.slot_dict_get hm.typeIs PySem.F.entry_dict_get (PySem.F.args_dict_get_3 _ _ _) (meets_dict_get_default (strKind X.prog X.w) a (strKind_is X.prog X.w k t) hd dv) ⟨_, hm, h _ _ (I.tok _) ?_⟩
  show RelV _ (((PySem.findBy Value.isStrOf es k)).getD dv)
  rw [PySem.W.find_K hl e]
  exact rr.getD rd
def tKGet2 (K : PySem.W.Frag) (w : World) (td ty tx : TE) : TE := fun σ H Q => td σ H fun x H1 => ∃ a, x = .ref a ∧ KD K w a ∧ ty σ H1 fun y H2 => tx σ H2 fun z H3 => ∃ k r, y = .str k ∧ KGet K w a k r ∧ Q (r.getD z) H3
theorem pe_kget2 {X : Cx} {o e f : Expr} {td ty tx : TE} {apos cpos : Pos} (ho : PE X o td) (he : PE X e ty) (hf : PE X f tx) (m : M2 X o "get" apos e f cpos) : PE X (.Call (.Attribute o "get" apos) [e, f] [] cpos) (tKGet2 X.K X.w td ty tx) := by
  refine ⟨fun pins s σ H Q I h => ?_⟩
  refine wpAny_Call_method m.base m.few m.line PySem.F.plainAttrs_dict PySem.F.slot_dict_get PySem.F.type_dict_get (thn (ho.run pins s σ H _ I h) fun u s1 hu => ?_)
  obtain ⟨x, H1, I1, rx, a, rfl, ⟨es, n, hl, hk, hd⟩, q1⟩ := hu
  obtain rfl : u = Value.ref a := rx
  have hm := PySem.W.mapOf_K (prog := X.prog) (w := X.w) I1.kIn hl hk
  refine ⟨hm.typeIs, fun b eb => ⟨_, (by cases eb; exact I1.kIn _ _ hl), rfl⟩, ?_⟩
  rw [m.trees]
  refine Calls.callWith_builtin rfl (Calls.evalArgs_plain (Calls.spliced_cons (thn (he.run pins s1 σ H1 _ I1 q1) fun iv s2 h2 => ?_)))
  obtain ⟨y, H2, I2, ry, q2⟩ := h2
  refine Calls.spliced_cons (thn (hf.run pins s2 σ H2 _ I2 q2) fun fv s3 h3 => Calls.spliced_nil ?_)
  obtain ⟨z, H3, I3, rz, k, r, rfl, g, q3⟩ := h3
  obtain ⟨t, rfl⟩ : ∃ t, iv = Value.str k t := ry
  exact kget_call (P := X.prog) (w := X.w) I3 g rz fun w' s4 I4 rw' => ⟨_, H3, I4, rw', q3⟩
/-- > and < of two ints or two texts -/
def rStp (f : Int → Int → Bool) (g : List Nat → List Nat → Bool) : R2 := fun x y H Q => (∃ i j, x = .int i ∧ y = .int j ∧ Q (.bl (f i j)) H) ∨ ∃ a b, x = .str a ∧ y = .str b ∧ Q (.bl (g a.cps.toList b.cps.toList)) H
theorem op_gtG {X : Cx} : OpR X (compareOp .Gt) (rStp (fun i j => decide (j < i)) fun a b => decide (b < a)) := by
  intro pins s σ H x y v u Q I rx ry h
  rcases h with ⟨i, j, rfl, rfl, q⟩ | ⟨a, b, rfl, rfl, q⟩
  · exact op_gt pins s σ H _ _ v u Q I rx ry ⟨i, j, rfl, rfl, q⟩
  · exact op_gt_str pins s σ H _ _ v u Q I rx ry ⟨a, b, rfl, rfl, q⟩
theorem op_ltG {X : Cx} : OpR X (compareOp .Lt) (rStp (fun i j => decide (i < j)) fun a b => decide (a < b)) := by
  intro pins s σ H x y v u Q I rx ry h
  rcases h with ⟨i, j, rfl, rfl, q⟩ | ⟨a, b, rfl, rfl, q⟩
  · exact op_lt pins s σ H _ _ v u Q I rx ry ⟨i, j, rfl, rfl, q⟩
  · exact op_lt_str pins s σ H _ _ v u Q I rx ry ⟨a, b, rfl, rfl, q⟩
/-- a tuple whose object is known -/
def tTupF (ta : TA) : TE := fun σ H Q => ta σ H fun xs H1 => xs.length ≤ sizeLine ∧ ∀ (p : Addr) (ob : Obj), H1 p = none → ob.cls = .type "tuple" ∧ ob.dict = none → Q (.ref p) (upd H1 p (.frz ob (.tup xs)))
theorem pe_tupF {X : Cx} {es : List Expr} {ta : TA} {c : Nat} {pos : Pos} (h : PA X es ta) : PE X (.Tuple es c pos) (tTupF ta) := by
  refine ⟨fun pins s σ H Q I hq => ?_⟩
  refine wpAny_Tuple_spliced (thn (h.run pos pins s σ H _ I hq) fun us s1 hu => ?_)
  obtain ⟨xs, H1, I1, rv, hz, q⟩ := hu
  refine ⟨by rw [← rv.length]; exact hz, ?_⟩
  have n0 : H1 s1.heap.objs.size = none := I1.hok.fresh (Nat.le_refl _)
  refine ⟨.ref s1.heap.objs.size, upd H1 s1.heap.objs.size (.frz (PySem.W.kdv_tup us) (.tup xs)), ?_, rfl, q _ (PySem.W.kdv_tup us) n0 ⟨rfl, rfl⟩⟩
  refine I1.laid (t' := s1.toks) (fun _ _ e => Heap.get?_push_of_some _ e) (Nat.le_refl _) ?_
  exact ⟨Heap.get?_push_size _ rfl, hz, us, rv, ⟨_, Heap.get?_push_size _ rfl, rfl, _, rfl⟩⟩
def rTix (K : PySem.W.Frag) : V → List V → Hp → VK → Prop := fun x xs H Q => ∃ p, ∃ ys : List Str, ∃ z j, x = .ref p ∧ xs = [.str z] ∧ SqT K H p (ys.map V.str) ∧ ys[j]? = some z ∧ (∀ m, m < j → ys[m]? ≠ some z) ∧ Q (.int (j : Nat)) H
def tTix (K : PySem.W.Frag) (td ty : TE) : TE := fun σ H Q => td σ H fun x H1 => ∃ (p : Addr) (ob : Obj) (u : HO), x = .ref p ∧ H1 p = some (.frz ob u) ∧ (ob.cls = .type "tuple" ∧ ob.dict = none) ∧ ty σ H1 fun y H2 => rTix K x [y] H2 Q
theorem pe_tix {X : Cx} {o e : Expr} {td ty : TE} {apos cpos : Pos} (ho : PE X o td) (he : PE X e ty) (m : M1 X o "index" apos e cpos) : PE X (.Call (.Attribute o "index" apos) [e] [] cpos) (tTix X.K td ty) := by
  refine ⟨fun pins s σ H Q I h => ?_⟩
  refine wpAny_Call_method m.base m.few m.line PySem.F.plainAttrs_tuple PySem.F.slot_tuple_index PySem.F.type_tuple_index (thn (ho.run pins s σ H _ I h) fun u s1 hu => ?_)
  obtain ⟨x, H1, I1, rx, p, ob, w, rfl, hp, ⟨hc, hd⟩, q1⟩ := hu
  obtain rfl : u = Value.ref p := rx
  have hg : s1.heap.get? p = some ob := (I1.hok p _ hp).1
  refine ⟨⟨ob, hg, hc⟩, fun b eb => ⟨ob, (by cases eb; exact hg), hd⟩, ?_⟩
  rw [m.trees]
  refine Calls.callWith_builtin rfl (Calls.evalArgs_plain (Calls.spliced_cons (thn (he.run pins s1 σ H1 _ I1 q1) fun iv s2 h2 => Calls.spliced_nil ?_)))
  obtain ⟨y, H2, I2, ry, q2⟩ := h2
  exact mt_tup_index pins s2 σ H2 (.ref p) [y] (.ref p) [iv] Q I2 rfl (.cons ry .nil) q2

/-- a scalar by its kind, an error by its number -/
inductive S8 where
  | emp | num (m : Int) | tru (b : Bool) | txt (z : Str) | err (n : Nat)
def WL : List Str := ["DIV", "VALUE", "REF", "NAME", "NUM", "NA", "CALC", "SIZE", "LIMIT", "CIRC"]
def WD (n : Nat) : Str := WL.getD n ""
def b2i (b : Bool) : Int := if b = true then 1 else 0
def S8.vs : S8 → List V
  | .emp => [.str "empty"]
  | .num m => [.str "number", .int m]
  | .tru b => [.str "truth", .bl b]
  | .txt z => [.str "text", .str z]
  | .err n => [.str "error", .str (WD n)]
def KN : S8 → Str
  | .emp => "empty" | .num _ => "number" | .tru _ => "truth" | .txt _ => "text" | .err _ => "error"
def S8.ok (k : Nat) : S8 → Prop
  | .num m => -1000000000000000000000 < m ∧ m < 1000000000000000000000
  | .txt z => z.length ≤ k ∧ Asc z
  | .err n => n < 10
  | _ => True
def S8.key : S8 → List V
  | .num m => [.int 0, .int m]
  | .txt z => [.int 1, .str (Txt.upper z), .str z]
  | .tru b => [.int 2, .int (b2i b)]
  | .err n => [.int 3, .int (n : Nat)]
  | .emp => [.int 4]
def S8.rk : S8 → Int
  | .num _ => 0 | .txt _ => 1 | .tru _ => 2 | .err _ => 3 | .emp => 4
def stepI (i j : Int) : Int := (if decide (j < i) = true then 1 else 0) - (if decide (i < j) = true then 1 else 0)
def stepS (a b : Str) : Int := (if decide (b.cps.toList < a.cps.toList) = true then 1 else 0) - (if decide (a.cps.toList < b.cps.toList) = true then 1 else 0)
def same8 : S8 → S8 → Int
  | .num m, .num n => stepI m n
  | .txt a, .txt b => if Txt.upper a = Txt.upper b then stepS a b else stepS (Txt.upper a) (Txt.upper b)
  | .tru a, .tru b => stepI (b2i a) (b2i b)
  | .err i, .err j => stepI (i : Nat) (j : Nat)
  | _, _ => 0
def ord8 (s t : S8) : Int := if s.rk = t.rk then same8 s t else stepI s.rk t.rk
def bes : S8 → S8 → S8
  | .emp, .num _ => .num 0
  | .emp, .txt _ => .txt ""
  | .emp, .tru _ => .tru false
  | s, _ => s
def ltb (s t : S8) : Bool := if s.rk = t.rk then (match s, t with
  | .num m, .num n => decide (m < n)
  | .txt a, .txt b => decide ((Txt.upper a).cps.toList < (Txt.upper b).cps.toList)
  | .tru a, .tru b => decide (b2i a < b2i b)
  | .err i, .err j => decide (((i : Nat) : Int) < ((j : Nat) : Int))
  | _, _ => false) else decide (s.rk < t.rk)
def cmp8 (s t : S8) : Int := if ltb (bes s t) (bes t s) = true then -1 else if ltb (bes t s) (bes s t) = true then 1 else 0
def cm (l r : S8) : Int := if ltb l r = true then -1 else if ltb r l = true then 1 else 0
def ris (s t : S8) : Bool := decide (ord8 s t = -1) || decide (ord8 s t = 0)
theorem S8.ok.mono {s : S8} {i j : Nat} (h : s.ok i) (k : i ≤ j) : s.ok j := by
  rcases s with _ | m | b | z | n
  · trivial
  · exact h
  · trivial
  · exact ⟨Nat.le_trans h.1 k, h.2⟩
  · exact h
theorem wl_at : ∀ n, n < 10 → WL[n]? = some (WD n) := by decide +kernel
theorem wl_no : ∀ n, n < 10 → ∀ m, m < n → WL[m]? ≠ some (WD n) := by decide +kernel
theorem wds_wl : WDS = WL.map V.str := rfl
theorem wds_err {v : V} (h : v ∈ WDS) : ∃ n, n < 10 ∧ v = .str (WD n) := by
  rw [wds_wl] at h
  obtain ⟨z, hz, rfl⟩ := List.mem_map.mp h
  obtain ⟨n, hn, e⟩ := List.mem_iff_getElem.mp hz
  refine ⟨n, hn, ?_⟩
  have := wl_at n hn
  rw [List.getElem?_eq_getElem hn, e] at this
  exact congrArg V.str (Option.some.inj this)
theorem WD_ascii : ∀ n, n < 10 → (tl (WD n)).all (· < 128) = true := by decide +kernel
theorem idx_no {ys : List V} {y : V} {j : Nat} (h : ((ys.take j).all fun z => !eqV z y) = true) : ∀ (m : Nat) (z' : V), m < j → ys[m]? = some z' → eqV z' y = false := fun m z' hm e => by
  have e2 : (ys.take j)[m]? = some z' := by rw [List.getElem?_take, if_pos hm]; exact e
  have := List.all_eq_true.mp h z' (List.mem_of_getElem? e2)
  simpa using this
theorem stepI_self (i : Int) : stepI i i = 0 := by
  unfold stepI
  rw [decide_eq_false (Int.lt_irrefl i)]
  rfl
theorem stepI_lt {i j : Int} (h : i < j) : stepI i j = -1 := by
  unfold stepI
  rw [decide_eq_false (by omega), decide_eq_true h]
  rfl
theorem stepI_gt {i j : Int} (h : j < i) : stepI i j = 1 := by
  unfold stepI
  rw [decide_eq_true h, decide_eq_false (by omega)]
  rfl
theorem stepI_ne {i j : Int} (h : i ≠ j) : stepI i j ≠ 0 := by
  rcases Int.lt_or_gt_of_ne h with k | k
  · rw [stepI_lt k]
    decide
  · rw [stepI_gt k]
    decide
theorem stepI_neg (i j : Int) : stepI j i = - stepI i j := by
  unfold stepI
  omega
theorem stepS_neg (a b : Str) : stepS b a = - stepS a b := by
  unfold stepS
  omega
theorem stepS_self (a : Str) : stepS a a = 0 := by
  unfold stepS
  rw [decide_eq_false (List.lt_irrefl _)]
  rfl
theorem str_tri {a b : Str} (h : a ≠ b) : a.cps.toList < b.cps.toList ∨ b.cps.toList < a.cps.toList := by
  by_cases c : a.cps.toList < b.cps.toList
  · exact Or.inl c
  · by_cases d : b.cps.toList < a.cps.toList
    · exact Or.inr d
    · exact absurd (ext_tl (List.le_antisymm (List.not_lt.mp d) (List.not_lt.mp c))) h
theorem stepS_lt {a b : Str} (h : a.cps.toList < b.cps.toList) : stepS a b = -1 := by
  unfold stepS
  rw [decide_eq_false (fun z => List.lt_irrefl _ (List.lt_trans h z)), decide_eq_true h]
  rfl
theorem stepS_gt {a b : Str} (h : b.cps.toList < a.cps.toList) : stepS a b = 1 := by
  unfold stepS
  rw [decide_eq_true h, decide_eq_false (fun z => List.lt_irrefl _ (List.lt_trans h z))]
  rfl
theorem stepS_ne {a b : Str} (h : a ≠ b) : stepS a b ≠ 0 := by
  rcases str_tri h with k | k
  · rw [stepS_lt k]
    decide
  · rw [stepS_gt k]
    decide
theorem ord_ne {s t : S8} (h : s.rk ≠ t.rk) : ord8 s t = stepI s.rk t.rk := if_neg h
theorem ord_eq {s t : S8} (h : s.rk = t.rk) : ord8 s t = same8 s t := if_pos h
def S8.key2 : S8 → List V
  | .num m => [.int 0, .int m]
  | .txt z => [.int 1, .str (Txt.upper z)]
  | .tru b => [.int 2, .int (b2i b)]
  | .err n => [.int 3, .int (n : Nat)]
  | .emp => [.int 4]
theorem ltb_ne {s t : S8} (h : s.rk ≠ t.rk) : ltb s t = decide (s.rk < t.rk) := if_neg h
theorem key2_rk (s : S8) : ∃ r, s.key2 = .int s.rk :: r := by
  rcases s with _ | m | b | z | n
  all_goals exact ⟨_, rfl⟩
theorem lt2 (s t : S8) : LtV s.key2 t.key2 (ltb s t) := by
  by_cases h : s.rk = t.rk
  · rcases s with _ | m | b | z | n <;> rcases t with _ | m2 | b2 | z2 | n2
    all_goals first
      | exact LtV.twoI _ _ _
      | exact LtV.twoS _ _ _
      | exact LtV.oneI _
      | (exfalso; simp [S8.rk] at h; done)
  · obtain ⟨r1, e1⟩ := key2_rk s
    obtain ⟨r2, e2⟩ := key2_rk t
    rw [e1, e2, ltb_ne h]
    exact LtV.first h
theorem stepI_if (i j : Int) : (if decide (i < j) = true then (-1 : Int) else if decide (j < i) = true then 1 else 0) = stepI i j := by
  rcases Int.lt_trichotomy i j with h | h | h
  · rw [if_pos (decide_eq_true h), stepI_lt h]
  · subst h
    rw [decide_eq_false (Int.lt_irrefl i), stepI_self]
    rfl
  · rw [decide_eq_false (show ¬ i < j by omega), decide_eq_true h, stepI_gt h]
    rfl
theorem stepS_if (a b : Str) : (if decide (a.cps.toList < b.cps.toList) = true then (-1 : Int) else if decide (b.cps.toList < a.cps.toList) = true then 1 else 0) = stepS a b := by
  by_cases h : a.cps.toList < b.cps.toList
  · rw [if_pos (decide_eq_true h), stepS_lt h]
  · by_cases k : b.cps.toList < a.cps.toList
    · rw [decide_eq_false h, decide_eq_true k, stepS_gt k]
      rfl
    · have e : a = b := Decidable.byContradiction fun z => (str_tri z).elim h k
      subst e
      rw [decide_eq_false h, stepS_self]
      rfl
theorem cm_txt (a b : Str) : cm (.txt a) (.txt b) = stepS (Txt.upper a) (Txt.upper b) := stepS_if _ _
theorem cm_ne {l r : S8} (h : l.rk ≠ r.rk) : cm l r = stepI l.rk r.rk := by
  unfold cm
  rw [ltb_ne h, ltb_ne (Ne.symm h)]
  exact stepI_if _ _
def S8.isT : S8 → Bool
  | .txt _ => true
  | _ => false
theorem cm_ord {l r : S8} (h : ¬ (l.isT = true ∧ r.isT = true)) : cm l r = ord8 l r := by
  by_cases e : l.rk = r.rk
  · rw [ord_eq e]
    rcases l with _ | m | b | z | n <;> rcases r with _ | m2 | b2 | z2 | n2
    all_goals first
      | (exfalso; simp [S8.rk] at e; done)
      | exact stepI_if _ _
      | rfl
      | exact absurd ⟨rfl, rfl⟩ h
  · rw [ord_ne e, cm_ne e]
theorem same8_neg (s t : S8) : same8 t s = - same8 s t := by
  rcases s with _ | m | b | z | n <;> rcases t with _ | m2 | b2 | z2 | n2
  all_goals first
    | rfl
    | exact stepI_neg _ _
    | skip
  show (if Txt.upper z2 = Txt.upper z then stepS z2 z else stepS (Txt.upper z2) (Txt.upper z)) = - (if Txt.upper z = Txt.upper z2 then stepS z z2 else stepS (Txt.upper z) (Txt.upper z2))
  by_cases h : Txt.upper z = Txt.upper z2
  · rw [if_pos h, if_pos h.symm]
    exact stepS_neg _ _
  · rw [if_neg h, if_neg (Ne.symm h)]
    exact stepS_neg _ _
theorem ord_neg (s t : S8) : ord8 t s = - ord8 s t := by
  by_cases e : s.rk = t.rk
  · rw [ord_eq e, ord_eq e.symm]
    exact same8_neg s t
  · rw [ord_ne e, ord_ne (Ne.symm e)]
    exact stepI_neg _ _
theorem cm_neg (l r : S8) : cm r l = - cm l r := by
  by_cases h : l.isT = true ∧ r.isT = true
  · rcases l with _ | m | b | z | n <;> rcases r with _ | m2 | b2 | z2 | n2
    all_goals first
      | (rw [cm_txt, cm_txt]; exact stepS_neg _ _)
      | (exfalso; simp [S8.isT] at h; done)
  · rw [cm_ord h, cm_ord (fun z => h ⟨z.2, z.1⟩)]
    exact ord_neg _ _
theorem cmp8_neg (s t : S8) : cmp8 t s = - cmp8 s t := cm_neg (bes s t) (bes t s)
theorem key_len (s : S8) : 1 ≤ s.key.length ∧ s.key.length ≤ 3 := by
  rcases s with _ | m | b | z | n
  all_goals exact ⟨Nat.le_of_ble_eq_true rfl, Nat.le_of_ble_eq_true rfl⟩
theorem key_rk (s : S8) : ∃ r, s.key = .int s.rk :: r := by
  rcases s with _ | m | b | z | n
  all_goals exact ⟨_, rfl⟩
theorem stepI_zero {i j : Int} (h : stepI i j = 0) : i = j := Decidable.byContradiction fun z => stepI_ne z h
theorem stepS_zero {a b : Str} (h : stepS a b = 0) : a = b := Decidable.byContradiction fun z => stepS_ne z h
theorem ne_len {z : Str} (h : ¬ V.str z = V.str (Str.ofString "")) : 0 < z.length := by
  rcases Nat.eq_zero_or_pos z.length with e | e
  · exact absurd (congrArg V.str (ext_tl (by rw [show tl z = [] from List.eq_nil_of_length_eq_zero (by rw [← len_tl]; exact e)]; decide +kernel))) h
  · exact e
theorem same_txt_ne {a b : Str} (h : ¬ Txt.upper a = Txt.upper b) : same8 (.txt a) (.txt b) = stepS (Txt.upper a) (Txt.upper b) := if_neg h
theorem same_txt_eq {a b : Str} (h : Txt.upper a = Txt.upper b) : same8 (.txt a) (.txt b) = stepS a b := if_pos h
theorem in_ris (s t : S8) : inV (.int (ord8 s t)) [.int (-1), .int 0] = ris s t := by
  unfold inV ris
  rw [List.any_cons, List.any_cons, List.any_nil, Bool.or_false]
  show ((-1 : Int) == ord8 s t || (0 : Int) == ord8 s t) = _
  rw [eq_bl, eq_bl]
  congr 1
  · exact decide_eq_decide.mpr ⟨Eq.symm, Eq.symm⟩
  · exact decide_eq_decide.mpr ⟨Eq.symm, Eq.symm⟩
theorem stepI_le {i j : Int} : stepI i j ≤ 0 ↔ i ≤ j := by
  rcases Int.lt_trichotomy i j with h | h | h
  · rw [stepI_lt h]
    exact ⟨fun _ => by omega, fun _ => by decide⟩
  · subst h
    rw [stepI_self]
    exact ⟨fun _ => by omega, fun _ => by decide⟩
  · rw [stepI_gt h]
    exact ⟨fun z => absurd z (by decide), fun _ => by omega⟩
theorem stepS_le {a b : Str} : stepS a b ≤ 0 ↔ ¬ b.cps.toList < a.cps.toList := by
  by_cases e : a = b
  · subst e
    rw [stepS_self]
    exact ⟨fun _ => List.lt_irrefl _, fun _ => by decide⟩
  · rcases str_tri e with h | h
    · rw [stepS_lt h]
      exact ⟨fun _ z => List.lt_irrefl _ (List.lt_trans h z), fun _ => by decide⟩
    · rw [stepS_gt h]
      exact ⟨fun z => absurd z (by decide), fun z => absurd h z⟩
theorem stepS_trans {a b c : Str} (h : ¬ b.cps.toList < a.cps.toList) (k : ¬ c.cps.toList < b.cps.toList) : ¬ c.cps.toList < a.cps.toList := fun z => by
  by_cases e : a = b
  · subst e
    exact k z
  · rcases str_tri e with x | x
    · exact k (List.lt_trans z x)
    · exact h x
theorem stepI_rng (i j : Int) : stepI i j = -1 ∨ stepI i j = 0 ∨ stepI i j = 1 := by
  rcases Int.lt_trichotomy i j with h | h | h
  · exact Or.inl (stepI_lt h)
  · subst h
    exact Or.inr (Or.inl (stepI_self _))
  · exact Or.inr (Or.inr (stepI_gt h))
theorem stepS_rng (a b : Str) : stepS a b = -1 ∨ stepS a b = 0 ∨ stepS a b = 1 := by
  by_cases e : a = b
  · subst e
    exact Or.inr (Or.inl (stepS_self _))
  · rcases str_tri e with h | h
    · exact Or.inl (stepS_lt h)
    · exact Or.inr (Or.inr (stepS_gt h))
theorem same_rng (s t : S8) : same8 s t = -1 ∨ same8 s t = 0 ∨ same8 s t = 1 := by
  rcases s with _ | m | b | z | n <;> rcases t with _ | m2 | b2 | z2 | n2
  all_goals first
    | exact Or.inr (Or.inl rfl)
    | exact stepI_rng _ _
    | skip
  by_cases h : Txt.upper z = Txt.upper z2
  · rw [same_txt_eq h]
    exact stepS_rng _ _
  · rw [same_txt_ne h]
    exact stepS_rng _ _
theorem ord_rng (s t : S8) : ord8 s t = -1 ∨ ord8 s t = 0 ∨ ord8 s t = 1 := by
  by_cases e : s.rk = t.rk
  · rw [ord_eq e]
    exact same_rng s t
  · rw [ord_ne e]
    exact stepI_rng _ _
theorem ris_le (s t : S8) : ris s t = true ↔ ord8 s t ≤ 0 := by
  unfold ris
  rw [Bool.or_eq_true]
  rcases ord_rng s t with h | h | h
  all_goals rw [h]
  all_goals decide
theorem same_trans {s t u : S8} (e : s.rk = t.rk) (e2 : t.rk = u.rk) (h : same8 s t ≤ 0) (k : same8 t u ≤ 0) : same8 s u ≤ 0 := by
  rcases s with _ | m | b | z | n <;> rcases t with _ | m2 | b2 | z2 | n2
  all_goals first
    | (exfalso; simp [S8.rk] at e; done)
    | skip
  all_goals rcases u with _ | m3 | b3 | z3 | n3
  all_goals first
    | (exfalso; simp [S8.rk] at e2; done)
    | skip
  · decide
  · exact stepI_le.mpr (Int.le_trans (stepI_le.mp h) (stepI_le.mp k))
  · exact stepI_le.mpr (Int.le_trans (stepI_le.mp h) (stepI_le.mp k))
  · by_cases x : Txt.upper z = Txt.upper z2
    · rw [same_txt_eq x] at h
      by_cases y : Txt.upper z2 = Txt.upper z3
      · rw [same_txt_eq y] at k
        rw [same_txt_eq (x.trans y)]
        exact stepS_le.mpr (stepS_trans (stepS_le.mp h) (stepS_le.mp k))
      · rw [same_txt_ne y] at k
        rw [same_txt_ne (fun w => y (x.symm.trans w)), x]
        exact k
    · rw [same_txt_ne x] at h
      by_cases y : Txt.upper z2 = Txt.upper z3
      · rw [same_txt_ne (fun w => x (w.trans y.symm)), ← y]
        exact h
      · rw [same_txt_ne y] at k
        by_cases w : Txt.upper z = Txt.upper z3
        · rw [← w] at k
          exact absurd (str_tri x) (fun v => v.elim (stepS_le.mp k) (stepS_le.mp h))
        · rw [same_txt_ne w]
          exact stepS_le.mpr (stepS_trans (stepS_le.mp h) (stepS_le.mp k))
  · exact stepI_le.mpr (Int.le_trans (stepI_le.mp h) (stepI_le.mp k))
theorem ord_trans {s t u : S8} (h : ord8 s t ≤ 0) (k : ord8 t u ≤ 0) : ord8 s u ≤ 0 := by
  by_cases e : s.rk = t.rk
  · rw [ord_eq e] at h
    by_cases e2 : t.rk = u.rk
    · rw [ord_eq e2] at k
      rw [ord_eq (e.trans e2)]
      exact same_trans e e2 h k
    · rw [ord_ne e2] at k
      rw [ord_ne (fun x => e2 (e.symm.trans x)), e]
      exact k
  · rw [ord_ne e] at h
    by_cases e2 : t.rk = u.rk
    · rw [ord_ne (fun x => e (x.trans e2.symm)), ← e2]
      exact h
    · rw [ord_ne e2] at k
      have a := stepI_le.mp h
      have b := stepI_le.mp k
      rw [ord_ne (by omega)]
      exact stepI_le.mpr (by omega)
theorem ris_trans {s t u : S8} (h : ris s t = true) (k : ris t u = true) : ris s u = true := (ris_le _ _).mpr (ord_trans ((ris_le _ _).mp h) ((ris_le _ _).mp k))
theorem vs_kn (s : S8) : atI s.vs 0 = some (V.str (KN s)) := by
  rcases s with _ | m | b | z | n
  all_goals rfl
theorem kn_err {s : S8} (h : ¬ V.str (KN s) = V.str (Str.ofString "error")) : ∀ n, s ≠ .err n := fun n e => h (by rw [e]; rfl)
theorem kn_bes {s t : S8} (h : KN s = KN t) : bes s t = s := by
  rcases s with _ | m | b | z | n
  · rcases t with _ | m2 | b2 | z2 | n2
    all_goals first
      | rfl
      | (simp only [KN] at h; exact absurd h (by decide +kernel))
  all_goals rfl
theorem kn_cmp {s t : S8} (h : KN s = KN t) (nt : s.isT = false) : cmp8 s t = ord8 s t := by
  have e : cmp8 s t = cm (bes s t) (bes t s) := rfl
  rw [e, kn_bes h, kn_bes h.symm]
  exact cm_ord fun z => absurd (nt.symm.trans z.1) Bool.false_ne_true
/-- values at their places -/
inductive Row3 (R : Addr → S8 → Prop) : List Addr → List S8 → Prop
  | nil : Row3 R [] []
  | cons {p : Addr} {s : S8} {ps : List Addr} {ss : List S8} (h : R p s) (t : Row3 R ps ss) : Row3 R (p :: ps) (s :: ss)
theorem Row3.len {R : Addr → S8 → Prop} {ps : List Addr} {ss : List S8} (h : Row3 R ps ss) : ps.length = ss.length := by
  induction h with
  | nil => rfl
  | cons h t ih => rw [List.length_cons, List.length_cons, ih]
theorem Row3.at {R : Addr → S8 → Prop} {ps : List Addr} {ss : List S8} (h : Row3 R ps ss) : ∀ {i : Nat}, i < ps.length → ∃ p s, ps[i]? = some p ∧ ss[i]? = some s ∧ R p s := by
  induction h with
  | nil => exact fun {i} hi => absurd hi (Nat.not_lt_zero _)
  | cons h t ih =>
    intro i hi
    cases i with
    | zero => exact ⟨_, _, rfl, rfl, h⟩
    | succ i => exact ih (Nat.lt_of_succ_lt_succ hi)
theorem Row3.mono {R S : Addr → S8 → Prop} {ps : List Addr} {ss : List S8} (h : Row3 R ps ss) (k : ∀ p s, R p s → S p s) : Row3 S ps ss := by
  induction h with
  | nil => exact .nil
  | cons h t ih => exact .cons (k _ _ h) ih
theorem Row3.snoc {R : Addr → S8 → Prop} {ps : List Addr} {ss : List S8} {p : Addr} {s : S8} (h : Row3 R ps ss) (k : R p s) : Row3 R (ps ++ [p]) (ss ++ [s]) := by
  induction h with
  | nil => exact .cons k .nil
  | cons h t ih => exact .cons h ih
theorem atI_ref {ps : List Addr} {i : Nat} {p : Addr} (h : ps[i]? = some p) : atI (ps.map V.ref) (0 + (i : Int)) = some (.ref p) := atI_at (n := i) (by omega) (by rw [List.getElem?_map, h]; rfl)
theorem eb_mk {K : PySem.W.Frag} {w : World} {a o1 o2 o3 : Addr} {n1 n2 n3 : Nat} {d1 d2 d3 : Option Addr} {s1 s2 s3 : Array (Option Value)} {t1 t2 t3 t4 t5 : Tok} (kd : KD K w a)
    (e1 : PySem.W.nsIn K a "number" = some (some (.ref o1))) (e2 : PySem.W.nsIn K a "text" = some (some (.ref o2))) (e3 : PySem.W.nsIn K a "truth" = some (some (.ref o3)))
    (e4 : PySem.W.nsIn K a "empty" = some none) (e5 : PySem.W.nsIn K a "error" = some none)
    (u1 : K.lookup o1 = some ⟨.type "tuple", d1, .seq #[.str "number" t1, .int 0 t2] n1, s1⟩)
    (u2 : K.lookup o2 = some ⟨.type "tuple", d2, .seq #[.str "text" t3, .str "" t4] n2, s2⟩)
    (u3 : K.lookup o3 = some ⟨.type "tuple", d3, .seq #[.str "truth" t5, .bool false] n3, s3⟩)
    (H : Hp) (s t : S8) : ∃ r, KGet K w a (KN t) r ∧ (∀ d : Addr, SqT K H d S8.emp.vs → ∃ p : Addr, r.getD (.ref d) = .ref p ∧ SqT K H p (bes .emp t).vs) := by
  rcases t with _ | m | b | z | n
  · exact ⟨none, ⟨kd, _, e4, trivial⟩, fun d hd => ⟨d, rfl, hd⟩⟩
  · exact ⟨some (.ref o1), ⟨kd, _, e1, rfl⟩, fun d _ => ⟨o1, rfl, .inr ⟨_, _, _, u1, rfl, rfl, (show 2 ≤ sizeLine by decide), .cons ⟨_, rfl⟩ (.cons ⟨_, rfl⟩ .nil)⟩⟩⟩
  · exact ⟨some (.ref o3), ⟨kd, _, e3, rfl⟩, fun d _ => ⟨o3, rfl, .inr ⟨_, _, _, u3, rfl, rfl, (show 2 ≤ sizeLine by decide), .cons ⟨_, rfl⟩ (.cons rfl .nil)⟩⟩⟩
  · exact ⟨some (.ref o2), ⟨kd, _, e2, rfl⟩, fun d _ => ⟨o2, rfl, .inr ⟨_, _, _, u2, rfl, rfl, (show 2 ≤ sizeLine by decide), .cons ⟨_, rfl⟩ (.cons ⟨_, rfl⟩ .nil)⟩⟩⟩
  · exact ⟨none, ⟨kd, _, e5, trivial⟩, fun d hd => ⟨d, rfl, hd⟩⟩
def S8.dat : S8 → PyData
  | .emp => .tuple [.str "empty"]
  | .num m => .tuple [.str "number", .int m]
  | .tru b => .tuple [.str "truth", .bool b]
  | .txt z => .tuple [.str "text", .str z]
  | .err n => .tuple [.str "error", .str (WD n)]
def S8.kdat : S8 → PyData
  | .num m => .tuple [.int 0, .int m]
  | .txt z => .tuple [.int 1, .str (Txt.upper z), .str z]
  | .tru b => .tuple [.int 2, .int (b2i b)]
  | .err n => .tuple [.int 3, .int (n : Nat)]
  | .emp => .tuple [.int 4]
theorem dp_vs {K : PySem.W.Frag} {H : Hp} {p : Addr} {s : S8} (h : SqT K H p s.vs) : Dp K H (.ref p) s.dat := by
  rcases s with _ | m | b | z | n
  · exact .tup h (.cons (.str _) .nil)
  · exact .tup h (.cons (.str _) (.cons (.int _) .nil))
  · exact .tup h (.cons (.str _) (.cons (.bl _) .nil))
  · exact .tup h (.cons (.str _) (.cons (.str _) .nil))
  · exact .tup h (.cons (.str _) (.cons (.str _) .nil))
theorem dp_key {K : PySem.W.Frag} {H : Hp} {p : Addr} {s : S8} (h : SqT K H p s.key) : Dp K H (.ref p) s.kdat := by
  rcases s with _ | m | b | z | n
  · exact .tup h (.cons (.int _) .nil)
  · exact .tup h (.cons (.int _) (.cons (.int _) .nil))
  · exact .tup h (.cons (.int _) (.cons (.int _) .nil))
  · exact .tup h (.cons (.int _) (.cons (.str _) (.cons (.str _) .nil)))
  · exact .tup h (.cons (.int _) (.cons (.int _) .nil))
theorem strOk_asc {z : Str} (h : Asc z) : PySem.PyData.strOk z = true := by
  unfold PySem.PyData.strOk
  rw [← Array.all_toList]
  exact List.all_eq_true.mpr fun c hc => decide_eq_true (Nat.lt_trans (h c hc) (by decide))
def flatD : PyData → Bool
  | .int _ | .bool _ => true
  | .str x => PySem.PyData.strOk x
  | _ => false
theorem flat_lay {d : PyData} (h : flatD d = true) : d.canLay0 = true ∧ d.depth = 0 := by
  cases d <;> simp [flatD] at h <;> simp [PyData.canLay0, PyData.depth, h]
theorem sh1 {a : PyData} (h : flatD a = true) : SeqAt.shaped (.tuple [a]) = true := by
  obtain ⟨h1, h2⟩ := flat_lay h
  simp [SeqAt.shaped, PyData.canLay0, PyData.canLayAll0, PyData.depth, PyData.depthAll, h1, h2]
theorem sh2 {a b : PyData} (h : flatD a = true) (k : flatD b = true) : SeqAt.shaped (.tuple [a, b]) = true := by
  obtain ⟨h1, h2⟩ := flat_lay h
  obtain ⟨k1, k2⟩ := flat_lay k
  simp [SeqAt.shaped, PyData.canLay0, PyData.canLayAll0, PyData.depth, PyData.depthAll, h1, h2, k1, k2]
theorem sh3 {a b c : PyData} (h : flatD a = true) (k : flatD b = true) (l : flatD c = true) : SeqAt.shaped (.tuple [a, b, c]) = true := by
  obtain ⟨h1, h2⟩ := flat_lay h
  obtain ⟨k1, k2⟩ := flat_lay k
  obtain ⟨l1, l2⟩ := flat_lay l
  simp [SeqAt.shaped, PyData.canLay0, PyData.canLayAll0, PyData.depth, PyData.depthAll, h1, h2, k1, k2, l1, l2]
theorem sh_vs {s : S8} (h : s.ok 1000) : SeqAt.shaped s.dat = true := by
  rcases s with _ | m | b | z | n
  · exact sh1 (by decide +kernel)
  · exact sh2 (by decide +kernel) rfl
  · exact sh2 (by decide +kernel) rfl
  · exact sh2 (by decide +kernel) (strOk_asc h.2)
  · exact sh2 (by decide +kernel) (strOk_asc (asc_lit (WD_ascii n h)))
theorem sh_key {s : S8} (h : s.ok 1000) : SeqAt.shaped s.kdat = true := by
  rcases s with _ | m | b | z | n
  · exact sh1 rfl
  · exact sh2 rfl rfl
  · exact sh2 rfl rfl
  · exact sh3 rfl (strOk_asc (upper_asc h.2)) (strOk_asc h.2)
  · exact sh2 rfl rfl
theorem WD_inj : ∀ n, n < 10 → ∀ m, m < 10 → WD n = WD m → n = m := by decide +kernel
theorem ord_zero {s t : S8} (h : ord8 s t = 0) : s = t := by
  by_cases e : s.rk = t.rk
  · rw [ord_eq e] at h
    rcases s with _ | m | b | z | n <;> rcases t with _ | m2 | b2 | z2 | n2
    all_goals first
      | (exfalso; simp [S8.rk] at e; done)
      | skip
    · rfl
    · exact congrArg S8.num (stepI_zero h)
    · have k := stepI_zero h
      cases b <;> cases b2 <;> first | rfl | (exact absurd k (by decide))
    · by_cases u : Txt.upper z = Txt.upper z2
      · rw [same_txt_eq u] at h
        exact congrArg S8.txt (stepS_zero h)
      · rw [same_txt_ne u] at h
        exact absurd (stepS_zero h) u
    · exact congrArg S8.err (Int.ofNat.inj (stepI_zero h))
  · rw [ord_ne e] at h
    exact absurd (stepI_zero h) e
theorem ord_self (s : S8) : ord8 s s = 0 := by
  rw [ord_eq rfl]
  rcases s with _ | m | b | z | n
  · rfl
  · exact stepI_self _
  · exact stepI_self _
  · rw [same_txt_eq rfl]
    exact stepS_self _
  · exact stepI_self _
theorem eqv_pair {a b c d : PyData} : PyData.eqv (.tuple [a, b]) (.tuple [c, d]) = (PyData.eqv a c && PyData.eqv b d) := by simp [PyData.eqv, PyData.eqvAll]
theorem eqv_self (s : S8) : PyData.eqv s.dat s.dat = true := by
  rcases s with _ | m | b | z | n
  all_goals simp [S8.dat, PyData.eqv, PyData.eqvAll]
theorem eqk_self (s : S8) : PyData.eqv s.kdat s.kdat = true := by
  rcases s with _ | m | b | z | n
  all_goals simp [S8.kdat, PyData.eqv, PyData.eqvAll]
theorem eqv_to {s t : S8} (hs : s.ok 1000) (ht : t.ok 1000) (h : PyData.eqv s.dat t.dat = true) : s = t := by
  rcases s with _ | m | b | z | n <;> rcases t with _ | m2 | b2 | z2 | n2
  all_goals simp [S8.dat, PyData.eqv, PyData.eqvAll] at h
  all_goals first
    | rfl
    | (rw [h]; done)
    | (exact congrArg S8.err (WD_inj _ hs _ ht h))
    | (exact absurd h (by decide +kernel))
    | (exact absurd h.1 (by decide +kernel))
theorem eqk_to {s t : S8} (h : PyData.eqv s.kdat t.kdat = true) : s = t := by
  rcases s with _ | m | b | z | n <;> rcases t with _ | m2 | b2 | z2 | n2
  all_goals simp [S8.kdat, PyData.eqv, PyData.eqvAll] at h
  all_goals first
    | rfl
    | (rw [h]; done)
    | (rw [h.2]; done)
    | (rw [show n = n2 from (by omega)]; done)
    | ( cases b <;> cases b2 <;> first | rfl | (exact absurd h (by decide)))
theorem eqv_vs {s t : S8} (hs : s.ok 1000) (ht : t.ok 1000) : PyData.eqv s.dat t.dat = decide (ord8 s t = 0) := by
  by_cases h : ord8 s t = 0
  · rw [decide_eq_true h, ord_zero h]
    exact eqv_self t
  · rw [decide_eq_false h]
    exact Bool.eq_false_iff.mpr fun z => h (by rw [eqv_to hs ht z]; exact ord_self t)
theorem eqv_key (s t : S8) : PyData.eqv s.kdat t.kdat = decide (ord8 s t = 0) := by
  by_cases h : ord8 s t = 0
  · rw [decide_eq_true h, ord_zero h]
    exact eqk_self t
  · rw [decide_eq_false h]
    exact Bool.eq_false_iff.mpr fun z => h (by rw [eqk_to z]; exact ord_self t)
theorem dec_int (i j : Int) : decide (V.int i = V.int j) = decide (i = j) := decide_eq_decide.mpr ⟨V.int.inj, congrArg V.int⟩
theorem sl2 {K : PySem.W.Frag} {H : Hp} {a : Addr} {s : S8} {Q : VK} (h : SqT K H a s.key) (q : ∀ (r : Addr) (H' : Hp), Same H H' → SqT K H' r s.key2 → Q (.ref r) H') : rSlA K (.ref a) none (some 2) H Q := by
  refine ⟨a, s.key, rfl, h, ?_⟩
  rcases s with _ | m | b | z | n
  · exact ⟨fun _ => q _ _ (Same.refl _) h, fun z => absurd ⟨rfl, rfl⟩ z⟩
  · exact ⟨fun _ => q _ _ (Same.refl _) h, fun z => absurd ⟨rfl, rfl⟩ z⟩
  · exact ⟨fun _ => q _ _ (Same.refl _) h, fun z => absurd ⟨rfl, rfl⟩ z⟩
  · exact ⟨fun z => absurd z.2 (by show ¬ (2 : Nat) = 3; decide), fun _ p hp => q _ _ (same_upd hp) (SqT.of upd_same)⟩
  · exact ⟨fun _ => q _ _ (Same.refl _) h, fun z => absurd ⟨rfl, rfl⟩ z⟩
theorem bes_ok {s t : S8} {k : Nat} (h : s.ok k) : (bes s t).ok k := by
  rcases s with _ | m | b | z | n
  · rcases t with _ | m | b | z | n
    · trivial
    · exact ⟨by decide, by decide⟩
    · trivial
    · exact ⟨Nat.zero_le _, fun c hc => by cases hc⟩
    · trivial
  all_goals exact h
theorem WD_asc : ∀ n, n < 10 → (WD n).length ≤ 10 := by decide +kernel

local macro_rules | `(tactic| walk_at "look") => `(tactic| first
  | exact upd_same
  | assumption
  | (refine (same_upd (by assumption)) _ _ ?_; walk_at "look"))
local macro_rules | `(tactic| walk_at "bat") => `(tactic| first
  | assumption
  | exact Bx.bat (by assumption)
  | (refine BoxAt.new ?_ (by assumption); walk_at "bat"))
local macro_rules | `(tactic| walk_at "bx") => `(tactic| first
  | assumption
  | exact Bx.refl (by assumption)
  | (refine Bx.new ?_ (by assumption); walk_at "bx")
  | (refine Bx.same ?_ (by assumption); walk_at "bx")
  | (refine Bx.trans ?_ (by assumption); walk_at "bx"))

local macro_rules | `(tactic| walk_at "len1") => `(tactic| first
  | with_reducible assumption
  | (with_reducible refine hl3 ?_; walk_at "len1")
  | (with_reducible refine hl4 ?_; walk_at "len1"))
local macro_rules | `(tactic| walk_at "len") => `(tactic| first
  | (with_reducible refine hl1 ?_; walk_at "len1")
  | (with_reducible refine hl2 ?_; with_reducible assumption))
local macro_rules | `(tactic| walk_at "sl") => `(tactic| (refine Nat.le_trans (Nat.le_of_eq (S_len _)) ?_; rw [sizeLine_eq]; (try simp only [List.length_append, List.length_cons, List.length_nil]); omega))
local macro_rules | `(tactic| walk_at "sl3") => `(tactic| (rw [sizeLine_eq]; (try simp only [S_len, Str.length_append, List.length_append, List.length_cons, List.length_nil]); omega))
local macro_rules | `(tactic| walk_at "lb") => `(tactic| first
  | with_reducible assumption
  | with_reducible exact c_one _
  | (with_reducible apply Lc; walk_at "lb")
  | (with_reducible refine' La ?hx ?hy; (case hx => walk_at "lb"); (case hy => walk_at "lb"))
  | (with_reducible refine Lr 50 ?hx ?hy; (case hx => assumption); (case hy => omega)))
local macro_rules | `(tactic| walk_at "ln") => `(tactic| (refine' Nat.le_trans (m := ?mm) ?hu ?hv; (case hu => walk_at "lb"); (case hv => first | omega | (rw [sizeLine_eq]; omega))))
local macro_rules | `(tactic| walk_at "ls") => `(tactic| (refine' Nat.le_trans (Nat.add_le_add ?hu ?hv) ?hw; (case hu => walk_at "lb"); (case hv => walk_at "lb"); (case hw => (rw [sizeLine_eq]; omega))))
local macro_rules | `(tactic| walk_at "sl2") => `(tactic| (rw [sizeLine_eq]; simp only [e_dot, e_minus, e_plus, S_len, Str.length_append, List.length_append, List.length_cons, List.length_nil]; omega))
local macro_rules | `(tactic| walk_at "sq") => `(tactic| first
  | assumption
  | exact SqT.of upd_same
  | exact same_tk (same_upd (by assumption)) _ _ (by assumption)
  | exact same_tk (by assumption) _ _ (by assumption)
  | exact same_tk (same_upd (by assumption)) _ _ (same_tk (by assumption) _ _ (by assumption))
  | exact same_tk (by assumption) _ _ (same_tk (by assumption) _ _ (by assumption))
  | exact same_tk (by assumption) _ _ (same_tk (by assumption) _ _ (same_tk (by assumption) _ _ (same_tk (by assumption) _ _ (by assumption))))
  | exact same_tk (by assumption) _ _ (same_tk (by assumption) _ _ (same_tk (by assumption) _ _ (same_tk (by assumption) _ _ (same_tk (by assumption) _ _ (by assumption)))))
  | exact same_tk (same_upd (by assumption)) _ _ (same_tk (by assumption) _ _ (same_tk (by assumption) _ _ (same_tk (by assumption) _ _ (by assumption))))
  | exact same_tk (same_upd (by assumption)) _ _ (same_tk (by assumption) _ _ (same_tk (by assumption) _ _ (same_tk (by assumption) _ _ (same_tk (by assumption) _ _ (by assumption)))))
  | exact Same.seq (by assumption) (by assumption)
  | exact Same.seq (by assumption) (Same.seq (by assumption) (by assumption))
  | exact Same.seq (by assumption) (Same.seq (by assumption) (Same.seq (by assumption) (by assumption)))
  | exact same_tk (by assumption) _ _ (SqT.of upd_same)
  | exact same_tk (same_upd (by assumption)) _ _ (SqT.of upd_same)
  | exact same_tk (same_upd (by assumption)) _ _ (same_tk (by assumption) _ _ (same_tk (by assumption) _ _ (by assumption)))
  | exact same_tk (by assumption) _ _ (same_tk (by assumption) _ _ (same_tk (by assumption) _ _ (by assumption)))
  | (refine same_tk (same_upd (by assumption)) _ _ ?_; walk_at "sq")
  | (refine same_tk (by assumption) _ _ ?_; walk_at "sq"))
local macro_rules | `(tactic| walk_at "own") => `(tactic| first
  | refine ⟨_, _, 3, rfl, (by walk_at "sq"), ?_⟩
  | refine ⟨_, _, _, _, 64, rfl, (by walk_at "sq"), (by assumption), (by decide), fun (r : Addr) (u : S8) (H1 : Hp) (s1 : Same _ _) hr hu => ?_⟩
  | refine ⟨_, _, _, _, 129, rfl, (by walk_at "sq"), (by assumption), (by decide), fun (r : Addr) (u : S8) (H1 : Hp) (s1 : Same _ _) hr hu => ?_⟩
  | refine ⟨_, _, _, _, rfl, rfl, (by walk_at "sq"), rfl, ?_⟩
  | refine Or.inl ⟨_, _, _, rfl, rfl, ?_⟩
  | refine Or.inr (Or.inl ⟨_, _, _, _, rfl, (by walk_at "sq"), rfl, ?_⟩)
  | refine ⟨_, _, _, _, rfl, rfl, (by walk_at "sq"), (by with_reducible assumption), ?_⟩
  | refine ⟨_, _, rfl, Or.inr (by walk_at "sq"), ?_⟩
  | refine ⟨_, _, rfl, Or.inl (by assumption), ?_⟩
  | refine ⟨_, _, rfl, fun (p : Addr) (s : S8) (H1 : Hp) (s1 : Same _ _) hp hs => ?_⟩
  | refine ⟨_, _, rfl, (by walk_at "sq"), (by assumption), fun (r : Addr) (H1 : Hp) (s1 : Same _ _) h1 => ?_⟩
  | refine ⟨_, _, rfl, (by walk_at "sq"), (by assumption), fun (H1 : Hp) (s1 : Same _ _) => ?_⟩
  | refine fun (r : Addr) (ob : Obj) (H1 : Hp) (s1 : Same _ _) hr ho => ?_
  | refine ⟨_, _, _, rfl, (by assumption), (by assumption), ?_⟩
  | refine ⟨_, WL, _, _, rfl, rfl, .inl (.inr ⟨_, (by assumption)⟩), wl_at _ (by assumption), wl_no _ (by assumption), ?_⟩
  | refine fun (z : Str) (hz : Str.length _ = 94) ha => ?_
  | refine ⟨_, _, _, rfl, ⟨by omega, by omega⟩, ⟨⟨by omega, by omega⟩, (by assumption)⟩, fun (z : Str) (H1 : Hp) (s1 : Same _ _) hl ha => ?_⟩
  | refine ⟨_, _, _, _, rfl, (by walk_at "sq"), (by walk_at "sq"), (by assumption), (by assumption), fun (H1 : Hp) (s1 : Same _ _) => ?_⟩
  | refine ⟨_, _, _, _, rfl, (by walk_at "sq"), (by walk_at "sq"), (by assumption), (by assumption), (by assumption), fun (H1 : Hp) (s1 : Same _ _) => ?_⟩
  | refine And.intro (by omega) (fun (z : Str) (H1 : Hp) (s1 : Same _ _) hl ha => ?_)
  | refine fun (z : Str) (H1 : Hp) (s1 : Same _ _) hl ha => ?_
  | refine fun (r : Addr) (H1 : Hp) (s1 : Same _ _) h1 => ?_
  | refine fun (H1 : Hp) (s1 : Same _ H1) => ?_
  | refine ⟨_, _, _, _, rfl, (by walk_at "sq"), (by walk_at "sq"), ?_⟩
  | refine ⟨_, _, rfl, Or.inr (SqT.of upd_same), rfl, rfl, ?_⟩
  | refine ⟨_, _, (dp_vs (by walk_at "sq")), (dp_vs (by walk_at "sq")), sh_vs (by assumption), sh_vs (by assumption), ?_⟩
  | refine ⟨_, _, (dp_key (by walk_at "sq")), (dp_key (by walk_at "sq")), sh_key (by assumption), sh_key (by assumption), ?_⟩
  | refine Or.inl ⟨_, _, rfl, rfl, ?_⟩
  | refine Or.inr ⟨_, _, rfl, rfl, ?_⟩
  | refine ⟨.inl ⟨rfl, _, SqL.of upd_same⟩, ?_⟩
  | refine Or.inr ⟨_, rfl, ?_⟩
  | refine ⟨⟨_, rfl⟩, ?_⟩
  | refine ⟨_, rfl, rfl, trivial, ?_⟩
  | refine ⟨_, _, rfl, rfl, (show (0 : Int) < _ from by first | decide | omega), fun d d0 d1 => ?_⟩
  | refine ⟨_, _, rfl, (show Str.length _ ≤ 200000 from by with_reducible assumption), ?_⟩
  | refine ⟨_, _, rfl, (show CB _ _ from ⟨by decide, by decide⟩), fun p hp => ?_⟩
  | refine ⟨_, _, rfl, .inl (.inl upd_same), rfl, ?_⟩
  | refine ⟨_, _, _, _, rfl, rfl, .inl (.inl upd_same), rfl, ?_⟩
  | refine And.intro (show Str.length _ ≤ sizeLine from by walk_at "len") ?_
  | refine And.intro (show Str.length _ + Str.length _ ≤ sizeLine from by walk_at "sl2") ?_
  | (refine And.intro ?hc ?_; case hc => (show Str.length _ + Str.length _ ≤ sizeLine; walk_at "ls"))
  | (refine And.intro ?hc ?_; case hc => (show Str.length _ ≤ sizeLine; walk_at "ln"))
  | refine ⟨_, _, rfl, (show 0 < (1000000 : Int) ∧ (1000000 : Int) < _ from ⟨by decide, by decide⟩), fun H1 s1 => ?_⟩
  | refine And.intro (show (_ ∧ _) ∧ Str.length _ ≤ 16 from ⟨⟨by omega, by omega⟩, by decide +kernel⟩) ?_
  | refine And.intro (show Nat.log2 _ < 1920 from log_small (by omega)) ?_
  | refine And.intro (show PadOk _ = true from rfl) ?_
  | refine And.intro (show (Str.length _ == 0) = false from by decide +kernel) ?_)

/-- a chain of heaps -/
local macro_rules | `(tactic| walk_at "same") => `(tactic| first
  | assumption
  | exact Same.refl _
  | exact same_upd (by assumption)
  | (refine Same.trans ?_ (same_upd (by assumption)); walk_at "same")
  | (refine Same.trans ?_ (by assumption); walk_at "same"))
/-- a step of a reading, by its shape -/
local macro_rules | `(tactic| walk_at "st") => `(tactic| first
  | walk_at "own"
  | refine ⟨_, rfl, fun n h0 h1 => ?_⟩
  | refine ⟨_, rfl, ?_⟩
  | refine ⟨_, _, rfl, rfl, (by first | exact Or.inl ⟨by decide, by decide⟩ | exact Or.inr ⟨by decide, by decide⟩ | exact Or.inl (by omega) | exact Or.inr (by omega)), fun d hd hu hn => ?_⟩
  | refine ⟨_, _, rfl, rfl, by first | exact Or.inl ⟨by decide, by decide⟩ | exact Or.inr ⟨by decide, by decide⟩ | exact Or.inl (by omega) | exact Or.inr (by omega), ?_⟩
  | refine ⟨_, _, rfl, rfl, by first | (show (0 : Int) < _; first | omega | decide | (split <;> omega)) | (show _ ≠ (0 : Int); omega), ?_⟩
  | refine ⟨_, _, rfl, rfl, ⟨by decide, by decide⟩, ?_⟩
  | refine ⟨_, _, rfl, rfl, (by show (_ ∧ _) ∧ (_ ∧ _); omega), ?_⟩
  | refine ⟨_, _, rfl, rfl, (by show _ ∧ _; first | omega | (split <;> omega)), fun d hd hu hn => ?_⟩
  | refine ⟨_, _, rfl, rfl, (by show (0 : Int) < _ ∧ _; first | omega | (split <;> omega)), ?_⟩
  | refine ⟨_, _, rfl, rfl, ?_⟩
  | refine ⟨_, _, _, rfl, rfl, ?_⟩
  | refine ⟨_, _, _, _, rfl, rfl, .inl (.inl (by assumption)), rfl, ?_⟩
  | refine Or.inl ⟨_, rfl, ?_⟩
  | refine ⟨_, _, rfl, fun n H1 s1 h0 h1 => ?_⟩
  | refine ⟨_, _, rfl, fun n h0 h1 => ?_⟩
  | refine ⟨_, _, rfl, ?_⟩
  | refine ⟨Nat.le_of_ble_eq_true rfl, fun p hp => ?_⟩
  | refine ⟨rfl, ?_⟩
  | refine ⟨lim_flat _, ?_⟩
  | refine ⟨⟨by assumption, by assumption⟩, ?_⟩
  | refine And.intro (by assumption) ?_
  | refine ⟨Or.inl ⟨_, rfl⟩, ?_⟩
  | refine And.intro (by omega) (fun H1 s1 => ?_)
  | refine And.intro (by omega) ?_
  | refine iteF ?_
  | refine iteT ?_
  | refine iteSS ?_
  | refine iteIS ?_
  | refine iteEqI (fun _ => ?_) (fun _ => ?_)
  | refine iteNeI (fun _ => ?_) (fun _ => ?_)
  | refine iteD (fun _ => ?_) (fun _ => ?_)
  | refine ite2 (fun _ => ?_) (fun _ => ?_))
local macro_rules | `(tactic| walk_at "run") => `(tactic| repeat' (walk_at "st"))
local macro_rules | `(tactic| walk_at "own0") => `(tactic| first
  | refine ⟨⟨_, rfl⟩, ?_⟩
  | refine ⟨_, rfl, rfl, trivial, ?_⟩
  | refine ⟨_, _, rfl, rfl, (show (0 : Int) < _ from by first | decide | omega), fun d d0 d1 => ?_⟩
  | refine ⟨_, _, rfl, (show Str.length _ ≤ 200000 from by with_reducible assumption), ?_⟩
  | refine ⟨_, _, rfl, (show CB _ _ from ⟨by decide, by decide⟩), fun p hp => ?_⟩
  | refine ⟨_, _, rfl, .inl (.inl upd_same), rfl, ?_⟩
  | refine ⟨_, _, _, _, rfl, rfl, .inl (.inl upd_same), rfl, ?_⟩
  | refine And.intro (show Str.length _ ≤ sizeLine from by walk_at "len") ?_
  | refine And.intro (show Str.length _ + Str.length _ ≤ sizeLine from by walk_at "sl2") ?_
  | refine ⟨_, _, rfl, (show 0 < (1000000 : Int) ∧ (1000000 : Int) < _ from ⟨by decide, by decide⟩), fun H1 s1 => ?_⟩
  | refine And.intro (show (_ ∧ _) ∧ Str.length _ ≤ 16 from ⟨⟨by omega, by omega⟩, by decide +kernel⟩) ?_
  | refine And.intro (show Nat.log2 _ < 1920 from log_small (by omega)) ?_
  | refine And.intro (show PadOk _ = true from rfl) ?_
  | refine And.intro (show (Str.length _ == 0) = false from by decide +kernel) ?_)
/-- a step of a reading, by its shape -/
local macro_rules | `(tactic| walk_at "st0") => `(tactic| first
  | walk_at "own0"
  | refine ⟨_, rfl, fun n h0 h1 => ?_⟩
  | refine ⟨_, rfl, ?_⟩
  | refine ⟨_, _, rfl, rfl, (by first | exact Or.inl ⟨by decide, by decide⟩ | exact Or.inr ⟨by decide, by decide⟩ | exact Or.inl (by omega) | exact Or.inr (by omega)), fun d hd hu hn => ?_⟩
  | refine ⟨_, _, rfl, rfl, by first | exact Or.inl ⟨by decide, by decide⟩ | exact Or.inr ⟨by decide, by decide⟩ | exact Or.inl (by omega) | exact Or.inr (by omega), ?_⟩
  | refine ⟨_, _, rfl, rfl, by first | (show (0 : Int) < _; first | omega | decide | (split <;> omega)) | (show _ ≠ (0 : Int); omega), ?_⟩
  | refine ⟨_, _, rfl, rfl, ⟨by decide, by decide⟩, ?_⟩
  | refine ⟨_, _, rfl, rfl, (by show (_ ∧ _) ∧ (_ ∧ _); omega), ?_⟩
  | refine ⟨_, _, rfl, rfl, (by show _ ∧ _; first | omega | (split <;> omega)), fun d hd hu hn => ?_⟩
  | refine ⟨_, _, rfl, rfl, (by show (0 : Int) < _ ∧ _; first | omega | (split <;> omega)), ?_⟩
  | refine ⟨_, _, rfl, rfl, ?_⟩
  | refine ⟨_, _, _, rfl, rfl, ?_⟩
  | refine ⟨_, _, _, _, rfl, rfl, .inl (.inl (by assumption)), rfl, ?_⟩
  | refine Or.inl ⟨_, rfl, ?_⟩
  | refine ⟨_, _, rfl, fun n H1 s1 h0 h1 => ?_⟩
  | refine ⟨_, _, rfl, fun n h0 h1 => ?_⟩
  | refine ⟨_, _, rfl, ?_⟩
  | refine ⟨Nat.le_of_ble_eq_true rfl, fun p hp => ?_⟩
  | refine ⟨rfl, ?_⟩
  | refine ⟨lim_flat _, ?_⟩
  | refine ⟨⟨by assumption, by assumption⟩, ?_⟩
  | refine And.intro (by assumption) ?_
  | refine ⟨Or.inl ⟨_, rfl⟩, ?_⟩
  | refine And.intro (by omega) (fun H1 s1 => ?_)
  | refine And.intro (by omega) ?_
  | refine iteF ?_
  | refine iteT ?_
  | refine iteSS ?_
  | refine iteIS ?_
  | refine iteEqI (fun _ => ?_) (fun _ => ?_)
  | refine iteNeI (fun _ => ?_) (fun _ => ?_)
  | refine iteD (fun _ => ?_) (fun _ => ?_)
  | refine ite2 (fun _ => ?_) (fun _ => ?_))
local macro_rules | `(tactic| walk_at "run0") => `(tactic| repeat' (walk_at "st0"))

/-! ### what the top has left -/
structure Txt (K : PySem.W.Frag) (mg : Str → Option Value) (w : World) where
  acapital : Addr
  dcapital : FuncData
  Fcapital : Fun K "capital" "capital" scapital acapital dcapital
  gcapital : mg "capital" = some (.ref acapital)
  bcapital : Binds K dcapital Pcapital []
  acompared : Addr
  dcompared : FuncData
  Fcompared : Fun K "compared" "compared" scompared acompared dcompared
  gcompared : mg "compared" = some (.ref acompared)
  bcompared : Binds K dcompared Pcompared []
  ataken_beside : Addr
  dtaken_beside : FuncData
  Ftaken_beside : Fun K "taken_beside" "taken_beside" staken_beside ataken_beside dtaken_beside
  gtaken_beside : mg "taken_beside" = some (.ref ataken_beside)
  btaken_beside : Binds K dtaken_beside Ptaken_beside []
  aorder_key : Addr
  dorder_key : FuncData
  Forder_key : Fun K "order_key" "order_key" sorder_key aorder_key dorder_key
  gorder_key : mg "order_key" = some (.ref aorder_key)
  border_key : Binds K dorder_key Porder_key []
  a_law_cell : Addr
  d_law_cell : FuncData
  F_law_cell : Fun K "_law_cell" "_law_cell" s_law_cell a_law_cell d_law_cell
  g_law_cell : mg "_law_cell" = some (.ref a_law_cell)
  b_law_cell : Binds K d_law_cell P_law_cell []
  a_law_mix : Addr
  d_law_mix : FuncData
  F_law_mix : Fun K "_law_mix" "_law_mix" s_law_mix a_law_mix d_law_mix
  g_law_mix : mg "_law_mix" = some (.ref a_law_mix)
  b_law_mix : Binds K d_law_mix P_law_mix []
  a_law_amount : Addr
  d_law_amount : FuncData
  F_law_amount : Fun K "_law_amount" "_law_amount" s_law_amount a_law_amount d_law_amount
  g_law_amount : mg "_law_amount" = some (.ref a_law_amount)
  b_law_amount : Binds K d_law_amount P_law_amount []
  a_law_words : Addr
  d_law_words : FuncData
  F_law_words : Fun K "_law_words" "_law_words" s_law_words a_law_words d_law_words
  g_law_words : mg "_law_words" = some (.ref a_law_words)
  b_law_words : Binds K d_law_words P_law_words []
  a_law_signs : Addr
  d_law_signs : FuncData
  F_law_signs : Fun K "_law_signs" "_law_signs" s_law_signs a_law_signs d_law_signs
  g_law_signs : mg "_law_signs" = some (.ref a_law_signs)
  b_law_signs : Binds K d_law_signs P_law_signs []
  a_law_alphabet : Addr
  d_law_alphabet : FuncData
  F_law_alphabet : Fun K "_law_alphabet" "_law_alphabet" s_law_alphabet a_law_alphabet d_law_alphabet
  g_law_alphabet : mg "_law_alphabet" = some (.ref a_law_alphabet)
  b_law_alphabet : Binds K d_law_alphabet P_law_alphabet []
  a_law_scalar : Addr
  d_law_scalar : FuncData
  F_law_scalar : Fun K "_law_scalar" "_law_scalar" s_law_scalar a_law_scalar d_law_scalar
  g_law_scalar : mg "_law_scalar" = some (.ref a_law_scalar)
  b_law_scalar : Binds K d_law_scalar P_law_scalar []
  a_law_near_text : Addr
  d_law_near_text : FuncData
  F_law_near_text : Fun K "_law_near_text" "_law_near_text" s_law_near_text a_law_near_text d_law_near_text
  g_law_near_text : mg "_law_near_text" = some (.ref a_law_near_text)
  b_law_near_text : Binds K d_law_near_text P_law_near_text []
  a_law_near : Addr
  d_law_near : FuncData
  F_law_near : Fun K "_law_near" "_law_near" s_law_near a_law_near d_law_near
  g_law_near : mg "_law_near" = some (.ref a_law_near)
  b_law_near : Binds K d_law_near P_law_near []
  a_law_scalars : Addr
  d_law_scalars : FuncData
  F_law_scalars : Fun K "_law_scalars" "_law_scalars" s_law_scalars a_law_scalars d_law_scalars
  g_law_scalars : mg "_law_scalars" = some (.ref a_law_scalars)
  b_law_scalars : Binds K d_law_scalars P_law_scalars []
  a_law_step : Addr
  d_law_step : FuncData
  F_law_step : Fun K "_law_step" "_law_step" s_law_step a_law_step d_law_step
  g_law_step : mg "_law_step" = some (.ref a_law_step)
  b_law_step : Binds K d_law_step P_law_step []
  a_law_rank : Addr
  d_law_rank : FuncData
  F_law_rank : Fun K "_law_rank" "_law_rank" s_law_rank a_law_rank d_law_rank
  g_law_rank : mg "_law_rank" = some (.ref a_law_rank)
  b_law_rank : Binds K d_law_rank P_law_rank []
  a_law_order : Addr
  d_law_order : FuncData
  F_law_order : Fun K "_law_order" "_law_order" s_law_order a_law_order d_law_order
  g_law_order : mg "_law_order" = some (.ref a_law_order)
  b_law_order : Binds K d_law_order P_law_order []
  a_law_beside : Addr
  d_law_beside : FuncData
  F_law_beside : Fun K "_law_beside" "_law_beside" s_law_beside a_law_beside d_law_beside
  g_law_beside : mg "_law_beside" = some (.ref a_law_beside)
  b_law_beside : Binds K d_law_beside P_law_beside []
  a_law_compared : Addr
  d_law_compared : FuncData
  F_law_compared : Fun K "_law_compared" "_law_compared" s_law_compared a_law_compared d_law_compared
  g_law_compared : mg "_law_compared" = some (.ref a_law_compared)
  b_law_compared : Binds K d_law_compared P_law_compared []
  a_law_is_step : Addr
  d_law_is_step : FuncData
  F_law_is_step : Fun K "_law_is_step" "_law_is_step" s_law_is_step a_law_is_step d_law_is_step
  g_law_is_step : mg "_law_is_step" = some (.ref a_law_is_step)
  b_law_is_step : Binds K d_law_is_step P_law_is_step []
  a_law_is_key : Addr
  d_law_is_key : FuncData
  F_law_is_key : Fun K "_law_is_key" "_law_is_key" s_law_is_key a_law_is_key d_law_is_key
  g_law_is_key : mg "_law_is_key" = some (.ref a_law_is_key)
  b_law_is_key : Binds K d_law_is_key P_law_is_key []
  a_law_key_order : Addr
  d_law_key_order : FuncData
  F_law_key_order : Fun K "_law_key_order" "_law_key_order" s_law_key_order a_law_key_order d_law_key_order
  g_law_key_order : mg "_law_key_order" = some (.ref a_law_key_order)
  b_law_key_order : Binds K d_law_key_order P_law_key_order []
  a_law_pair : Addr
  d_law_pair : FuncData
  F_law_pair : Fun K "_law_pair" "_law_pair" s_law_pair a_law_pair d_law_pair
  g_law_pair : mg "_law_pair" = some (.ref a_law_pair)
  b_law_pair : Binds K d_law_pair P_law_pair []
  a_law_rising : Addr
  d_law_rising : FuncData
  F_law_rising : Fun K "_law_rising" "_law_rising" s_law_rising a_law_rising d_law_rising
  g_law_rising : mg "_law_rising" = some (.ref a_law_rising)
  b_law_rising : Binds K d_law_rising P_law_rising []
  alaw : Addr
  dlaw : FuncData
  Flaw : Fun K "law" "law" slaw alaw dlaw
  glaw : mg "law" = some (.ref alaw)
  blaw : Binds K dlaw Plaw []
  o_ERRORS : Addr
  m_ERRORS : mg "ERRORS" = some (.ref o_ERRORS)
  q_ERRORS : ∀ H, SqT K H o_ERRORS WDS
  l_ERRORS : ∃ o, K.lookup o_ERRORS = some o ∧ o.cls = .type "tuple" ∧ o.dict = none
  o_EB : Addr
  m_EMPTY_BESIDE : mg "EMPTY_BESIDE" = some (.ref o_EB)
  k_EB : KD K w o_EB
  g_EB : ∀ (H : Hp) (s t : S8), ∃ r, KGet K w o_EB (KN t) r ∧ (∀ d : Addr, SqT K H d S8.emp.vs → ∃ p : Addr, r.getD (.ref d) = .ref p ∧ SqT K H p (bes .emp t).vs)
  z_bool : mg "bool" = none
  z_int : mg "int" = none
  z_isinstance : mg "isinstance" = none
  z_len : mg "len" = none
  z_max : mg "max" = none
  z_min : mg "min" = none
  z_range : mg "range" = none
  z_str : mg "str" = none
  z_tuple : mg "tuple" = none
/-! ### the promises -/
def spcapital (K : PySem.W.Frag) : Sp := fun vs H Q _ => ∃ z : Str, vs = [.str z] ∧ (z.length ≤ 2000 ∧ Asc z) ∧ ∀ H' : Hp, Same H H' → Q (.str (Txt.upper z)) H'
def spcompared (K : PySem.W.Frag) : Sp := fun vs H Q _ => ∃ (p1 p2 : Addr) (s t : S8), vs = [.ref p1, .ref p2] ∧ SqT K H p1 s.vs ∧ SqT K H p2 t.vs ∧ s.ok 1000 ∧ t.ok 1000 ∧ ∀ H', Same H H' → Q (.int (cmp8 s t)) H'
def sptaken_beside (K : PySem.W.Frag) : Sp := fun vs H Q _ => ∃ (p1 p2 : Addr) (s t : S8), vs = [.ref p1, .ref p2] ∧ SqT K H p1 s.vs ∧ SqT K H p2 t.vs ∧ ∀ r : Addr, SqT K H r (bes s t).vs → Q (.ref r) H
def sporder_key (K : PySem.W.Frag) : Sp := fun vs H Q _ => ∃ (p : Addr) (s : S8), vs = [.ref p] ∧ SqT K H p s.vs ∧ s.ok 1000 ∧ ∀ (r : Addr) (H' : Hp), Same H H' → SqT K H' r s.key → Q (.ref r) H'
def sp_law_cell (K : PySem.W.Frag) : Sp := fun vs H Q _ => ∃ (a : Addr) (ns : List Int) (j : Nat), vs = [.ref a, .int j] ∧ SqL K H a (ns.map V.int) ∧ Q (.int (ns.getD j 0)) H
def sp_law_mix (K : PySem.W.Frag) : Sp := fun vs H Q _ => ∃ (c s : Int), vs = [.int c, .int s] ∧ ∀ n : Int, 0 ≤ n → n < 2147483629 → Q (.int n) H
def sp_law_amount (K : PySem.W.Frag) : Sp := fun vs H Q _ => ∃ c s : Int, vs = [.int c, .int s] ∧ ∀ (n : Int) (H' : Hp), Same H H' → -1000000000000000000000 < n → n < 1000000000000000000000 → Q (.int n) H'
def sp_law_words (K : PySem.W.Frag) : Sp := fun vs H Q _ => vs = [] ∧ ∀ (r : Addr) (ob : Obj) (H' : Hp), Same H H' → H' r = some (.frz ob (.tup WDS)) → ob.cls = .type "tuple" ∧ ob.dict = none → Q (.ref r) H'
def sp_law_signs (K : PySem.W.Frag) : Sp := fun vs H Q _ => ∃ (c m : Int) (g : Str), vs = [.int c, .int m, .str g] ∧ (0 ≤ m ∧ m ≤ 64) ∧ ((1 ≤ g.length ∧ g.length ≤ 1000) ∧ Asc g) ∧ ∀ (z : Str) (H' : Hp), Same H H' → z.length ≤ 64 → Asc z → Q (.str z) H'
def sp_law_alphabet (K : PySem.W.Frag) : Sp := fun vs H Q _ => vs = [] ∧ ∀ z : Str, z.length = 94 → Asc z → Q (.str z) H
def sp_law_scalar (K : PySem.W.Frag) : Sp := fun vs H Q _ => ∃ c t : Int, vs = [.int c, .int t] ∧ ∀ (p : Addr) (s : S8) (H' : Hp), Same H H' → SqT K H' p s.vs → s.ok 64 → Q (.ref p) H'
def sp_law_near_text (K : PySem.W.Frag) : Sp := fun vs H Q _ => ∃ (zz : Str) (m n : Int), vs = [.str zz, .int m, .int n] ∧ (zz.length ≤ 300 ∧ Asc zz) ∧ ∀ (z : Str) (H' : Hp), Same H H' → z.length ≤ 2 * zz.length + 1 → Asc z → Q (.str z) H'
def sp_law_near (K : PySem.W.Frag) : Sp := fun vs H Q _ => ∃ (p : Addr) (s : S8) (c t : Int) (k : Nat), vs = [.ref p, .int c, .int t] ∧ SqT K H p s.vs ∧ s.ok k ∧ k ≤ 300 ∧ ∀ (r : Addr) (u : S8) (H' : Hp), Same H H' → SqT K H' r u.vs → u.ok (2 * k + 1) → Q (.ref r) H'
def sp_law_scalars (K : PySem.W.Frag) : Sp := fun vs H Q _ => ∃ (a : Addr) (ns : List Int), vs = [.ref a] ∧ SqL K H a (ns.map V.int) ∧ ∀ (D p1 p2 p3 : Addr) (s1 s2 s3 : S8) (H' : Hp), Same H H' → SqL K H' D [.ref p1, .ref p2, .ref p3] → SqT K H' p1 s1.vs → SqT K H' p2 s2.vs → SqT K H' p3 s3.vs → s1.ok 1000 → s2.ok 1000 → s3.ok 1000 → Q (.ref D) H'
def sp_law_step (K : PySem.W.Frag) : Sp := fun vs H Q _ => ∃ x y : V, vs = [x, y] ∧ ((∃ i j : Int, x = .int i ∧ y = .int j ∧ Q (.int (stepI i j)) H) ∨ ∃ a b : Str, x = .str a ∧ y = .str b ∧ Q (.int (stepS a b)) H)
def sp_law_rank (K : PySem.W.Frag) : Sp := fun vs H Q _ => ∃ (p : Addr) (s : S8), vs = [.ref p] ∧ SqT K H p s.vs ∧ s.ok 1000 ∧ ∀ H', Same H H' → Q (.int s.rk) H'
def sp_law_order (K : PySem.W.Frag) : Sp := fun vs H Q _ => ∃ (p1 p2 : Addr) (s t : S8), vs = [.ref p1, .ref p2] ∧ SqT K H p1 s.vs ∧ SqT K H p2 t.vs ∧ s.ok 1000 ∧ t.ok 1000 ∧ ∀ H', Same H H' → Q (.int (ord8 s t)) H'
def sp_law_beside (K : PySem.W.Frag) : Sp := fun vs H Q _ => ∃ (p1 p2 : Addr) (s t : S8), vs = [.ref p1, .ref p2] ∧ SqT K H p1 s.vs ∧ SqT K H p2 t.vs ∧ s.ok 1000 ∧ t.ok 1000 ∧ (∀ n, t ≠ .err n) ∧ ∀ (r : Addr) (H' : Hp), Same H H' → SqT K H' r (bes s t).vs → Q (.ref r) H'
def sp_law_compared (K : PySem.W.Frag) : Sp := fun vs H Q _ => ∃ (p1 p2 : Addr) (s t : S8), vs = [.ref p1, .ref p2] ∧ SqT K H p1 s.vs ∧ SqT K H p2 t.vs ∧ s.ok 1000 ∧ t.ok 1000 ∧ ((∀ n, s ≠ .err n) ∧ ∀ n, t ≠ .err n) ∧ ∀ H', Same H H' → Q (.int (cmp8 s t)) H'
def sp_law_is_step (K : PySem.W.Frag) : Sp := fun vs H Q _ => ∃ i : Int, vs = [.int i, .int i] ∧ Q (.bl true) H
def sp_law_is_key (K : PySem.W.Frag) : Sp := fun vs H Q _ => ∃ (p : Addr) (s : S8), vs = [.ref p] ∧ SqT K H p s.key ∧ Q (.bl true) H
def sp_law_key_order (K : PySem.W.Frag) : Sp := fun vs H Q _ => ∃ (p1 p2 : Addr) (s t : S8), vs = [.ref p1, .ref p2] ∧ SqT K H p1 s.key ∧ SqT K H p2 t.key ∧ Q (.int (ord8 s t)) H
def sp_law_pair (K : PySem.W.Frag) : Sp := fun vs H Q _ => ∃ (p1 p2 k1 k2 : Addr) (s t : S8), vs = [.ref p1, .ref p2, .ref k1, .ref k2] ∧ SqT K H p1 s.vs ∧ SqT K H p2 t.vs ∧ SqT K H k1 s.key ∧ SqT K H k2 t.key ∧ s.ok 1000 ∧ t.ok 1000 ∧ ∀ H', Same H H' → Q (.bl true) H'
def sp_law_rising (K : PySem.W.Frag) : Sp := fun vs H Q _ => ∃ (p1 p2 : Addr) (s t : S8), vs = [.ref p1, .ref p2] ∧ SqT K H p1 s.key ∧ SqT K H p2 t.key ∧ ∀ H', Same H H' → Q (.bl (ris s t)) H'
def splaw (K : PySem.W.Frag) : Sp := fun vs H Q _ => ∃ (a : Addr) (ns : List Int), vs = [.ref a] ∧ SqL K H a (ns.map V.int) ∧ ns.length ≤ 63 ∧ ∀ H', Q (.bl true) H'
section
variable {P : Program} {w : World} {K : PySem.W.Frag} {mg : Str → Option Value} {base : Heap}
def gkcompared_b_a {α : Type} : List α → List α := fun zs => match zs with | [z0, z1] => [z1, z0] | _ => zs
theorem krcompared_b_a : ∀ {zs : List V} {ws : List Value}, Vals zs ws → Vals (gkcompared_b_a zs) (gkcompared_b_a ws) := fun {zs ws} r => by
  rcases r with _ | ⟨r0, r⟩
  · exact .nil
  rcases r with _ | ⟨r1, r⟩
  · exact (.cons r0 .nil)
  rcases r with _ | ⟨r2, r⟩
  · exact (.cons r1 (.cons r0 .nil))
  exact (.cons r0 (.cons r1 (.cons r2 r)))
theorem kbcompared_b_a (T : Txt K mg w) : KB0 K T.dcompared Pcompared ["b", "a"] gkcompared_b_a gkcompared_b_a := by
  obtain ⟨oc, od, kV, doc, pm, an, cdv, ct, osl, e, lk, hcd⟩ := T.Fcompared.ex
  refine ⟨fun s ws hl => ?_, krcompared_b_a⟩
  rw [e]
  match ws, hl with
  | [z0, z1], _ => exact .of_eq rfl
def gkorder_key_v {α : Type} : List α → List α := fun zs => match zs with | [z0] => [z0] | _ => zs
theorem krorder_key_v : ∀ {zs : List V} {ws : List Value}, Vals zs ws → Vals (gkorder_key_v zs) (gkorder_key_v ws) := fun {zs ws} r => by
  rcases r with _ | ⟨r0, r⟩
  · exact .nil
  rcases r with _ | ⟨r1, r⟩
  · exact (.cons r0 .nil)
  exact (.cons r0 (.cons r1 r))
theorem kborder_key_v (T : Txt K mg w) : KB0 K T.dorder_key Porder_key ["v"] gkorder_key_v gkorder_key_v := by
  obtain ⟨oc, od, kV, doc, pm, an, cdv, ct, osl, e, lk, hcd⟩ := T.Forder_key.ex
  refine ⟨fun s ws hl => ?_, krorder_key_v⟩
  rw [e]
  match ws, hl with
  | [z0], _ => exact .of_eq rfl
theorem okcapital (T : Txt K mg w) : FnOk P w K mg base CX0 1 T.acapital T.dcapital Pcapital (spcapital K) := by
  refine T.Fcapital.ok sccapital (fun vs H Q E h => ?_) (fun cdv A outer s H vs Q E hr h => ?_)
  · obtain ⟨z, rfl, _⟩ := h
    rfl
  · obtain ⟨z, rfl, ⟨hl, ha⟩, q⟩ := h
    refine ⟨_, (pss_one (ps_ret (pe_bm PySem.F.plainAttrs_str PySem.F.slot_str_join PySem.F.type_str_join mt_join pe_str (pa_cons (pe_lc (own := [("sign", 1)]) (g := gName 1) (tt := tYes) rfl sccapital.nd (pi_str (pv 0)) (blkOk_by (N := Ncapital) (sc := defScope scapital) (by decide +kernel)) (fun _ _ _ _ _ => pg_name (i := 1) sccapital.nd rfl (Or.inl rfl)) (fun _ _ _ _ _ => pts_nil) (fun _ _ _ _ _ => (pe_ifExp (pt_chain op_le_str op_le_str pe_str (pv 1) pe_str) (pe_bm0k rfl PySem.F.plainAttrs_str PySem.F.slot_str_upper PySem.F.type_str_upper mt_upper (pv 1)) (pv 1)))) pa_nil)))), ?_⟩
    walk_at "run"
    intro D hD
    refine lc_it (walk_str (z := z)) (fun i H' => Same H H' ∧ H' D = some (.lst ((((tl z).take i).map fun c => (⟨#[PyProof.Rows.up1 c]⟩ : Str)).map V.str))) ⟨same_upd hD, upd_same⟩ (fun _ _ _ _ => trivial) (fun i x H1 H2 hi hp hy => ?_) (fun H' hp => ?_)
    · obtain ⟨s1, hz⟩ := hp
      obtain ⟨rfl, c, ec, rfl⟩ := hy
      have ec2 : (tl z)[i]? = some c := by rw [Array.getElem?_toList]; exact ec
      have hc := ha c (List.mem_of_getElem? ec2)
      have et : (tl z).take (i + 1) = (tl z).take i ++ [c] := by
        rw [List.take_add_one, ec2]
        rfl
      have el : ((((tl z).take i).map fun c => (⟨#[PyProof.Rows.up1 c]⟩ : Str)).map V.str).length ≤ 2000 := by
        rw [List.length_map, List.length_map, List.length_take, ← len_tl]
        omega
      have fin : ∀ d, d = PyProof.Rows.up1 c → Same H (upd H2 D (.lst (((((tl z).take i).map fun c => (⟨#[PyProof.Rows.up1 c]⟩ : Str)).map V.str) ++ [V.str ⟨#[d]⟩]))) ∧ (upd H2 D (.lst (((((tl z).take i).map fun c => (⟨#[PyProof.Rows.up1 c]⟩ : Str)).map V.str) ++ [V.str ⟨#[d]⟩]))) D = some (.lst ((((tl z).take (i + 1)).map fun c => (⟨#[PyProof.Rows.up1 c]⟩ : Str)).map V.str)) := fun d e => by
        refine ⟨same_put s1 hD, ?_⟩
        rw [upd_same, et, List.map_append, List.map_append, e]
        rfl
      walk_at "run"
      · refine And.intro (Nat.le_of_ble_eq_true rfl) ?_
        rw [upper_one hc]
        exact ⟨_, hz, Nat.lt_of_le_of_lt el (by decide), fin _ rfl⟩
      · rename_i a b
        rw [sg_le_z, decide_eq_true_eq] at b
        exact ⟨_, hz, Nat.lt_of_le_of_lt el (by decide), fin _ (up1_small_letter (by omega))⟩
      · rename_i a
        rw [sg_ge_a, decide_eq_true_eq] at a
        exact ⟨_, hz, Nat.lt_of_le_of_lt el (by decide), fin _ (up1_small_letter (by omega))⟩
    · obtain ⟨s1, hz⟩ := hp
      have e0 : (tl z).take z.cps.size = tl z := List.take_of_length_le (by simp [tl])
      rw [e0] at hz
      have ej := join_ones PyProof.Rows.up1 (tl z)
      rw [← upper_tl ha] at ej
      refine ⟨_, D, _, rfl, rfl, Or.inl (SqL.of hz), ?_, ?_⟩
      · refine Nat.le_trans (join_sum (n := 1) fun y hy => ?_) ?_
        · obtain ⟨c, _, rfl⟩ := List.mem_map.mp hy
          exact Nat.le_refl 1
        · rw [List.length_map, ← len_tl]
          omega
      · rw [ej]
        exact q _ s1

theorem oktaken_beside (T : Txt K mg w) : FnOk P w K mg base CX0 1 T.ataken_beside T.dtaken_beside Ptaken_beside (sptaken_beside K) := by
  refine T.Ftaken_beside.ok sctaken_beside (fun vs H Q E h => ?_) (fun cdv A outer s H vs Q E hr h => ?_)
  · obtain ⟨p1, p2, s, t, rfl, _⟩ := h
    rfl
  · obtain ⟨p1, p2, s, t, rfl, hp, hp2, q⟩ := h
    refine ⟨_, (pss_cons (ps_if (pt_cmpR op_eq (pe_ix ix_tup (pv 0) pe_int (fun _ _ => rfl)) pe_str (by first | exact nomark _ | rfl))
      (pss_one (ps_ret (pe_kget2 (pe_glob (v := .ref T.o_EB) (by rfl) T.m_EMPTY_BESIDE rfl) (pe_ix ix_tup (pv 1) pe_int (fun _ _ => rfl)) (pv 0) ⟨rfl, rfl, rfl, rfl⟩)))
      pss_nil)
    (pss_one (ps_ret (pv 0)))), ?_⟩
    rcases s with _ | m | b | z | n
    · obtain ⟨r, hr, hd⟩ := T.g_EB H .emp t
      obtain ⟨p3, e3, h3⟩ := hd p1 hp
      rcases t with _ | m | b | z | n
      all_goals walk_at "run"
      all_goals refine ⟨T.k_EB, ?_⟩
      all_goals walk_at "run"
      all_goals refine ⟨_, r, rfl, hr, ?_⟩
      all_goals rw [e3]
      all_goals exact q _ h3
    all_goals walk_at "run"
    all_goals exact q _ hp

theorem okorder_key (T : Txt K mg w) : FnOk P w K mg base CX0 2 T.aorder_key T.dorder_key Porder_key (sporder_key K) := by
  refine T.Forder_key.ok scorder_key (fun vs H Q E h => ?_) (fun cdv A outer s H vs Q E hr h => ?_)
  · obtain ⟨p, s, rfl, _⟩ := h
    rfl
  · obtain ⟨p, s, rfl, hp, hs, q⟩ := h
    refine ⟨_, (pss_cons (ps_set (i := 1) scorder_key.nd rfl (by first | exact Or.inl rfl | exact Or.inr rfl) (pe_ix ix_tup (pv 0) pe_int (fun _ _ => rfl)))
    (pss_cons (ps_if (pt_cmpR op_eq (pv 1) pe_str (by first | exact nomark _ | rfl))
      (pss_one (ps_ret (pe_tup (pa_cons pe_int (pa_cons (pe_ix ix_tup (pv 0) pe_int (fun _ _ => rfl)) pa_nil)))))
      pss_nil)
    (pss_cons (ps_if (pt_cmpR op_eq (pv 1) pe_str (by first | exact nomark _ | rfl))
      (pss_one (ps_ret (pe_tup (pa_cons pe_int (pa_cons (pe_call (okcapital T) (hr.mono (by decide)) (by rfl) T.gcapital T.Fcapital.kp (T.bcapital) .nil pass0 (pa_cons (pe_ix ix_tup (pv 0) pe_int (fun _ _ => rfl)) pa_nil)) (pa_cons (pe_ix ix_tup (pv 0) pe_int (fun _ _ => rfl)) pa_nil))))))
      pss_nil)
    (pss_cons (ps_if (pt_cmpR op_eq (pv 1) pe_str (by first | exact nomark _ | rfl))
      (pss_one (ps_ret (pe_tup (pa_cons pe_int (pa_cons (pe_ifExp (pt_val (pe_ix ix_tup (pv 0) pe_int (fun _ _ => rfl))) pe_int pe_int) pa_nil)))))
      pss_nil)
    (pss_cons (ps_if (pt_cmpR op_eq (pv 1) pe_str (by first | exact nomark _ | rfl))
      (pss_one (ps_ret (pe_tup (pa_cons pe_int (pa_cons (pe_bm PySem.F.plainAttrs_tuple PySem.F.slot_tuple_index PySem.F.type_tuple_index mt_tup_index (pe_glob (v := .ref T.o_ERRORS) (by rfl) T.m_ERRORS rfl) (pa_cons (pe_ix ix_tup (pv 0) pe_int (fun _ _ => rfl)) pa_nil)) pa_nil)))))
      pss_nil)
    (pss_one (ps_ret (pe_tup (pa_cons pe_int pa_nil))))))))), ?_⟩
    rcases s with _ | m | b | z | n
    · walk_at "run"
      exact q _ _ (by walk_at "same") (SqT.of upd_same)
    · walk_at "run"
      exact q _ _ (by walk_at "same") (SqT.of upd_same)
    · cases b
      all_goals walk_at "run"
      all_goals exact q _ _ (by walk_at "same") (SqT.of upd_same)
    · obtain ⟨hz, ha⟩ := hs
      walk_at "run"
      refine And.intro ⟨by omega, ha⟩ (fun H1 s1 => ?_)
      walk_at "run"
      exact q _ _ (by walk_at "same") (SqT.of upd_same)
    · have hn : n < 10 := hs
      obtain ⟨ob, l1, l2, l3⟩ := T.l_ERRORS
      walk_at "run"
      refine ⟨.inr (.inl ⟨rfl, ob, l1, l2, l3⟩), ?_⟩
      walk_at "run"
      refine ⟨_, WL, _, n, rfl, rfl, T.q_ERRORS _, wl_at n hn, wl_no n hn, ?_⟩
      walk_at "run"
      exact q _ _ (by walk_at "same") (SqT.of upd_same)

theorem okcompared (T : Txt K mg w) : FnOk P w K mg base CX0 3 T.acompared T.dcompared Pcompared (spcompared K) := by
  refine T.Fcompared.ok sccompared (fun vs H Q E h => ?_) (fun cdv A outer s H vs Q E hr h => ?_)
  · obtain ⟨p1, p2, s, t, rfl, _⟩ := h
    rfl
  · obtain ⟨p1, p2, s, t, rfl, hp, hp2, hs, ht, q⟩ := h
    refine ⟨_, (pss_cons (ps_set (i := 2) sccompared.nd rfl (by first | exact Or.inl rfl | exact Or.inr rfl) (pe_slice sl_tupA (pe_call (okorder_key T) (hr.mono (by decide)) (by rfl) T.gorder_key T.Forder_key.kp (T.border_key) .nil pass0 (pa_cons (pe_call (oktaken_beside T) (hr.mono (by decide)) (by rfl) T.gtaken_beside T.Ftaken_beside.kp (T.btaken_beside) .nil pass0 (pa_cons (pv 0) (pa_cons (pv 1) pa_nil))) pa_nil)) po_none (po_some pe_int)))
    (pss_cons (ps_set (i := 3) sccompared.nd rfl (by first | exact Or.inl rfl | exact Or.inr rfl) (pe_slice sl_tupA (pe_call (okorder_key T) (hr.mono (by decide)) (by rfl) T.gorder_key T.Forder_key.kp (T.border_key) .nil pass0 (pa_cons (pe_call (oktaken_beside T) (hr.mono (by decide)) (by rfl) T.gtaken_beside T.Ftaken_beside.kp (T.btaken_beside) .nil pass0 (pa_cons (pv 1) (pa_cons (pv 0) pa_nil))) pa_nil)) po_none (po_some pe_int)))
    (pss_cons (ps_if (pt_cmpR (op_ltP hr.units0) (pv 2) (pv 3) (by first | exact nomark _ | rfl))
      (pss_one (ps_ret (pe_un un_neg pe_int)))
      pss_nil)
    (pss_cons (ps_if (pt_cmpR (op_gtP hr.units0) (pv 2) (pv 3) (by first | exact nomark _ | rfl))
      (pss_one (ps_ret pe_int))
      pss_nil)
    (pss_one (ps_ret pe_int)))))), ?_⟩
    have hl : (bes s t).ok 1000 := bes_ok hs
    have hrt : (bes t s).ok 1000 := bes_ok ht
    walk_at "run"
    first
      | refine ⟨_, _, s, t, rfl, hp, hp2, fun r1 h1 => ?_⟩
      | refine fun (r1 : Addr) h1 => ?_
    walk_at "run"
    rename_i r2 H2 s2 h2
    refine sl2 h2 fun r3 H3 s3 h3 => ?_
    have t1 := same_tk (K := K) (s2.trans s3)
    walk_at "run"
    first
      | refine ⟨_, _, t, s, rfl, t1 _ _ hp2, t1 _ _ hp, fun r4 h4 => ?_⟩
      | refine fun (r4 : Addr) h4 => ?_
    walk_at "run"
    rename_i r5 H5 s5 h5
    refine sl2 h5 fun r6 H6 s6 h6 => ?_
    walk_at "run"
    have h3b : SqT K H6 r3 (bes s t).key2 := same_tk s6 _ _ (same_tk s5 _ _ h3)
    have sa : Same H H6 := ((s2.trans s3).trans s5).trans s6
    refine ⟨_, _, _, _, _, rfl, rfl, h3b, h6, lt2 _ _, ?_⟩
    refine ⟨_, rfl, ?_⟩
    refine ite2 (fun c => ?_) (fun c => ?_)
    · walk_at "run"
      rw [show cmp8 s t = -1 from if_pos c] at q
      exact q _ sa
    · walk_at "run"
      refine ⟨_, _, _, _, _, rfl, rfl, h3b, h6, lt2 _ _, ?_⟩
      refine ⟨_, rfl, ?_⟩
      refine ite2 (fun c2 => ?_) (fun c2 => ?_)
      · walk_at "run"
        rw [show cmp8 s t = 1 from (if_neg c).trans (if_pos c2)] at q
        exact q _ sa
      · walk_at "run"
        rw [show cmp8 s t = 0 from (if_neg c).trans (if_neg c2)] at q
        exact q _ sa

theorem ok_law_cell (T : Txt K mg w) : FnOk P w K mg base CX0 1 T.a_law_cell T.d_law_cell P_law_cell (sp_law_cell K) := by
  refine T.F_law_cell.ok sc_law_cell (fun vs H Q E h => ?_) (fun cdv A outer s H vs Q E hr h => ?_)
  · obtain ⟨a, ns, j, rfl, _⟩ := h
    rfl
  · obtain ⟨a, ns, j, rfl, hS, q⟩ := h
    refine ⟨_, (pss_cons (ps_if (pt_cmpR op_lt (pv 1) (pe_callB call_len_seq (by rfl) T.z_len (by decide +kernel) (pa_cons (pv 0) pa_nil)) (by first | exact nomark _ | rfl))
      (pss_one (ps_ret (pe_ix ix_list (pv 0) (pv 1) (fun _ _ => rfl))))
      pss_nil)
    (pss_one (ps_ret pe_int))), ?_⟩
    refine ⟨_, rfl, _, rfl, a, _, rfl, .inl hS, _, _, rfl, rfl, _, rfl, ite2 (fun e => ?_) (fun e => ?_)⟩
    · have e1 : j < ns.length := by
        have e2 := of_decide_eq_true e
        rw [List.length_map] at e2
        omega
      refine ⟨_, rfl, _, rfl, a, _, _, .int (ns.getD j 0), rfl, rfl, hS, atI_nat ?_, q⟩
      rw [List.getElem?_map, List.getD_eq_getElem?_getD, List.getElem?_eq_getElem e1]
      rfl
    · have e1 : ¬ j < ns.length := fun z => e (decide_eq_true (by rw [List.length_map]; omega))
      have e2 : ns.getD j 0 = 0 := by
        rw [List.getD_eq_getElem?_getD, List.getElem?_eq_none (by omega)]
        rfl
      rw [e2] at q
      exact q

theorem ok_law_mix (T : Txt K mg w) : FnOk P w K mg base CX0 1 T.a_law_mix T.d_law_mix P_law_mix (sp_law_mix K) := by
  refine T.F_law_mix.ok sc_law_mix (fun vs H Q E h => ?_) (fun cdv A outer s H vs Q E hr h => ?_)
  · obtain ⟨c, s, rfl, _⟩ := h
    rfl
  · obtain ⟨c, s, rfl, q⟩ := h
    refine ⟨_, (pss_cons (ps_set (i := 2) sc_law_mix.nd rfl (by first | exact Or.inl rfl | exact Or.inr rfl) (pe_op op_mod (pe_callTy call_int1 (by rfl) T.z_int (by decide +kernel) (pa_cons (pe_op op_add (pe_op op_add (pe_op op_mul (pv 0) pe_int) (pe_op op_mul (pv 1) pe_int)) pe_int) pa_nil)) pe_int))
    (pss_one (ps_ret (pe_op op_mod (pe_callTy call_int1 (by rfl) T.z_int (by decide +kernel) (pa_cons (pe_op op_add (pe_op op_add (pe_op op_mul (pv 2) (pv 2)) (pe_op op_mul (pv 2) pe_int)) (pe_op op_mul (pv 1) pe_int)) pa_nil)) pe_int)))), ?_⟩
    walk_at "run"
    generalize e1 : (c * 48271 + s * 69621 + 12345) % 2147483647 = one
    have h0 : 0 ≤ one := by omega
    have h1 : one < 2147483647 := by omega
    walk_at "run"
    refine q _ ?_ ?_
    · omega
    · omega

theorem ok_law_amount (T : Txt K mg w) : FnOk P w K mg base CX0 2 T.a_law_amount T.d_law_amount P_law_amount (sp_law_amount K) := by
  refine T.F_law_amount.ok sc_law_amount (fun vs H Q E h => ?_) (fun cdv A outer s H vs Q E hr h => ?_)
  · obtain ⟨c, s, rfl, _⟩ := h
    rfl
  · obtain ⟨c, s, rfl, q⟩ := h
    refine ⟨_, (pss_cons (ps_set (i := 2) sc_law_amount.nd rfl (by first | exact Or.inl rfl | exact Or.inr rfl) (pe_op op_sub (pe_powc (c := 1000000000000000000000) (by decide) (by decide +kernel)) pe_int))
    (pss_cons (ps_if (pt_cmpR op_ge (pv 0) (pe_powc (c := 1000000000000000000) (by decide) (by decide +kernel)) (by first | exact nomark _ | rfl))
      (pss_one (ps_ret (pe_op op_sub (pe_op op_mod (pe_callTy call_int1 (by rfl) T.z_int (by decide +kernel) (pa_cons (pe_op op_sub (pv 0) (pe_powc (c := 1000000000000000000) (by decide) (by decide +kernel))) pa_nil)) (pe_op op_add (pe_op op_mul pe_int (pv 2)) pe_int)) (pv 2))))
      pss_nil)
    (pss_cons (ps_set (i := 3) sc_law_amount.nd rfl (by first | exact Or.inl rfl | exact Or.inr rfl) (pe_op op_mod (pe_callTy call_int1 (by rfl) T.z_int (by decide +kernel) (pa_cons (pe_call (ok_law_mix T) (hr.mono (by decide)) (by rfl) T.g_law_mix T.F_law_mix.kp (T.b_law_mix) .nil pass0 (pa_cons (pv 0) (pa_cons (pv 1) pa_nil))) pa_nil)) pe_int))
    (pss_cons (ps_set (i := 4) sc_law_amount.nd rfl (by first | exact Or.inl rfl | exact Or.inr rfl) (pe_call (ok_law_mix T) (hr.mono (by decide)) (by rfl) T.g_law_mix T.F_law_mix.kp (T.b_law_mix) .nil pass0 (pa_cons (pv 0) (pa_cons (pe_op op_add (pv 1) pe_int) pa_nil))))
    (pss_cons (ps_if (pt_cmpR op_eq (pv 3) pe_int (by first | exact nomark _ | rfl))
      (pss_cons (ps_set (i := 5) sc_law_amount.nd rfl (by first | exact Or.inl rfl | exact Or.inr rfl) (pe_lst (pa_cons pe_int (pa_cons pe_int (pa_cons pe_int (pa_cons (pe_un un_neg pe_int) (pa_cons pe_int (pa_cons pe_int (pa_cons pe_int (pa_cons (pe_un un_neg pe_int) (pa_cons pe_int (pa_cons pe_int (pa_cons pe_int (pa_cons (pe_un un_neg pe_int) (pa_cons (pv 2) (pa_cons (pe_un un_neg (pv 2)) pa_nil))))))))))))))))
    (pss_one (ps_ret (pe_ix ix_list (pv 5) (pe_op op_mod (pe_callTy call_int1 (by rfl) T.z_int (by decide +kernel) (pa_cons (pv 4) pa_nil)) pe_int) (fun _ _ => rfl)))))
      pss_nil)
    (pss_cons (ps_if (pt_cmpR op_eq (pv 3) pe_int (by first | exact nomark _ | rfl))
      (pss_one (ps_ret (pe_op op_sub (pe_op op_mod (pe_callTy call_int1 (by rfl) T.z_int (by decide +kernel) (pa_cons (pv 4) pa_nil)) pe_int) pe_int)))
      pss_nil)
    (pss_cons (ps_if (pt_cmpR op_eq (pv 3) pe_int (by first | exact nomark _ | rfl))
      (pss_one (ps_ret (pe_op op_mul (pe_op op_sub (pe_op op_mod (pe_callTy call_int1 (by rfl) T.z_int (by decide +kernel) (pa_cons (pv 4) pa_nil)) pe_int) pe_int) pe_int)))
      pss_nil)
    (pss_cons (ps_if (pt_cmpR op_eq (pv 3) pe_int (by first | exact nomark _ | rfl))
      (pss_one (ps_ret (pe_op op_mul (pe_op op_sub (pe_op op_mul pe_int (pe_op op_mod (pe_callTy call_int1 (by rfl) T.z_int (by decide +kernel) (pa_cons (pv 4) pa_nil)) pe_int)) pe_int) pe_int)))
      pss_nil)
    (pss_cons (ps_if (pt_cmpR op_eq (pv 3) pe_int (by first | exact nomark _ | rfl))
      (pss_one (ps_ret (pe_op op_sub (pv 2) (pe_op op_mod (pe_callTy call_int1 (by rfl) T.z_int (by decide +kernel) (pa_cons (pv 4) pa_nil)) pe_int))))
      pss_nil)
    (pss_cons (ps_if (pt_cmpR op_eq (pv 3) pe_int (by first | exact nomark _ | rfl))
      (pss_one (ps_ret (pe_op op_sub (pe_op op_mod (pe_callTy call_int1 (by rfl) T.z_int (by decide +kernel) (pa_cons (pv 4) pa_nil)) pe_int) (pv 2))))
      pss_nil)
    (pss_cons (ps_if (pt_cmpR op_eq (pv 3) pe_int (by first | exact nomark _ | rfl))
      (pss_one (ps_ret (pe_op op_sub (pe_op op_mod (pe_callTy call_int1 (by rfl) T.z_int (by decide +kernel) (pa_cons (pe_op op_mul (pv 4) (pv 4)) pa_nil)) (pe_op op_mul pe_int (pe_powc (c := 1000000000000) (by decide) (by decide +kernel)))) (pe_powc (c := 1000000000000) (by decide) (by decide +kernel)))))
      pss_nil)
    (pss_cons (ps_set (i := 6) sc_law_amount.nd rfl (by first | exact Or.inl rfl | exact Or.inr rfl) (pe_op op_add (pe_op op_add (pe_op op_mul (pv 4) (pe_powc (c := 1000000000000000000) (by decide) (by decide +kernel))) (pe_op op_mul (pe_call (ok_law_mix T) (hr.mono (by decide)) (by rfl) T.g_law_mix T.F_law_mix.kp (T.b_law_mix) .nil pass0 (pa_cons (pv 0) (pa_cons (pe_op op_add (pv 1) pe_int) pa_nil))) (pe_powc (c := 1000000000) (by decide) (by decide +kernel)))) (pe_call (ok_law_mix T) (hr.mono (by decide)) (by rfl) T.g_law_mix T.F_law_mix.kp (T.b_law_mix) .nil pass0 (pa_cons (pv 0) (pa_cons (pe_op op_add (pv 1) pe_int) pa_nil)))))
    (pss_one (ps_ret (pe_op op_sub (pe_op op_mod (pe_callTy call_int1 (by rfl) T.z_int (by decide +kernel) (pa_cons (pv 6) pa_nil)) (pe_op op_add (pe_op op_mul pe_int (pv 2)) pe_int)) (pv 2)))))))))))))))), ?_⟩
    walk_at "run"
    all_goals first
      | refine q _ _ (Same.refl _) ?_ ?_ <;> omega
      | skip
    rename_i p hp
    refine atI_go (.inl (.inl upd_same)) (by omega) (by show _ < (14 : Int); omega) fun v hv => ?_
    simp only [List.mem_cons, List.not_mem_nil, or_false] at hv
    rcases hv with rfl | rfl | rfl | rfl | rfl | rfl | rfl | rfl | rfl | rfl | rfl | rfl | rfl | rfl
    all_goals exact q _ _ (same_upd hp) (by decide) (by decide)

theorem ok_law_words (T : Txt K mg w) : FnOk P w K mg base CX0 1 T.a_law_words T.d_law_words P_law_words (sp_law_words K) := by
  refine T.F_law_words.ok sc_law_words (fun vs H Q E h => ?_) (fun cdv A outer s H vs Q E hr h => ?_)
  · obtain ⟨rfl, _⟩ := h
    rfl
  · obtain ⟨rfl, q⟩ := h
    refine ⟨_, (pss_one (ps_ret (pe_tupF (pa_cons pe_str (pa_cons pe_str (pa_cons pe_str (pa_cons pe_str (pa_cons pe_str (pa_cons pe_str (pa_cons pe_str (pa_cons pe_str (pa_cons pe_str (pa_cons pe_str pa_nil))))))))))))), ?_⟩
    refine ⟨by decide, fun p ob hp ho => ?_⟩
    exact q _ _ _ (same_upd hp) upd_same ho

theorem ok_law_signs (T : Txt K mg w) : FnOk P w K mg base CX0 1 T.a_law_signs T.d_law_signs P_law_signs (sp_law_signs K) := by
  refine T.F_law_signs.ok sc_law_signs (fun vs H Q E h => ?_) (fun cdv A outer s H vs Q E hr h => ?_)
  · obtain ⟨c, m, g, rfl, _⟩ := h
    rfl
  · obtain ⟨c, m, g, rfl, hm, ⟨hg, ga⟩, q⟩ := h
    refine ⟨_, (pss_cons (ps_set (i := 3) sc_law_signs.nd rfl (by first | exact Or.inl rfl | exact Or.inr rfl) (pe_lst pa_nil))
    (pss_cons (ps_for PassesOwn.never rfl (pi_range1 (by rfl) T.z_range (pa_cons (pv 1) pa_nil)) (pg_name (i := 4) sc_law_signs.nd rfl (by first | exact Or.inl rfl | exact Or.inr rfl))
      (pss_one (ps_if (pt_cmpR op_gt (pv 0) pe_int (by first | exact nomark _ | rfl))
      (pss_cons (ps_expr (pe_bm PySem.F.plainAttrs_list PySem.F.slot_list_append PySem.F.type_list_append mt_append (pv 3) (pa_cons (pe_ix ix_str (pv 2) (pe_op op_modL (pe_callTy call_int1 (by rfl) T.z_int (by decide +kernel) (pa_cons (pe_op op_sub (pv 0) pe_int) pa_nil)) (pe_callB call_len_str (by rfl) T.z_len (by decide +kernel) (pa_cons (pv 2) pa_nil))) (fun _ _ => rfl)) pa_nil)))
    (pss_one (ps_set (i := 0) sc_law_signs.nd rfl (by first | exact Or.inl rfl | exact Or.inr rfl) (pe_op op_fdivB (pe_op op_sub (pv 0) pe_int) (pe_callB call_len_str (by rfl) T.z_len (by decide +kernel) (pa_cons (pv 2) pa_nil))))))
      pss_nil)))
    (pss_one (ps_ret (pe_bm PySem.F.plainAttrs_str PySem.F.slot_str_join PySem.F.type_str_join mt_join pe_str (pa_cons (pv 3) pa_nil)))))), ?_⟩
    have hgl : g.length ≤ 100000 := by omega
    walk_at "run"
    rename_i p hp
    refine for_range (lo := 0) (n := _) (fun i σ H' => Same H H' ∧ ∃ (zs : List Str) (l : Int) (u : Option V), H' p = some (.lst (zs.map V.str)) ∧ zs.length ≤ i ∧ (∀ z ∈ zs, z.length ≤ 1) ∧ (∀ z ∈ zs, Asc z) ∧ σ = [some (.int l), some (.int m), some (.str g), some (.ref p), u]) ⟨same_upd hp, [], _, none, upd_same, Nat.le_refl _, fun _ h => (nomatch h), fun _ h => (nomatch h), rfl⟩ (fun i σ H' hi hp2 => ?_) (fun σ H' hp2 => ?_)
    · obtain ⟨s1, zs, l, u, hz, hl, h1, h2, rfl⟩ := hp2
      have hi2 : i < 64 := by omega
      walk_at "run"
      · refine ⟨.inl ⟨rfl, _, SqL.of hz⟩, ?_⟩
        walk_at "run"
        rename_i d d0 d1
        refine ixS_goA ga (by omega) d0 (by omega) fun ch hc => ?_
        refine ⟨_, _, _, rfl, rfl, hz, (by rw [List.length_map]; exact small1000 (by omega)), ?_⟩
        rw [more_map]
        walk_at "run"
        exact ⟨same_put s1 hp, _, _, _, upd_same, more_len hl, more_one h1, more_asc h2 hc, rfl⟩
      · exact ⟨zs, _, _, hz, by omega, h1, h2, rfl⟩
    · obtain ⟨s1, zs, l, u, hz, hl, h1, h2, rfl⟩ := hp2
      have jl := join_len h1
      walk_at "run"
      exact ⟨_, p, zs, rfl, rfl, Or.inl (SqL.of hz), Nat.le_trans (join_sum h1) (by omega), q _ _ s1 (by omega) (Asc.join h2)⟩

theorem ok_law_alphabet (T : Txt K mg w) : FnOk P w K mg base CX0 1 T.a_law_alphabet T.d_law_alphabet P_law_alphabet (sp_law_alphabet K) := by
  refine T.F_law_alphabet.ok sc_law_alphabet (fun vs H Q E h => ?_) (fun cdv A outer s H vs Q E hr h => ?_)
  · obtain ⟨rfl, _⟩ := h
    rfl
  · obtain ⟨rfl, q⟩ := h
    refine ⟨_, (pss_cons (ps_set (i := 0) sc_law_alphabet.nd rfl (by first | exact Or.inl rfl | exact Or.inr rfl) pe_str)
    (pss_cons (ps_set (i := 0) sc_law_alphabet.nd rfl (by first | exact Or.inl rfl | exact Or.inr rfl) (pe_op op_add_str (pv 0) pe_str))
    (pss_one (ps_ret (pv 0))))), ?_⟩
    walk_at "run"
    refine And.intro (by decide +kernel) ?_
    walk_at "run"
    refine q _ ?_ (asc_lit ?_)
    · decide +kernel
    · decide +kernel

theorem ok_law_scalar (T : Txt K mg w) : FnOk P w K mg base CX0 3 T.a_law_scalar T.d_law_scalar P_law_scalar (sp_law_scalar K) := by
  refine T.F_law_scalar.ok sc_law_scalar (fun vs H Q E h => ?_) (fun cdv A outer s H vs Q E hr h => ?_)
  · obtain ⟨c, t, rfl, _⟩ := h
    rfl
  · obtain ⟨c, t, rfl, q⟩ := h
    refine ⟨_, (pss_cons (ps_if (pt_cmpR op_ge (pv 0) (pe_powc (c := 1000000000000000000) (by decide) (by decide +kernel)) (by first | exact nomark _ | rfl))
      (pss_cons (ps_set (i := 2) sc_law_scalar.nd rfl (by first | exact Or.inl rfl | exact Or.inr rfl) (pe_op op_mod (pe_callTy call_int1 (by rfl) T.z_int (by decide +kernel) (pa_cons (pe_op op_sub (pv 0) (pe_powc (c := 1000000000000000000) (by decide) (by decide +kernel))) pa_nil)) pe_int))
    (pss_cons (ps_set (i := 3) sc_law_scalar.nd rfl (by first | exact Or.inl rfl | exact Or.inr rfl) (pe_op op_fdiv (pe_op op_sub (pv 0) (pe_powc (c := 1000000000000000000) (by decide) (by decide +kernel))) pe_int))
    (pss_cons (ps_set (i := 4) sc_law_scalar.nd rfl (by first | exact Or.inl rfl | exact Or.inr rfl) (pe_op op_add (pe_op op_sub (pe_op op_mod (pe_callTy call_int1 (by rfl) T.z_int (by decide +kernel) (pa_cons (pv 3) pa_nil)) (pe_op op_sub (pe_op op_mul pe_int (pe_powc (c := 1000000000000000000000) (by decide) (by decide +kernel))) pe_int)) (pe_powc (c := 1000000000000000000000) (by decide) (by decide +kernel))) pe_int))
    (pss_one (ps_set (i := 5) sc_law_scalar.nd rfl (by first | exact Or.inl rfl | exact Or.inr rfl) (pe_call (ok_law_signs T) (hr.mono (by decide)) (by rfl) T.g_law_signs T.F_law_signs.kp (T.b_law_signs) .nil pass0 (pa_cons (pv 3) (pa_cons pe_int (pa_cons (pe_call0 (ok_law_alphabet T) (hr.mono (by decide)) (by rfl) T.g_law_alphabet T.F_law_alphabet.kp (T.b_law_alphabet) .nil pass0) pa_nil)))))))))
      (pss_cons (ps_set (i := 2) sc_law_scalar.nd rfl (by first | exact Or.inl rfl | exact Or.inr rfl) (pe_ix ix_list (pe_lst (pa_cons pe_int (pa_cons pe_int (pa_cons pe_int (pa_cons pe_int (pa_cons pe_int (pa_cons pe_int (pa_cons pe_int (pa_cons pe_int pa_nil))))))))) (pe_op op_mod (pe_callTy call_int1 (by rfl) T.z_int (by decide +kernel) (pa_cons (pe_call (ok_law_mix T) (hr.mono (by decide)) (by rfl) T.g_law_mix T.F_law_mix.kp (T.b_law_mix) .nil pass0 (pa_cons (pv 0) (pa_cons (pv 1) pa_nil))) pa_nil)) pe_int) (fun _ _ => rfl)))
    (pss_cons (ps_set (i := 3) sc_law_scalar.nd rfl (by first | exact Or.inl rfl | exact Or.inr rfl) (pe_call (ok_law_mix T) (hr.mono (by decide)) (by rfl) T.g_law_mix T.F_law_mix.kp (T.b_law_mix) .nil pass0 (pa_cons (pv 0) (pa_cons (pe_op op_add (pv 1) pe_int) pa_nil))))
    (pss_cons (ps_set (i := 4) sc_law_scalar.nd rfl (by first | exact Or.inl rfl | exact Or.inr rfl) (pe_call (ok_law_amount T) (hr.mono (by decide)) (by rfl) T.g_law_amount T.F_law_amount.kp (T.b_law_amount) .nil pass0 (pa_cons (pv 0) (pa_cons (pe_op op_add (pv 1) pe_int) pa_nil))))
    (pss_one (ps_set (i := 5) sc_law_scalar.nd rfl (by first | exact Or.inl rfl | exact Or.inr rfl) (pe_call (ok_law_signs T) (hr.mono (by decide)) (by rfl) T.g_law_signs T.F_law_signs.kp (T.b_law_signs) .nil pass0 (pa_cons (pe_call (ok_law_mix T) (hr.mono (by decide)) (by rfl) T.g_law_mix T.F_law_mix.kp (T.b_law_mix) .nil pass0 (pa_cons (pv 0) (pa_cons (pe_op op_add (pv 1) pe_int) pa_nil))) (pa_cons (pe_op op_mod (pe_callTy call_int1 (by rfl) T.z_int (by decide +kernel) (pa_cons (pv 3) pa_nil)) pe_int) (pa_cons pe_str pa_nil))))))))))
    (pss_cons (ps_if (pt_cmpR op_eq (pv 2) pe_int (by first | exact nomark _ | rfl))
      (pss_one (ps_ret (pe_tup (pa_cons pe_str pa_nil))))
      pss_nil)
    (pss_cons (ps_if (pt_cmpR op_eq (pv 2) pe_int (by first | exact nomark _ | rfl))
      (pss_one (ps_ret (pe_tup (pa_cons pe_str (pa_cons (pv 4) pa_nil)))))
      pss_nil)
    (pss_cons (ps_if (pt_cmpR op_eq (pv 2) pe_int (by first | exact nomark _ | rfl))
      (pss_one (ps_ret (pe_tup (pa_cons pe_str (pa_cons (pe_cmpR op_eq (pe_op op_mod (pe_callTy call_int1 (by rfl) T.z_int (by decide +kernel) (pa_cons (pv 3) pa_nil)) pe_int) pe_int (by first | exact nomark _ | rfl)) pa_nil)))))
      pss_nil)
    (pss_cons (ps_if (pt_cmpR op_eq (pv 2) pe_int (by first | exact nomark _ | rfl))
      (pss_one (ps_ret (pe_tup (pa_cons pe_str (pa_cons (pv 5) pa_nil)))))
      pss_nil)
    (pss_one (ps_ret (pe_tup (pa_cons pe_str (pa_cons (pe_ix ix_tup (pe_call0 (ok_law_words T) (hr.mono (by decide)) (by rfl) T.g_law_words T.F_law_words.kp (T.b_law_words) .nil pass0) (pe_op op_mod (pe_callTy call_int1 (by rfl) T.z_int (by decide +kernel) (pa_cons (pv 3) pa_nil)) pe_int) (fun _ _ => rfl)) pa_nil)))))))))), ?_⟩
    have g14 : (Str.ofString "aAbBzZ_[^@ 19~").length = 14 := by decide +kernel
    have a14 : Asc (Str.ofString "aAbBzZ_[^@ 19~") := asc_lit (by decide +kernel)
    walk_at "run"
    · exact q _ .emp _ (by walk_at "same") (SqT.of upd_same) trivial
    · exact q _ (.num _) _ (by walk_at "same") (SqT.of upd_same) ⟨by omega, by omega⟩
    · exact q _ (.tru _) _ (by walk_at "same") (SqT.of upd_same) trivial
    · exact q _ (.txt _) _ (by walk_at "same") (SqT.of upd_same) ⟨by omega, by assumption⟩
    · refine atT_go (.inl (.inr ⟨_, (by assumption)⟩)) (by omega) (by show _ < (10 : Int); omega) fun v hv => ?_
      obtain ⟨n, hn, rfl⟩ := wds_err hv
      walk_at "run"
      exact q _ (.err n) _ (by walk_at "same") (SqT.of upd_same) hn
    · refine atI_go (SqL.of upd_same) (by omega) (by show _ < (8 : Int); omega) fun v hv => ?_
      have hv2 : ∃ k : Int, v = .int k ∧ 0 ≤ k ∧ k ≤ 4 := by
        simp only [List.mem_cons, List.not_mem_nil, or_false] at hv
        rcases hv with rfl | rfl | rfl | rfl | rfl | rfl | rfl | rfl
        all_goals exact ⟨_, rfl, by decide, by decide⟩
      obtain ⟨k, rfl, k0, k1⟩ := hv2
      walk_at "run"
      · exact q _ .emp _ (by walk_at "same") (SqT.of upd_same) trivial
      · exact q _ (.num _) _ (by walk_at "same") (SqT.of upd_same) ⟨by omega, by omega⟩
      · exact q _ (.tru _) _ (by walk_at "same") (SqT.of upd_same) trivial
      · exact q _ (.txt _) _ (by walk_at "same") (SqT.of upd_same) ⟨by omega, by assumption⟩
      · refine atT_go (.inl (.inr ⟨_, (by assumption)⟩)) (by omega) (by show _ < (10 : Int); omega) fun v hv => ?_
        obtain ⟨n, hn, rfl⟩ := wds_err hv
        walk_at "run"
        exact q _ (.err n) _ (by walk_at "same") (SqT.of upd_same) hn

theorem ok_law_near_text (T : Txt K mg w) : FnOk P w K mg base CX0 2 T.a_law_near_text T.d_law_near_text P_law_near_text (sp_law_near_text K) := by
  refine T.F_law_near_text.ok sc_law_near_text (fun vs H Q E h => ?_) (fun cdv A outer s H vs Q E hr h => ?_)
  · obtain ⟨z, m, n, rfl, _⟩ := h
    rfl
  · obtain ⟨zz, m, n, rfl, ⟨hl, ha⟩, q⟩ := h
    refine ⟨_, (pss_cons (ps_set (i := 3) sc_law_near_text.nd rfl (by first | exact Or.inl rfl | exact Or.inr rfl) (pe_call0 (ok_law_alphabet T) (hr.mono (by decide)) (by rfl) T.g_law_alphabet T.F_law_alphabet.kp (T.b_law_alphabet) .nil pass0))
    (pss_cons (ps_if (PW.pt (pw_and (pt_cmpR op_eq (pv 1) pe_int (by first | exact nomark _ | rfl)) (pw_and1 (pt_cmpR op_lt (pe_callB call_len_str (by rfl) T.z_len (by decide +kernel) (pa_cons (pv 0) pa_nil)) pe_int (by first | exact nomark _ | rfl)))))
      (pss_one (ps_ret (pe_op op_add_str (pv 0) (pe_ix ix_str (pv 3) (pe_op op_modL (pe_callTy call_int1 (by rfl) T.z_int (by decide +kernel) (pa_cons (pv 2) pa_nil)) pe_int) (fun _ _ => rfl)))))
      pss_nil)
    (pss_cons (ps_if (PW.pt (pw_or (pt_cmpR op_eq (pv 0) pe_str (by first | exact nomark _ | rfl)) (pw_or1 (pt_cmpR op_eq (pv 1) pe_int (by first | exact nomark _ | rfl)))))
      (pss_one (ps_ret (pe_slice sl_str (pv 0) po_none (po_some (pe_un un_neg pe_int)))))
      pss_nil)
    (pss_cons (ps_set (i := 4) sc_law_near_text.nd rfl (by first | exact Or.inl rfl | exact Or.inr rfl) (pe_op op_modL (pe_op op_fdiv (pe_callTy call_int1 (by rfl) T.z_int (by decide +kernel) (pa_cons (pv 2) pa_nil)) pe_int) (pe_callB call_len_str (by rfl) T.z_len (by decide +kernel) (pa_cons (pv 0) pa_nil))))
    (pss_cons (ps_set (i := 5) sc_law_near_text.nd rfl (by first | exact Or.inl rfl | exact Or.inr rfl) (pe_ix ix_str (pv 0) (pv 4) (fun _ _ => rfl)))
    (pss_cons (ps_if (pt_cmpR op_eq (pv 1) pe_int (by first | exact nomark _ | rfl))
      (pss_one (ps_ret (pe_slice sl_str (pv 0) po_none (po_some (pv 4)))))
      pss_nil)
    (pss_cons (ps_if (pt_cmpR op_eq (pv 1) pe_int (by first | exact nomark _ | rfl))
      (pss_one (ps_set (i := 5) sc_law_near_text.nd rfl (by first | exact Or.inl rfl | exact Or.inr rfl) (pe_ix ix_str (pv 3) (pe_op op_modL (pe_callTy call_int1 (by rfl) T.z_int (by decide +kernel) (pa_cons (pv 2) pa_nil)) pe_int) (fun _ _ => rfl))))
      (pss_one (ps_if (pt_cmpR op_ne (pe_bm0 PySem.F.plainAttrs_str PySem.F.slot_str_upper PySem.F.type_str_upper mt_upper (pv 5)) (pv 5) (by first | exact nomark _ | rfl))
      (pss_one (ps_set (i := 5) sc_law_near_text.nd rfl (by first | exact Or.inl rfl | exact Or.inr rfl) (pe_bm0 PySem.F.plainAttrs_str PySem.F.slot_str_upper PySem.F.type_str_upper mt_upper (pv 5))))
      (pss_one (ps_set (i := 5) sc_law_near_text.nd rfl (by first | exact Or.inl rfl | exact Or.inr rfl) (pe_bm0 PySem.F.plainAttrs_str PySem.F.slot_str_lower PySem.F.type_str_lower mt_lower (pv 5)))))))
    (pss_one (ps_ret (pe_op op_add_str (pe_op op_add_str (pe_slice sl_str (pv 0) po_none (po_some (pv 4))) (pv 5)) (pe_slice sl_str (pv 0) (po_some (pe_op op_add (pv 4) pe_int)) po_none))))))))))), ?_⟩
    have hz3 : zz.length ≤ 100000 := by omega
    walk_at "run"
    · refine ixS_goA (by assumption) (by omega) (by assumption) (by omega) fun ch hc => ?_
      walk_at "run"
      exact q _ _ (by walk_at "same") (by rw [Str.length_append]; have := c_one ch; omega) (Asc.app ha (Asc.one hc))
    · exact q _ _ (by walk_at "same") (Nat.le_trans (cutS_length _ _ _) (by omega)) (Asc.cut ha)
    · exact q _ _ (by walk_at "same") (Nat.le_trans (cutS_length _ _ _) (by omega)) (Asc.cut ha)
    · refine ixS_goA ha (by omega) (by assumption) (by omega) fun ch hc => ?_
      walk_at "run"
      · exact q _ _ (by walk_at "same") (Nat.le_trans (cutS_length _ _ _) (by omega)) (Asc.cut ha)
      · refine ixS_goA (by assumption) (by omega) (by assumption) (by omega) fun ch2 hc2 => ?_
        walk_at "run"
        exact q _ _ (by walk_at "same") (Nat.le_trans (La (La (Lc (Nat.le_refl _)) (c_one _)) (Lc (Nat.le_refl _))) (by omega)) (Asc.app (Asc.app (Asc.cut ha) (Asc.one hc2)) (Asc.cut ha))
      · refine And.intro (Nat.le_of_ble_eq_true rfl) ?_
        rw [upper_one hc]
        walk_at "run"
        · refine And.intro (Nat.le_of_ble_eq_true rfl) ?_
          rw [upper_one hc]
          walk_at "run"
          exact q _ _ (by walk_at "same") (Nat.le_trans (La (La (Lc (Nat.le_refl _)) (c_one _)) (Lc (Nat.le_refl _))) (by omega)) (Asc.app (Asc.app (Asc.cut ha) (Asc.one (up1_small hc))) (Asc.cut ha))
        · refine And.intro (Nat.le_of_ble_eq_true rfl) ?_
          rw [lower_one hc]
          walk_at "run"
          exact q _ _ (by walk_at "same") (Nat.le_trans (La (La (Lc (Nat.le_refl _)) (c_one _)) (Lc (Nat.le_refl _))) (by omega)) (Asc.app (Asc.app (Asc.cut ha) (Asc.one (lo1_small hc))) (Asc.cut ha))
    · exact q _ _ (by walk_at "same") (Nat.le_trans (cutS_length _ _ _) (by omega)) (Asc.cut ha)
    · exact q _ _ (by walk_at "same") (Nat.le_trans (cutS_length _ _ _) (by omega)) (Asc.cut ha)
    · have hpos := ne_len (z := zz) (by assumption)
      walk_at "run"
      intro d1
      walk_at "run"
      refine ixS_goA ha (by omega) (by assumption) (by omega) fun ch hc => ?_
      walk_at "run"
      · exact q _ _ (by walk_at "same") (Nat.le_trans (cutS_length _ _ _) (by omega)) (Asc.cut ha)
      · refine ixS_goA (by assumption) (by omega) (by assumption) (by omega) fun ch2 hc2 => ?_
        walk_at "run"
        exact q _ _ (by walk_at "same") (Nat.le_trans (La (La (Lc (Nat.le_refl _)) (c_one _)) (Lc (Nat.le_refl _))) (by omega)) (Asc.app (Asc.app (Asc.cut ha) (Asc.one hc2)) (Asc.cut ha))
      · refine And.intro (Nat.le_of_ble_eq_true rfl) ?_
        rw [upper_one hc]
        walk_at "run"
        · refine And.intro (Nat.le_of_ble_eq_true rfl) ?_
          rw [upper_one hc]
          walk_at "run"
          exact q _ _ (by walk_at "same") (Nat.le_trans (La (La (Lc (Nat.le_refl _)) (c_one _)) (Lc (Nat.le_refl _))) (by omega)) (Asc.app (Asc.app (Asc.cut ha) (Asc.one (up1_small hc))) (Asc.cut ha))
        · refine And.intro (Nat.le_of_ble_eq_true rfl) ?_
          rw [lower_one hc]
          walk_at "run"
          exact q _ _ (by walk_at "same") (Nat.le_trans (La (La (Lc (Nat.le_refl _)) (c_one _)) (Lc (Nat.le_refl _))) (by omega)) (Asc.app (Asc.app (Asc.cut ha) (Asc.one (lo1_small hc))) (Asc.cut ha))

theorem ok_law_near (T : Txt K mg w) : FnOk P w K mg base CX0 3 T.a_law_near T.d_law_near P_law_near (sp_law_near K) := by
  refine T.F_law_near.ok sc_law_near (fun vs H Q E h => ?_) (fun cdv A outer s H vs Q E hr h => ?_)
  · obtain ⟨p, s, c, t, k, rfl, _⟩ := h
    rfl
  · obtain ⟨p, s, c, t, k, rfl, hp, hs, hk, q⟩ := h
    refine ⟨_, (pss_cons (ps_set (i := 3) sc_law_near.nd rfl (by first | exact Or.inl rfl | exact Or.inr rfl) (pe_op op_mod (pe_callTy call_int1 (by rfl) T.z_int (by decide +kernel) (pa_cons (pe_call (ok_law_mix T) (hr.mono (by decide)) (by rfl) T.g_law_mix T.F_law_mix.kp (T.b_law_mix) .nil pass0 (pa_cons (pv 1) (pa_cons (pv 2) pa_nil))) pa_nil)) pe_int))
    (pss_cons (ps_set (i := 4) sc_law_near.nd rfl (by first | exact Or.inl rfl | exact Or.inr rfl) (pe_call (ok_law_mix T) (hr.mono (by decide)) (by rfl) T.g_law_mix T.F_law_mix.kp (T.b_law_mix) .nil pass0 (pa_cons (pv 1) (pa_cons (pe_op op_add (pv 2) pe_int) pa_nil))))
    (pss_cons (ps_if (pt_cmpR op_eq (pe_ix ix_tup (pv 0) pe_int (fun _ _ => rfl)) pe_str (by first | exact nomark _ | rfl))
      (pss_one (ps_ret (pe_tup (pa_cons pe_str (pa_cons (pe_callB (call_max2 rfl) (by rfl) T.z_max (by decide +kernel) (pa_cons (pe_callTy call_int1 (by rfl) T.z_int (by decide +kernel) (pa_cons (pe_op op_sub pe_int (pe_powc (c := 1000000000000000000000) (by decide) (by decide +kernel))) pa_nil)) (pa_cons (pe_callB (call_min2 rfl) (by rfl) T.z_min (by decide +kernel) (pa_cons (pe_callTy call_int1 (by rfl) T.z_int (by decide +kernel) (pa_cons (pe_op op_sub (pe_powc (c := 1000000000000000000000) (by decide) (by decide +kernel)) pe_int) pa_nil)) (pa_cons (pe_callTy call_int1 (by rfl) T.z_int (by decide +kernel) (pa_cons (pe_op op_sub (pe_op op_add (pe_ix ix_tup (pv 0) pe_int (fun _ _ => rfl)) (pe_op op_mod (pe_callTy call_int1 (by rfl) T.z_int (by decide +kernel) (pa_cons (pv 3) pa_nil)) pe_int)) pe_int) pa_nil)) pa_nil))) pa_nil))) pa_nil)))))
      pss_nil)
    (pss_cons (ps_if (pt_cmpR op_eq (pe_ix ix_tup (pv 0) pe_int (fun _ _ => rfl)) pe_str (by first | exact nomark _ | rfl))
      (pss_one (ps_ret (pe_tup (pa_cons pe_str (pa_cons (pe_call (ok_law_near_text T) (hr.mono (by decide)) (by rfl) T.g_law_near_text T.F_law_near_text.kp (T.b_law_near_text) .nil pass0 (pa_cons (pe_ix ix_tup (pv 0) pe_int (fun _ _ => rfl)) (pa_cons (pv 3) (pa_cons (pv 4) pa_nil)))) pa_nil)))))
      pss_nil)
    (pss_cons (ps_if (pt_cmpR op_eq (pe_ix ix_tup (pv 0) pe_int (fun _ _ => rfl)) pe_str (by first | exact nomark _ | rfl))
      (pss_one (ps_ret (pe_tup (pa_cons pe_str (pa_cons (pe_cmpR op_eq (pe_op op_mod (pe_callTy call_int1 (by rfl) T.z_int (by decide +kernel) (pa_cons (pv 3) pa_nil)) pe_int) pe_int (by first | exact nomark _ | rfl)) pa_nil)))))
      pss_nil)
    (pss_cons (ps_if (pt_cmpR op_eq (pe_ix ix_tup (pv 0) pe_int (fun _ _ => rfl)) pe_str (by first | exact nomark _ | rfl))
      (pss_one (ps_ret (pe_tup (pa_cons pe_str (pa_cons (pe_ix ix_tup (pe_call0 (ok_law_words T) (hr.mono (by decide)) (by rfl) T.g_law_words T.F_law_words.kp (T.b_law_words) .nil pass0) (pe_op op_mod (pe_callTy call_int1 (by rfl) T.z_int (by decide +kernel) (pa_cons (pe_op op_add (pe_tix (pe_call0 (ok_law_words T) (hr.mono (by decide)) (by rfl) T.g_law_words T.F_law_words.kp (T.b_law_words) .nil pass0) (pe_ix ix_tup (pv 0) pe_int (fun _ _ => rfl)) ⟨rfl, rfl, rfl, rfl⟩) (pe_op op_mod (pe_callTy call_int1 (by rfl) T.z_int (by decide +kernel) (pa_cons (pv 3) pa_nil)) pe_int)) pa_nil)) pe_int) (fun _ _ => rfl)) pa_nil)))))
      pss_nil)
    (pss_one (ps_ret (pe_ix ix_list (pe_lst (pa_cons (pe_tup (pa_cons pe_str (pa_cons pe_int pa_nil))) (pa_cons (pe_tup (pa_cons pe_str (pa_cons pe_str pa_nil))) (pa_cons (pe_tup (pa_cons pe_str (pa_cons pe_bl pa_nil))) (pa_cons (pe_tup (pa_cons pe_str (pa_cons (pe_un un_neg pe_int) pa_nil))) (pa_cons (pe_tup (pa_cons pe_str (pa_cons pe_bl pa_nil))) (pa_cons (pe_tup (pa_cons pe_str (pa_cons pe_str pa_nil))) pa_nil))))))) (pv 3) (fun _ _ => rfl)))))))))), ?_⟩
    rcases s with _ | m | b | z | n
    · walk_at "run"
      rename_i p6 g6 p5 g5 p4 g4 p3 g3 p2 g2 p1 g1 p0 g0
      refine atI_go (SqL.of upd_same) (by omega) (by show _ < (6 : Int); omega) fun v hv => ?_
      simp only [List.mem_cons, List.not_mem_nil, or_false] at hv
      rcases hv with rfl | rfl | rfl | rfl | rfl | rfl
      · exact q _ (.num 0) _ (by walk_at "same") (same_tk (same_upd g0) _ _ (same_tk (same_upd g1) _ _ (same_tk (same_upd g2) _ _ (same_tk (same_upd g3) _ _ (same_tk (same_upd g4) _ _ (same_tk (same_upd g5) _ _ (SqT.of upd_same))))))) ⟨by decide, by decide⟩
      · exact q _ (.txt "") _ (by walk_at "same") (same_tk (same_upd g0) _ _ (same_tk (same_upd g1) _ _ (same_tk (same_upd g2) _ _ (same_tk (same_upd g3) _ _ (same_tk (same_upd g4) _ _ (SqT.of upd_same)))))) ⟨Nat.zero_le _, asc_lit (by decide +kernel)⟩
      · exact q _ (.tru false) _ (by walk_at "same") (same_tk (same_upd g0) _ _ (same_tk (same_upd g1) _ _ (same_tk (same_upd g2) _ _ (same_tk (same_upd g3) _ _ (SqT.of upd_same))))) trivial
      · exact q _ (.num (-1)) _ (by walk_at "same") (same_tk (same_upd g0) _ _ (same_tk (same_upd g1) _ _ (same_tk (same_upd g2) _ _ (SqT.of upd_same)))) ⟨by decide, by decide⟩
      · exact q _ (.tru true) _ (by walk_at "same") (same_tk (same_upd g0) _ _ (same_tk (same_upd g1) _ _ (SqT.of upd_same))) trivial
      · exact q _ (.txt " ") _ (by walk_at "same") (same_tk (same_upd g0) _ _ (SqT.of upd_same)) ⟨Nat.le_trans (show (Str.ofString " ").length ≤ 1 by decide +kernel) (by omega), asc_lit (by decide +kernel)⟩
    · obtain ⟨m0, m1⟩ := hs
      walk_at "run"
      exact q _ (.num _) _ (by walk_at "same") (SqT.of upd_same) ⟨by omega, by omega⟩
    · walk_at "run"
      exact q _ (.tru _) _ (by walk_at "same") (SqT.of upd_same) trivial
    · obtain ⟨hz, ha⟩ := id hs
      walk_at "run"
      refine ⟨_, _, _, rfl, ⟨by omega, ha⟩, fun z2 H1 s1 hl2 ha2 => ?_⟩
      walk_at "run"
      exact q _ (.txt z2) _ (by walk_at "same") (SqT.of upd_same) ⟨by omega, ha2⟩
    · have hn : n < 10 := hs
      walk_at "run"
      rename_i r1 ob1 H1 s1 hr1 ho1 r2 ob2 H2 s2 hr2 ho2
      refine atT_go (.inl (.inr ⟨_, s2 _ _ hr1⟩)) (by omega) (by show _ < (10 : Int); omega) fun v hv => ?_
      obtain ⟨n2, hn2, rfl⟩ := wds_err hv
      walk_at "run"
      exact q _ (.err n2) _ (by walk_at "same") (SqT.of upd_same) hn2

theorem ok_law_scalars (T : Txt K mg w) : FnOk P w K mg base CX0 4 T.a_law_scalars T.d_law_scalars P_law_scalars (sp_law_scalars K) := by
  refine T.F_law_scalars.ok sc_law_scalars (fun vs H Q E h => ?_) (fun cdv A outer s H vs Q E hr h => ?_)
  · obtain ⟨a, ns, rfl, _⟩ := h
    rfl
  · obtain ⟨a, ns, rfl, hS, q⟩ := h
    refine ⟨_, (pss_cons (ps_set (i := 1) sc_law_scalars.nd rfl (by first | exact Or.inl rfl | exact Or.inr rfl) (pe_call (ok_law_scalar T) (hr.mono (by decide)) (by rfl) T.g_law_scalar T.F_law_scalar.kp (T.b_law_scalar) .nil pass0 (pa_cons (pe_call (ok_law_cell T) (hr.mono (by decide)) (by rfl) T.g_law_cell T.F_law_cell.kp (T.b_law_cell) .nil pass0 (pa_cons (pv 0) (pa_cons pe_int pa_nil))) (pa_cons pe_int pa_nil))))
    (pss_cons (ps_set (i := 2) sc_law_scalars.nd rfl (by first | exact Or.inl rfl | exact Or.inr rfl) (pe_call (ok_law_scalar T) (hr.mono (by decide)) (by rfl) T.g_law_scalar T.F_law_scalar.kp (T.b_law_scalar) .nil pass0 (pa_cons (pe_call (ok_law_cell T) (hr.mono (by decide)) (by rfl) T.g_law_cell T.F_law_cell.kp (T.b_law_cell) .nil pass0 (pa_cons (pv 0) (pa_cons pe_int pa_nil))) (pa_cons pe_int pa_nil))))
    (pss_cons (ps_set (i := 3) sc_law_scalars.nd rfl (by first | exact Or.inl rfl | exact Or.inr rfl) (pe_call (ok_law_scalar T) (hr.mono (by decide)) (by rfl) T.g_law_scalar T.F_law_scalar.kp (T.b_law_scalar) .nil pass0 (pa_cons (pe_call (ok_law_cell T) (hr.mono (by decide)) (by rfl) T.g_law_cell T.F_law_cell.kp (T.b_law_cell) .nil pass0 (pa_cons (pv 0) (pa_cons pe_int pa_nil))) (pa_cons pe_int pa_nil))))
    (pss_cons (ps_set (i := 4) sc_law_scalars.nd rfl (by first | exact Or.inl rfl | exact Or.inr rfl) (pe_op op_mod (pe_callTy call_int1 (by rfl) T.z_int (by decide +kernel) (pa_cons (pe_call (ok_law_mix T) (hr.mono (by decide)) (by rfl) T.g_law_mix T.F_law_mix.kp (T.b_law_mix) .nil pass0 (pa_cons (pe_call (ok_law_cell T) (hr.mono (by decide)) (by rfl) T.g_law_cell T.F_law_cell.kp (T.b_law_cell) .nil pass0 (pa_cons (pv 0) (pa_cons pe_int pa_nil))) (pa_cons pe_int pa_nil))) pa_nil)) pe_int))
    (pss_cons (ps_if (pt_cmpR op_gt (pv 4) pe_int (by first | exact nomark _ | rfl))
      (pss_one (ps_set (i := 2) sc_law_scalars.nd rfl (by first | exact Or.inl rfl | exact Or.inr rfl) (pe_call (ok_law_near T) (hr.mono (by decide)) (by rfl) T.g_law_near T.F_law_near.kp (T.b_law_near) .nil pass0 (pa_cons (pv 1) (pa_cons (pe_call (ok_law_cell T) (hr.mono (by decide)) (by rfl) T.g_law_cell T.F_law_cell.kp (T.b_law_cell) .nil pass0 (pa_cons (pv 0) (pa_cons pe_int pa_nil))) (pa_cons pe_int pa_nil))))))
      pss_nil)
    (pss_cons (ps_if (pt_cmpR op_eq (pv 4) pe_int (by first | exact nomark _ | rfl))
      (pss_one (ps_set (i := 2) sc_law_scalars.nd rfl (by first | exact Or.inl rfl | exact Or.inr rfl) (pv 1)))
      pss_nil)
    (pss_cons (ps_if (PW.pt (pw_or (pt_cmpR op_eq (pv 4) pe_int (by first | exact nomark _ | rfl)) (pw_or1 (pt_cmpR op_gt (pv 4) pe_int (by first | exact nomark _ | rfl)))))
      (pss_one (ps_set (i := 3) sc_law_scalars.nd rfl (by first | exact Or.inl rfl | exact Or.inr rfl) (pe_call (ok_law_near T) (hr.mono (by decide)) (by rfl) T.g_law_near T.F_law_near.kp (T.b_law_near) .nil pass0 (pa_cons (pv 2) (pa_cons (pe_call (ok_law_cell T) (hr.mono (by decide)) (by rfl) T.g_law_cell T.F_law_cell.kp (T.b_law_cell) .nil pass0 (pa_cons (pv 0) (pa_cons pe_int pa_nil))) (pa_cons pe_int pa_nil))))))
      pss_nil)
    (pss_cons (ps_if (pt_cmpR op_eq (pv 4) pe_int (by first | exact nomark _ | rfl))
      (pss_one (ps_set (i := 3) sc_law_scalars.nd rfl (by first | exact Or.inl rfl | exact Or.inr rfl) (pe_call (ok_law_near T) (hr.mono (by decide)) (by rfl) T.g_law_near T.F_law_near.kp (T.b_law_near) .nil pass0 (pa_cons (pv 1) (pa_cons (pe_call (ok_law_cell T) (hr.mono (by decide)) (by rfl) T.g_law_cell T.F_law_cell.kp (T.b_law_cell) .nil pass0 (pa_cons (pv 0) (pa_cons pe_int pa_nil))) (pa_cons pe_int pa_nil))))))
      pss_nil)
    (pss_one (ps_ret (pe_lst (pa_cons (pv 1) (pa_cons (pv 2) (pa_cons (pv 3) pa_nil)))))))))))))), ?_⟩
    walk_at "run"
    refine ⟨_, ns, 0, rfl, hS, ?_⟩
    walk_at "run"
    rename_i p1 s1 H1 e1 h1 o1
    have hS1 := Same.seq e1 hS
    refine ⟨_, ns, 1, rfl, hS1, ?_⟩
    walk_at "run"
    rename_i p2 s2 H2 e2 h2 o2
    have hS2 := Same.seq e2 hS1
    refine ⟨_, ns, 2, rfl, hS2, ?_⟩
    walk_at "st"
    rename_i p3 s3 H3 e3 h3 o3
    have hS3 := Same.seq e3 hS2
    replace h1 := same_tk e3 _ _ (same_tk e2 _ _ h1)
    replace h2 := same_tk e3 _ _ h2
    have e0 : Same H H3 := (e1.trans e2).trans e3
    clear hS1 hS2 e1 e2 e3 hS
    walk_at "st"
    walk_at "st"
    walk_at "st"
    walk_at "st"
    walk_at "st"
    rename_i n n0 n1
    obtain ⟨m, hm⟩ : ∃ m, m = n % 8 := ⟨_, rfl⟩
    show gName 4 (V.int (n % 8)) _ _ _
    rw [← hm]
    have hc : m = 0 ∨ m = 1 ∨ m = 2 ∨ m = 3 ∨ m = 4 ∨ m = 5 ∨ m = 6 ∨ m = 7 := by omega
    clear hm
    rcases hc with rfl | rfl | rfl | rfl | rfl | rfl | rfl | rfl
    all_goals walk_at "run"
    all_goals exact q _ _ _ _ _ _ _ _ (by walk_at "same") (SqL.of upd_same) (by walk_at "sq") (by walk_at "sq") (by walk_at "sq") (S8.ok.mono (by assumption) (by decide)) (S8.ok.mono (by assumption) (by decide)) (S8.ok.mono (by assumption) (by decide))

theorem ok_law_step (T : Txt K mg w) : FnOk P w K mg base CX0 1 T.a_law_step T.d_law_step P_law_step (sp_law_step K) := by
  refine T.F_law_step.ok sc_law_step (fun vs H Q E h => ?_) (fun cdv A outer s H vs Q E hr h => ?_)
  · obtain ⟨x, y, rfl, _⟩ := h
    rfl
  · obtain ⟨x, y, rfl, q⟩ := h
    refine ⟨_, (pss_one (ps_ret (pe_op op_sub (pe_callTy call_int1 (by rfl) T.z_int (by decide +kernel) (pa_cons (pe_cmpR op_gtG (pv 0) (pv 1) (by first | exact nomark _ | rfl)) pa_nil)) (pe_callTy call_int1 (by rfl) T.z_int (by decide +kernel) (pa_cons (pe_cmpR op_ltG (pv 0) (pv 1) (by first | exact nomark _ | rfl)) pa_nil))))), ?_⟩
    rcases q with ⟨i, j, rfl, rfl, q⟩ | ⟨a, b, rfl, rfl, q⟩
    all_goals walk_at "run"
    all_goals exact q

theorem ok_law_rank (T : Txt K mg w) : FnOk P w K mg base CX0 1 T.a_law_rank T.d_law_rank P_law_rank (sp_law_rank K) := by
  refine T.F_law_rank.ok sc_law_rank (fun vs H Q E h => ?_) (fun cdv A outer s H vs Q E hr h => ?_)
  · obtain ⟨p, s, rfl, _⟩ := h
    rfl
  · obtain ⟨p, s, rfl, hp, hs, q⟩ := h
    refine ⟨_, (pss_one (ps_ret (pe_bm PySem.F.plainAttrs_list PySem.F.slot_list_index PySem.F.type_list_index mt_index (pe_lst (pa_cons pe_str (pa_cons pe_str (pa_cons pe_str (pa_cons pe_str (pa_cons pe_str pa_nil)))))) (pa_cons (pe_ix ix_tup (pv 0) pe_int (fun _ _ => rfl)) pa_nil)))), ?_⟩
    rcases s with _ | m | b | z | n
    all_goals walk_at "run"
    · refine ⟨_, _, _, 4, _, rfl, rfl, SqL.of (by walk_at "look"), rfl, rfl, rfl, (by decide +kernel), idx_no (by decide +kernel), ?_⟩
      exact q _ (by walk_at "same")
    · refine ⟨_, _, _, 0, _, rfl, rfl, SqL.of (by walk_at "look"), rfl, rfl, rfl, (by decide +kernel), idx_no (by decide +kernel), ?_⟩
      exact q _ (by walk_at "same")
    · refine ⟨_, _, _, 2, _, rfl, rfl, SqL.of (by walk_at "look"), rfl, rfl, rfl, (by decide +kernel), idx_no (by decide +kernel), ?_⟩
      exact q _ (by walk_at "same")
    · refine ⟨_, _, _, 1, _, rfl, rfl, SqL.of (by walk_at "look"), rfl, rfl, rfl, (by decide +kernel), idx_no (by decide +kernel), ?_⟩
      exact q _ (by walk_at "same")
    · refine ⟨_, _, _, 3, _, rfl, rfl, SqL.of (by walk_at "look"), rfl, rfl, rfl, (by decide +kernel), idx_no (by decide +kernel), ?_⟩
      exact q _ (by walk_at "same")

theorem ok_law_order (T : Txt K mg w) : FnOk P w K mg base CX0 2 T.a_law_order T.d_law_order P_law_order (sp_law_order K) := by
  refine T.F_law_order.ok sc_law_order (fun vs H Q E h => ?_) (fun cdv A outer s H vs Q E hr h => ?_)
  · obtain ⟨p1, p2, s, t, rfl, _⟩ := h
    rfl
  · obtain ⟨p1, p2, s, t, rfl, hp, hp2, hs, ht, q⟩ := h
    refine ⟨_, (pss_cons (ps_set (i := 2) sc_law_order.nd rfl (by first | exact Or.inl rfl | exact Or.inr rfl) (pe_call (ok_law_step T) (hr.mono (by decide)) (by rfl) T.g_law_step T.F_law_step.kp (T.b_law_step) .nil pass0 (pa_cons (pe_call (ok_law_rank T) (hr.mono (by decide)) (by rfl) T.g_law_rank T.F_law_rank.kp (T.b_law_rank) .nil pass0 (pa_cons (pv 0) pa_nil)) (pa_cons (pe_call (ok_law_rank T) (hr.mono (by decide)) (by rfl) T.g_law_rank T.F_law_rank.kp (T.b_law_rank) .nil pass0 (pa_cons (pv 1) pa_nil)) pa_nil))))
    (pss_cons (ps_if (PW.pt (pw_or (pt_cmpR op_ne (pv 2) pe_int (by first | exact nomark _ | rfl)) (pw_or1 (pt_cmpR op_eq (pe_ix ix_tup (pv 0) pe_int (fun _ _ => rfl)) pe_str (by first | exact nomark _ | rfl)))))
      (pss_one (ps_ret (pv 2)))
      pss_nil)
    (pss_cons (ps_if (pt_cmpR op_eq (pe_ix ix_tup (pv 0) pe_int (fun _ _ => rfl)) pe_str (by first | exact nomark _ | rfl))
      (pss_one (ps_ret (pe_call (ok_law_step T) (hr.mono (by decide)) (by rfl) T.g_law_step T.F_law_step.kp (T.b_law_step) .nil pass0 (pa_cons (pe_tix (pe_call0 (ok_law_words T) (hr.mono (by decide)) (by rfl) T.g_law_words T.F_law_words.kp (T.b_law_words) .nil pass0) (pe_ix ix_tup (pv 0) pe_int (fun _ _ => rfl)) ⟨rfl, rfl, rfl, rfl⟩) (pa_cons (pe_tix (pe_call0 (ok_law_words T) (hr.mono (by decide)) (by rfl) T.g_law_words T.F_law_words.kp (T.b_law_words) .nil pass0) (pe_ix ix_tup (pv 1) pe_int (fun _ _ => rfl)) ⟨rfl, rfl, rfl, rfl⟩) pa_nil)))))
      pss_nil)
    (pss_cons (ps_if (pt_cmpR op_eq (pe_ix ix_tup (pv 0) pe_int (fun _ _ => rfl)) pe_str (by first | exact nomark _ | rfl))
      (pss_one (ps_ret (pe_call (ok_law_step T) (hr.mono (by decide)) (by rfl) T.g_law_step T.F_law_step.kp (T.b_law_step) .nil pass0 (pa_cons (pe_callTy call_int1 (by rfl) T.z_int (by decide +kernel) (pa_cons (pe_ix ix_tup (pv 0) pe_int (fun _ _ => rfl)) pa_nil)) (pa_cons (pe_callTy call_int1 (by rfl) T.z_int (by decide +kernel) (pa_cons (pe_ix ix_tup (pv 1) pe_int (fun _ _ => rfl)) pa_nil)) pa_nil)))))
      pss_nil)
    (pss_cons (ps_if (PW.pt (pw_and (pt_cmpR op_eq (pe_ix ix_tup (pv 0) pe_int (fun _ _ => rfl)) pe_str (by first | exact nomark _ | rfl)) (pw_and1 (pt_cmpR op_ne (pe_bm0 PySem.F.plainAttrs_str PySem.F.slot_str_upper PySem.F.type_str_upper mt_upper (pe_ix ix_tup (pv 0) pe_int (fun _ _ => rfl))) (pe_bm0 PySem.F.plainAttrs_str PySem.F.slot_str_upper PySem.F.type_str_upper mt_upper (pe_ix ix_tup (pv 1) pe_int (fun _ _ => rfl))) (by first | exact nomark _ | rfl)))))
      (pss_one (ps_ret (pe_call (ok_law_step T) (hr.mono (by decide)) (by rfl) T.g_law_step T.F_law_step.kp (T.b_law_step) .nil pass0 (pa_cons (pe_bm0 PySem.F.plainAttrs_str PySem.F.slot_str_upper PySem.F.type_str_upper mt_upper (pe_ix ix_tup (pv 0) pe_int (fun _ _ => rfl))) (pa_cons (pe_bm0 PySem.F.plainAttrs_str PySem.F.slot_str_upper PySem.F.type_str_upper mt_upper (pe_ix ix_tup (pv 1) pe_int (fun _ _ => rfl))) pa_nil)))))
      pss_nil)
    (pss_one (ps_ret (pe_call (ok_law_step T) (hr.mono (by decide)) (by rfl) T.g_law_step T.F_law_step.kp (T.b_law_step) .nil pass0 (pa_cons (pe_ix ix_tup (pv 0) pe_int (fun _ _ => rfl)) (pa_cons (pe_ix ix_tup (pv 1) pe_int (fun _ _ => rfl)) pa_nil)))))))))), ?_⟩
    by_cases e : s.rk = t.rk
    · rw [ord_eq e] at q
      rcases s with _ | m | b | z | n <;> rcases t with _ | m2 | b2 | z2 | n2
      all_goals first
        | (exfalso; simp [S8.rk] at e; done)
        | skip
      · walk_at "run"
        exact q _ (by walk_at "same")
      · walk_at "run"
        exact q _ (by walk_at "same")
      · walk_at "run"
        exact q _ (by walk_at "same")
      · obtain ⟨hz, ha⟩ := id hs
        obtain ⟨hz2, ha2⟩ := id ht
        walk_at "run"
        · rename_i c
          have ne : ¬ Txt.upper z = Txt.upper z2 := fun x => by
            rw [x, decide_eq_true rfl] at c
            cases c
          rw [show same8 (.txt z) (.txt z2) = stepS (Txt.upper z) (Txt.upper z2) from if_neg ne] at q
          exact q _ (by walk_at "same")
        · rename_i c
          have ee : Txt.upper z = Txt.upper z2 := Decidable.byContradiction fun x => c (by rw [decide_eq_false (fun y => x (V.str.inj y))]; rfl)
          rw [show same8 (.txt z) (.txt z2) = stepS z z2 from if_pos ee] at q
          exact q _ (by walk_at "same")
      · walk_at "run"
        exact q _ (by walk_at "same")
    · have ne := stepI_ne e
      rw [ord_ne e] at q
      walk_at "run"
      · exact q _ (by walk_at "same")
      · rename_i c
        exact absurd c ne

theorem ok_law_beside (T : Txt K mg w) : FnOk P w K mg base CX0 1 T.a_law_beside T.d_law_beside P_law_beside (sp_law_beside K) := by
  refine T.F_law_beside.ok sc_law_beside (fun vs H Q E h => ?_) (fun cdv A outer s H vs Q E hr h => ?_)
  · obtain ⟨p1, p2, s, t, rfl, _⟩ := h
    rfl
  · obtain ⟨p1, p2, s, t, rfl, hp, hp2, hs, ht, hn, q⟩ := h
    refine ⟨_, (pss_cons (ps_if (PW.pt (pw_or (pt_cmpR op_ne (pe_ix ix_tup (pv 0) pe_int (fun _ _ => rfl)) pe_str (by first | exact nomark _ | rfl)) (pw_or1 (pt_cmpR op_eq (pe_ix ix_tup (pv 1) pe_int (fun _ _ => rfl)) pe_str (by first | exact nomark _ | rfl)))))
      (pss_one (ps_ret (pv 0)))
      pss_nil)
    (pss_cons (ps_if (pt_cmpR op_eq (pe_ix ix_tup (pv 1) pe_int (fun _ _ => rfl)) pe_str (by first | exact nomark _ | rfl))
      (pss_one (ps_ret (pe_tup (pa_cons pe_str (pa_cons pe_int pa_nil)))))
      pss_nil)
    (pss_cons (ps_if (pt_cmpR op_eq (pe_ix ix_tup (pv 1) pe_int (fun _ _ => rfl)) pe_str (by first | exact nomark _ | rfl))
      (pss_one (ps_ret (pe_tup (pa_cons pe_str (pa_cons pe_str pa_nil)))))
      pss_nil)
    (pss_one (ps_ret (pe_tup (pa_cons pe_str (pa_cons pe_bl pa_nil)))))))), ?_⟩
    rcases s with _ | m | b | z | n
    · rcases t with _ | m | b | z | n
      · walk_at "run"
        exact q _ _ (Same.refl _) hp
      · walk_at "run"
        exact q _ _ (by walk_at "same") (SqT.of upd_same)
      · walk_at "run"
        exact q _ _ (by walk_at "same") (SqT.of upd_same)
      · walk_at "run"
        exact q _ _ (by walk_at "same") (SqT.of upd_same)
      · exact absurd rfl (hn n)
    all_goals walk_at "run"
    all_goals exact q _ _ (Same.refl _) hp

theorem ok_law_compared (T : Txt K mg w) : FnOk P w K mg base CX0 3 T.a_law_compared T.d_law_compared P_law_compared (sp_law_compared K) := by
  refine T.F_law_compared.ok sc_law_compared (fun vs H Q E h => ?_) (fun cdv A outer s H vs Q E hr h => ?_)
  · obtain ⟨p1, p2, s, t, rfl, _⟩ := h
    rfl
  · obtain ⟨p1, p2, s, t, rfl, hp, hp2, hs, ht, hn, q⟩ := h
    refine ⟨_, (pss_cons (ps_set (i := 2) sc_law_compared.nd rfl (by first | exact Or.inl rfl | exact Or.inr rfl) (pe_call (ok_law_beside T) (hr.mono (by decide)) (by rfl) T.g_law_beside T.F_law_beside.kp (T.b_law_beside) .nil pass0 (pa_cons (pv 0) (pa_cons (pv 1) pa_nil))))
    (pss_cons (ps_set (i := 3) sc_law_compared.nd rfl (by first | exact Or.inl rfl | exact Or.inr rfl) (pe_call (ok_law_beside T) (hr.mono (by decide)) (by rfl) T.g_law_beside T.F_law_beside.kp (T.b_law_beside) .nil pass0 (pa_cons (pv 1) (pa_cons (pv 0) pa_nil))))
    (pss_cons (ps_if (PW.pt (pw_and (pt_cmpR op_eq (pe_ix ix_tup (pv 2) pe_int (fun _ _ => rfl)) pe_str (by first | exact nomark _ | rfl)) (pw_and1 (pt_cmpR op_eq (pe_ix ix_tup (pv 3) pe_int (fun _ _ => rfl)) pe_str (by first | exact nomark _ | rfl)))))
      (pss_one (ps_ret (pe_call (ok_law_step T) (hr.mono (by decide)) (by rfl) T.g_law_step T.F_law_step.kp (T.b_law_step) .nil pass0 (pa_cons (pe_bm0 PySem.F.plainAttrs_str PySem.F.slot_str_upper PySem.F.type_str_upper mt_upper (pe_ix ix_tup (pv 2) pe_int (fun _ _ => rfl))) (pa_cons (pe_bm0 PySem.F.plainAttrs_str PySem.F.slot_str_upper PySem.F.type_str_upper mt_upper (pe_ix ix_tup (pv 3) pe_int (fun _ _ => rfl))) pa_nil)))))
      pss_nil)
    (pss_one (ps_ret (pe_call (ok_law_order T) (hr.mono (by decide)) (by rfl) T.g_law_order T.F_law_order.kp (T.b_law_order) .nil pass0 (pa_cons (pv 2) (pa_cons (pv 3) pa_nil)))))))), ?_⟩
    rw [show cmp8 s t = cm (bes s t) (bes t s) from rfl] at q
    have hl : (bes s t).ok 1000 := bes_ok hs
    have hrt : (bes t s).ok 1000 := bes_ok ht
    walk_at "run"
    first
      | refine ⟨_, _, s, t, rfl, hp, hp2, hs, ht, hn.2, fun r1 H1 s1 h1 => ?_⟩
      | refine And.intro hn.2 (fun (r1 : Addr) H1 s1 h1 => ?_)
      | refine fun (r1 : Addr) H1 s1 h1 => ?_
    walk_at "run"
    first
      | refine ⟨_, _, t, s, rfl, same_tk s1 _ _ hp2, same_tk s1 _ _ hp, ht, hs, hn.1, fun r2 H2 s2 h2 => ?_⟩
      | refine And.intro hn.1 (fun (r2 : Addr) H2 s2 h2 => ?_)
      | refine fun (r2 : Addr) H2 s2 h2 => ?_
    replace h1 := same_tk s2 _ _ h1
    have sa := s1.trans s2
    generalize bes s t = l at q hl h1
    generalize bes t s = r at q hrt h2
    by_cases c : l.isT = true ∧ r.isT = true
    · rcases l with _ | m | b | z | n <;> rcases r with _ | m2 | b2 | z2 | n2
      all_goals first
        | (exfalso; simp [S8.isT] at c; done)
        | skip
      rw [cm_txt] at q
      obtain ⟨hz, ha⟩ := id hl
      obtain ⟨hz2, ha2⟩ := id hrt
      walk_at "run"
      exact q _ sa
    · rw [cm_ord c] at q
      rcases l with _ | m | b | z | n
      · walk_at "run"
        exact q _ (by walk_at "same")
      · walk_at "run"
        exact q _ (by walk_at "same")
      · walk_at "run"
        exact q _ (by walk_at "same")
      · rcases r with _ | m2 | b2 | z2 | n2
        · walk_at "run"
          exact q _ (by walk_at "same")
        · walk_at "run"
          exact q _ (by walk_at "same")
        · walk_at "run"
          exact q _ (by walk_at "same")
        · exact absurd ⟨rfl, rfl⟩ c
        · walk_at "run"
          exact q _ (by walk_at "same")
      · walk_at "run"
        exact q _ (by walk_at "same")

theorem ok_law_is_step (T : Txt K mg w) : FnOk P w K mg base CX0 1 T.a_law_is_step T.d_law_is_step P_law_is_step (sp_law_is_step K) := by
  refine T.F_law_is_step.ok sc_law_is_step (fun vs H Q E h => ?_) (fun cdv A outer s H vs Q E hr h => ?_)
  · obtain ⟨i, rfl, _⟩ := h
    rfl
  · obtain ⟨i, rfl, q⟩ := h
    refine ⟨_, (pss_one (ps_ret (pe_and (pe_callB call_isiV (by rfl) T.z_isinstance (by decide +kernel) (pa_cons (pv 0) (pa_cons (pe_bltn (v := .ty "int") (by rfl) T.z_int (by decide +kernel) rfl) pa_nil))) (pe_and (pe_not (pe_callB call_isiV (by rfl) T.z_isinstance (by decide +kernel) (pa_cons (pv 0) (pa_cons (pe_bltn (v := .ty "bool") (by rfl) T.z_bool (by decide +kernel) rfl) pa_nil)))) (pe_one (pe_cmpR op_eq (pv 0) (pv 1) (by first | exact nomark _ | rfl))))))), ?_⟩
    walk_at "run"
    rw [decide_eq_true rfl]
    exact q

theorem ok_law_is_key (T : Txt K mg w) : FnOk P w K mg base CX0 1 T.a_law_is_key T.d_law_is_key P_law_is_key (sp_law_is_key K) := by
  refine T.F_law_is_key.ok sc_law_is_key (fun vs H Q E h => ?_) (fun cdv A outer s H vs Q E hr h => ?_)
  · obtain ⟨p, s, rfl, _⟩ := h
    rfl
  · obtain ⟨p, s, rfl, hp, q⟩ := h
    refine ⟨_, (pss_cons (ps_if (pt_not (pt_val (pe_callB call_isiR (by rfl) T.z_isinstance (by decide +kernel) (pa_cons (pv 0) (pa_cons (pe_bltn (v := .ty "tuple") (by rfl) T.z_tuple (by decide +kernel) rfl) pa_nil)))))
      (pss_one (ps_ret pe_bl))
      pss_nil)
    (pss_cons (ps_for PassesOwn.never rfl (pi_tup (pv 0)) (pg_name (i := 1) sc_law_is_key.nd rfl (by first | exact Or.inl rfl | exact Or.inr rfl))
      (pss_one (ps_if (PW.pt (pw_or (PW.pt (pw_and (pt_not (pt_val (pe_callB call_isiR (by rfl) T.z_isinstance (by decide +kernel) (pa_cons (pv 1) (pa_cons (pe_bltn (v := .ty "str") (by rfl) T.z_str (by decide +kernel) rfl) pa_nil))))) (pw_and1 (pt_not (pt_val (pe_callB call_isiR (by rfl) T.z_isinstance (by decide +kernel) (pa_cons (pv 1) (pa_cons (pe_bltn (v := .ty "int") (by rfl) T.z_int (by decide +kernel) rfl) pa_nil)))))))) (pw_or1 (pt_val (pe_callB call_isiR (by rfl) T.z_isinstance (by decide +kernel) (pa_cons (pv 1) (pa_cons (pe_bltn (v := .ty "bool") (by rfl) T.z_bool (by decide +kernel) rfl) pa_nil)))))))
      (pss_one (ps_ret pe_bl))
      pss_nil)))
    (pss_one (ps_ret pe_bl)))), ?_⟩
    have hx : ∀ x ∈ s.key, (∃ i, x = V.int i) ∨ ∃ z, x = V.str z := by
      rcases s with _ | m | b | z | n
      all_goals (intro x hx; simp only [S8.key, List.mem_cons, List.not_mem_nil, or_false] at hx)
      · exact Or.inl ⟨_, hx⟩
      · rcases hx with rfl | rfl <;> exact Or.inl ⟨_, rfl⟩
      · rcases hx with rfl | rfl <;> exact Or.inl ⟨_, rfl⟩
      · rcases hx with rfl | rfl | rfl
        · exact Or.inl ⟨_, rfl⟩
        · exact Or.inr ⟨_, rfl⟩
        · exact Or.inr ⟨_, rfl⟩
      · rcases hx with rfl | rfl <;> exact Or.inl ⟨_, rfl⟩
    walk_at "run"
    refine ⟨⟨_, hp⟩, ?_⟩
    refine for_it (walk_tup (xs := s.key)) (fun i σ H' => H' = H ∧ ∃ u : Option V, σ = [some (.ref p), u]) ⟨rfl, none, rfl⟩ (fun i σ H2 hi h => by rw [h.1]; exact hp) (fun i x σ H2 H3 hi h hy => ?_) (fun σ H2 h => ?_)
    · obtain ⟨rfl, u, rfl⟩ := h
      obtain ⟨rfl, ex⟩ := hy
      rcases hx x (List.mem_of_getElem? ex) with ⟨i, rfl⟩ | ⟨z, rfl⟩
      all_goals walk_at "run"
      all_goals exact ⟨_, rfl⟩
    · obtain ⟨rfl, u, rfl⟩ := h
      walk_at "run"
      exact q

theorem ok_law_key_order (T : Txt K mg w) : FnOk P w K mg base CX0 2 T.a_law_key_order T.d_law_key_order P_law_key_order (sp_law_key_order K) := by
  refine T.F_law_key_order.ok sc_law_key_order (fun vs H Q E h => ?_) (fun cdv A outer s H vs Q E hr h => ?_)
  · obtain ⟨p1, p2, s, t, rfl, _⟩ := h
    rfl
  · obtain ⟨p1, p2, s, t, rfl, hp, hp2, q⟩ := h
    refine ⟨_, (pss_cons (ps_for PassesOwn.never rfl (pi_range1 (by rfl) T.z_range (pa_cons (pe_callB (call_min2 rfl) (by rfl) T.z_min (by decide +kernel) (pa_cons (pe_callB call_len_seq (by rfl) T.z_len (by decide +kernel) (pa_cons (pv 0) pa_nil)) (pa_cons (pe_callB call_len_seq (by rfl) T.z_len (by decide +kernel) (pa_cons (pv 1) pa_nil)) pa_nil))) pa_nil)) (pg_name (i := 2) sc_law_key_order.nd rfl (by first | exact Or.inl rfl | exact Or.inr rfl))
      (pss_cons (ps_if (pt_cmpR op_ne (pe_callB call_isiR (by rfl) T.z_isinstance (by decide +kernel) (pa_cons (pe_ix ix_tup (pv 0) (pv 2) (fun _ _ => rfl)) (pa_cons (pe_bltn (v := .ty "str") (by rfl) T.z_str (by decide +kernel) rfl) pa_nil))) (pe_callB call_isiR (by rfl) T.z_isinstance (by decide +kernel) (pa_cons (pe_ix ix_tup (pv 1) (pv 2) (fun _ _ => rfl)) (pa_cons (pe_bltn (v := .ty "str") (by rfl) T.z_str (by decide +kernel) rfl) pa_nil))) (by first | exact nomark _ | rfl))
      (pss_one (ps_ret pe_int))
      pss_nil)
    (pss_cons (ps_if (pt_val (pe_callB call_isiR (by rfl) T.z_isinstance (by decide +kernel) (pa_cons (pe_ix ix_tup (pv 0) (pv 2) (fun _ _ => rfl)) (pa_cons (pe_bltn (v := .ty "str") (by rfl) T.z_str (by decide +kernel) rfl) pa_nil))))
      (pss_one (ps_set (i := 3) sc_law_key_order.nd rfl (by first | exact Or.inl rfl | exact Or.inr rfl) (pe_call (ok_law_step T) (hr.mono (by decide)) (by rfl) T.g_law_step T.F_law_step.kp (T.b_law_step) .nil pass0 (pa_cons (pe_callTy SkE.call_str_str (by rfl) T.z_str (by decide +kernel) (pa_cons (pe_ix ix_tup (pv 0) (pv 2) (fun _ _ => rfl)) pa_nil)) (pa_cons (pe_callTy SkE.call_str_str (by rfl) T.z_str (by decide +kernel) (pa_cons (pe_ix ix_tup (pv 1) (pv 2) (fun _ _ => rfl)) pa_nil)) pa_nil)))))
      (pss_one (ps_set (i := 3) sc_law_key_order.nd rfl (by first | exact Or.inl rfl | exact Or.inr rfl) (pe_call (ok_law_step T) (hr.mono (by decide)) (by rfl) T.g_law_step T.F_law_step.kp (T.b_law_step) .nil pass0 (pa_cons (pe_callTy call_int1 (by rfl) T.z_int (by decide +kernel) (pa_cons (pe_ix ix_tup (pv 0) (pv 2) (fun _ _ => rfl)) pa_nil)) (pa_cons (pe_callTy call_int1 (by rfl) T.z_int (by decide +kernel) (pa_cons (pe_ix ix_tup (pv 1) (pv 2) (fun _ _ => rfl)) pa_nil)) pa_nil))))))
    (pss_one (ps_if (pt_cmpR op_ne (pv 3) pe_int (by first | exact nomark _ | rfl))
      (pss_one (ps_ret (pv 3)))
      pss_nil)))))
    (pss_one (ps_ret (pe_call (ok_law_step T) (hr.mono (by decide)) (by rfl) T.g_law_step T.F_law_step.kp (T.b_law_step) .nil pass0 (pa_cons (pe_callB call_len_seq (by rfl) T.z_len (by decide +kernel) (pa_cons (pv 0) pa_nil)) (pa_cons (pe_callB call_len_seq (by rfl) T.z_len (by decide +kernel) (pa_cons (pv 1) pa_nil)) pa_nil)))))), ?_⟩
    obtain ⟨la1, la2⟩ := key_len s
    obtain ⟨lb1, lb2⟩ := key_len t
    walk_at "run"
    by_cases e : s.rk = t.rk
    · rw [ord_eq e] at q
      rcases s with _ | m | b | z | n <;> rcases t with _ | m2 | b2 | z2 | n2
      all_goals first
        | (exfalso; simp [S8.rk] at e; done)
        | skip
      · refine for_range (lo := 0) (n := 1) (fun i σ H' => H' = H ∧ (∃ u v : Option V, σ = [some (.ref p1), some (.ref p2), u, v]) ∧ True) ⟨rfl, ⟨none, none, rfl⟩, trivial⟩ (fun i σ H' hi hp3 => ?_) (fun σ H' hp3 => ?_)
        · obtain ⟨rfl, ⟨u, v, rfl⟩, _⟩ := hp3
          rcases (by omega : i = 0) with rfl
          · walk_at "run"
            first | exact ⟨rfl, ⟨_, _, rfl⟩, trivial⟩ | exact ⟨⟨_, _, rfl⟩, trivial⟩
        · obtain ⟨rfl, ⟨u, v, rfl⟩, _⟩ := hp3
          walk_at "run"
          show Q (V.int (stepI (1 : Int) 1)) _
          rw [stepI_self]
          exact q
      · refine for_range (lo := 0) (n := 2) (fun i σ H' => H' = H ∧ (∃ u v : Option V, σ = [some (.ref p1), some (.ref p2), u, v]) ∧ (2 ≤ i → m = m2)) ⟨rfl, ⟨none, none, rfl⟩, fun h => absurd h (by decide)⟩ (fun i σ H' hi hp3 => ?_) (fun σ H' hp3 => ?_)
        · obtain ⟨rfl, ⟨u, v, rfl⟩, e1⟩ := hp3
          rcases (by omega : i = 0 ∨ i = 1) with rfl | rfl
          · walk_at "run"
            first | exact ⟨rfl, ⟨_, _, rfl⟩, fun h => absurd h (by decide)⟩ | exact ⟨⟨_, _, rfl⟩, fun h => absurd h (by decide)⟩
          · walk_at "run"
            · exact q
            · first | exact ⟨rfl, ⟨_, _, rfl⟩, fun _ => stepI_zero (by assumption)⟩ | exact ⟨⟨_, _, rfl⟩, fun _ => stepI_zero (by assumption)⟩
        · obtain ⟨rfl, ⟨u, v, rfl⟩, e1⟩ := hp3
          have e := e1 (by decide)
          subst e
          rw [show same8 (.num m) (.num m) = 0 from stepI_self _] at q
          walk_at "run"
          show Q (V.int (stepI (2 : Int) 2)) _
          rw [stepI_self]
          exact q
      · refine for_range (lo := 0) (n := 2) (fun i σ H' => H' = H ∧ (∃ u v : Option V, σ = [some (.ref p1), some (.ref p2), u, v]) ∧ (2 ≤ i → b2i b = b2i b2)) ⟨rfl, ⟨none, none, rfl⟩, fun h => absurd h (by decide)⟩ (fun i σ H' hi hp3 => ?_) (fun σ H' hp3 => ?_)
        · obtain ⟨rfl, ⟨u, v, rfl⟩, e1⟩ := hp3
          rcases (by omega : i = 0 ∨ i = 1) with rfl | rfl
          · walk_at "run"
            first | exact ⟨rfl, ⟨_, _, rfl⟩, fun h => absurd h (by decide)⟩ | exact ⟨⟨_, _, rfl⟩, fun h => absurd h (by decide)⟩
          · walk_at "run"
            · exact q
            · first | exact ⟨rfl, ⟨_, _, rfl⟩, fun _ => stepI_zero (by assumption)⟩ | exact ⟨⟨_, _, rfl⟩, fun _ => stepI_zero (by assumption)⟩
        · obtain ⟨rfl, ⟨u, v, rfl⟩, e1⟩ := hp3
          have e := e1 (by decide)
          rw [show same8 (.tru b) (.tru b2) = 0 from by show stepI _ _ = 0; rw [e]; exact stepI_self _] at q
          walk_at "run"
          show Q (V.int (stepI (2 : Int) 2)) _
          rw [stepI_self]
          exact q
      · refine for_range (lo := 0) (n := 3) (fun i σ H' => H' = H ∧ (∃ u v : Option V, σ = [some (.ref p1), some (.ref p2), u, v]) ∧ (2 ≤ i → Txt.upper z = Txt.upper z2) ∧ (3 ≤ i → z = z2)) ⟨rfl, ⟨none, none, rfl⟩, fun h => absurd h (by decide), fun h => absurd h (by decide)⟩ (fun i σ H' hi hp3 => ?_) (fun σ H' hp3 => ?_)
        · obtain ⟨rfl, ⟨u, v, rfl⟩, e1, e2⟩ := hp3
          rcases (by omega : i = 0 ∨ i = 1 ∨ i = 2) with rfl | rfl | rfl
          · walk_at "run"
            first | exact ⟨rfl, ⟨_, _, rfl⟩, fun h => absurd h (by decide), fun h => absurd h (by decide)⟩ | exact ⟨⟨_, _, rfl⟩, fun h => absurd h (by decide), fun h => absurd h (by decide)⟩
          · walk_at "run"
            · rw [same_txt_ne (fun x => by rename_i c; exact c (by rw [x]; exact stepS_self _))] at q; exact q
            · first | exact ⟨rfl, ⟨_, _, rfl⟩, fun _ => stepS_zero (by assumption), fun h => absurd h (by decide)⟩ | exact ⟨⟨_, _, rfl⟩, fun _ => stepS_zero (by assumption), fun h => absurd h (by decide)⟩
          · walk_at "run"
            · rw [same_txt_eq (e1 (by decide))] at q; exact q
            · first | exact ⟨rfl, ⟨_, _, rfl⟩, fun _ => e1 (by decide), fun _ => stepS_zero (by assumption)⟩ | exact ⟨⟨_, _, rfl⟩, fun _ => e1 (by decide), fun _ => stepS_zero (by assumption)⟩
        · obtain ⟨rfl, ⟨u, v, rfl⟩, e1, e2⟩ := hp3
          have e := e2 (by decide)
          subst e
          rw [same_txt_eq rfl, stepS_self] at q
          walk_at "run"
          show Q (V.int (stepI (3 : Int) 3)) _
          rw [stepI_self]
          exact q
      · refine for_range (lo := 0) (n := 2) (fun i σ H' => H' = H ∧ (∃ u v : Option V, σ = [some (.ref p1), some (.ref p2), u, v]) ∧ (2 ≤ i → ((n : Nat) : Int) = ((n2 : Nat) : Int))) ⟨rfl, ⟨none, none, rfl⟩, fun h => absurd h (by decide)⟩ (fun i σ H' hi hp3 => ?_) (fun σ H' hp3 => ?_)
        · obtain ⟨rfl, ⟨u, v, rfl⟩, e1⟩ := hp3
          rcases (by omega : i = 0 ∨ i = 1) with rfl | rfl
          · walk_at "run"
            first | exact ⟨rfl, ⟨_, _, rfl⟩, fun h => absurd h (by decide)⟩ | exact ⟨⟨_, _, rfl⟩, fun h => absurd h (by decide)⟩
          · walk_at "run"
            · exact q
            · first | exact ⟨rfl, ⟨_, _, rfl⟩, fun _ => stepI_zero (by assumption)⟩ | exact ⟨⟨_, _, rfl⟩, fun _ => stepI_zero (by assumption)⟩
        · obtain ⟨rfl, ⟨u, v, rfl⟩, e1⟩ := hp3
          have e := e1 (by decide)
          rw [show same8 (.err n) (.err n2) = 0 from by show stepI _ _ = 0; rw [e]; exact stepI_self _] at q
          walk_at "run"
          show Q (V.int (stepI (2 : Int) 2)) _
          rw [stepI_self]
          exact q
    · have ne := stepI_ne e
      rw [ord_ne e] at q
      refine for_range (lo := 0) (n := _) (fun i σ H' => i = 0 ∧ H' = H ∧ σ = [some (.ref p1), some (.ref p2), none, none]) ⟨rfl, rfl, rfl⟩ (fun i σ H' hi hp3 => ?_) (fun σ H' hp3 => ?_)
      · obtain ⟨rfl, rfl, rfl⟩ := hp3
        obtain ⟨l1, k1⟩ := key_rk s
        obtain ⟨l2, k2⟩ := key_rk t
        rw [k1] at hp
        rw [k2] at hp2
        have ea : atI (V.int s.rk :: l1) (0 + ((0 : Nat) : Int)) = some (V.int s.rk) := atI_at (n := 0) (by omega) rfl
        have eb : atI (V.int t.rk :: l2) (0 + ((0 : Nat) : Int)) = some (V.int t.rk) := atI_at (n := 0) (by omega) rfl
        walk_at "run"
        · exact q
        · rename_i c
          exact absurd c ne
      · obtain ⟨h0, _⟩ := hp3
        exfalso
        omega

theorem ok_law_pair (T : Txt K mg w) : FnOk P w K mg base CX0 4 T.a_law_pair T.d_law_pair P_law_pair (sp_law_pair K) := by
  refine T.F_law_pair.ok sc_law_pair (fun vs H Q E h => ?_) (fun cdv A outer s H vs Q E hr h => ?_)
  · obtain ⟨p1, p2, k1, k2, s, t, rfl, _⟩ := h
    rfl
  · obtain ⟨p1, p2, k1, k2, s, t, rfl, hp, hp2, hk, hk2, hs, ht, q⟩ := h
    refine ⟨_, (pss_cons (ps_set (i := 4) sc_law_pair.nd rfl (by first | exact Or.inl rfl | exact Or.inr rfl) (pe_call (ok_law_key_order T) (hr.mono (by decide)) (by rfl) T.g_law_key_order T.F_law_key_order.kp (T.b_law_key_order) .nil pass0 (pa_cons (pv 2) (pa_cons (pv 3) pa_nil))))
    (pss_cons (ps_if (PW.pt (pw_or (pt_cmpR op_ne (pv 4) (pe_call (ok_law_order T) (hr.mono (by decide)) (by rfl) T.g_law_order T.F_law_order.kp (T.b_law_order) .nil pass0 (pa_cons (pv 0) (pa_cons (pv 1) pa_nil))) (by first | exact nomark _ | rfl)) (pw_or1 (pt_cmpR op_ne (pe_cmpR op_eq (pv 4) pe_int (by first | exact nomark _ | rfl)) (pe_cmpR (op_eqD hr.units) (pv 0) (pv 1) (by first | exact nomark _ | rfl)) (by first | exact nomark _ | rfl)))))
      (pss_one (ps_ret pe_bl))
      pss_nil)
    (pss_cons (ps_if (PW.pt (pw_or (pt_cmpR op_ne (pe_call (ok_law_key_order T) (hr.mono (by decide)) (by rfl) T.g_law_key_order T.F_law_key_order.kp (T.b_law_key_order) .nil pass0 (pa_cons (pv 3) (pa_cons (pv 2) pa_nil))) (pe_un un_neg (pv 4)) (by first | exact nomark _ | rfl)) (pw_or1 (pt_cmpR op_ne (pe_cmpR (op_eqD hr.units) (pv 2) (pv 3) (by first | exact nomark _ | rfl)) (pe_cmpR op_eq (pv 4) pe_int (by first | exact nomark _ | rfl)) (by first | exact nomark _ | rfl)))))
      (pss_one (ps_ret pe_bl))
      pss_nil)
    (pss_cons (ps_if (PW.pt (pw_or (pt_cmpR op_eq (pe_ix ix_tup (pv 0) pe_int (fun _ _ => rfl)) pe_str (by first | exact nomark _ | rfl)) (pw_or1 (pt_cmpR op_eq (pe_ix ix_tup (pv 1) pe_int (fun _ _ => rfl)) pe_str (by first | exact nomark _ | rfl)))))
      (pss_one (ps_ret pe_bl))
      pss_nil)
    (pss_cons (ps_set (i := 5) sc_law_pair.nd rfl (by first | exact Or.inl rfl | exact Or.inr rfl) (pe_call (ok_law_compared T) (hr.mono (by decide)) (by rfl) T.g_law_compared T.F_law_compared.kp (T.b_law_compared) .nil pass0 (pa_cons (pv 0) (pa_cons (pv 1) pa_nil))))
    (pss_cons (ps_if (PW.pt (pw_or (pt_not (pt_val (pe_call (ok_law_is_step T) (hr.mono (by decide)) (by rfl) T.g_law_is_step T.F_law_is_step.kp (T.b_law_is_step) .nil pass0 (pa_cons (pe_call (okcompared T) (hr.mono (by decide)) (by rfl) T.gcompared T.Fcompared.kp (T.bcompared) .nil pass0 (pa_cons (pv 0) (pa_cons (pv 1) pa_nil))) (pa_cons (pv 5) pa_nil))))) (pw_or1 (pt_not (pt_val (pe_call (ok_law_is_step T) (hr.mono (by decide)) (by rfl) T.g_law_is_step T.F_law_is_step.kp (T.b_law_is_step) .nil pass0 (pa_cons (pe_callK0 (okcompared T) (hr.mono (by decide)) (by rfl) T.gcompared T.Fcompared.kp (kbcompared_b_a T) pass0 (pk_cons (pv 1) (pk_cons (pv 0) pk_nil))) (pa_cons (pv 5) pa_nil))))))))
      (pss_one (ps_ret pe_bl))
      pss_nil)
    (pss_cons (ps_if (pt_cmpR op_ne (pe_call (okcompared T) (hr.mono (by decide)) (by rfl) T.gcompared T.Fcompared.kp (T.bcompared) .nil pass0 (pa_cons (pv 1) (pa_cons (pv 0) pa_nil))) (pe_un un_neg (pe_call (okcompared T) (hr.mono (by decide)) (by rfl) T.gcompared T.Fcompared.kp (T.bcompared) .nil pass0 (pa_cons (pv 0) (pa_cons (pv 1) pa_nil)))) (by first | exact nomark _ | rfl))
      (pss_one (ps_ret pe_bl))
      pss_nil)
    (pss_cons (ps_if (pt_cmpR op_ne (pe_ix ix_tup (pv 0) pe_int (fun _ _ => rfl)) (pe_ix ix_tup (pv 1) pe_int (fun _ _ => rfl)) (by first | exact nomark _ | rfl))
      (pss_one (ps_ret pe_bl))
      pss_nil)
    (pss_cons (ps_if (PW.pt (pw_and (pt_cmpR op_eq (pe_ix ix_tup (pv 0) pe_int (fun _ _ => rfl)) pe_str (by first | exact nomark _ | rfl)) (pw_and1 (pt_cmpR op_eq (pe_bm0 PySem.F.plainAttrs_str PySem.F.slot_str_upper PySem.F.type_str_upper mt_upper (pe_ix ix_tup (pv 0) pe_int (fun _ _ => rfl))) (pe_bm0 PySem.F.plainAttrs_str PySem.F.slot_str_upper PySem.F.type_str_upper mt_upper (pe_ix ix_tup (pv 1) pe_int (fun _ _ => rfl))) (by first | exact nomark _ | rfl)))))
      (pss_one (ps_ret (pe_cmpR op_eq (pe_call (okcompared T) (hr.mono (by decide)) (by rfl) T.gcompared T.Fcompared.kp (T.bcompared) .nil pass0 (pa_cons (pv 0) (pa_cons (pv 1) pa_nil))) pe_int (by first | exact nomark _ | rfl))))
      pss_nil)
    (pss_one (ps_ret (pe_cmpR op_eq (pe_call (okcompared T) (hr.mono (by decide)) (by rfl) T.gcompared T.Fcompared.kp (T.bcompared) .nil pass0 (pa_cons (pv 0) (pa_cons (pv 1) pa_nil))) (pv 4) (by first | exact nomark _ | rfl))))))))))))), ?_⟩
    have o1 := ord_neg s t
    have o2 := eqv_vs hs ht
    have o3 := eqv_key s t
    have o4 := cmp8_neg s t
    refine ⟨_, rfl, _, rfl, _, _, s, t, rfl, hk, hk2, ?_⟩
    walk_at "run"
    · rename_i x
      exact absurd rfl x
    · rename_i x
      exfalso
      rw [o2, dec_int, decide_eq_true rfl] at x
      cases x
    · rename_i x
      exact absurd o1 x
    · rename_i x
      exfalso
      rw [o3, dec_int, decide_eq_true rfl] at x
      cases x
    have ea := vs_kn s
    have eb := vs_kn t
    walk_at "run"
    · exact q _ (by assumption)
    · exact q _ (by assumption)
    rename_i H1 s1 x1 x2 x3 x4 n1 n2
    clear x1 x2 x3 x4
    refine ⟨⟨kn_err n1, kn_err n2⟩, fun H2 s2 => ?_⟩
    replace s1 := s1.trans s2
    replace hp := same_tk s1 _ _ hp
    replace hp2 := same_tk s1 _ _ hp2
    clear hk hk2 s2
    walk_at "run"
    · rename_i x
      exact absurd o4 x
    · exact q _ (by walk_at "same")
    · rename_i x1 x
      have e : KN s = KN t := Decidable.byContradiction fun z => x1 (by rw [decide_eq_false (fun y => z (V.str.inj y))]; rfl)
      clear x1
      rcases s with _ | m | b | z | n
      all_goals first
        | (simp only [KN] at x; exact absurd (V.str.inj x) (by decide +kernel))
        | skip
      rcases t with _ | m2 | b2 | z2 | n2
      all_goals first
        | (simp only [KN] at e; exact absurd e (by decide +kernel))
        | skip
      obtain ⟨hz, ha⟩ := id hs
      obtain ⟨hz2, ha2⟩ := id ht
      have c : cmp8 (.txt z) (.txt z2) = stepS (Txt.upper z) (Txt.upper z2) := cm_txt z z2
      walk_at "run"
      · rename_i x3 H5 s5
        rw [c, V.str.inj x3, stepS_self, decide_eq_true rfl]
        exact q _ (by walk_at "same")
      · rename_i x3 H5 s5
        rw [c, show ord8 (.txt z) (.txt z2) = stepS (Txt.upper z) (Txt.upper z2) from (ord_eq (s := .txt z) (t := .txt z2) rfl).trans (same_txt_ne (a := z) (b := z2) fun y => x3 (congrArg V.str y)), decide_eq_true rfl]
        exact q _ (by walk_at "same")
    · rename_i H9 s9 H8 s8 H7 s7 H6 s6 x2 x1 x H5 s5
      have e : KN s = KN t := Decidable.byContradiction fun z => x1 (by rw [decide_eq_false (fun y => z (V.str.inj y))]; rfl)
      have nt : s.isT = false := by
        rcases s with _ | m | b | z | n
        all_goals first
          | rfl
          | exact absurd rfl x
      rw [kn_cmp e nt, decide_eq_true rfl]
      exact q _ (by walk_at "same")

theorem ok_law_rising (T : Txt K mg w) : FnOk P w K mg base CX0 3 T.a_law_rising T.d_law_rising P_law_rising (sp_law_rising K) := by
  refine T.F_law_rising.ok sc_law_rising (fun vs H Q E h => ?_) (fun cdv A outer s H vs Q E hr h => ?_)
  · obtain ⟨p1, p2, s, t, rfl, _⟩ := h
    rfl
  · obtain ⟨p1, p2, s, t, rfl, hp, hp2, q⟩ := h
    refine ⟨_, (pss_one (ps_ret (pe_cmpR op_in_seq (pe_call (ok_law_key_order T) (hr.mono (by decide)) (by rfl) T.g_law_key_order T.F_law_key_order.kp (T.b_law_key_order) .nil pass0 (pa_cons (pv 0) (pa_cons (pv 1) pa_nil))) (pe_tup (pa_cons (pe_un un_neg pe_int) (pa_cons pe_int pa_nil))) (by first | exact nomark _ | rfl)))), ?_⟩
    walk_at "run"
    show Q (V.bl (inV (V.int (ord8 s t)) [V.int (-1), V.int 0])) _
    rw [in_ris]
    exact q _ (by walk_at "same")

theorem oklaw (T : Txt K mg w) : FnOk P w K mg base CX0 5 T.alaw T.dlaw Plaw (splaw K) := by
  refine T.Flaw.ok sclaw (fun vs H Q E h => ?_) (fun cdv A outer s H vs Q E hr h => ?_)
  · obtain ⟨_, _, rfl, _⟩ := h
    rfl
  · obtain ⟨a, ns, rfl, hS, hl, q⟩ := h
    refine ⟨_, (pss_cons (ps_set (i := 1) sclaw.nd rfl (by first | exact Or.inl rfl | exact Or.inr rfl) (pe_call (ok_law_scalars T) (hr.mono (by decide)) (by rfl) T.g_law_scalars T.F_law_scalars.kp (T.b_law_scalars) .nil pass0 (pa_cons (pv 0) pa_nil)))
    (pss_cons (ps_setLc (i := 2) (own := [("v", 3)]) (g := gName 3) (tt := tYes) rfl sclaw.nd rfl rfl (sw_true rfl rfl rfl (by decide +kernel)) (pi_list (pv 1)) (blkOk_by (N := Nlaw) (sc := defScope slaw) (by decide +kernel)) (fun _ _ _ _ _ => pg_name (i := 3) sclaw.nd rfl (Or.inl rfl)) (fun _ _ _ _ _ => pts_nil) (fun _ _ _ _ _ => (pe_call (okorder_key T) (hr.mono (by decide)) (by rfl) T.gorder_key T.Forder_key.kp (T.border_key) .nil pass0 (pa_cons (pv 3) pa_nil))))
    (pss_cons (ps_for PassesOwn.never rfl (pi_range1 (by rfl) T.z_range (pa_cons pe_int pa_nil)) (pg_name (i := 4) sclaw.nd rfl (by first | exact Or.inl rfl | exact Or.inr rfl))
      (pss_one (ps_if (PW.pt (pw_or (pt_not (pt_val (pe_call (ok_law_is_key T) (hr.mono (by decide)) (by rfl) T.g_law_is_key T.F_law_is_key.kp (T.b_law_is_key) .nil pass0 (pa_cons (pe_ix ix_list (pv 2) (pv 4) (fun _ _ => rfl)) pa_nil)))) (pw_or1 (pt_cmpR (op_neD hr.units) (pe_callK0 (okorder_key T) (hr.mono (by decide)) (by rfl) T.gorder_key T.Forder_key.kp (kborder_key_v T) pass0 (pk_cons (pe_ix ix_list (pv 1) (pv 4) (fun _ _ => rfl)) pk_nil)) (pe_ix ix_list (pv 2) (pv 4) (fun _ _ => rfl)) (by first | exact nomark _ | rfl)))))
      (pss_one (ps_ret pe_bl))
      pss_nil)))
    (pss_cons (ps_for PassesOwn.never rfl (pi_range1 (by rfl) T.z_range (pa_cons pe_int pa_nil)) (pg_name (i := 5) sclaw.nd rfl (by first | exact Or.inl rfl | exact Or.inr rfl))
      (pss_one (ps_for PassesOwn.never rfl (pi_range1 (by rfl) T.z_range (pa_cons pe_int pa_nil)) (pg_name (i := 6) sclaw.nd rfl (by first | exact Or.inl rfl | exact Or.inr rfl))
      (pss_one (ps_if (pt_not (pt_val (pe_call (ok_law_pair T) (hr.mono (by decide)) (by rfl) T.g_law_pair T.F_law_pair.kp (T.b_law_pair) .nil pass0 (pa_cons (pe_ix ix_list (pv 1) (pv 5) (fun _ _ => rfl)) (pa_cons (pe_ix ix_list (pv 1) (pv 6) (fun _ _ => rfl)) (pa_cons (pe_ix ix_list (pv 2) (pv 5) (fun _ _ => rfl)) (pa_cons (pe_ix ix_list (pv 2) (pv 6) (fun _ _ => rfl)) pa_nil)))))))
      (pss_one (ps_ret pe_bl))
      pss_nil)))))
    (pss_cons (ps_for PassesOwn.never rfl (pi_range1 (by rfl) T.z_range (pa_cons pe_int pa_nil)) (pg_name (i := 5) sclaw.nd rfl (by first | exact Or.inl rfl | exact Or.inr rfl))
      (pss_one (ps_for PassesOwn.never rfl (pi_range1 (by rfl) T.z_range (pa_cons pe_int pa_nil)) (pg_name (i := 6) sclaw.nd rfl (by first | exact Or.inl rfl | exact Or.inr rfl))
      (pss_one (ps_for PassesOwn.never rfl (pi_range1 (by rfl) T.z_range (pa_cons pe_int pa_nil)) (pg_name (i := 4) sclaw.nd rfl (by first | exact Or.inl rfl | exact Or.inr rfl))
      (pss_cons (ps_set (i := 7) sclaw.nd rfl (by first | exact Or.inl rfl | exact Or.inr rfl) (pe_and (pe_call (ok_law_rising T) (hr.mono (by decide)) (by rfl) T.g_law_rising T.F_law_rising.kp (T.b_law_rising) .nil pass0 (pa_cons (pe_ix ix_list (pv 2) (pv 5) (fun _ _ => rfl)) (pa_cons (pe_ix ix_list (pv 2) (pv 6) (fun _ _ => rfl)) pa_nil))) (pe_one (pe_call (ok_law_rising T) (hr.mono (by decide)) (by rfl) T.g_law_rising T.F_law_rising.kp (T.b_law_rising) .nil pass0 (pa_cons (pe_ix ix_list (pv 2) (pv 6) (fun _ _ => rfl)) (pa_cons (pe_ix ix_list (pv 2) (pv 4) (fun _ _ => rfl)) pa_nil))))))
    (pss_one (ps_if (PW.pt (pw_and (pt_val (pv 7)) (pw_and1 (pt_not (pt_val (pe_call (ok_law_rising T) (hr.mono (by decide)) (by rfl) T.g_law_rising T.F_law_rising.kp (T.b_law_rising) .nil pass0 (pa_cons (pe_ix ix_list (pv 2) (pv 5) (fun _ _ => rfl)) (pa_cons (pe_ix ix_list (pv 2) (pv 4) (fun _ _ => rfl)) pa_nil))))))))
      (pss_one (ps_ret pe_bl))
      pss_nil))))))))
    (pss_one (ps_ret pe_bl))))))), ?_⟩
    walk_at "run"
    refine ⟨_, _, rfl, hS, fun (D p1 p2 p3 : Addr) (s1 s2 s3 : S8) (H1 : Hp) e1 hD h1 h2 h3 o1 o2 o3 => ?_⟩
    obtain ⟨ss, hss⟩ : ∃ ss : List S8, ss = [s1, s2, s3] := ⟨_, rfl⟩
    obtain ⟨ps, hps⟩ : ∃ ps : List Addr, ps = [p1, p2, p3] := ⟨_, rfl⟩
    have v0 : Row3 (fun p s => SqT K H1 p s.vs) ps ss := by rw [hss, hps]; exact .cons h1 (.cons h2 (.cons h3 .nil))
    have v1 : ∀ s ∈ ss, s.ok 1000 := by
      rw [hss]
      intro s hs
      simp only [List.mem_cons, List.not_mem_nil, or_false] at hs
      rcases hs with rfl | rfl | rfl
      all_goals assumption
    have v2 : ps.length = 3 := by rw [hps]; rfl
    have hD2 : SqL K H1 D (ps.map V.ref) := by rw [hps]; exact hD
    clear h1 h2 h3 o1 o2 o3 hss hps hD
    walk_at "run"
    refine And.intro ⟨_, hD2⟩ (fun (E : Addr) hE => ?_)
    refine lc_it (walk_list (xs := ps.map V.ref)) (fun i H' => Same H1 H' ∧ ∃ ks : List Addr, H' E = some (.lst (ks.map V.ref)) ∧ Row3 (fun p s => SqT K H' p s.key) ks (ss.take i)) ⟨same_upd hE, [], upd_same, .nil⟩ (fun i H' hi hp => Same.seq hp.1 hD2) (fun i x H2 H3 hi hp hy => ?_) (fun H3 hp => ?_)
    · obtain ⟨t1, ks, hks, hr⟩ := hp
      obtain ⟨rfl, ex⟩ := hy
      have hi2 : i < ps.length := by rwa [List.length_map] at hi
      obtain ⟨p, s, ep, es, hp⟩ := v0.at hi2
      rw [List.getElem?_map, ep] at ex
      obtain rfl : V.ref p = x := Option.some.inj ex
      have hok := v1 s (List.mem_of_getElem? es)
      have hp2 := same_tk t1 _ _ hp
      clear hp
      walk_at "run"
      rename_i r H4 s4 h4
      have hd4 := s4 _ _ hks
      refine ⟨_, hd4, small1000 (by rw [List.length_map, hr.len, List.length_take]; omega), same_put (t1.trans s4) hE, ks ++ [r], by rw [List.map_append]; exact upd_same, ?_⟩
      rw [List.take_succ, es]
      exact (hr.mono fun p s h => lst_tk hd4 _ _ (same_tk s4 _ _ h)).snoc (lst_tk hd4 _ _ h4)
    obtain ⟨t1, ks, hks, hr⟩ := hp
    rw [List.length_map, List.take_of_length_le (by rw [← v0.len]; omega)] at hr
    have hK : SqL K H3 E (ks.map V.ref) := SqL.of hks
    have hV : SqL K H3 D (ps.map V.ref) := Same.seq t1 hD2
    replace v0 := v0.mono fun p s h => same_tk t1 _ _ h
    have v3 : ks.length = 3 := by rw [hr.len, ← v0.len, v2]
    have pick : ∀ {i : Nat} {H' : Hp}, i < 3 → Same H3 H' → ∃ (p r : Addr) (s : S8), atI (ps.map V.ref) (0 + (i : Int)) = some (.ref p) ∧ atI (ks.map V.ref) (0 + (i : Int)) = some (.ref r) ∧ SqT K H' p s.vs ∧ SqT K H' r s.key ∧ s.ok 1000 := fun {i H'} hi hs => by
      obtain ⟨p, s, ep, es, h1⟩ := v0.at (i := i) (by omega)
      obtain ⟨r, s', er, es', h2⟩ := hr.at (i := i) (by omega)
      obtain rfl : s = s' := Option.some.inj (es.symm.trans es')
      exact ⟨p, r, s, atI_ref ep, atI_ref er, same_tk hs _ _ h1, same_tk hs _ _ h2, v1 s (List.mem_of_getElem? es)⟩
    clear hks hD2 v0 hr v1 hS t1 e1 hE
    walk_at "run"
    refine for_range (lo := 0) (n := 3) (fun i σ H' => Same H3 H' ∧ ∃ u : Option V, σ = [some (.ref a), some (.ref D), some (.ref E), none, u, none, none, none]) ⟨Same.refl _, none, rfl⟩ (fun i σ H' hi hp => ?_) (fun σ H' hp => ?_)
    · obtain ⟨t2, u, rfl⟩ := hp
      obtain ⟨p, r, s, f1, f2, h1, h2, hok⟩ := pick hi t2
      have g1 := Same.seq t2 hV
      have g2 := Same.seq t2 hK
      walk_at "run"
      refine ⟨r, s, rfl, h2, ?_⟩
      walk_at "run"
      · rename_i c
        exfalso
        rw [eqk_self] at c
        cases c
      · exact ⟨by walk_at "same", _, rfl⟩
    obtain ⟨t2, u, rfl⟩ := hp
    walk_at "run"
    refine for_range (lo := 0) (n := 3) (fun i σ H' => Same H3 H' ∧ ∃ u5 u6 : Option V, σ = [some (.ref a), some (.ref D), some (.ref E), none, u, u5, u6, none]) ⟨t2, none, none, rfl⟩ (fun i σ H' hi hp => ?_) (fun σ H' hp => ?_)
    · obtain ⟨t3, u5, u6, rfl⟩ := hp
      walk_at "run"
      refine for_range (lo := 0) (n := 3) (fun j σ H' => Same H3 H' ∧ ∃ u6 : Option V, σ = [some (.ref a), some (.ref D), some (.ref E), none, u, some (.int (0 + (i : Int))), u6, none]) ⟨t3, u6, rfl⟩ (fun j σ H' hj hp => ?_) (fun σ H' hp => ?_)
      · obtain ⟨t4, u6, rfl⟩ := hp
        obtain ⟨p, r, s, f1, f2, h1, h2, hok⟩ := pick hi t4
        obtain ⟨p', r', s', f1', f2', h1', h2', hok'⟩ := pick hj t4
        have g1 := Same.seq t4 hV
        have g2 := Same.seq t4 hK
        walk_at "run"
        refine ⟨_, _, _, _, s, s', rfl, h1, h1', h2, h2', hok, hok', fun H5 s5 => ?_⟩
        walk_at "run"
        exact ⟨t4.trans s5, _, rfl⟩
      · obtain ⟨t4, u6, rfl⟩ := hp
        exact ⟨t4, _, _, rfl⟩
    obtain ⟨t3, u5, u6, rfl⟩ := hp
    walk_at "run"
    refine for_range (lo := 0) (n := 3) (fun i σ H' => Same H3 H' ∧ ∃ u u5 u6 u7 : Option V, σ = [some (.ref a), some (.ref D), some (.ref E), none, u, u5, u6, u7]) ⟨t3, _, _, _, _, rfl⟩ (fun i σ H' hi hp => ?_) (fun σ H' hp => ?_)
    · obtain ⟨t3, u, u5, u6, u7, rfl⟩ := hp
      walk_at "run"
      refine for_range (lo := 0) (n := 3) (fun j σ H' => Same H3 H' ∧ ∃ u u6 u7 : Option V, σ = [some (.ref a), some (.ref D), some (.ref E), none, u, some (.int (0 + (i : Int))), u6, u7]) ⟨t3, _, _, _, rfl⟩ (fun j σ H' hj hp => ?_) (fun σ H' hp => ?_)
      · obtain ⟨t4, u, u6, u7, rfl⟩ := hp
        walk_at "run"
        refine for_range (lo := 0) (n := 3) (fun k σ H' => Same H3 H' ∧ ∃ u u7 : Option V, σ = [some (.ref a), some (.ref D), some (.ref E), none, u, some (.int (0 + (i : Int))), some (.int (0 + (j : Int))), u7]) ⟨t4, _, _, rfl⟩ (fun k σ H' hk hp => ?_) (fun σ H' hp => ?_)
        · obtain ⟨t5, u, u7, rfl⟩ := hp
          obtain ⟨p, r, s, f1, f2, h1, h2, hok⟩ := pick hi t5
          obtain ⟨p', r', s', f1', f2', h1', h2', hok'⟩ := pick hj t5
          obtain ⟨p2, r2, s2, f12, f22, h12, h22, hok2⟩ := pick hk t5
          have g1 := Same.seq t5 hV
          have g2 := Same.seq t5 hK
          clear h1 h1' h12 f1 f1' f12
          walk_at "run"
          · rename_i HA sA xa HB sB xb HC sC xc
            exfalso
            rw [ris_trans xa xb] at xc
            cases xc
          all_goals exact ⟨by walk_at "same", _, _, rfl⟩
        · obtain ⟨t5, u, u7, rfl⟩ := hp
          exact ⟨t5, _, _, _, rfl⟩
      · obtain ⟨t4, u, u6, u7, rfl⟩ := hp
        exact ⟨t4, _, _, _, _, rfl⟩
    · obtain ⟨t3, u, u5, u6, u7, rfl⟩ := hp
      walk_at "run"
      exact q _

end
/-! ### the top -/
theorem all_mk {l : PySem.W.OpenLaw} {w : World} {K : PySem.W.Frag} {h : Heap} {mg : Str → Option Value} {fa : Addr} (X : K.In h) (G : h.Ns mainGlobals mg) (hfa : mg "law" = some (.ref fa))
    {od0 an0 : Option Addr} {sl0 : Array (Option Value)} {oc0 kV0 dc0 pm0 cd0 ct0 : Value} {f0 : Addr}
    (a0 : PySem.W.nsIn K mainGlobals "capital" = some (some (.ref f0))) (l0 : K.lookup f0 = some ⟨oc0, od0, .func (PySem.W.fnOf "capital" "capital" (defArgs scapital) (defBody scapital) (defScope scapital) .none kV0 dc0 pm0 an0 cd0 ct0), sl0⟩) (c0 : PySem.W.codeIn K cd0 "capital" = true) (k0 : PySem.W.keepIn K (.ref f0) = true)
    {od1 an1 : Option Addr} {sl1 : Array (Option Value)} {oc1 kV1 dc1 pm1 cd1 ct1 : Value} {f1 : Addr}
    (a1 : PySem.W.nsIn K mainGlobals "compared" = some (some (.ref f1))) (l1 : K.lookup f1 = some ⟨oc1, od1, .func (PySem.W.fnOf "compared" "compared" (defArgs scompared) (defBody scompared) (defScope scompared) .none kV1 dc1 pm1 an1 cd1 ct1), sl1⟩) (c1 : PySem.W.codeIn K cd1 "compared" = true) (k1 : PySem.W.keepIn K (.ref f1) = true)
    {od2 an2 : Option Addr} {sl2 : Array (Option Value)} {oc2 kV2 dc2 pm2 cd2 ct2 : Value} {f2 : Addr}
    (a2 : PySem.W.nsIn K mainGlobals "taken_beside" = some (some (.ref f2))) (l2 : K.lookup f2 = some ⟨oc2, od2, .func (PySem.W.fnOf "taken_beside" "taken_beside" (defArgs staken_beside) (defBody staken_beside) (defScope staken_beside) .none kV2 dc2 pm2 an2 cd2 ct2), sl2⟩) (c2 : PySem.W.codeIn K cd2 "taken_beside" = true) (k2 : PySem.W.keepIn K (.ref f2) = true)
    {od3 an3 : Option Addr} {sl3 : Array (Option Value)} {oc3 kV3 dc3 pm3 cd3 ct3 : Value} {f3 : Addr}
    (a3 : PySem.W.nsIn K mainGlobals "order_key" = some (some (.ref f3))) (l3 : K.lookup f3 = some ⟨oc3, od3, .func (PySem.W.fnOf "order_key" "order_key" (defArgs sorder_key) (defBody sorder_key) (defScope sorder_key) .none kV3 dc3 pm3 an3 cd3 ct3), sl3⟩) (c3 : PySem.W.codeIn K cd3 "order_key" = true) (k3 : PySem.W.keepIn K (.ref f3) = true)
    {od4 an4 : Option Addr} {sl4 : Array (Option Value)} {oc4 kV4 dc4 pm4 cd4 ct4 : Value} {f4 : Addr}
    (a4 : PySem.W.nsIn K mainGlobals "_law_cell" = some (some (.ref f4))) (l4 : K.lookup f4 = some ⟨oc4, od4, .func (PySem.W.fnOf "_law_cell" "_law_cell" (defArgs s_law_cell) (defBody s_law_cell) (defScope s_law_cell) .none kV4 dc4 pm4 an4 cd4 ct4), sl4⟩) (c4 : PySem.W.codeIn K cd4 "_law_cell" = true) (k4 : PySem.W.keepIn K (.ref f4) = true)
    {od5 an5 : Option Addr} {sl5 : Array (Option Value)} {oc5 kV5 dc5 pm5 cd5 ct5 : Value} {f5 : Addr}
    (a5 : PySem.W.nsIn K mainGlobals "_law_mix" = some (some (.ref f5))) (l5 : K.lookup f5 = some ⟨oc5, od5, .func (PySem.W.fnOf "_law_mix" "_law_mix" (defArgs s_law_mix) (defBody s_law_mix) (defScope s_law_mix) .none kV5 dc5 pm5 an5 cd5 ct5), sl5⟩) (c5 : PySem.W.codeIn K cd5 "_law_mix" = true) (k5 : PySem.W.keepIn K (.ref f5) = true)
    {od6 an6 : Option Addr} {sl6 : Array (Option Value)} {oc6 kV6 dc6 pm6 cd6 ct6 : Value} {f6 : Addr}
    (a6 : PySem.W.nsIn K mainGlobals "_law_amount" = some (some (.ref f6))) (l6 : K.lookup f6 = some ⟨oc6, od6, .func (PySem.W.fnOf "_law_amount" "_law_amount" (defArgs s_law_amount) (defBody s_law_amount) (defScope s_law_amount) .none kV6 dc6 pm6 an6 cd6 ct6), sl6⟩) (c6 : PySem.W.codeIn K cd6 "_law_amount" = true) (k6 : PySem.W.keepIn K (.ref f6) = true)
    {od7 an7 : Option Addr} {sl7 : Array (Option Value)} {oc7 kV7 dc7 pm7 cd7 ct7 : Value} {f7 : Addr}
    (a7 : PySem.W.nsIn K mainGlobals "_law_words" = some (some (.ref f7))) (l7 : K.lookup f7 = some ⟨oc7, od7, .func (PySem.W.fnOf "_law_words" "_law_words" (defArgs s_law_words) (defBody s_law_words) (defScope s_law_words) .none kV7 dc7 pm7 an7 cd7 ct7), sl7⟩) (c7 : PySem.W.codeIn K cd7 "_law_words" = true) (k7 : PySem.W.keepIn K (.ref f7) = true)
    {od8 an8 : Option Addr} {sl8 : Array (Option Value)} {oc8 kV8 dc8 pm8 cd8 ct8 : Value} {f8 : Addr}
    (a8 : PySem.W.nsIn K mainGlobals "_law_signs" = some (some (.ref f8))) (l8 : K.lookup f8 = some ⟨oc8, od8, .func (PySem.W.fnOf "_law_signs" "_law_signs" (defArgs s_law_signs) (defBody s_law_signs) (defScope s_law_signs) .none kV8 dc8 pm8 an8 cd8 ct8), sl8⟩) (c8 : PySem.W.codeIn K cd8 "_law_signs" = true) (k8 : PySem.W.keepIn K (.ref f8) = true)
    {od9 an9 : Option Addr} {sl9 : Array (Option Value)} {oc9 kV9 dc9 pm9 cd9 ct9 : Value} {f9 : Addr}
    (a9 : PySem.W.nsIn K mainGlobals "_law_alphabet" = some (some (.ref f9))) (l9 : K.lookup f9 = some ⟨oc9, od9, .func (PySem.W.fnOf "_law_alphabet" "_law_alphabet" (defArgs s_law_alphabet) (defBody s_law_alphabet) (defScope s_law_alphabet) .none kV9 dc9 pm9 an9 cd9 ct9), sl9⟩) (c9 : PySem.W.codeIn K cd9 "_law_alphabet" = true) (k9 : PySem.W.keepIn K (.ref f9) = true)
    {od10 an10 : Option Addr} {sl10 : Array (Option Value)} {oc10 kV10 dc10 pm10 cd10 ct10 : Value} {f10 : Addr}
    (a10 : PySem.W.nsIn K mainGlobals "_law_scalar" = some (some (.ref f10))) (l10 : K.lookup f10 = some ⟨oc10, od10, .func (PySem.W.fnOf "_law_scalar" "_law_scalar" (defArgs s_law_scalar) (defBody s_law_scalar) (defScope s_law_scalar) .none kV10 dc10 pm10 an10 cd10 ct10), sl10⟩) (c10 : PySem.W.codeIn K cd10 "_law_scalar" = true) (k10 : PySem.W.keepIn K (.ref f10) = true)
    {od11 an11 : Option Addr} {sl11 : Array (Option Value)} {oc11 kV11 dc11 pm11 cd11 ct11 : Value} {f11 : Addr}
    (a11 : PySem.W.nsIn K mainGlobals "_law_near_text" = some (some (.ref f11))) (l11 : K.lookup f11 = some ⟨oc11, od11, .func (PySem.W.fnOf "_law_near_text" "_law_near_text" (defArgs s_law_near_text) (defBody s_law_near_text) (defScope s_law_near_text) .none kV11 dc11 pm11 an11 cd11 ct11), sl11⟩) (c11 : PySem.W.codeIn K cd11 "_law_near_text" = true) (k11 : PySem.W.keepIn K (.ref f11) = true)
    {od12 an12 : Option Addr} {sl12 : Array (Option Value)} {oc12 kV12 dc12 pm12 cd12 ct12 : Value} {f12 : Addr}
    (a12 : PySem.W.nsIn K mainGlobals "_law_near" = some (some (.ref f12))) (l12 : K.lookup f12 = some ⟨oc12, od12, .func (PySem.W.fnOf "_law_near" "_law_near" (defArgs s_law_near) (defBody s_law_near) (defScope s_law_near) .none kV12 dc12 pm12 an12 cd12 ct12), sl12⟩) (c12 : PySem.W.codeIn K cd12 "_law_near" = true) (k12 : PySem.W.keepIn K (.ref f12) = true)
    {od13 an13 : Option Addr} {sl13 : Array (Option Value)} {oc13 kV13 dc13 pm13 cd13 ct13 : Value} {f13 : Addr}
    (a13 : PySem.W.nsIn K mainGlobals "_law_scalars" = some (some (.ref f13))) (l13 : K.lookup f13 = some ⟨oc13, od13, .func (PySem.W.fnOf "_law_scalars" "_law_scalars" (defArgs s_law_scalars) (defBody s_law_scalars) (defScope s_law_scalars) .none kV13 dc13 pm13 an13 cd13 ct13), sl13⟩) (c13 : PySem.W.codeIn K cd13 "_law_scalars" = true) (k13 : PySem.W.keepIn K (.ref f13) = true)
    {od14 an14 : Option Addr} {sl14 : Array (Option Value)} {oc14 kV14 dc14 pm14 cd14 ct14 : Value} {f14 : Addr}
    (a14 : PySem.W.nsIn K mainGlobals "_law_step" = some (some (.ref f14))) (l14 : K.lookup f14 = some ⟨oc14, od14, .func (PySem.W.fnOf "_law_step" "_law_step" (defArgs s_law_step) (defBody s_law_step) (defScope s_law_step) .none kV14 dc14 pm14 an14 cd14 ct14), sl14⟩) (c14 : PySem.W.codeIn K cd14 "_law_step" = true) (k14 : PySem.W.keepIn K (.ref f14) = true)
    {od15 an15 : Option Addr} {sl15 : Array (Option Value)} {oc15 kV15 dc15 pm15 cd15 ct15 : Value} {f15 : Addr}
    (a15 : PySem.W.nsIn K mainGlobals "_law_rank" = some (some (.ref f15))) (l15 : K.lookup f15 = some ⟨oc15, od15, .func (PySem.W.fnOf "_law_rank" "_law_rank" (defArgs s_law_rank) (defBody s_law_rank) (defScope s_law_rank) .none kV15 dc15 pm15 an15 cd15 ct15), sl15⟩) (c15 : PySem.W.codeIn K cd15 "_law_rank" = true) (k15 : PySem.W.keepIn K (.ref f15) = true)
    {od16 an16 : Option Addr} {sl16 : Array (Option Value)} {oc16 kV16 dc16 pm16 cd16 ct16 : Value} {f16 : Addr}
    (a16 : PySem.W.nsIn K mainGlobals "_law_order" = some (some (.ref f16))) (l16 : K.lookup f16 = some ⟨oc16, od16, .func (PySem.W.fnOf "_law_order" "_law_order" (defArgs s_law_order) (defBody s_law_order) (defScope s_law_order) .none kV16 dc16 pm16 an16 cd16 ct16), sl16⟩) (c16 : PySem.W.codeIn K cd16 "_law_order" = true) (k16 : PySem.W.keepIn K (.ref f16) = true)
    {od17 an17 : Option Addr} {sl17 : Array (Option Value)} {oc17 kV17 dc17 pm17 cd17 ct17 : Value} {f17 : Addr}
    (a17 : PySem.W.nsIn K mainGlobals "_law_beside" = some (some (.ref f17))) (l17 : K.lookup f17 = some ⟨oc17, od17, .func (PySem.W.fnOf "_law_beside" "_law_beside" (defArgs s_law_beside) (defBody s_law_beside) (defScope s_law_beside) .none kV17 dc17 pm17 an17 cd17 ct17), sl17⟩) (c17 : PySem.W.codeIn K cd17 "_law_beside" = true) (k17 : PySem.W.keepIn K (.ref f17) = true)
    {od18 an18 : Option Addr} {sl18 : Array (Option Value)} {oc18 kV18 dc18 pm18 cd18 ct18 : Value} {f18 : Addr}
    (a18 : PySem.W.nsIn K mainGlobals "_law_compared" = some (some (.ref f18))) (l18 : K.lookup f18 = some ⟨oc18, od18, .func (PySem.W.fnOf "_law_compared" "_law_compared" (defArgs s_law_compared) (defBody s_law_compared) (defScope s_law_compared) .none kV18 dc18 pm18 an18 cd18 ct18), sl18⟩) (c18 : PySem.W.codeIn K cd18 "_law_compared" = true) (k18 : PySem.W.keepIn K (.ref f18) = true)
    {od19 an19 : Option Addr} {sl19 : Array (Option Value)} {oc19 kV19 dc19 pm19 cd19 ct19 : Value} {f19 : Addr}
    (a19 : PySem.W.nsIn K mainGlobals "_law_is_step" = some (some (.ref f19))) (l19 : K.lookup f19 = some ⟨oc19, od19, .func (PySem.W.fnOf "_law_is_step" "_law_is_step" (defArgs s_law_is_step) (defBody s_law_is_step) (defScope s_law_is_step) .none kV19 dc19 pm19 an19 cd19 ct19), sl19⟩) (c19 : PySem.W.codeIn K cd19 "_law_is_step" = true) (k19 : PySem.W.keepIn K (.ref f19) = true)
    {od20 an20 : Option Addr} {sl20 : Array (Option Value)} {oc20 kV20 dc20 pm20 cd20 ct20 : Value} {f20 : Addr}
    (a20 : PySem.W.nsIn K mainGlobals "_law_is_key" = some (some (.ref f20))) (l20 : K.lookup f20 = some ⟨oc20, od20, .func (PySem.W.fnOf "_law_is_key" "_law_is_key" (defArgs s_law_is_key) (defBody s_law_is_key) (defScope s_law_is_key) .none kV20 dc20 pm20 an20 cd20 ct20), sl20⟩) (c20 : PySem.W.codeIn K cd20 "_law_is_key" = true) (k20 : PySem.W.keepIn K (.ref f20) = true)
    {od21 an21 : Option Addr} {sl21 : Array (Option Value)} {oc21 kV21 dc21 pm21 cd21 ct21 : Value} {f21 : Addr}
    (a21 : PySem.W.nsIn K mainGlobals "_law_key_order" = some (some (.ref f21))) (l21 : K.lookup f21 = some ⟨oc21, od21, .func (PySem.W.fnOf "_law_key_order" "_law_key_order" (defArgs s_law_key_order) (defBody s_law_key_order) (defScope s_law_key_order) .none kV21 dc21 pm21 an21 cd21 ct21), sl21⟩) (c21 : PySem.W.codeIn K cd21 "_law_key_order" = true) (k21 : PySem.W.keepIn K (.ref f21) = true)
    {od22 an22 : Option Addr} {sl22 : Array (Option Value)} {oc22 kV22 dc22 pm22 cd22 ct22 : Value} {f22 : Addr}
    (a22 : PySem.W.nsIn K mainGlobals "_law_pair" = some (some (.ref f22))) (l22 : K.lookup f22 = some ⟨oc22, od22, .func (PySem.W.fnOf "_law_pair" "_law_pair" (defArgs s_law_pair) (defBody s_law_pair) (defScope s_law_pair) .none kV22 dc22 pm22 an22 cd22 ct22), sl22⟩) (c22 : PySem.W.codeIn K cd22 "_law_pair" = true) (k22 : PySem.W.keepIn K (.ref f22) = true)
    {od23 an23 : Option Addr} {sl23 : Array (Option Value)} {oc23 kV23 dc23 pm23 cd23 ct23 : Value} {f23 : Addr}
    (a23 : PySem.W.nsIn K mainGlobals "_law_rising" = some (some (.ref f23))) (l23 : K.lookup f23 = some ⟨oc23, od23, .func (PySem.W.fnOf "_law_rising" "_law_rising" (defArgs s_law_rising) (defBody s_law_rising) (defScope s_law_rising) .none kV23 dc23 pm23 an23 cd23 ct23), sl23⟩) (c23 : PySem.W.codeIn K cd23 "_law_rising" = true) (k23 : PySem.W.keepIn K (.ref f23) = true)
    {od24 an24 : Option Addr} {sl24 : Array (Option Value)} {oc24 kV24 dc24 pm24 cd24 ct24 : Value} {f24 : Addr}
    (a24 : PySem.W.nsIn K mainGlobals "law" = some (some (.ref f24))) (l24 : K.lookup f24 = some ⟨oc24, od24, .func (PySem.W.fnOf "law" "law" (defArgs slaw) (defBody slaw) (defScope slaw) .none kV24 dc24 pm24 an24 cd24 ct24), sl24⟩) (c24 : PySem.W.codeIn K cd24 "law" = true) (k24 : PySem.W.keepIn K (.ref f24) = true)
    {o_ERRORS : Addr} {n_ERRORS : Nat} {sl_ERRORS : Array (Option Value)} {tE0 tE1 tE2 tE3 tE4 tE5 tE6 tE7 tE8 tE9 : Tok} (v_ERRORS : PySem.W.nsIn K mainGlobals "ERRORS" = some (some (.ref o_ERRORS))) (u_ERRORS : K.lookup o_ERRORS = some ⟨.type "tuple", none, .seq #[.str "DIV" tE0, .str "VALUE" tE1, .str "REF" tE2, .str "NAME" tE3, .str "NUM" tE4, .str "NA" tE5, .str "CALC" tE6, .str "SIZE" tE7, .str "LIMIT" tE8, .str "CIRC" tE9] n_ERRORS, sl_ERRORS⟩)
    {o_EB o1_EB o2_EB o3_EB : Addr} {es_EB : Array DictEntry} {n_EB n1_EB n2_EB n3_EB : Nat} {d1_EB d2_EB d3_EB : Option Addr} {s1_EB s2_EB s3_EB : Array (Option Value)} {t1_EB t2_EB t3_EB t4_EB t5_EB : Tok} (v_EB : PySem.W.nsIn K mainGlobals "EMPTY_BESIDE" = some (some (.ref o_EB))) (u_EB : K.lookup o_EB = some ⟨.type "dict", none, .dict es_EB n_EB, #[]⟩) (y_EB : PySem.W.KeysLit w.params es_EB.toList) (x_EB : (o_EB == sysModules) = false) (e1_EB : PySem.W.nsIn K o_EB "number" = some (some (.ref o1_EB))) (e2_EB : PySem.W.nsIn K o_EB "text" = some (some (.ref o2_EB))) (e3_EB : PySem.W.nsIn K o_EB "truth" = some (some (.ref o3_EB))) (e4_EB : PySem.W.nsIn K o_EB "empty" = some none) (e5_EB : PySem.W.nsIn K o_EB "error" = some none) (w1_EB : K.lookup o1_EB = some ⟨.type "tuple", d1_EB, .seq #[.str "number" t1_EB, .int 0 t2_EB] n1_EB, s1_EB⟩) (w2_EB : K.lookup o2_EB = some ⟨.type "tuple", d2_EB, .seq #[.str "text" t3_EB, .str "" t4_EB] n2_EB, s2_EB⟩) (w3_EB : K.lookup o3_EB = some ⟨.type "tuple", d3_EB, .seq #[.str "truth" t5_EB, .bool false] n3_EB, s3_EB⟩)
    (z_bool : PySem.W.nsIn K mainGlobals "bool" = some none)
    (z_int : PySem.W.nsIn K mainGlobals "int" = some none)
    (z_isinstance : PySem.W.nsIn K mainGlobals "isinstance" = some none)
    (z_len : PySem.W.nsIn K mainGlobals "len" = some none)
    (z_max : PySem.W.nsIn K mainGlobals "max" = some none)
    (z_min : PySem.W.nsIn K mainGlobals "min" = some none)
    (z_range : PySem.W.nsIn K mainGlobals "range" = some none)
    (z_str : PySem.W.nsIn K mainGlobals "str" = some none)
    (z_tuple : PySem.W.nsIn K mainGlobals "tuple" = some none) :
    ∃ fd : FuncData, (∀ (s : Shared) (v : Value), BindsTo s fd ⟨[v], []⟩ [("script", v)]) ∧ ∀ base : Heap, K.In base → base.Ns mainGlobals mg → FnOk l.prog w K mg base CX0 5 fa fd ["script"] (splaw K) := by
  have e := hfa.symm.trans (PySem.W.mg_of X G a24)
  cases e
  have F0 := fun_mk (st := scapital) l0 c0 k0
  have b0 := F0.binds (ps := Pcapital) fun _ _ _ _ _ _ us hl => match us, hl with | [_], _ => rfl
  have F1 := fun_mk (st := scompared) l1 c1 k1
  have b1 := F1.binds (ps := Pcompared) fun _ _ _ _ _ _ us hl => match us, hl with | [_, _], _ => rfl
  have F2 := fun_mk (st := staken_beside) l2 c2 k2
  have b2 := F2.binds (ps := Ptaken_beside) fun _ _ _ _ _ _ us hl => match us, hl with | [_, _], _ => rfl
  have F3 := fun_mk (st := sorder_key) l3 c3 k3
  have b3 := F3.binds (ps := Porder_key) fun _ _ _ _ _ _ us hl => match us, hl with | [_], _ => rfl
  have F4 := fun_mk (st := s_law_cell) l4 c4 k4
  have b4 := F4.binds (ps := P_law_cell) fun _ _ _ _ _ _ us hl => match us, hl with | [_, _], _ => rfl
  have F5 := fun_mk (st := s_law_mix) l5 c5 k5
  have b5 := F5.binds (ps := P_law_mix) fun _ _ _ _ _ _ us hl => match us, hl with | [_, _], _ => rfl
  have F6 := fun_mk (st := s_law_amount) l6 c6 k6
  have b6 := F6.binds (ps := P_law_amount) fun _ _ _ _ _ _ us hl => match us, hl with | [_, _], _ => rfl
  have F7 := fun_mk (st := s_law_words) l7 c7 k7
  have b7 := F7.binds (ps := P_law_words) fun _ _ _ _ _ _ us hl => match us, hl with | [], _ => rfl
  have F8 := fun_mk (st := s_law_signs) l8 c8 k8
  have b8 := F8.binds (ps := P_law_signs) fun _ _ _ _ _ _ us hl => match us, hl with | [_, _, _], _ => rfl
  have F9 := fun_mk (st := s_law_alphabet) l9 c9 k9
  have b9 := F9.binds (ps := P_law_alphabet) fun _ _ _ _ _ _ us hl => match us, hl with | [], _ => rfl
  have F10 := fun_mk (st := s_law_scalar) l10 c10 k10
  have b10 := F10.binds (ps := P_law_scalar) fun _ _ _ _ _ _ us hl => match us, hl with | [_, _], _ => rfl
  have F11 := fun_mk (st := s_law_near_text) l11 c11 k11
  have b11 := F11.binds (ps := P_law_near_text) fun _ _ _ _ _ _ us hl => match us, hl with | [_, _, _], _ => rfl
  have F12 := fun_mk (st := s_law_near) l12 c12 k12
  have b12 := F12.binds (ps := P_law_near) fun _ _ _ _ _ _ us hl => match us, hl with | [_, _, _], _ => rfl
  have F13 := fun_mk (st := s_law_scalars) l13 c13 k13
  have b13 := F13.binds (ps := P_law_scalars) fun _ _ _ _ _ _ us hl => match us, hl with | [_], _ => rfl
  have F14 := fun_mk (st := s_law_step) l14 c14 k14
  have b14 := F14.binds (ps := P_law_step) fun _ _ _ _ _ _ us hl => match us, hl with | [_, _], _ => rfl
  have F15 := fun_mk (st := s_law_rank) l15 c15 k15
  have b15 := F15.binds (ps := P_law_rank) fun _ _ _ _ _ _ us hl => match us, hl with | [_], _ => rfl
  have F16 := fun_mk (st := s_law_order) l16 c16 k16
  have b16 := F16.binds (ps := P_law_order) fun _ _ _ _ _ _ us hl => match us, hl with | [_, _], _ => rfl
  have F17 := fun_mk (st := s_law_beside) l17 c17 k17
  have b17 := F17.binds (ps := P_law_beside) fun _ _ _ _ _ _ us hl => match us, hl with | [_, _], _ => rfl
  have F18 := fun_mk (st := s_law_compared) l18 c18 k18
  have b18 := F18.binds (ps := P_law_compared) fun _ _ _ _ _ _ us hl => match us, hl with | [_, _], _ => rfl
  have F19 := fun_mk (st := s_law_is_step) l19 c19 k19
  have b19 := F19.binds (ps := P_law_is_step) fun _ _ _ _ _ _ us hl => match us, hl with | [_, _], _ => rfl
  have F20 := fun_mk (st := s_law_is_key) l20 c20 k20
  have b20 := F20.binds (ps := P_law_is_key) fun _ _ _ _ _ _ us hl => match us, hl with | [_], _ => rfl
  have F21 := fun_mk (st := s_law_key_order) l21 c21 k21
  have b21 := F21.binds (ps := P_law_key_order) fun _ _ _ _ _ _ us hl => match us, hl with | [_, _], _ => rfl
  have F22 := fun_mk (st := s_law_pair) l22 c22 k22
  have b22 := F22.binds (ps := P_law_pair) fun _ _ _ _ _ _ us hl => match us, hl with | [_, _, _, _], _ => rfl
  have F23 := fun_mk (st := s_law_rising) l23 c23 k23
  have b23 := F23.binds (ps := P_law_rising) fun _ _ _ _ _ _ us hl => match us, hl with | [_, _], _ => rfl
  have F24 := fun_mk (st := slaw) l24 c24 k24
  have b24 := F24.binds (ps := Plaw) fun _ _ _ _ _ _ us hl => match us, hl with | [_], _ => rfl
  let T : Txt K mg w := { acapital := f0, dcapital := _, Fcapital := F0, gcapital := PySem.W.mg_of X G a0, bcapital := b0, acompared := f1, dcompared := _, Fcompared := F1, gcompared := PySem.W.mg_of X G a1, bcompared := b1, ataken_beside := f2, dtaken_beside := _, Ftaken_beside := F2, gtaken_beside := PySem.W.mg_of X G a2, btaken_beside := b2, aorder_key := f3, dorder_key := _, Forder_key := F3, gorder_key := PySem.W.mg_of X G a3, border_key := b3, a_law_cell := f4, d_law_cell := _, F_law_cell := F4, g_law_cell := PySem.W.mg_of X G a4, b_law_cell := b4, a_law_mix := f5, d_law_mix := _, F_law_mix := F5, g_law_mix := PySem.W.mg_of X G a5, b_law_mix := b5, a_law_amount := f6, d_law_amount := _, F_law_amount := F6, g_law_amount := PySem.W.mg_of X G a6, b_law_amount := b6, a_law_words := f7, d_law_words := _, F_law_words := F7, g_law_words := PySem.W.mg_of X G a7, b_law_words := b7, a_law_signs := f8, d_law_signs := _, F_law_signs := F8, g_law_signs := PySem.W.mg_of X G a8, b_law_signs := b8, a_law_alphabet := f9, d_law_alphabet := _, F_law_alphabet := F9, g_law_alphabet := PySem.W.mg_of X G a9, b_law_alphabet := b9, a_law_scalar := f10, d_law_scalar := _, F_law_scalar := F10, g_law_scalar := PySem.W.mg_of X G a10, b_law_scalar := b10, a_law_near_text := f11, d_law_near_text := _, F_law_near_text := F11, g_law_near_text := PySem.W.mg_of X G a11, b_law_near_text := b11, a_law_near := f12, d_law_near := _, F_law_near := F12, g_law_near := PySem.W.mg_of X G a12, b_law_near := b12, a_law_scalars := f13, d_law_scalars := _, F_law_scalars := F13, g_law_scalars := PySem.W.mg_of X G a13, b_law_scalars := b13, a_law_step := f14, d_law_step := _, F_law_step := F14, g_law_step := PySem.W.mg_of X G a14, b_law_step := b14, a_law_rank := f15, d_law_rank := _, F_law_rank := F15, g_law_rank := PySem.W.mg_of X G a15, b_law_rank := b15, a_law_order := f16, d_law_order := _, F_law_order := F16, g_law_order := PySem.W.mg_of X G a16, b_law_order := b16, a_law_beside := f17, d_law_beside := _, F_law_beside := F17, g_law_beside := PySem.W.mg_of X G a17, b_law_beside := b17, a_law_compared := f18, d_law_compared := _, F_law_compared := F18, g_law_compared := PySem.W.mg_of X G a18, b_law_compared := b18, a_law_is_step := f19, d_law_is_step := _, F_law_is_step := F19, g_law_is_step := PySem.W.mg_of X G a19, b_law_is_step := b19, a_law_is_key := f20, d_law_is_key := _, F_law_is_key := F20, g_law_is_key := PySem.W.mg_of X G a20, b_law_is_key := b20, a_law_key_order := f21, d_law_key_order := _, F_law_key_order := F21, g_law_key_order := PySem.W.mg_of X G a21, b_law_key_order := b21, a_law_pair := f22, d_law_pair := _, F_law_pair := F22, g_law_pair := PySem.W.mg_of X G a22, b_law_pair := b22, a_law_rising := f23, d_law_rising := _, F_law_rising := F23, g_law_rising := PySem.W.mg_of X G a23, b_law_rising := b23, alaw := fa, dlaw := _, Flaw := F24, glaw := PySem.W.mg_of X G a24, blaw := b24, o_ERRORS := o_ERRORS, m_ERRORS := PySem.W.mg_of X G v_ERRORS, q_ERRORS := fun _ => .inr ⟨_, _, _, u_ERRORS, rfl, rfl, (show 10 ≤ sizeLine by decide), (.cons ⟨_, rfl⟩ (.cons ⟨_, rfl⟩ (.cons ⟨_, rfl⟩ (.cons ⟨_, rfl⟩ (.cons ⟨_, rfl⟩ (.cons ⟨_, rfl⟩ (.cons ⟨_, rfl⟩ (.cons ⟨_, rfl⟩ (.cons ⟨_, rfl⟩ (.cons ⟨_, rfl⟩ .nil))))))))))⟩, l_ERRORS := ⟨_, u_ERRORS, rfl, rfl⟩, o_EB := o_EB, m_EMPTY_BESIDE := PySem.W.mg_of X G v_EB, k_EB := ⟨es_EB, n_EB, u_EB, y_EB, x_EB⟩, g_EB := eb_mk ⟨es_EB, n_EB, u_EB, y_EB, x_EB⟩ e1_EB e2_EB e3_EB e4_EB e5_EB w1_EB w2_EB w3_EB, z_bool := PySem.W.mg_none_of X G z_bool, z_int := PySem.W.mg_none_of X G z_int, z_isinstance := PySem.W.mg_none_of X G z_isinstance, z_len := PySem.W.mg_none_of X G z_len, z_max := PySem.W.mg_none_of X G z_max, z_min := PySem.W.mg_none_of X G z_min, z_range := PySem.W.mg_none_of X G z_range, z_str := PySem.W.mg_none_of X G z_str, z_tuple := PySem.W.mg_none_of X G z_tuple }
  exact ⟨T.dlaw, fun s v => .of_eq rfl, fun base _ _ => oklaw T⟩

end Mysheetworks_k08_whole_order
open PySem PySem.W PyProof.Rows
set_option maxHeartbeats 0 in
theorem PySem.Challenge.cw_sheetworks_k08_whole_order_holds : PySem.Challenge.rw_sheetworks_k08_whole_order.Holds := by
  w_on; o_law; k_head; (case hw => w_witness2)
  k_fill
  refine L2.walk_of (l := PySem.Challenge.rw_sheetworks_k08_whole_order) (n := 63) (k := 5) (x := "script") (CX := fun _ => L2.CX0) (sp := fun w => Mysheetworks_k08_whole_order.splaw _) rfl (by decide) rfl ⟨rfl, by decide, by decide⟩ (fun w h Y => PySem.W.kIn_of Y) ?F (fun _ _ a ns hl _ hS => ⟨a, ns, rfl, hS, hl, fun _ => rfl⟩) (fun _ _ _ _ _ h => h)
  case F =>
    intro w mg fa h KX G hmg
    refine' Mysheetworks_k08_whole_order.all_mk KX G hmg ?a0 ?l0 ?c0 ?k0 ?a1 ?l1 ?c1 ?k1 ?a2 ?l2 ?c2 ?k2 ?a3 ?l3 ?c3 ?k3 ?a4 ?l4 ?c4 ?k4 ?a5 ?l5 ?c5 ?k5 ?a6 ?l6 ?c6 ?k6 ?a7 ?l7 ?c7 ?k7 ?a8 ?l8 ?c8 ?k8 ?a9 ?l9 ?c9 ?k9 ?a10 ?l10 ?c10 ?k10 ?a11 ?l11 ?c11 ?k11 ?a12 ?l12 ?c12 ?k12 ?a13 ?l13 ?c13 ?k13 ?a14 ?l14 ?c14 ?k14 ?a15 ?l15 ?c15 ?k15 ?a16 ?l16 ?c16 ?k16 ?a17 ?l17 ?c17 ?k17 ?a18 ?l18 ?c18 ?k18 ?a19 ?l19 ?c19 ?k19 ?a20 ?l20 ?c20 ?k20 ?a21 ?l21 ?c21 ?k21 ?a22 ?l22 ?c22 ?k22 ?a23 ?l23 ?c23 ?k23 ?a24 ?l24 ?c24 ?k24 ?v_ERRORS ?u_ERRORS ?v_EB ?u_EB ?y_EB ?x_EB ?e1_EB ?e2_EB ?e3_EB ?e4_EB ?e5_EB ?w1_EB ?w2_EB ?w3_EB ?z_bool ?z_int ?z_isinstance ?z_len ?z_max ?z_min ?z_range ?z_str ?z_tuple
    (case a0 => k_is); (case l0 => k_is); (case c0 => k_is); (case k0 => k_is); (case a1 => k_is); (case l1 => k_is); (case c1 => k_is); (case k1 => k_is); (case a2 => k_is); (case l2 => k_is); (case c2 => k_is); (case k2 => k_is); (case a3 => k_is); (case l3 => k_is); (case c3 => k_is); (case k3 => k_is); (case a4 => k_is); (case l4 => k_is); (case c4 => k_is); (case k4 => k_is); (case a5 => k_is); (case l5 => k_is); (case c5 => k_is); (case k5 => k_is); (case a6 => k_is); (case l6 => k_is); (case c6 => k_is); (case k6 => k_is); (case a7 => k_is); (case l7 => k_is); (case c7 => k_is); (case k7 => k_is); (case a8 => k_is); (case l8 => k_is); (case c8 => k_is); (case k8 => k_is); (case a9 => k_is); (case l9 => k_is); (case c9 => k_is); (case k9 => k_is); (case a10 => k_is); (case l10 => k_is); (case c10 => k_is); (case k10 => k_is); (case a11 => k_is); (case l11 => k_is); (case c11 => k_is); (case k11 => k_is); (case a12 => k_is); (case l12 => k_is); (case c12 => k_is); (case k12 => k_is); (case a13 => k_is); (case l13 => k_is); (case c13 => k_is); (case k13 => k_is); (case a14 => k_is); (case l14 => k_is); (case c14 => k_is); (case k14 => k_is); (case a15 => k_is); (case l15 => k_is); (case c15 => k_is); (case k15 => k_is); (case a16 => k_is); (case l16 => k_is); (case c16 => k_is); (case k16 => k_is); (case a17 => k_is); (case l17 => k_is); (case c17 => k_is); (case k17 => k_is); (case a18 => k_is); (case l18 => k_is); (case c18 => k_is); (case k18 => k_is); (case a19 => k_is); (case l19 => k_is); (case c19 => k_is); (case k19 => k_is); (case a20 => k_is); (case l20 => k_is); (case c20 => k_is); (case k20 => k_is); (case a21 => k_is); (case l21 => k_is); (case c21 => k_is); (case k21 => k_is); (case a22 => k_is); (case l22 => k_is); (case c22 => k_is); (case k22 => k_is); (case a23 => k_is); (case l23 => k_is); (case c23 => k_is); (case k23 => k_is); (case a24 => k_is); (case l24 => k_is); (case c24 => k_is); (case k24 => k_is); (case v_ERRORS => k_is); (case u_ERRORS => k_is); (case v_EB => k_is); (case u_EB => k_is); (case y_EB => k_keys); (case x_EB => decide); (case e1_EB => k_is); (case e2_EB => k_is); (case e3_EB => k_is); (case e4_EB => k_is); (case e5_EB => k_is); (case w1_EB => k_is); (case w2_EB => k_is); (case w3_EB => k_is); (case z_bool => k_is); (case z_int => k_is); (case z_isinstance => k_is); (case z_len => k_is); (case z_max => k_is); (case z_min => k_is); (case z_range => k_is); (case z_str => k_is); (case z_tuple => k_is)

