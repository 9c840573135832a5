import PyProof.Rows.All
import Wide.All
import OpenK.AllK
import Wide.FinOn
import HandS.ForMost
import HandS.Gcd
import Flt.RightSqrt
import KE.KMathG
import HandS.IsInst
import HandS.Wide
import HandS.WideBits
import HandS.StrMore
import HandS.FStr
import HandS.EndBits
import PySem.Challenge.RW_sheetworks_k09_arrays_made
set_option Elab.async false
set_option linter.all false
set_option maxRecDepth 100000
set_option maxHeartbeats 4000000
namespace Mysheetworks_k09_arrays_made
open PySem PySem.Spec PyProof.Rows L2
def topS (i : Nat) : Stmt := PySem.Challenge.pw_sheetworks_k09_arrays_made.main.body.getD i (.Pass ⟨0, 0, 0, 0⟩)
abbrev sfits : Stmt := topS 5
abbrev Nfits : List Str := ["h", "w"]
abbrev Pfits : List Str := ["h", "w"]
theorem scfits : FnScope Nfits Pfits (defScope sfits) := ⟨rfl, rfl, rfl, by decide +kernel, rfl, by decide +kernel, by decide +kernel⟩
abbrev sarray : Stmt := topS 6
abbrev Narray : List Str := ["h", "w", "members"]
abbrev Parray : List Str := ["h", "w", "members"]
theorem scarray : FnScope Narray Parray (defScope sarray) := ⟨rfl, rfl, rfl, by decide +kernel, rfl, by decide +kernel, by decide +kernel⟩
abbrev sheight : Stmt := topS 7
abbrev Nheight : List Str := ["v"]
abbrev Pheight : List Str := ["v"]
theorem scheight : FnScope Nheight Pheight (defScope sheight) := ⟨rfl, rfl, rfl, by decide +kernel, rfl, by decide +kernel, by decide +kernel⟩
abbrev swidth : Stmt := topS 8
abbrev Nwidth : List Str := ["v"]
abbrev Pwidth : List Str := ["v"]
theorem scwidth : FnScope Nwidth Pwidth (defScope swidth) := ⟨rfl, rfl, rfl, by decide +kernel, rfl, by decide +kernel, by decide +kernel⟩
abbrev smember : Stmt := topS 9
abbrev Nmember : List Str := ["v", "i", "j"]
abbrev Pmember : List Str := ["v", "i", "j"]
theorem scmember : FnScope Nmember Pmember (defScope smember) := ⟨rfl, rfl, rfl, by decide +kernel, rfl, by decide +kernel, by decide +kernel⟩
abbrev s_law_cell : Stmt := topS 11
abbrev N_law_cell : List Str := ["script", "k"]
abbrev P_law_cell : List Str := ["script", "k"]
theorem sc_law_cell : FnScope N_law_cell P_law_cell (defScope s_law_cell) := ⟨rfl, rfl, rfl, by decide +kernel, rfl, by decide +kernel, by decide +kernel⟩
abbrev s_law_mix : Stmt := topS 12
abbrev N_law_mix : List Str := ["cell", "salt", "one"]
abbrev P_law_mix : List Str := ["cell", "salt"]
theorem sc_law_mix : FnScope N_law_mix P_law_mix (defScope s_law_mix) := ⟨rfl, rfl, rfl, by decide +kernel, rfl, by decide +kernel, by decide +kernel⟩
abbrev s_law_amount : Stmt := topS 13
abbrev N_law_amount : List Str := ["cell", "salt", "bound", "choice", "one", "edges", "wide"]
abbrev P_law_amount : List Str := ["cell", "salt"]
theorem sc_law_amount : FnScope N_law_amount P_law_amount (defScope s_law_amount) := ⟨rfl, rfl, rfl, by decide +kernel, rfl, by decide +kernel, by decide +kernel⟩
abbrev s_law_draw : Stmt := topS 14
abbrev N_law_draw : List Str := ["box", "many", "drawn"]
abbrev P_law_draw : List Str := ["box", "many"]
theorem sc_law_draw : FnScope N_law_draw P_law_draw (defScope s_law_draw) := ⟨rfl, rfl, rfl, by decide +kernel, rfl, by decide +kernel, by decide +kernel⟩
abbrev s_law_text : Stmt := topS 15
abbrev N_law_text : List Str := ["box", "signs", "many", "k"]
abbrev P_law_text : List Str := ["box"]
theorem sc_law_text : FnScope N_law_text P_law_text (defScope s_law_text) := ⟨rfl, rfl, rfl, by decide +kernel, rfl, by decide +kernel, by decide +kernel⟩
abbrev s_law_scalar : Stmt := topS 16
abbrev N_law_scalar : List Str := ["box", "kind", "words"]
abbrev P_law_scalar : List Str := ["box"]
theorem sc_law_scalar : FnScope N_law_scalar P_law_scalar (defScope s_law_scalar) := ⟨rfl, rfl, rfl, by decide +kernel, rfl, by decide +kernel, by decide +kernel⟩
abbrev s_law_size : Stmt := topS 17
abbrev N_law_size : List Str := ["first", "second", "third", "mode", "one", "two", "edges"]
abbrev P_law_size : List Str := ["first", "second", "third"]
theorem sc_law_size : FnScope N_law_size P_law_size (defScope s_law_size) := ⟨rfl, rfl, rfl, by decide +kernel, rfl, by decide +kernel, by decide +kernel⟩
abbrev s_law_same : Stmt := topS 18
abbrev N_law_same : List Str := ["actual", "due"]
abbrev P_law_same : List Str := ["actual", "due"]
theorem sc_law_same : FnScope N_law_same P_law_same (defScope s_law_same) := ⟨rfl, rfl, rfl, by decide +kernel, rfl, by decide +kernel, by decide +kernel⟩
abbrev s_law_alike : Stmt := topS 19
abbrev N_law_alike : List Str := ["actual", "due", "k"]
abbrev P_law_alike : List Str := ["actual", "due"]
theorem sc_law_alike : FnScope N_law_alike P_law_alike (defScope s_law_alike) := ⟨rfl, rfl, rfl, by decide +kernel, rfl, by decide +kernel, by decide +kernel⟩
abbrev s_law_due : Stmt := topS 20
abbrev N_law_due : List Str := ["h", "w", "members"]
abbrev P_law_due : List Str := ["h", "w", "members"]
theorem sc_law_due : FnScope N_law_due P_law_due (defScope s_law_due) := ⟨rfl, rfl, rfl, by decide +kernel, rfl, by decide +kernel, by decide +kernel⟩
abbrev s_law_measured : Stmt := topS 21
abbrev N_law_measured : List Str := ["v", "h", "w", "members", "i", "j"]
abbrev P_law_measured : List Str := ["v", "h", "w", "members"]
theorem sc_law_measured : FnScope N_law_measured P_law_measured (defScope s_law_measured) := ⟨rfl, rfl, rfl, by decide +kernel, rfl, by decide +kernel, by decide +kernel⟩
abbrev slaw : Stmt := topS 22
abbrev Nlaw : List Str := ["script", "size", "h", "w", "box", "drawn", "k", "members", "due", "passed", "actual"]
abbrev Plaw : List Str := ["script"]
theorem sclaw : FnScope Nlaw Plaw (defScope slaw) := ⟨rfl, rfl, rfl, by decide +kernel, rfl, by decide +kernel, by decide +kernel⟩

/-! ### own rules -/
theorem pe_powc {X : Cx} {a b c : Int} {j k : Nat} {p q pos : Pos} (hb : 0 ≤ b ∧ b ≤ 1000000 ∧ a.natAbs < 2 ^ 64) (h : a ^ b.toNat = c) : PE X (.BinOp (.Constant (.int a) j p) .Pow (.Constant (.int b) k q) pos) (tC (.int c)) :=
  ⟨fun pins s σ H Q I hq => (pe_op op_pow pe_int pe_int).run pins s σ H Q I ⟨a, b, rfl, rfl, hb, by
    show Q (.int (a ^ b.toNat)) H
    rw [h]
    exact hq⟩⟩
/-- isinstance of a flat value: told by its kind -/
def isiV : V → String → Option Bool
  | .int _, "int" => some true | .bl _, "int" => some true | .str _, "int" => some false | .non, "int" => some false
  | .int _, "bool" => some false | .bl _, "bool" => some true | .str _, "bool" => some false | .non, "bool" => some false
  | .int _, "str" => some false | .bl _, "str" => some false | .str _, "str" => some true | .non, "str" => some false
  | .int _, "tuple" => some false | .bl _, "tuple" => some false | .str _, "tuple" => some false | .non, "tuple" => some false
  | _, _ => none
theorem call_isiV {X : Cx} : CallR X (.builtin "isinstance") (fun xs H Q => ∃ x n b, xs = [x, .ty n] ∧ isiV x n = some b ∧ Q (.bl b) H) := by
  intro pins s σ H xs us Q I r h
  obtain ⟨x, n, b, rfl, e, q⟩ := h
  refine call_isi pins s σ H _ us Q I r ?_
  unfold isiV at e
  split at e
  case h_17 => cases e
  all_goals (cases e)
  all_goals first
    | exact ⟨_, _, .type "int", _, _, rfl, .ty _, .base (.int _), kit_ty (by decide +kernel), q⟩
    | exact ⟨_, _, .type "bool", _, _, rfl, .ty _, .base (.bl _), kit_ty (by decide +kernel), q⟩
    | exact ⟨_, _, .type "str", _, _, rfl, .ty _, .base (.str _), kit_ty (by decide +kernel), q⟩
    | exact ⟨_, _, .type "NoneType", _, _, rfl, .ty _, .base .non, kit_ty (by decide +kernel), q⟩
/-- how a call by keywords alone binds -/
structure KB0 (K : PySem.W.Frag) (fd : FuncData) (ps ks : List Str) (g : List Value → List Value) (gV : List V → List V) : Prop where
  to : ∀ (s : Shared) (ws : List Value), ws.length = ks.length → BindsTo s fd ⟨[], ks.zip ws⟩ (ps.zip (g ws))
  rel : ∀ {zs : List V} {ws : List Value}, Vals zs ws → Vals (gV zs) (g ws)
def tCallK0 (n : Nat) (sp : Sp) (gV : List V → List V) (E : XK) (tk : TA) : TE := fun σ H Q => tk σ H fun zs H2 => zs.length = n ∧ sp (gV zs) H2 Q E
theorem pe_callK0 {X : Cx} {CX : CXT} {k : Nat} {f : Addr} {fd : FuncData} {ps ks : List Str} {sp : Sp} {E : XK} {x : Str} {p pos : Pos} {kws : List Keyword} {tk : TA} {g : List Value → List Value} {gV : List V → List V}
    (F : FnOk X.prog X.w X.K X.mg X.base CX k f fd ps sp) (hr : Room k X.A) (hg : Gl X x) (hm : X.mg x = some (.ref f)) (hk : PySem.W.keepIn X.K (.ref f) = true) (hb : KB0 X.K fd ps ks g gV) (hx : Passes CX X E)
    (hkw : PK X kws tk) (hall : (backToKw pos (keywordEach kws X.env)).all (·.1.isSome) = true := by rfl) (hks : (backToKw pos (keywordEach kws X.env)).filterMap (·.1) = ks := by rfl)
    (hdb : (x == ("__debug__" : Str)) = false := by decide)
    (hpl : ((backTo pos (starEach [] X.env)).any (·.1) || (backToKw pos (keywordEach kws X.env)).any (·.1.isNone)) = false := by rfl) :
    PE X (.Call (.Name x p) [] kws pos) (tCallK0 ks.length sp gV E tk) := by
  refine ⟨fun pins s σ H Q I h => ?_⟩
  refine wpAny_Call_Name_kw (ld_glob I hg hm ?_ hdb)
  refine PySem.W.callWith_KW0 (h₀ := X.base) I.ok.mod.kin hk hall (thn (hkw.run pos pins s σ H _ I h) fun ws s2 ⟨zs, H2, I2, rz, l2, q2⟩ => ⟨I2.kIn, ?_⟩) hpl
  rw [hks]
  have r2 := hb.rel rz
  refine wpAny_call (codeAny_mono (F.run X.A X.stack s2 H2 ⟨[], ks.zip ws⟩ (g ws) (gV zs) Q E hr I2.env0 (hb.to s2 ws (rz.length.symm.trans l2)) r2 q2) fun r s' hq => ?_)
  cases r with
  | error e => exact hx pins σ H2 s2 e s' I2 hq
  | ok fl =>
    cases fl with
    | ret u => exact I2.after hq
    | next => exact False.elim hq
    | brk => exact False.elim hq
    | cont => exact False.elim hq
theorem atI_mem {xs : List V} {i : Int} (h0 : 0 ≤ i) (h1 : i < (xs.length : Int)) : ∃ v, v ∈ xs ∧ atI xs i = some v := by
  obtain ⟨n, rfl⟩ := Int.eq_ofNat_of_zero_le h0
  have h2 : n < xs.length := by omega
  exact ⟨xs[n], List.getElem_mem h2, atI_nat (List.getElem?_eq_getElem h2)⟩
/-- rules with conditions that are linear -/
theorem opr_imp {X : Cx} {f : Value → Value → Sem Value} {C C' : Int → Int → Prop} {g : Int → Int → V} (h : OpR X f (rI C g)) (k : ∀ i j, C' i j → C i j) : OpR X f (rI C' g) := fun pins s σ H x y v u Q I rx ry hq => by
  obtain ⟨i, j, ex, ey, hc, q⟩ := hq
  exact h pins s σ H x y v u Q I rx ry ⟨i, j, ex, ey, k i j hc, q⟩
def CB (_ j : Int) : Prop := 0 < j ∧ j < 1267650600228229401496703205376
def CMB (i j : Int) : Prop := (-1000000000000000000000000000000000000000000000000000000000000 < i ∧ i < 1000000000000000000000000000000000000000000000000000000000000) ∧ (-1000000000000000000000000000000000000000000000000000000000000 < j ∧ j < 1000000000000000000000000000000000000000000000000000000000000)
theorem abs200 {i : Int} (h : -1000000000000000000000000000000000000000000000000000000000000 < i ∧ i < 1000000000000000000000000000000000000000000000000000000000000) : i.natAbs < 2 ^ 200 := by
  have e : (2 : Nat) ^ 200 = 1606938044258990275541962092341162602522202993782792835301376 := by decide
  rw [e]
  omega
theorem abs100 {i : Int} (h : 0 < i ∧ i < 1267650600228229401496703205376) : i.natAbs < 2 ^ 100 := by
  have e : (2 : Nat) ^ 100 = 1267650600228229401496703205376 := by decide
  rw [e]
  omega
theorem op_mulB {X : Cx} : OpR X (binaryOp .Mult) (rI CMB fun i j => .int (i * j)) := opr_imp op_mulW fun i j h => wide_mul (abs200 h.1) (abs200 h.2) (by decide) (by decide) (by decide)
theorem op_fdivB {X : Cx} : OpR X (binaryOp .FloorDiv) (rI CB fun i j => .int (i / j)) := opr_imp op_fdivW fun i j h => wide_div h.1 (abs100 h) (by decide) (by decide)
theorem ediv_up {i j : Int} (h : 0 < j) (h0 : 0 ≤ i) : 0 ≤ i / j ∧ i / j ≤ i := ⟨Int.ediv_nonneg h0 (Int.le_of_lt h), Int.ediv_le_self j h0⟩
theorem ediv_dn {i j : Int} (h : 0 < j) (h0 : i < 0) : i ≤ i / j ∧ i / j < 0 := by
  refine ⟨?_, Int.ediv_neg_of_neg_of_pos h0 h⟩
  rw [Int.le_ediv_iff_mul_le h]
  have a : i * (j - 1) ≤ 0 := Int.mul_nonpos_of_nonpos_of_nonneg (Int.le_of_lt h0) (by omega)
  rw [Int.mul_sub, Int.mul_one] at a
  omega
/-- the quotient as a letter, with its bounds -/
theorem op_fdivL {X : Cx} : OpR X (binaryOp .FloorDiv) (fun x y H Q => ∃ i j, x = .int i ∧ y = .int j ∧ CB i j ∧ ∀ d, d = i / j → (0 ≤ i → 0 ≤ d ∧ d ≤ i) → (i < 0 → i ≤ d ∧ d < 0) → Q (.int d) H) := fun pins s σ H x y v u Q I rx ry hq => by
  obtain ⟨i, j, ex, ey, hc, q⟩ := hq
  exact op_fdivB pins s σ H x y v u Q I rx ry ⟨i, j, ex, ey, hc, q _ rfl (ediv_up hc.1) (ediv_dn hc.1)⟩
theorem call_divmodB {X : Cx} : CallR X (.builtin "divmod") (fun xs H Q => ∃ i j, xs = [.int i, .int j] ∧ CB i j ∧ ∀ p, H p = none → Q (.ref p) (upd H p (.tup [.int (i / j), .int (i % j)]))) := fun pins s σ H xs us Q I r hq => by
  obtain ⟨i, j, ex, hc, q⟩ := hq
  have w := wide_div (i := i) hc.1 (abs100 hc) (by decide) (by decide)
  exact call_divmodW pins s σ H xs us Q I r ⟨i, j, ex, ⟨hc.1, PyProof.noPylong_of_log2 w.2⟩, q⟩
theorem iteEqI {i j : Int} {A B : Prop} (h1 : i = j → A) (h2 : ¬ i = j → B) : if decide (V.int i = V.int j) = true then A else B := by
  by_cases h : i = j
  · rw [if_pos (decide_eq_true (congrArg V.int h))]
    exact h1 h
  · rw [if_neg (fun z => h (V.int.inj (of_decide_eq_true z)))]
    exact h2 h
theorem iteNeI {i j : Int} {A B : Prop} (h1 : ¬ i = j → A) (h2 : i = j → B) : if (!decide (V.int i = V.int j)) = true then A else B := by
  by_cases h : i = j
  · rw [decide_eq_true (congrArg V.int h)]
    exact iteF (h2 h)
  · rw [decide_eq_false (fun z => h (V.int.inj z))]
    exact iteT (h1 h)
theorem iteSS {x : Str} {A B : Prop} (h : A) : if decide (V.str x = V.str x) = true then A else B := by
  rw [if_pos (decide_eq_true rfl)]
  exact h
theorem iteIS {i : Int} {x : Str} {A B : Prop} (h : B) : if decide (V.int i = V.str x) = true then A else B := by
  rw [if_neg (fun z => V.noConfusion (of_decide_eq_true z))]
  exact h
theorem iteD {c A B : Prop} [Decidable c] (h1 : c → A) (h2 : ¬ c → B) : if decide c = true then A else B := by
  by_cases h : c
  · rw [if_pos (decide_eq_true h)]
    exact h1 h
  · rw [if_neg (fun z => h (of_decide_eq_true z))]
    exact h2 h
theorem same_upd {H : Hp} {p : Addr} {o : HO} (h : H p = none) : Same H (upd H p o) := fun b x e => by
  rw [upd_ne (ne_of_none e h)]
  exact e
theorem ix_listK {X : Cx} {K : PySem.W.Frag} (e : X.K = K) : IxR X (rIxL K) := e ▸ ix_list
theorem ix_tupK {X : Cx} {K : PySem.W.Frag} (e : X.K = K) : IxR X (rIxT K) := e ▸ ix_tup
theorem ix_seqK {X : Cx} {K : PySem.W.Frag} (e : X.K = K) : IxR X (rIx K) := e ▸ ix_seq
theorem call_len_seqK {X : Cx} {K : PySem.W.Frag} (e : X.K = K) : CallR X (.builtin "len") (fun xs H Q => ∃ p ys, xs = [.ref p] ∧ (SqL K H p ys ∨ SqT K H p ys) ∧ Q (.int ys.length) H) := e ▸ call_len_seq
/-- an item of a list, whichever -/
theorem atI_go {K : PySem.W.Frag} {p : Addr} {xs : List V} {i : Int} {H : Hp} {Q : VK} (h : SqL K H p xs) (h0 : 0 ≤ i) (h1 : i < (xs.length : Int)) (q : ∀ v, v ∈ xs → Q v H) : rIxL K (.ref p) (.int i) H Q := by
  obtain ⟨v, hv, e⟩ := atI_mem h0 h1
  exact ⟨_, _, _, v, rfl, rfl, h, e, q v hv⟩

/-- the product as a letter, with its bounds -/
theorem op_mulL {X : Cx} : OpR X (binaryOp .Mult) (fun x y H Q => ∃ i j, x = .int i ∧ y = .int j ∧ CMul i j ∧ ∀ d, d = i * j → (0 ≤ i → 0 ≤ j → 0 ≤ d) → (0 ≤ i → i ≤ 100000000000000 → 0 ≤ j → j ≤ 100000000000000 → d ≤ 10000000000000000000000000000) → Q (.int d) H) := fun pins s σ H x y v u Q I rx ry hq => by
  obtain ⟨i, j, ex, ey, hc, q⟩ := hq
  exact op_mul pins s σ H x y v u Q I rx ry ⟨i, j, ex, ey, hc, q _ rfl (fun a b => Int.mul_nonneg a b) (fun a b c d => Int.le_trans (Int.mul_le_mul b d c (by decide)) (by decide))⟩

/-! ### what the top has left -/
structure Txt (K : PySem.W.Frag) (mg : Str → Option Value) where
  afits : Addr
  dfits : FuncData
  Ffits : Fun K "fits" "fits" sfits afits dfits
  gfits : mg "fits" = some (.ref afits)
  bfits : Binds K dfits Pfits []
  aarray : Addr
  darray : FuncData
  Farray : Fun K "array" "array" sarray aarray darray
  garray : mg "array" = some (.ref aarray)
  barray : Binds K darray Parray []
  aheight : Addr
  dheight : FuncData
  Fheight : Fun K "height" "height" sheight aheight dheight
  gheight : mg "height" = some (.ref aheight)
  bheight : Binds K dheight Pheight []
  awidth : Addr
  dwidth : FuncData
  Fwidth : Fun K "width" "width" swidth awidth dwidth
  gwidth : mg "width" = some (.ref awidth)
  bwidth : Binds K dwidth Pwidth []
  amember : Addr
  dmember : FuncData
  Fmember : Fun K "member" "member" smember amember dmember
  gmember : mg "member" = some (.ref amember)
  bmember : Binds K dmember Pmember []
  a_law_cell : Addr
  d_law_cell : FuncData
  F_law_cell : Fun K "_law_cell" "_law_cell" s_law_cell a_law_cell d_law_cell
  g_law_cell : mg "_law_cell" = some (.ref a_law_cell)
  b_law_cell : Binds K d_law_cell P_law_cell []
  a_law_mix : Addr
  d_law_mix : FuncData
  F_law_mix : Fun K "_law_mix" "_law_mix" s_law_mix a_law_mix d_law_mix
  g_law_mix : mg "_law_mix" = some (.ref a_law_mix)
  b_law_mix : Binds K d_law_mix P_law_mix []
  a_law_amount : Addr
  d_law_amount : FuncData
  F_law_amount : Fun K "_law_amount" "_law_amount" s_law_amount a_law_amount d_law_amount
  g_law_amount : mg "_law_amount" = some (.ref a_law_amount)
  b_law_amount : Binds K d_law_amount P_law_amount []
  a_law_draw : Addr
  d_law_draw : FuncData
  F_law_draw : Fun K "_law_draw" "_law_draw" s_law_draw a_law_draw d_law_draw
  g_law_draw : mg "_law_draw" = some (.ref a_law_draw)
  b_law_draw : Binds K d_law_draw P_law_draw []
  a_law_text : Addr
  d_law_text : FuncData
  F_law_text : Fun K "_law_text" "_law_text" s_law_text a_law_text d_law_text
  g_law_text : mg "_law_text" = some (.ref a_law_text)
  b_law_text : Binds K d_law_text P_law_text []
  a_law_scalar : Addr
  d_law_scalar : FuncData
  F_law_scalar : Fun K "_law_scalar" "_law_scalar" s_law_scalar a_law_scalar d_law_scalar
  g_law_scalar : mg "_law_scalar" = some (.ref a_law_scalar)
  b_law_scalar : Binds K d_law_scalar P_law_scalar []
  a_law_size : Addr
  d_law_size : FuncData
  F_law_size : Fun K "_law_size" "_law_size" s_law_size a_law_size d_law_size
  g_law_size : mg "_law_size" = some (.ref a_law_size)
  b_law_size : Binds K d_law_size P_law_size []
  a_law_same : Addr
  d_law_same : FuncData
  F_law_same : Fun K "_law_same" "_law_same" s_law_same a_law_same d_law_same
  g_law_same : mg "_law_same" = some (.ref a_law_same)
  b_law_same : Binds K d_law_same P_law_same []
  a_law_alike : Addr
  d_law_alike : FuncData
  F_law_alike : Fun K "_law_alike" "_law_alike" s_law_alike a_law_alike d_law_alike
  g_law_alike : mg "_law_alike" = some (.ref a_law_alike)
  b_law_alike : Binds K d_law_alike P_law_alike []
  a_law_due : Addr
  d_law_due : FuncData
  F_law_due : Fun K "_law_due" "_law_due" s_law_due a_law_due d_law_due
  g_law_due : mg "_law_due" = some (.ref a_law_due)
  b_law_due : Binds K d_law_due P_law_due []
  a_law_measured : Addr
  d_law_measured : FuncData
  F_law_measured : Fun K "_law_measured" "_law_measured" s_law_measured a_law_measured d_law_measured
  g_law_measured : mg "_law_measured" = some (.ref a_law_measured)
  b_law_measured : Binds K d_law_measured P_law_measured []
  alaw : Addr
  dlaw : FuncData
  Flaw : Fun K "law" "law" slaw alaw dlaw
  glaw : mg "law" = some (.ref alaw)
  blaw : Binds K dlaw Plaw []
  o_EMPTY : Addr
  m_EMPTY : mg "EMPTY" = some (.ref o_EMPTY)
  q_EMPTY : ∀ H, SqT K H o_EMPTY [.str "empty"]
  t_MOST_MEMBERS : Tok
  m_MOST_MEMBERS : mg "MOST_MEMBERS" = some (.int 64 t_MOST_MEMBERS)
  t_MOST_ROWS : Tok
  m_MOST_ROWS : mg "MOST_ROWS" = some (.int 20 t_MOST_ROWS)
  t_MOST_COLUMNS : Tok
  m_MOST_COLUMNS : mg "MOST_COLUMNS" = some (.int 20 t_MOST_COLUMNS)
  z_bool : mg "bool" = none
  z_int : mg "int" = none
  z_isinstance : mg "isinstance" = none
  z_len : mg "len" = none
  z_list : mg "list" = none
  z_max : mg "max" = none
  z_min : mg "min" = none
  z_range : mg "range" = none
  z_str : mg "str" = none
  z_tuple : mg "tuple" = none
/-! ### the mathematics -/

theorem atI_some {α : Type} {xs : List α} {i : Int} (h0 : 0 ≤ i) (h1 : i < (xs.length : Int)) : ∃ v, v ∈ xs ∧ atI xs i = some v := by
  obtain ⟨n, rfl⟩ := Int.eq_ofNat_of_zero_le h0
  have h2 : n < xs.length := by omega
  exact ⟨xs[n], List.getElem_mem h2, atI_nat (List.getElem?_eq_getElem h2)⟩
theorem atI_at {α : Type} {xs : List α} {i : Int} {n : Nat} (e : i = (n : Int)) {v : α} (h : xs[n]? = some v) : atI xs i = some v := by
  rw [e]
  exact atI_nat h
theorem sqT_ty {K : PySem.W.Frag} {H : Hp} {p : Addr} {xs : List V} (h : SqT K H p xs) : TyX K H (.ref p) (.type "tuple") := by
  rcases h with (h | ⟨o, h⟩) | ⟨o, its, n, e, c, _⟩
  · exact .base (.tup h)
  · exact .fTuple h
  · exact .kTuple e c
theorem sqL_ty {K : PySem.W.Frag} {H : Hp} {p : Addr} {xs : List V} (h : SqL K H p xs) : TyX K H (.ref p) (.type "list") := by
  rcases h with (h | ⟨o, h⟩) | ⟨o, its, n, e, c, _⟩
  · exact .base (.lst h)
  · exact .base (.frz h)
  · exact .kList e c
/-- isinstance: flat values, tuples, lists -/
theorem call_isiR {X : Cx} : CallR X (.builtin "isinstance") (fun xs H Q => (∃ x n b, xs = [x, .ty n] ∧ isiV x n = some b ∧ Q (.bl b) H) ∨ (∃ p ys n b, xs = [.ref p, .ty n] ∧ SqT X.K H p ys ∧ kitB "tuple" n = some b ∧ Q (.bl b) H) ∨ ∃ p ys n b, xs = [.ref p, .ty n] ∧ SqL X.K H p ys ∧ kitB "list" n = some b ∧ Q (.bl b) H) := by
  intro pins s σ H xs us Q I r h
  rcases h with h | ⟨p, ys, n, b, rfl, hp, e, q⟩ | ⟨p, ys, n, b, rfl, hp, e, q⟩
  · exact call_isiV pins s σ H xs us Q I r h
  · exact call_isi pins s σ H _ us Q I r ⟨_, _, .type "tuple", _, _, rfl, .ty _, sqT_ty hp, kit_ty e, q⟩
  · exact call_isi pins s σ H _ us Q I r ⟨_, _, .type "list", _, _, rfl, .ty _, sqL_ty hp, kit_ty e, q⟩
theorem iteSN {x y : Str} {A B : Prop} (h : x ≠ y) (b : B) : if decide (V.str x = V.str y) = true then A else B := by
  rw [if_neg (fun z => h (V.str.inj (of_decide_eq_true z)))]
  exact b
theorem iteSNn {x y : Str} {A B : Prop} (h : x ≠ y) (a : A) : if (!decide (V.str x = V.str y)) = true then A else B := by
  rw [decide_eq_false (fun z => h (V.str.inj z))]
  exact iteT a
theorem iteSSn {x : Str} {A B : Prop} (b : B) : if (!decide (V.str x = V.str x)) = true then A else B := by
  rw [decide_eq_true rfl]
  exact iteF b
/-- a flat value -/
def Flat3 (x : V) : Prop := (∃ i, x = .int i) ∨ (∃ s, x = .str s) ∨ ∃ b, x = .bl b
/-- the tuples stand as they were -/
def TK (K : PySem.W.Frag) (H H' : Hp) : Prop := ∀ p xs, SqT K H p xs → SqT K H' p xs
theorem TK.refl {K : PySem.W.Frag} {H : Hp} : TK K H H := fun _ _ h => h
theorem TK.trans {K : PySem.W.Frag} {H H1 H2 : Hp} (a : TK K H H1) (b : TK K H1 H2) : TK K H H2 := fun p xs h => b p xs (a p xs h)
theorem same_tk {K : PySem.W.Frag} {H H' : Hp} (e : Same H H') : TK K H H' := by
  intro p xs h
  rcases h with (h | ⟨o, h⟩) | h
  · exact .inl (.inl (e _ _ h))
  · exact .inl (.inr ⟨o, e _ _ h⟩)
  · exact .inr h
theorem but_tk {K : PySem.W.Frag} {H H' : Hp} {b : Addr} {ys : List V} (h : H b = some (.lst ys)) (e : ∀ a o, a ≠ b → H a = some o → H' a = some o) : TK K H H' := by
  intro p xs q
  rcases q with (q | ⟨o, q⟩) | q
  · exact .inl (.inl (e _ _ (ne_of q h (fun z => nomatch z)) q))
  · exact .inl (.inr ⟨o, e _ _ (ne_of q h (fun z => nomatch z)) q⟩)
  · exact .inr q
theorem upd_but {H : Hp} {b : Addr} {u : HO} : ∀ a o, a ≠ b → H a = some o → upd H b u a = some o := fun a o n e => by
  rw [upd_ne n]
  exact e
theorem lst_tk {K : PySem.W.Frag} {H : Hp} {b : Addr} {ys zs : List V} (h : H b = some (.lst ys)) : TK K H (upd H b (.lst zs)) := but_tk h upd_but
theorem same_put {H H' : Hp} {D : Addr} {o : HO} (e : Same H H') (h : H D = none) : Same H (upd H' D o) := fun a x q => by
  rw [upd_ne (ne_of_none q h)]
  exact e _ _ q
/-- likeness, so deep -/
def Al (K : PySem.W.Frag) : Nat → Hp → V → V → Prop
  | 0, _, _, _ => False
  | n + 1, H, x, y => (Flat3 x ∧ x = y) ∨ ∃ (p q : Addr) (xs ys : List V), x = .ref p ∧ y = .ref q ∧ SqT K H p xs ∧ SqT K H q ys ∧ (xs.length = ys.length ∧ ys.length ≤ 5000) ∧ ∀ (k : Nat) (a b : V), xs[k]? = some a → ys[k]? = some b → Al K n H a b
theorem Al.flat {K : PySem.W.Frag} {n : Nat} {H : Hp} {x : V} (h : Flat3 x) : Al K (n + 1) H x x := Or.inl ⟨h, rfl⟩
theorem Al.tup {K : PySem.W.Frag} {n : Nat} {H : Hp} {p q : Addr} {xs : List V} (hl : xs.length ≤ 5000) (hp : SqT K H p xs) (hq : SqT K H q xs) (h : ∀ x ∈ xs, Al K n H x x) : Al K (n + 1) H (.ref p) (.ref q) :=
  Or.inr ⟨p, q, xs, xs, rfl, rfl, hp, hq, ⟨rfl, hl⟩, fun k a b e1 e2 => by
    obtain rfl := Option.some.inj (e1.symm.trans e2)
    exact h _ (List.mem_of_getElem? e1)⟩
/-- a scalar -/
def Sca (K : PySem.W.Frag) (H : Hp) (x : V) : Prop := ∃ p k rest, x = .ref p ∧ SqT K H p (.str k :: rest) ∧ k ≠ ("array" : Str) ∧ rest.length ≤ 20 ∧ ∀ y ∈ rest, Flat3 y
theorem Sca.keep {K : PySem.W.Frag} {H H' : Hp} {x : V} (e : TK K H H') (h : Sca K H x) : Sca K H' x := by
  obtain ⟨p, k, rest, rfl, a, b, c⟩ := h
  exact ⟨p, k, rest, rfl, e _ _ a, b, c⟩
theorem Sca.al {K : PySem.W.Frag} {H : Hp} {x : V} (n : Nat) (h : Sca K H x) : Al K (n + 2) H x x := by
  obtain ⟨p, k, rest, rfl, a, b, l, c⟩ := h
  refine Al.tup (by rw [List.length_cons]; omega) a a fun y hy => Al.flat ?_
  rcases List.mem_cons.mp hy with rfl | hy
  · exact Or.inr (Or.inl ⟨_, rfl⟩)
  · exact c y hy
theorem sca1 {K : PySem.W.Frag} {H : Hp} {p : Addr} {k : Str} (h : k ≠ ("array" : Str)) : Sca K (upd H p (.tup [.str k])) (.ref p) := ⟨p, k, [], rfl, SqT.of upd_same, h, by decide, fun y hy => by cases hy⟩
theorem sca2 {K : PySem.W.Frag} {H : Hp} {p : Addr} {k : Str} {x : V} (h : k ≠ ("array" : Str)) (hx : Flat3 x) : Sca K (upd H p (.tup [.str k, x])) (.ref p) := ⟨p, k, [x], rfl, SqT.of upd_same, h, (show 1 ≤ 20 by decide), fun y hy => by
  rcases List.mem_cons.mp hy with rfl | hy
  · exact hx
  · cases hy⟩
/-- all the signs -/
def SG : Str := (" !\"#$&'()*+,-./0123456789:;<=>?@ABCDEFGHIJKLMNOPQRSTUVWXYZ[\\]^_`" : Str) ++ ("abcdefghijklmnopqrstuvwxyz{|}~" : Str)
theorem sg_len : SG.cps.toList.length = 94 := by decide +kernel
theorem sg_line : SG.length ≤ sizeLine := by decide +kernel
theorem sg_at {n : Int} (h0 : 0 ≤ n) (h1 : n < 94) : ∃ c, atI SG.cps.toList n = some c := by
  obtain ⟨c, _, e⟩ := atI_some (xs := SG.cps.toList) h0 (by rw [sg_len]; exact h1)
  exact ⟨c, e⟩
theorem ones_sum : ∀ (zs : List Str), (∀ z ∈ zs, z.length = 1) → (zs.map (·.length)).sum = zs.length
  | [], _ => rfl
  | z :: zs, h => by
    rw [List.map_cons, List.sum_cons, ones_sum zs (fun y hy => h y (List.mem_cons_of_mem _ hy)), h z (List.mem_cons_self ..), List.length_cons]
    omega
theorem ones_join {zs : List Str} (h : ∀ z ∈ zs, z.length = 1) (hl : zs.length ≤ 1000) : (zs.map (·.length)).sum + zs.length * ("" : Str).length ≤ 16777216 := by
  rw [ones_sum zs h, show ("" : Str).length = 0 from by decide +kernel]
  omega
/-- the box of draws -/
def BoxAt (b : Addr) (H : Hp) : Prop := ∃ c d z : Int, H b = some (.lst [.int c, .int d, .int z])
def Bx (b : Addr) (H H' : Hp) : Prop := (∀ a o, a ≠ b → H a = some o → H' a = some o) ∧ BoxAt b H'
theorem Bx.refl {b : Addr} {H : Hp} (h : BoxAt b H) : Bx b H H := ⟨fun _ _ _ e => e, h⟩
theorem Bx.trans {b : Addr} {H H1 H2 : Hp} (x : Bx b H H1) (y : Bx b H1 H2) : Bx b H H2 := ⟨fun a o n e => y.1 a o n (x.1 a o n e), y.2⟩
theorem Bx.bat {b : Addr} {H H1 : Hp} (x : Bx b H H1) : BoxAt b H1 := x.2
theorem BoxAt.ne {b p : Addr} {H : Hp} (x : BoxAt b H) (h : H p = none) : b ≠ p := by
  obtain ⟨c, d, z, e⟩ := x
  exact ne_of_none e h
theorem BoxAt.new {b p : Addr} {H : Hp} {o : HO} (x : BoxAt b H) (h : H p = none) : BoxAt b (upd H p o) := by
  have n := x.ne h
  obtain ⟨c, d, z, e⟩ := x
  exact ⟨c, d, z, by rw [upd_ne n]; exact e⟩
theorem Bx.same {b : Addr} {H H1 H2 : Hp} (x : Bx b H H1) (y : Same H1 H2) : Bx b H H2 := by
  obtain ⟨x1, c, d, z, e⟩ := x
  exact ⟨fun a o n e => y _ _ (x1 a o n e), c, d, z, y _ _ e⟩
theorem Bx.new {b p : Addr} {H H1 : Hp} {o : HO} (x : Bx b H H1) (h : H1 p = none) : Bx b H (upd H1 p o) := x.same (same_upd h)
theorem Bx.put {b : Addr} {H H1 : Hp} {c d z : Int} (x : Bx b H H1) : Bx b H (upd H1 b (.lst [.int c, .int d, .int z])) := ⟨fun a o n e => by
  rw [upd_ne n]
  exact x.1 a o n e, c, d, z, upd_same⟩
theorem Bx.tk {K : PySem.W.Frag} {b : Addr} {H H1 : Hp} (x : Bx b H H1) (h : BoxAt b H) : TK K H H1 := by
  obtain ⟨c, d, z, e⟩ := h
  exact but_tk e x.1
/-- a new list beside the box, longer by one -/
theorem Bx.more {b D : Addr} {H0 H : Hp} {o : HO} (x : Bx b H0 H) (hD : H0 D = none) (n : b ≠ D) : Bx b H0 (upd H D o) := by
  obtain ⟨x1, c, d, z, e⟩ := x
  refine ⟨fun a o m q => ?_, c, d, z, by rw [upd_ne n]; exact e⟩
  rw [upd_ne (ne_of_none q hD)]
  exact x1 a o m q
theorem Bx.back {b D : Addr} {H0 H : Hp} (x : Bx b H0 H) (h : BoxAt b H0) (hD : H D = none) : H0 D = none ∧ b ≠ D := by
  have n := x.2.ne hD
  refine ⟨?_, n⟩
  cases q : H0 D with
  | none => rfl
  | some o =>
    rw [x.1 D o (Ne.symm n) q] at hD
    cases hD

/-- what array makes -/
def Made (K : PySem.W.Frag) (H : Hp) (h w : Int) (ys : List V) (u : V) : Prop :=
  (h * w = 1 ∧ ys[0]? = some u) ∨
  (h * w ≠ 1 ∧ (20 < h ∨ 20 < w ∨ 64 < h * w) ∧ ∃ p, u = .ref p ∧ SqT K H p [.str "error", .str "SIZE"]) ∨
  (h * w ≠ 1 ∧ h ≤ 20 ∧ w ≤ 20 ∧ h * w ≤ 64 ∧ ∃ p q, u = .ref p ∧ SqT K H p [.str "array", .int h, .int w, .ref q] ∧ SqT K H q ys)
theorem Made.keep {K : PySem.W.Frag} {H H' : Hp} {h w : Int} {ys : List V} {u : V} (e : TK K H H') (m : Made K H h w ys u) : Made K H' h w ys u := by
  rcases m with m | ⟨a, b, p, rfl, c⟩ | ⟨a, b, c, d, p, q, rfl, f, g⟩
  · exact .inl m
  · exact .inr (.inl ⟨a, b, p, rfl, e _ _ c⟩)
  · exact .inr (.inr ⟨a, b, c, d, p, q, rfl, e _ _ f, e _ _ g⟩)
theorem Made.al {K : PySem.W.Frag} {H : Hp} {h w : Int} {ys : List V} {u v : V} (hl : ys.length ≤ 5000) (hs : ∀ y ∈ ys, Sca K H y) (m : Made K H h w ys u) (m' : Made K H h w ys v) : Al K 4 H u v := by
  rcases m with ⟨a, b⟩ | ⟨a, b, p, rfl, c⟩ | ⟨a, b, c, d, p, q, rfl, f, g⟩
  · rcases m' with ⟨a', b'⟩ | ⟨a', _⟩ | ⟨a', _⟩
    · obtain rfl := Option.some.inj (b.symm.trans b')
      exact (hs _ (List.mem_of_getElem? b)).al 2
    · exact absurd a a'
    · exact absurd a a'
  · rcases m' with ⟨a', b'⟩ | ⟨a', b', p', rfl, c'⟩ | ⟨a', b', c', d', _⟩
    · exact absurd a' a
    · refine Al.tup (by decide) c c' fun y hy => Al.flat ?_
      simp only [List.mem_cons, List.not_mem_nil, or_false] at hy
      rcases hy with rfl | rfl
      · exact Or.inr (Or.inl ⟨_, rfl⟩)
      · exact Or.inr (Or.inl ⟨_, rfl⟩)
    · omega
  · rcases m' with ⟨a', b'⟩ | ⟨a', b', p', rfl, c'⟩ | ⟨a', b', c', d', p', q', rfl, f', g'⟩
    · exact absurd a' a
    · omega
    · refine Or.inr ⟨p, p', _, _, rfl, rfl, f, f', ⟨rfl, (show 4 ≤ 5000 by decide)⟩, fun k x y hx hy => ?_⟩
      match k, hx, hy with
      | 0, hx, hy => cases hx; cases hy; exact Al.flat (Or.inr (Or.inl ⟨_, rfl⟩))
      | 1, hx, hy => cases hx; cases hy; exact Al.flat (Or.inl ⟨_, rfl⟩)
      | 2, hx, hy => cases hx; cases hy; exact Al.flat (Or.inl ⟨_, rfl⟩)
      | 3, hx, hy => cases hx; cases hy; exact Al.tup hl g g' fun y hy => (hs y hy).al 0
theorem hw_bounds {h w : Int} (h1 : 1 ≤ h) (w1 : 1 ≤ w) (h2 : h ≤ 70) (w2 : w ≤ 70) : h ≤ h * w ∧ w ≤ h * w ∧ h * w ≤ 4900 := by
  refine ⟨?_, ?_, ?_⟩
  · have a := Int.mul_le_mul (Int.le_refl h) w1 (by decide) (by omega)
    rw [Int.mul_one] at a
    exact a
  · have a := Int.mul_le_mul h1 (Int.le_refl w) (by omega) (by omega)
    rw [Int.one_mul] at a
    exact a
  · exact Int.mul_le_mul h2 w2 (by omega) (by decide)
-- late
theorem cut_pre {zs : List V} {x : V} {k : Int} (h : (zs.length : Int) = k) : cutV (zs ++ [x]) none (some k) = zs := by
  rw [← h]
  unfold cutV
  rw [HT.sIx_none, HT.sIx_nat, List.length_append, Nat.min_eq_left (by omega), List.drop_zero, Nat.sub_zero, List.take_left]
-- late end
theorem div64 {x : Int} (h0 : 1 ≤ x) (h1 : x ≤ 22) : 2 ≤ 64 / x ∧ 64 / x ≤ 64 := by
  constructor
  · rw [Int.le_ediv_iff_mul_le (by omega)]
    omega
  · exact Int.ediv_le_self x (by decide)
theorem at_bounds {h w i j : Int} (i0 : 0 ≤ i) (i1 : i < h) (j0 : 0 ≤ j) (j1 : j < w) : 0 ≤ i * w + j ∧ i * w + j < h * w := by
  have a : (i + 1) * w ≤ h * w := Int.mul_le_mul_of_nonneg_right (by omega) (by omega)
  rw [Int.add_mul, Int.one_mul] at a
  have b : 0 ≤ i * w := Int.mul_nonneg i0 (by omega)
  omega

local macro_rules | `(tactic| walk_at "look") => `(tactic| first
  | exact upd_same
  | assumption
  | (refine (same_upd (by assumption)) _ _ ?_; walk_at "look"))
local macro_rules | `(tactic| walk_at "bat") => `(tactic| first
  | assumption
  | exact Bx.bat (by assumption)
  | (refine BoxAt.new ?_ (by assumption); walk_at "bat"))
local macro_rules | `(tactic| walk_at "bx") => `(tactic| first
  | assumption
  | exact Bx.refl (by assumption)
  | (refine Bx.new ?_ (by assumption); walk_at "bx")
  | (refine Bx.same ?_ (by assumption); walk_at "bx")
  | (refine Bx.trans ?_ (by assumption); walk_at "bx"))

local macro_rules | `(tactic| walk_at "own") => `(tactic| first
  | refine Or.inl ⟨_, _, _, rfl, rfl, ?_⟩
  | refine Or.inr (Or.inl ⟨_, _, _, _, rfl, (by assumption), rfl, ?_⟩)
  | refine Or.inr (Or.inr ⟨_, _, _, _, rfl, (by assumption), rfl, ?_⟩)
  | refine Or.inl ⟨_, _, _, _, rfl, rfl, (by assumption), (by first | assumption | exact atI_at (n := 0) rfl rfl), ?_⟩
  | refine Or.inr (Or.inl ⟨_, _, _, _, rfl, rfl, (by assumption), (by first | assumption | exact atI_at (n := 0) rfl rfl), ?_⟩)
  | refine ⟨_, _, rfl, Or.inl (And.intro (by assumption) (fun p hp => ?_))⟩
  | refine ⟨_, _, rfl, Or.inr (And.intro (by assumption) ?_)⟩
  | refine ⟨_, rfl, Or.inl ⟨_, _, _, _, rfl, (by assumption), ?_⟩⟩
  | refine ⟨_, rfl, Or.inr (And.intro (by assumption) ?_)⟩
  | refine ⟨_, _, _, rfl, (by omega), Or.inl ⟨_, _, _, _, _, _, rfl, (by assumption), (by assumption), (by assumption), ?_⟩⟩
  | refine ⟨_, _, _, rfl, (by omega), Or.inr (And.intro (by assumption) ?_)⟩
  | refine ⟨_, _, _, _, rfl, rfl, (by assumption), (by first | assumption | rfl | exact atI_nat rfl | exact atI_at (n := 0) rfl rfl), ?_⟩
  | refine ⟨_, _, rfl, Or.inr (by assumption), ?_⟩
  | refine ⟨_, _, rfl, Or.inl (by assumption), ?_⟩
  | refine ⟨_, _, rfl, Sca.al 2 (by assumption), ?_⟩
  | refine ⟨_, _, rfl, (show Al _ _ _ _ _ by assumption), ?_⟩
  | refine ⟨(show Flat3 _ from by first | exact Or.inl ⟨_, rfl⟩ | exact Or.inr (Or.inl ⟨_, rfl⟩) | exact Or.inr (Or.inr ⟨_, rfl⟩)), ?_⟩
  | refine iteSN (by assumption) ?_
  | refine iteSNn (by assumption) ?_
  | refine iteSSn ?_
  | refine And.intro sg_line ?_
  | refine ⟨_, _, _, _, rfl, rfl, (by assumption), rfl, ?_⟩
  | refine ⟨_, _, _, _, rfl, rfl, .inl (.inl upd_same), rfl, ?_⟩
  | refine ⟨_, _, _, _, rfl, rfl, (by walk_at "look"), (by walk_at "look"), Nat.le_of_ble_eq_true rfl, fun p hp => ?_⟩
  | refine ⟨_, _, rfl, (by walk_at "bat"), ⟨by decide, by decide⟩, fun n H1 b1 h0 h1 => ?_⟩
  | refine ⟨_, rfl, (by walk_at "bat"), fun z H1 b1 => ?_⟩)

/-- a chain of heaps -/
local macro_rules | `(tactic| walk_at "same") => `(tactic| first
  | assumption
  | exact Same.refl _
  | exact same_upd (by assumption)
  | (refine Same.trans ?_ (same_upd (by assumption)); walk_at "same")
  | (refine Same.trans ?_ (by assumption); walk_at "same"))
/-- a step of a reading, by its shape -/
local macro_rules | `(tactic| walk_at "st") => `(tactic| first
  | walk_at "own"
  | refine ⟨_, rfl, fun n h0 h1 => ?_⟩
  | refine ⟨_, rfl, ?_⟩
  | refine ⟨_, _, rfl, rfl, (by first | exact Or.inl ⟨by decide, by decide⟩ | exact Or.inr ⟨by decide, by decide⟩ | exact Or.inl (by omega) | exact Or.inr (by omega)), fun d hd hu hn => ?_⟩
  | refine ⟨_, _, rfl, rfl, by first | exact Or.inl ⟨by decide, by decide⟩ | exact Or.inr ⟨by decide, by decide⟩ | exact Or.inl (by omega) | exact Or.inr (by omega), ?_⟩
  | refine ⟨_, _, rfl, rfl, by first | (show (0 : Int) < _; first | omega | decide | (split <;> omega)) | (show _ ≠ (0 : Int); omega), ?_⟩
  | refine ⟨_, _, rfl, rfl, ⟨by decide, by decide⟩, ?_⟩
  | refine ⟨_, _, rfl, rfl, (by show (_ ∧ _) ∧ (_ ∧ _); omega), ?_⟩
  | refine ⟨_, _, rfl, rfl, (by show _ ∧ _; first | omega | (split <;> omega)), fun d hd hu hn => ?_⟩
  | refine ⟨_, _, rfl, rfl, (by show (0 : Int) < _ ∧ _; first | omega | (split <;> omega)), ?_⟩
  | refine ⟨_, _, rfl, rfl, ?_⟩
  | refine ⟨_, _, _, rfl, rfl, ?_⟩
  | refine ⟨_, _, _, _, rfl, rfl, .inl (.inl (by assumption)), rfl, ?_⟩
  | refine Or.inl ⟨_, rfl, ?_⟩
  | refine ⟨_, _, rfl, fun n H1 s1 h0 h1 => ?_⟩
  | refine ⟨_, _, rfl, fun n h0 h1 => ?_⟩
  | refine ⟨_, _, rfl, ?_⟩
  | refine ⟨Nat.le_of_ble_eq_true rfl, fun p hp => ?_⟩
  | refine ⟨rfl, ?_⟩
  | refine ⟨lim_flat _, ?_⟩
  | refine ⟨⟨by assumption, by assumption⟩, ?_⟩
  | refine And.intro (by assumption) ?_
  | refine ⟨Or.inl ⟨_, rfl⟩, ?_⟩
  | refine And.intro (by omega) (fun H1 s1 => ?_)
  | refine And.intro (by omega) ?_
  | refine iteF ?_
  | refine iteT ?_
  | refine iteSS ?_
  | refine iteIS ?_
  | refine iteEqI (fun _ => ?_) (fun _ => ?_)
  | refine iteNeI (fun _ => ?_) (fun _ => ?_)
  | refine iteD (fun _ => ?_) (fun _ => ?_)
  | refine ite2 (fun _ => ?_) (fun _ => ?_))
local macro_rules | `(tactic| walk_at "run") => `(tactic| repeat' (walk_at "st"))

/-! ### the promises -/
def spfits (K : PySem.W.Frag) : Sp := fun vs H Q _ => ∃ h w : Int, vs = [.int h, .int w] ∧ (1 ≤ h ∧ 1 ≤ w ∧ h ≤ 70 ∧ w ≤ 70) ∧ ∀ b : Bool, (b = true ↔ h ≤ 20 ∧ w ≤ 20 ∧ h * w ≤ 64) → Q (.bl b) H
def sparray (K : PySem.W.Frag) : Sp := fun vs H Q _ => ∃ (h w : Int) (m : Addr) (ys : List V), vs = [.int h, .int w, .ref m] ∧ (SqL K H m ys ∨ SqT K H m ys) ∧ (1 ≤ h ∧ 1 ≤ w ∧ h ≤ 70 ∧ w ≤ 70) ∧ (ys.length : Int) = h * w ∧ ∀ (u : V) (H' : Hp), Same H H' → Made K H' h w ys u → Q u H'
def spheight (K : PySem.W.Frag) : Sp := fun vs H Q _ => ∃ v : V, vs = [v] ∧ ((∃ (p q : Addr) (h w : Int), v = .ref p ∧ SqT K H p [.str "array", .int h, .int w, .ref q] ∧ Q (.int h) H) ∨ (Sca K H v ∧ Q (.int 1) H))
def spwidth (K : PySem.W.Frag) : Sp := fun vs H Q _ => ∃ v : V, vs = [v] ∧ ((∃ (p q : Addr) (h w : Int), v = .ref p ∧ SqT K H p [.str "array", .int h, .int w, .ref q] ∧ Q (.int w) H) ∨ (Sca K H v ∧ Q (.int 1) H))
def spmember (K : PySem.W.Frag) : Sp := fun vs H Q _ => ∃ (v : V) (i j : Int), vs = [v, .int i, .int j] ∧ (0 ≤ i ∧ i ≤ 100) ∧ ((∃ (p q : Addr) (h w : Int) (ys : List V) (x : V), v = .ref p ∧ SqT K H p [.str "array", .int h, .int w, .ref q] ∧ SqT K H q ys ∧ atI ys (i * w + j) = some x ∧ Q x H) ∨ (Sca K H v ∧ Q v H))
def sp_law_cell (K : PySem.W.Frag) : Sp := fun vs H Q _ => ∃ (a : Addr) (ns : List Int) (j : Nat), vs = [.ref a, .int j] ∧ SqL K H a (ns.map V.int) ∧ Q (.int (ns.getD j 0)) H
def sp_law_mix (K : PySem.W.Frag) : Sp := fun vs H Q _ => ∃ (c s : Int), vs = [.int c, .int s] ∧ ∀ n : Int, 0 ≤ n → n < 2147483629 → Q (.int n) H
def sp_law_amount (K : PySem.W.Frag) : Sp := fun vs H Q _ => ∃ c s : Int, vs = [.int c, .int s] ∧ ∀ (n : Int) (H' : Hp), Same H H' → -1000000000000000000000 < n → n < 1000000000000000000000 → Q (.int n) H'
def sp_law_draw (K : PySem.W.Frag) : Sp := fun vs H Q _ => ∃ (b : Addr) (m : Int), vs = [.ref b, .int m] ∧ BoxAt b H ∧ (0 < m ∧ m < 1267650600228229401496703205376) ∧ ∀ (n : Int) (H' : Hp), Bx b H H' → 0 ≤ n → n < m → Q (.int n) H'
def sp_law_text (K : PySem.W.Frag) : Sp := fun vs H Q _ => ∃ b : Addr, vs = [.ref b] ∧ BoxAt b H ∧ ∀ (z : Str) (H' : Hp), Bx b H H' → Q (.str z) H'
def sp_law_scalar (K : PySem.W.Frag) : Sp := fun vs H Q _ => ∃ b : Addr, vs = [.ref b] ∧ BoxAt b H ∧ ∀ (x : V) (H' : Hp), Bx b H H' → Sca K H' x → Q x H'
def sp_law_size (K : PySem.W.Frag) : Sp := fun vs H Q _ => ∃ c1 c2 c3 : Int, vs = [.int c1, .int c2, .int c3] ∧ ∀ (p : Addr) (h w : Int) (H' : Hp), Same H H' → SqT K H' p [.int h, .int w] → 1 ≤ h → 1 ≤ w → h ≤ 70 → w ≤ 70 → Q (.ref p) H'
def sp_law_same (K : PySem.W.Frag) : Sp := fun vs H Q _ => ∃ x : V, vs = [x, x] ∧ Flat3 x ∧ Q (.bl true) H
def spR_law_alike (K : PySem.W.Frag) : Nat → Sp
  | 0 => fun _ _ _ _ => False
  | n + 1 => fun vs H Q _ => ∃ x y : V, vs = [x, y] ∧ Al K (n + 1) H x y ∧ Q (.bl true) H
def sp_law_alike (K : PySem.W.Frag) : Sp := spR_law_alike K 4
def sp_law_due (K : PySem.W.Frag) : Sp := fun vs H Q _ => ∃ (h w : Int) (m : Addr) (ys : List V), vs = [.int h, .int w, .ref m] ∧ (SqL K H m ys ∨ SqT K H m ys) ∧ (1 ≤ h ∧ 1 ≤ w ∧ h ≤ 70 ∧ w ≤ 70) ∧ (ys.length : Int) = h * w ∧ ∀ (u : V) (H' : Hp), Same H H' → Made K H' h w ys u → Q u H'
def sp_law_measured (K : PySem.W.Frag) : Sp := fun vs H Q _ => ∃ (v : V) (h w : Int) (m : Addr) (ys : List V), vs = [v, .int h, .int w, .ref m] ∧ SqL K H m ys ∧ (1 ≤ h ∧ 1 ≤ w ∧ h ≤ 70 ∧ w ≤ 70) ∧ (∀ y ∈ ys, Sca K H y) ∧ ((∃ p q : Addr, v = .ref p ∧ SqT K H p [.str "array", .int h, .int w, .ref q] ∧ SqT K H q ys ∧ (ys.length : Int) = h * w) ∨ (Sca K H v ∧ h = 1 ∧ w = 1 ∧ ∃ rest, ys = v :: rest)) ∧ Q (.bl true) H
def splaw (K : PySem.W.Frag) : Sp := fun vs H Q _ => ∃ (a : Addr) (ns : List Int), vs = [.ref a] ∧ SqL K H a (ns.map V.int) ∧ ns.length ≤ 63 ∧ ∀ H', Q (.bl true) H'
section
variable {P : Program} {w : World} {K : PySem.W.Frag} {mg : Str → Option Value} {base : Heap}
def gkwidth_v {α : Type} : List α → List α := fun zs => match zs with | [z0] => [z0] | _ => zs
theorem krwidth_v : ∀ {zs : List V} {ws : List Value}, Vals zs ws → Vals (gkwidth_v zs) (gkwidth_v ws) := fun {zs ws} r => by
  rcases r with _ | ⟨r0, r⟩
  · exact .nil
  rcases r with _ | ⟨r1, r⟩
  · exact (.cons r0 .nil)
  exact (.cons r0 (.cons r1 r))
theorem kbwidth_v (T : Txt K mg) : KB0 K T.dwidth Pwidth ["v"] gkwidth_v gkwidth_v := by
  obtain ⟨oc, od, kV, doc, pm, an, cdv, ct, osl, e, lk, hcd⟩ := T.Fwidth.ex
  refine ⟨fun s ws hl => ?_, krwidth_v⟩
  rw [e]
  match ws, hl with
  | [z0], _ => exact .of_eq rfl
def gkheight_v {α : Type} : List α → List α := fun zs => match zs with | [z0] => [z0] | _ => zs
theorem krheight_v : ∀ {zs : List V} {ws : List Value}, Vals zs ws → Vals (gkheight_v zs) (gkheight_v ws) := fun {zs ws} r => by
  rcases r with _ | ⟨r0, r⟩
  · exact .nil
  rcases r with _ | ⟨r1, r⟩
  · exact (.cons r0 .nil)
  exact (.cons r0 (.cons r1 r))
theorem kbheight_v (T : Txt K mg) : KB0 K T.dheight Pheight ["v"] gkheight_v gkheight_v := by
  obtain ⟨oc, od, kV, doc, pm, an, cdv, ct, osl, e, lk, hcd⟩ := T.Fheight.ex
  refine ⟨fun s ws hl => ?_, krheight_v⟩
  rw [e]
  match ws, hl with
  | [z0], _ => exact .of_eq rfl
def gkmember_j_i_v {α : Type} : List α → List α := fun zs => match zs with | [z0, z1, z2] => [z2, z1, z0] | _ => zs
theorem krmember_j_i_v : ∀ {zs : List V} {ws : List Value}, Vals zs ws → Vals (gkmember_j_i_v zs) (gkmember_j_i_v ws) := fun {zs ws} r => by
  rcases r with _ | ⟨r0, r⟩
  · exact .nil
  rcases r with _ | ⟨r1, r⟩
  · exact (.cons r0 .nil)
  rcases r with _ | ⟨r2, r⟩
  · exact (.cons r0 (.cons r1 .nil))
  rcases r with _ | ⟨r3, r⟩
  · exact (.cons r2 (.cons r1 (.cons r0 .nil)))
  exact (.cons r0 (.cons r1 (.cons r2 (.cons r3 r))))
theorem kbmember_j_i_v (T : Txt K mg) : KB0 K T.dmember Pmember ["j", "i", "v"] gkmember_j_i_v gkmember_j_i_v := by
  obtain ⟨oc, od, kV, doc, pm, an, cdv, ct, osl, e, lk, hcd⟩ := T.Fmember.ex
  refine ⟨fun s ws hl => ?_, krmember_j_i_v⟩
  rw [e]
  match ws, hl with
  | [z0, z1, z2], _ => exact .of_eq rfl
def gkarray_members_w_h {α : Type} : List α → List α := fun zs => match zs with | [z0, z1, z2] => [z2, z1, z0] | _ => zs
theorem krarray_members_w_h : ∀ {zs : List V} {ws : List Value}, Vals zs ws → Vals (gkarray_members_w_h zs) (gkarray_members_w_h ws) := fun {zs ws} r => by
  rcases r with _ | ⟨r0, r⟩
  · exact .nil
  rcases r with _ | ⟨r1, r⟩
  · exact (.cons r0 .nil)
  rcases r with _ | ⟨r2, r⟩
  · exact (.cons r0 (.cons r1 .nil))
  rcases r with _ | ⟨r3, r⟩
  · exact (.cons r2 (.cons r1 (.cons r0 .nil)))
  exact (.cons r0 (.cons r1 (.cons r2 (.cons r3 r))))
theorem kbarray_members_w_h (T : Txt K mg) : KB0 K T.darray Parray ["members", "w", "h"] gkarray_members_w_h gkarray_members_w_h := by
  obtain ⟨oc, od, kV, doc, pm, an, cdv, ct, osl, e, lk, hcd⟩ := T.Farray.ex
  refine ⟨fun s ws hl => ?_, krarray_members_w_h⟩
  rw [e]
  match ws, hl with
  | [z0, z1, z2], _ => exact .of_eq rfl
theorem okfits (T : Txt K mg) : FnOk P w K mg base CX0 1 T.afits T.dfits Pfits (spfits K) := by
  refine T.Ffits.ok scfits (fun vs H Q E h => ?_) (fun cdv A outer s H vs Q E hr h => ?_)
  · obtain ⟨h, w, rfl, _⟩ := h
    rfl
  · obtain ⟨h, w, rfl, hb, q⟩ := h
    refine ⟨_, (pss_one (ps_ret (pe_and (pe_cmpR op_le (pv 0) (pe_glob (v := .int 20) (by rfl) T.m_MOST_ROWS ⟨_, rfl⟩) (by first | exact nomark _ | rfl)) (pe_and (pe_cmpR op_le (pv 1) (pe_glob (v := .int 20) (by rfl) T.m_MOST_COLUMNS ⟨_, rfl⟩) (by first | exact nomark _ | rfl)) (pe_one (pe_cmpR op_le (pe_op op_mul (pv 0) (pv 1)) (pe_glob (v := .int 64) (by rfl) T.m_MOST_MEMBERS ⟨_, rfl⟩) (by first | exact nomark _ | rfl))))))), ?_⟩
    walk_at "run"
    all_goals refine q _ ?_
    all_goals (try simp only [decide_eq_true_eq] at *)
    all_goals (constructor <;> intro hh)
    all_goals (first | (cases hh; done) | (refine ⟨?_, ?_, ?_⟩ <;> omega) | omega)

theorem okarray (T : Txt K mg) : FnOk P w K mg base CX0 2 T.aarray T.darray Parray (sparray K) := by
  refine T.Farray.ok scarray (fun vs H Q E h => ?_) (fun cdv A outer s H vs Q E hr h => ?_)
  · obtain ⟨h, w, m, ys, rfl, _⟩ := h
    rfl
  · obtain ⟨h, w, m, ys, rfl, hm, hb, hl, q⟩ := h
    refine ⟨_, (pss_cons (ps_if (pt_not (pt_val (pe_call (okfits T) (hr.mono (by decide)) (by rfl) T.gfits T.Ffits.kp (T.bfits) .nil pass0 (pa_cons (pv 0) (pa_cons (pv 1) pa_nil)))))
      (pss_one (ps_ret (pe_tup (pa_cons pe_str (pa_cons pe_str pa_nil)))))
      pss_nil)
    (pss_cons (ps_if (pt_cmpR op_eq (pe_op op_mul (pv 0) (pv 1)) pe_int (by first | exact nomark _ | rfl))
      (pss_one (ps_ret (pe_ix ix_seq (pv 2) pe_int (fun _ _ => rfl))))
      pss_nil)
    (pss_one (ps_ret (pe_tup (pa_cons pe_str (pa_cons (pv 0) (pa_cons (pv 1) (pa_cons (pe_callTy call_tuple_of (by rfl) T.z_tuple (by decide +kernel) (pa_cons (pv 2) pa_nil)) pa_nil))))))))), ?_⟩
    obtain ⟨h1, w1, h2, w2⟩ := hb
    obtain ⟨k1, k2, k3⟩ := hw_bounds h1 w1 h2 w2
    obtain ⟨y0, rest, rfl⟩ : ∃ y r, ys = y :: r := by
      cases ys with
      | nil => exact absurd hl (by show ¬ (0 : Int) = _; omega)
      | cons y r => exact ⟨y, r, rfl⟩
    rcases hm with hm | hm
    all_goals walk_at "run"
    all_goals first
      | (rename_i bb hf hx p hp
         have nb : ¬ (h ≤ 20 ∧ w ≤ 20 ∧ h * w ≤ 64) := fun z => by rw [hf.mpr z] at hx; cases hx
         exact q _ _ (by walk_at "same") (Or.inr (Or.inl ⟨by omega, by omega, _, rfl, SqT.of upd_same⟩)))
      | exact q _ _ (by walk_at "same") (Or.inl ⟨by assumption, rfl⟩)
      | (rename_i bb hf hx e1 p hp p2 hp2
         obtain ⟨f1, f2, f3⟩ := hf.mp (by cases bb with | true => rfl | false => exact absurd rfl hx)
         exact q _ _ (by walk_at "same") (Or.inr (Or.inr ⟨e1, f1, f2, f3, _, _, rfl, SqT.of upd_same, same_tk (same_upd (by assumption)) _ _ (SqT.of upd_same)⟩)))
      | (rename_i bb hf hx e1 p hp
         obtain ⟨f1, f2, f3⟩ := hf.mp (by cases bb with | true => rfl | false => exact absurd rfl hx)
         exact q _ _ (by walk_at "same") (Or.inr (Or.inr ⟨e1, f1, f2, f3, _, _, rfl, SqT.of upd_same, same_tk (by walk_at "same") _ _ hm⟩)))

theorem okheight (T : Txt K mg) : FnOk P w K mg base CX0 1 T.aheight T.dheight Pheight (spheight K) := by
  refine T.Fheight.ok scheight (fun vs H Q E h => ?_) (fun cdv A outer s H vs Q E hr h => ?_)
  · obtain ⟨v, rfl, _⟩ := h
    rfl
  · obtain ⟨v, rfl, q⟩ := h
    refine ⟨_, (pss_one (ps_ret (pe_ifExp (pt_cmpR op_eq (pe_ix ix_tup (pv 0) pe_int (fun _ _ => rfl)) pe_str (by first | exact nomark _ | rfl)) (pe_ix ix_tup (pv 0) pe_int (fun _ _ => rfl)) pe_int))), ?_⟩
    rcases q with ⟨p, b, h, w, rfl, hp, q⟩ | ⟨⟨p, k, rest, rfl, hp, hk, _, _⟩, q⟩
    all_goals walk_at "run"
    all_goals exact q

theorem okwidth (T : Txt K mg) : FnOk P w K mg base CX0 1 T.awidth T.dwidth Pwidth (spwidth K) := by
  refine T.Fwidth.ok scwidth (fun vs H Q E h => ?_) (fun cdv A outer s H vs Q E hr h => ?_)
  · obtain ⟨v, rfl, _⟩ := h
    rfl
  · obtain ⟨v, rfl, q⟩ := h
    refine ⟨_, (pss_one (ps_ret (pe_ifExp (pt_cmpR op_eq (pe_ix ix_tup (pv 0) pe_int (fun _ _ => rfl)) pe_str (by first | exact nomark _ | rfl)) (pe_ix ix_tup (pv 0) pe_int (fun _ _ => rfl)) pe_int))), ?_⟩
    rcases q with ⟨p, b, h, w, rfl, hp, q⟩ | ⟨⟨p, k, rest, rfl, hp, hk, _, _⟩, q⟩
    all_goals walk_at "run"
    all_goals exact q

theorem okmember (T : Txt K mg) : FnOk P w K mg base CX0 1 T.amember T.dmember Pmember (spmember K) := by
  refine T.Fmember.ok scmember (fun vs H Q E h => ?_) (fun cdv A outer s H vs Q E hr h => ?_)
  · obtain ⟨v, i, j, rfl, _⟩ := h
    rfl
  · obtain ⟨v, i, j, rfl, hi, q⟩ := h
    refine ⟨_, (pss_cons (ps_if (pt_cmpR op_ne (pe_ix ix_tup (pv 0) pe_int (fun _ _ => rfl)) pe_str (by first | exact nomark _ | rfl))
      (pss_one (ps_ret (pv 0)))
      pss_nil)
    (pss_one (ps_ret (pe_ix ix_tup (pe_ix ix_tup (pv 0) pe_int (fun _ _ => rfl)) (pe_op op_add (pe_op op_mul (pv 1) (pe_ix ix_tup (pv 0) pe_int (fun _ _ => rfl))) (pv 2)) (fun _ _ => rfl))))), ?_⟩
    rcases q with ⟨p, b, h, w, ys, x, rfl, hp, hb, e, q⟩ | ⟨⟨p, k, rest, rfl, hp, hk, _, _⟩, q⟩
    all_goals walk_at "run"
    all_goals exact q

theorem ok_law_cell (T : Txt K mg) : FnOk P w K mg base CX0 1 T.a_law_cell T.d_law_cell P_law_cell (sp_law_cell K) := by
  refine T.F_law_cell.ok sc_law_cell (fun vs H Q E h => ?_) (fun cdv A outer s H vs Q E hr h => ?_)
  · obtain ⟨a, ns, j, rfl, _⟩ := h
    rfl
  · obtain ⟨a, ns, j, rfl, hS, q⟩ := h
    refine ⟨_, (pss_cons (ps_if (pt_cmpR op_lt (pv 1) (pe_callB call_len_seq (by rfl) T.z_len (by decide +kernel) (pa_cons (pv 0) pa_nil)) (by first | exact nomark _ | rfl))
      (pss_one (ps_ret (pe_ix ix_list (pv 0) (pv 1) (fun _ _ => rfl))))
      pss_nil)
    (pss_one (ps_ret pe_int))), ?_⟩
    refine ⟨_, rfl, _, rfl, a, _, rfl, .inl hS, _, _, rfl, rfl, _, rfl, ite2 (fun e => ?_) (fun e => ?_)⟩
    · have e1 : j < ns.length := by
        have e2 := of_decide_eq_true e
        rw [List.length_map] at e2
        omega
      refine ⟨_, rfl, _, rfl, a, _, _, .int (ns.getD j 0), rfl, rfl, hS, atI_nat ?_, q⟩
      rw [List.getElem?_map, List.getD_eq_getElem?_getD, List.getElem?_eq_getElem e1]
      rfl
    · have e1 : ¬ j < ns.length := fun z => e (decide_eq_true (by rw [List.length_map]; omega))
      have e2 : ns.getD j 0 = 0 := by
        rw [List.getD_eq_getElem?_getD, List.getElem?_eq_none (by omega)]
        rfl
      rw [e2] at q
      exact q

theorem ok_law_mix (T : Txt K mg) : FnOk P w K mg base CX0 1 T.a_law_mix T.d_law_mix P_law_mix (sp_law_mix K) := by
  refine T.F_law_mix.ok sc_law_mix (fun vs H Q E h => ?_) (fun cdv A outer s H vs Q E hr h => ?_)
  · obtain ⟨c, s, rfl, _⟩ := h
    rfl
  · obtain ⟨c, s, rfl, q⟩ := h
    refine ⟨_, (pss_cons (ps_set (i := 2) sc_law_mix.nd rfl (by first | exact Or.inl rfl | exact Or.inr rfl) (pe_op op_mod (pe_callTy call_int1 (by rfl) T.z_int (by decide +kernel) (pa_cons (pe_op op_add (pe_op op_add (pe_op op_mul (pv 0) pe_int) (pe_op op_mul (pv 1) pe_int)) pe_int) pa_nil)) pe_int))
    (pss_one (ps_ret (pe_op op_mod (pe_callTy call_int1 (by rfl) T.z_int (by decide +kernel) (pa_cons (pe_op op_add (pe_op op_add (pe_op op_mul (pv 2) (pv 2)) (pe_op op_mul (pv 2) pe_int)) (pe_op op_mul (pv 1) pe_int)) pa_nil)) pe_int)))), ?_⟩
    walk_at "run"
    generalize e1 : (c * 48271 + s * 69621 + 12345) % 2147483647 = one
    have h0 : 0 ≤ one := by omega
    have h1 : one < 2147483647 := by omega
    walk_at "run"
    refine q _ ?_ ?_
    · omega
    · omega

theorem ok_law_amount (T : Txt K mg) : FnOk P w K mg base CX0 2 T.a_law_amount T.d_law_amount P_law_amount (sp_law_amount K) := by
  refine T.F_law_amount.ok sc_law_amount (fun vs H Q E h => ?_) (fun cdv A outer s H vs Q E hr h => ?_)
  · obtain ⟨c, s, rfl, _⟩ := h
    rfl
  · obtain ⟨c, s, rfl, q⟩ := h
    refine ⟨_, (pss_cons (ps_set (i := 2) sc_law_amount.nd rfl (by first | exact Or.inl rfl | exact Or.inr rfl) (pe_op op_sub (pe_powc (c := 1000000000000000000000) (by decide) (by decide +kernel)) pe_int))
    (pss_cons (ps_if (pt_cmpR op_ge (pv 0) (pe_powc (c := 1000000000000000000) (by decide) (by decide +kernel)) (by first | exact nomark _ | rfl))
      (pss_one (ps_ret (pe_op op_sub (pe_op op_mod (pe_callTy call_int1 (by rfl) T.z_int (by decide +kernel) (pa_cons (pe_op op_sub (pv 0) (pe_powc (c := 1000000000000000000) (by decide) (by decide +kernel))) pa_nil)) (pe_op op_add (pe_op op_mul pe_int (pv 2)) pe_int)) (pv 2))))
      pss_nil)
    (pss_cons (ps_set (i := 3) sc_law_amount.nd rfl (by first | exact Or.inl rfl | exact Or.inr rfl) (pe_op op_mod (pe_callTy call_int1 (by rfl) T.z_int (by decide +kernel) (pa_cons (pe_call (ok_law_mix T) (hr.mono (by decide)) (by rfl) T.g_law_mix T.F_law_mix.kp (T.b_law_mix) .nil pass0 (pa_cons (pv 0) (pa_cons (pv 1) pa_nil))) pa_nil)) pe_int))
    (pss_cons (ps_set (i := 4) sc_law_amount.nd rfl (by first | exact Or.inl rfl | exact Or.inr rfl) (pe_call (ok_law_mix T) (hr.mono (by decide)) (by rfl) T.g_law_mix T.F_law_mix.kp (T.b_law_mix) .nil pass0 (pa_cons (pv 0) (pa_cons (pe_op op_add (pv 1) pe_int) pa_nil))))
    (pss_cons (ps_if (pt_cmpR op_eq (pv 3) pe_int (by first | exact nomark _ | rfl))
      (pss_cons (ps_set (i := 5) sc_law_amount.nd rfl (by first | exact Or.inl rfl | exact Or.inr rfl) (pe_lst (pa_cons pe_int (pa_cons pe_int (pa_cons pe_int (pa_cons (pe_un un_neg pe_int) (pa_cons pe_int (pa_cons pe_int (pa_cons pe_int (pa_cons (pe_un un_neg pe_int) (pa_cons pe_int (pa_cons pe_int (pa_cons pe_int (pa_cons (pe_un un_neg pe_int) (pa_cons (pv 2) (pa_cons (pe_un un_neg (pv 2)) pa_nil))))))))))))))))
    (pss_one (ps_ret (pe_ix ix_list (pv 5) (pe_op op_mod (pe_callTy call_int1 (by rfl) T.z_int (by decide +kernel) (pa_cons (pv 4) pa_nil)) pe_int) (fun _ _ => rfl)))))
      pss_nil)
    (pss_cons (ps_if (pt_cmpR op_eq (pv 3) pe_int (by first | exact nomark _ | rfl))
      (pss_one (ps_ret (pe_op op_sub (pe_op op_mod (pe_callTy call_int1 (by rfl) T.z_int (by decide +kernel) (pa_cons (pv 4) pa_nil)) pe_int) pe_int)))
      pss_nil)
    (pss_cons (ps_if (pt_cmpR op_eq (pv 3) pe_int (by first | exact nomark _ | rfl))
      (pss_one (ps_ret (pe_op op_mul (pe_op op_sub (pe_op op_mod (pe_callTy call_int1 (by rfl) T.z_int (by decide +kernel) (pa_cons (pv 4) pa_nil)) pe_int) pe_int) pe_int)))
      pss_nil)
    (pss_cons (ps_if (pt_cmpR op_eq (pv 3) pe_int (by first | exact nomark _ | rfl))
      (pss_one (ps_ret (pe_op op_mul (pe_op op_sub (pe_op op_mul pe_int (pe_op op_mod (pe_callTy call_int1 (by rfl) T.z_int (by decide +kernel) (pa_cons (pv 4) pa_nil)) pe_int)) pe_int) pe_int)))
      pss_nil)
    (pss_cons (ps_if (pt_cmpR op_eq (pv 3) pe_int (by first | exact nomark _ | rfl))
      (pss_one (ps_ret (pe_op op_sub (pv 2) (pe_op op_mod (pe_callTy call_int1 (by rfl) T.z_int (by decide +kernel) (pa_cons (pv 4) pa_nil)) pe_int))))
      pss_nil)
    (pss_cons (ps_if (pt_cmpR op_eq (pv 3) pe_int (by first | exact nomark _ | rfl))
      (pss_one (ps_ret (pe_op op_sub (pe_op op_mod (pe_callTy call_int1 (by rfl) T.z_int (by decide +kernel) (pa_cons (pv 4) pa_nil)) pe_int) (pv 2))))
      pss_nil)
    (pss_cons (ps_if (pt_cmpR op_eq (pv 3) pe_int (by first | exact nomark _ | rfl))
      (pss_one (ps_ret (pe_op op_sub (pe_op op_mod (pe_callTy call_int1 (by rfl) T.z_int (by decide +kernel) (pa_cons (pe_op op_mul (pv 4) (pv 4)) pa_nil)) (pe_op op_mul pe_int (pe_powc (c := 1000000000000) (by decide) (by decide +kernel)))) (pe_powc (c := 1000000000000) (by decide) (by decide +kernel)))))
      pss_nil)
    (pss_cons (ps_set (i := 6) sc_law_amount.nd rfl (by first | exact Or.inl rfl | exact Or.inr rfl) (pe_op op_add (pe_op op_add (pe_op op_mul (pv 4) (pe_powc (c := 1000000000000000000) (by decide) (by decide +kernel))) (pe_op op_mul (pe_call (ok_law_mix T) (hr.mono (by decide)) (by rfl) T.g_law_mix T.F_law_mix.kp (T.b_law_mix) .nil pass0 (pa_cons (pv 0) (pa_cons (pe_op op_add (pv 1) pe_int) pa_nil))) (pe_powc (c := 1000000000) (by decide) (by decide +kernel)))) (pe_call (ok_law_mix T) (hr.mono (by decide)) (by rfl) T.g_law_mix T.F_law_mix.kp (T.b_law_mix) .nil pass0 (pa_cons (pv 0) (pa_cons (pe_op op_add (pv 1) pe_int) pa_nil)))))
    (pss_one (ps_ret (pe_op op_sub (pe_op op_mod (pe_callTy call_int1 (by rfl) T.z_int (by decide +kernel) (pa_cons (pv 6) pa_nil)) (pe_op op_add (pe_op op_mul pe_int (pv 2)) pe_int)) (pv 2)))))))))))))))), ?_⟩
    walk_at "run"
    all_goals first
      | refine q _ _ (Same.refl _) ?_ ?_ <;> omega
      | skip
    rename_i p hp
    refine atI_go (.inl (.inl upd_same)) (by omega) (by show _ < (14 : Int); omega) fun v hv => ?_
    simp only [List.mem_cons, List.not_mem_nil, or_false] at hv
    rcases hv with rfl | rfl | rfl | rfl | rfl | rfl | rfl | rfl | rfl | rfl | rfl | rfl | rfl | rfl
    all_goals exact q _ _ (same_upd hp) (by decide) (by decide)

theorem ok_law_draw (T : Txt K mg) : FnOk P w K mg base CX0 2 T.a_law_draw T.d_law_draw P_law_draw (sp_law_draw K) := by
  refine T.F_law_draw.ok sc_law_draw (fun vs H Q E h => ?_) (fun cdv A outer s H vs Q E hr h => ?_)
  · obtain ⟨b, m, rfl, _⟩ := h
    rfl
  · obtain ⟨b, m, rfl, hb, hm, q⟩ := h
    refine ⟨_, (pss_cons (ps_if (pt_cmpR op_gt (pe_ix ix_list (pv 0) pe_int (fun _ _ => rfl)) pe_int (by first | exact nomark _ | rfl))
      (pss_cons (ps_set (i := 2) sc_law_draw.nd rfl (by first | exact Or.inl rfl | exact Or.inr rfl) (pe_op op_mod (pe_callTy call_int1 (by rfl) T.z_int (by decide +kernel) (pa_cons (pe_ix ix_list (pv 0) pe_int (fun _ _ => rfl)) pa_nil)) (pv 1)))
    (pss_cons (ps_asg (pe_op op_fdivB (pe_ix ix_list (pv 0) pe_int (fun _ _ => rfl)) (pv 1)) (pg_sub (pv 0) pe_int set_list))
    (pss_one (ps_ret (pv 2)))))
      pss_nil)
    (pss_cons (ps_asg (pe_op op_add (pe_ix ix_list (pv 0) pe_int (fun _ _ => rfl)) pe_int) (pg_sub (pv 0) pe_int set_list))
    (pss_one (ps_ret (pe_op op_mod (pe_callTy call_int1 (by rfl) T.z_int (by decide +kernel) (pa_cons (pe_call (ok_law_mix T) (hr.mono (by decide)) (by rfl) T.g_law_mix T.F_law_mix.kp (T.b_law_mix) .nil pass0 (pa_cons (pe_ix ix_list (pv 0) pe_int (fun _ _ => rfl)) (pa_cons (pe_ix ix_list (pv 0) pe_int (fun _ _ => rfl)) pa_nil))) pa_nil)) (pv 1)))))), ?_⟩
    obtain ⟨c, d, z, e⟩ := hb
    walk_at "run"
    all_goals exact q _ _ (Bx.put (Bx.refl ⟨c, d, z, e⟩)) (Int.emod_nonneg _ (by omega)) (Int.emod_lt_of_pos _ hm.1)

theorem ok_law_text (T : Txt K mg) : FnOk P w K mg base CX0 3 T.a_law_text T.d_law_text P_law_text (sp_law_text K) := by
  refine T.F_law_text.ok sc_law_text (fun vs H Q E h => ?_) (fun cdv A outer s H vs Q E hr h => ?_)
  · obtain ⟨b, rfl, _⟩ := h
    rfl
  · obtain ⟨b, rfl, hb, q⟩ := h
    refine ⟨_, (pss_cons (ps_set (i := 1) sc_law_text.nd rfl (by first | exact Or.inl rfl | exact Or.inr rfl) pe_str)
    (pss_cons (ps_set (i := 1) sc_law_text.nd rfl (by first | exact Or.inl rfl | exact Or.inr rfl) (pe_op op_add_str (pv 1) pe_str))
    (pss_cons (ps_set (i := 2) sc_law_text.nd rfl (by first | exact Or.inl rfl | exact Or.inr rfl) pe_int)
    (pss_cons (ps_if (pt_cmpR op_gt (pe_ix ix_list (pv 0) pe_int (fun _ _ => rfl)) pe_int (by first | exact nomark _ | rfl))
      (pss_one (ps_set (i := 2) sc_law_text.nd rfl (by first | exact Or.inl rfl | exact Or.inr rfl) pe_int))
      pss_nil)
    (pss_one (ps_ret (pe_bm PySem.F.plainAttrs_str PySem.F.slot_str_join PySem.F.type_str_join mt_join pe_str (pa_cons (pe_lc (own := [("k", 3)]) (g := gName 3) (tt := tYes) rfl sc_law_text.nd (pi_range1 (by rfl) T.z_range (pa_cons (pe_call (ok_law_draw T) (hr.mono (by decide)) (by rfl) T.g_law_draw T.F_law_draw.kp (T.b_law_draw) .nil pass0 (pa_cons (pv 0) (pa_cons (pv 2) pa_nil))) pa_nil)) (blkOk_by (N := N_law_text) (sc := defScope s_law_text) (by decide +kernel)) (fun _ _ _ _ _ => pg_name (i := 3) sc_law_text.nd rfl (Or.inl rfl)) (fun _ _ _ _ _ => pts_nil) (fun _ _ _ _ _ => (pe_ix ix_str (pv 1) (pe_call (ok_law_draw T) (hr.mono (by decide)) (by rfl) T.g_law_draw T.F_law_draw.kp (T.b_law_draw) .nil pass0 (pa_cons (pv 0) (pa_cons pe_int pa_nil))) (fun _ _ => rfl)))) pa_nil)))))))), ?_⟩
    have hb0 := hb
    obtain ⟨c0, d0, z0, e0⟩ := hb0
    walk_at "run"
    all_goals (
      rename_i cnt H1 b1 n0 n1 D hD
      obtain ⟨hD0, hne⟩ := b1.back hb hD
      refine lc_range (lo := 0) (n := cnt.toNat) (fun i H' => Bx b H H' ∧ ∃ zs : List Str, H' D = some (.lst (zs.map V.str)) ∧ zs.length = i ∧ ∀ z ∈ zs, z.length = 1) ⟨b1.new hD, [], upd_same, rfl, fun _ h => nomatch h⟩ (fun i H' hi hp => ?_) (fun H' hp => ?_)
      · obtain ⟨hb2, zs, hz, hl, h1⟩ := hp
        walk_at "run"
        rename_i n2 H2 b2 m0 m1
        obtain ⟨c, ec⟩ := sg_at m0 m1
        refine ⟨SG, _, c, rfl, rfl, sg_line, ec, zs.map V.str, b2.1 _ _ (Ne.symm hne) hz, ?_, (hb2.trans b2).more hD0 hne, zs ++ [⟨#[c]⟩], ?_, ?_, ?_⟩
        · rw [List.length_map]
          exact small1000 (by omega)
        · rw [List.map_append]
          exact upd_same
        · rw [List.length_append, hl]
          rfl
        · intro z hz
          rcases List.mem_append.mp hz with hz | hz
          · exact h1 z hz
          · rcases List.mem_cons.mp hz with rfl | hz
            · rfl
            · cases hz
      · obtain ⟨hb2, zs, hz, hl, h1⟩ := hp
        exact ⟨_, D, zs, rfl, rfl, Or.inl (SqL.of hz), ones_join h1 (by omega), q _ _ hb2⟩)

theorem ok_law_scalar (T : Txt K mg) : FnOk P w K mg base CX0 4 T.a_law_scalar T.d_law_scalar P_law_scalar (sp_law_scalar K) := by
  refine T.F_law_scalar.ok sc_law_scalar (fun vs H Q E h => ?_) (fun cdv A outer s H vs Q E hr h => ?_)
  · obtain ⟨b, rfl, _⟩ := h
    rfl
  · obtain ⟨b, rfl, hb, q⟩ := h
    refine ⟨_, (pss_cons (ps_set (i := 1) sc_law_scalar.nd rfl (by first | exact Or.inl rfl | exact Or.inr rfl) (pe_call (ok_law_draw T) (hr.mono (by decide)) (by rfl) T.g_law_draw T.F_law_draw.kp (T.b_law_draw) .nil pass0 (pa_cons (pv 0) (pa_cons pe_int pa_nil))))
    (pss_cons (ps_if (pt_cmpR op_eq (pv 1) pe_int (by first | exact nomark _ | rfl))
      (pss_one (ps_ret (pe_tup (pa_cons pe_str pa_nil))))
      pss_nil)
    (pss_cons (ps_if (pt_cmpR op_eq (pv 1) pe_int (by first | exact nomark _ | rfl))
      (pss_one (ps_ret (pe_tup (pa_cons pe_str (pa_cons (pe_cmpR op_eq (pe_call (ok_law_draw T) (hr.mono (by decide)) (by rfl) T.g_law_draw T.F_law_draw.kp (T.b_law_draw) .nil pass0 (pa_cons (pv 0) (pa_cons pe_int pa_nil))) pe_int (by first | exact nomark _ | rfl)) pa_nil)))))
      pss_nil)
    (pss_cons (ps_if (pt_cmpR op_eq (pv 1) pe_int (by first | exact nomark _ | rfl))
      (pss_one (ps_ret (pe_tup (pa_cons pe_str (pa_cons (pe_call (ok_law_text T) (hr.mono (by decide)) (by rfl) T.g_law_text T.F_law_text.kp (T.b_law_text) .nil pass0 (pa_cons (pv 0) pa_nil)) pa_nil)))))
      pss_nil)
    (pss_cons (ps_if (pt_cmpR op_eq (pv 1) pe_int (by first | exact nomark _ | rfl))
      (pss_cons (ps_set (i := 2) sc_law_scalar.nd rfl (by first | exact Or.inl rfl | exact Or.inr rfl) (pe_lst (pa_cons pe_str (pa_cons pe_str (pa_cons pe_str (pa_cons pe_str (pa_cons pe_str (pa_cons pe_str (pa_cons pe_str (pa_cons pe_str (pa_cons pe_str pa_nil)))))))))))
    (pss_one (ps_ret (pe_tup (pa_cons pe_str (pa_cons (pe_ix ix_list (pv 2) (pe_call (ok_law_draw T) (hr.mono (by decide)) (by rfl) T.g_law_draw T.F_law_draw.kp (T.b_law_draw) .nil pass0 (pa_cons (pv 0) (pa_cons pe_int pa_nil))) (fun _ _ => rfl)) pa_nil))))))
      pss_nil)
    (pss_cons (ps_if (pt_cmpR op_gt (pe_ix ix_list (pv 0) pe_int (fun _ _ => rfl)) pe_int (by first | exact nomark _ | rfl))
      (pss_one (ps_ret (pe_tup (pa_cons pe_str (pa_cons (pe_op op_add (pe_op op_sub (pe_call (ok_law_draw T) (hr.mono (by decide)) (by rfl) T.g_law_draw T.F_law_draw.kp (T.b_law_draw) .nil pass0 (pa_cons (pv 0) (pa_cons (pe_op op_sub (pe_op op_mul pe_int (pe_powc (c := 1000000000000000000000) (by decide) (by decide +kernel))) pe_int) pa_nil))) (pe_powc (c := 1000000000000000000000) (by decide) (by decide +kernel))) pe_int) pa_nil)))))
      pss_nil)
    (pss_one (ps_ret (pe_tup (pa_cons pe_str (pa_cons (pe_call (ok_law_amount T) (hr.mono (by decide)) (by rfl) T.g_law_amount T.F_law_amount.kp (T.b_law_amount) .nil pass0 (pa_cons (pe_call (ok_law_draw T) (hr.mono (by decide)) (by rfl) T.g_law_draw T.F_law_draw.kp (T.b_law_draw) .nil pass0 (pa_cons (pv 0) (pa_cons pe_int pa_nil))) (pa_cons pe_int pa_nil))) pa_nil))))))))))), ?_⟩
    walk_at "run"
    all_goals first
      | exact q _ _ (by walk_at "bx") (sca1 (by decide +kernel))
      | exact q _ _ (by walk_at "bx") (sca2 (by decide +kernel) (Or.inl ⟨_, rfl⟩))
      | exact q _ _ (by walk_at "bx") (sca2 (by decide +kernel) (Or.inr (Or.inl ⟨_, rfl⟩)))
      | exact q _ _ (by walk_at "bx") (sca2 (by decide +kernel) (Or.inr (Or.inr ⟨_, rfl⟩)))
      | skip
    · rename_i p hp n H2 b2 m0 m1
      have hpb : p ≠ b := Ne.symm (BoxAt.ne (Bx.bat (by assumption)) hp)
      refine atI_go (SqL.of (b2.1 _ _ hpb upd_same)) m0 (by show _ < (9 : Int); exact m1) fun v hv => ?_
      have hv2 : ∃ z, v = .str z := by
        simp only [List.mem_cons, List.not_mem_nil, or_false] at hv
        rcases hv with rfl | rfl | rfl | rfl | rfl | rfl | rfl | rfl | rfl <;> exact ⟨_, rfl⟩
      obtain ⟨z, rfl⟩ := hv2
      walk_at "run"
      exact q _ _ (by walk_at "bx") (sca2 (by decide +kernel) (Or.inr (Or.inl ⟨_, rfl⟩)))
    · obtain ⟨c0, d0, z0, e0⟩ := Bx.bat (by assumption)
      walk_at "run"
      all_goals exact q _ _ (by walk_at "bx") (sca2 (by decide +kernel) (Or.inl ⟨_, rfl⟩))

theorem ok_law_size (T : Txt K mg) : FnOk P w K mg base CX0 2 T.a_law_size T.d_law_size P_law_size (sp_law_size K) := by
  refine T.F_law_size.ok sc_law_size (fun vs H Q E h => ?_) (fun cdv A outer s H vs Q E hr h => ?_)
  · obtain ⟨c1, c2, c3, rfl, _⟩ := h
    rfl
  · obtain ⟨c1, c2, c3, rfl, q⟩ := h
    refine ⟨_, (pss_cons (ps_set (i := 3) sc_law_size.nd rfl (by first | exact Or.inl rfl | exact Or.inr rfl) (pe_op op_mod (pe_callTy call_int1 (by rfl) T.z_int (by decide +kernel) (pa_cons (pe_call (ok_law_mix T) (hr.mono (by decide)) (by rfl) T.g_law_mix T.F_law_mix.kp (T.b_law_mix) .nil pass0 (pa_cons (pv 2) (pa_cons pe_int pa_nil))) pa_nil)) pe_int))
    (pss_cons (ps_set (i := 4) sc_law_size.nd rfl (by first | exact Or.inl rfl | exact Or.inr rfl) (pe_op op_mod (pe_callTy call_int1 (by rfl) T.z_int (by decide +kernel) (pa_cons (pv 0) pa_nil)) pe_int))
    (pss_cons (ps_set (i := 5) sc_law_size.nd rfl (by first | exact Or.inl rfl | exact Or.inr rfl) (pe_op op_mod (pe_callTy call_int1 (by rfl) T.z_int (by decide +kernel) (pa_cons (pv 1) pa_nil)) pe_int))
    (pss_cons (ps_if (pt_cmpR op_eq (pv 3) pe_int (by first | exact nomark _ | rfl))
      (pss_one (ps_ret (pe_ix ix_list (pe_lst (pa_cons (pe_tup (pa_cons pe_int (pa_cons (pe_op op_add pe_int (pv 4)) pa_nil))) (pa_cons (pe_tup (pa_cons (pe_op op_add pe_int (pv 4)) (pa_cons pe_int pa_nil))) pa_nil))) (pe_op op_mod (pe_callTy call_int1 (by rfl) T.z_int (by decide +kernel) (pa_cons (pv 2) pa_nil)) pe_int) (fun _ _ => rfl))))
      pss_nil)
    (pss_cons (ps_if (pt_cmpR op_eq (pv 3) pe_int (by first | exact nomark _ | rfl))
      (pss_one (ps_ret (pe_tup (pa_cons (pe_op op_add pe_int (pe_op op_mod (pe_callTy call_int1 (by rfl) T.z_int (by decide +kernel) (pa_cons (pv 0) pa_nil)) pe_int)) (pa_cons (pe_op op_add pe_int (pe_op op_mod (pe_callTy call_int1 (by rfl) T.z_int (by decide +kernel) (pa_cons (pv 1) pa_nil)) pe_int)) pa_nil)))))
      pss_nil)
    (pss_cons (ps_if (pt_cmpR op_eq (pv 3) pe_int (by first | exact nomark _ | rfl))
      (pss_one (ps_ret (pe_tup (pa_cons (pe_op op_add pe_int (pe_op op_mod (pe_callTy call_int1 (by rfl) T.z_int (by decide +kernel) (pa_cons (pv 0) pa_nil)) pe_int)) (pa_cons (pe_op op_add (pe_op op_fdivB pe_int (pe_op op_add pe_int (pe_op op_mod (pe_callTy call_int1 (by rfl) T.z_int (by decide +kernel) (pa_cons (pv 0) pa_nil)) pe_int))) (pe_op op_mod (pe_callTy call_int1 (by rfl) T.z_int (by decide +kernel) (pa_cons (pv 1) pa_nil)) pe_int)) pa_nil)))))
      pss_nil)
    (pss_cons (ps_if (pt_cmpR op_eq (pv 3) pe_int (by first | exact nomark _ | rfl))
      (pss_cons (ps_set (i := 6) sc_law_size.nd rfl (by first | exact Or.inl rfl | exact Or.inr rfl) (pe_lst (pa_cons (pe_tup (pa_cons pe_int (pa_cons pe_int pa_nil))) (pa_cons (pe_tup (pa_cons pe_int (pa_cons pe_int pa_nil))) (pa_cons (pe_tup (pa_cons pe_int (pa_cons pe_int pa_nil))) (pa_cons (pe_tup (pa_cons pe_int (pa_cons pe_int pa_nil))) (pa_cons (pe_tup (pa_cons pe_int (pa_cons pe_int pa_nil))) (pa_cons (pe_tup (pa_cons pe_int (pa_cons pe_int pa_nil))) (pa_cons (pe_tup (pa_cons pe_int (pa_cons pe_int pa_nil))) (pa_cons (pe_tup (pa_cons pe_int (pa_cons pe_int pa_nil))) (pa_cons (pe_tup (pa_cons pe_int (pa_cons pe_int pa_nil))) (pa_cons (pe_tup (pa_cons pe_int (pa_cons pe_int pa_nil))) (pa_cons (pe_tup (pa_cons pe_int (pa_cons pe_int pa_nil))) pa_nil)))))))))))))
    (pss_cons (ps_set (i := 6) sc_law_size.nd rfl (by first | exact Or.inl rfl | exact Or.inr rfl) (pe_op op_cat (pv 6) (pe_lst (pa_cons (pe_tup (pa_cons pe_int (pa_cons pe_int pa_nil))) (pa_cons (pe_tup (pa_cons pe_int (pa_cons pe_int pa_nil))) (pa_cons (pe_tup (pa_cons pe_int (pa_cons pe_int pa_nil))) (pa_cons (pe_tup (pa_cons pe_int (pa_cons pe_int pa_nil))) (pa_cons (pe_tup (pa_cons pe_int (pa_cons pe_int pa_nil))) (pa_cons (pe_tup (pa_cons pe_int (pa_cons pe_int pa_nil))) (pa_cons (pe_tup (pa_cons pe_int (pa_cons pe_int pa_nil))) (pa_cons (pe_tup (pa_cons pe_int (pa_cons pe_int pa_nil))) (pa_cons (pe_tup (pa_cons pe_int (pa_cons pe_int pa_nil))) (pa_cons (pe_tup (pa_cons pe_int (pa_cons pe_int pa_nil))) (pa_cons (pe_tup (pa_cons pe_int (pa_cons pe_int pa_nil))) pa_nil))))))))))))))
    (pss_cons (ps_set (i := 6) sc_law_size.nd rfl (by first | exact Or.inl rfl | exact Or.inr rfl) (pe_op op_cat (pv 6) (pe_lst (pa_cons (pe_tup (pa_cons pe_int (pa_cons pe_int pa_nil))) (pa_cons (pe_tup (pa_cons pe_int (pa_cons pe_int pa_nil))) pa_nil)))))
    (pss_one (ps_ret (pe_ix ix_list (pv 6) (pe_op op_mod (pe_callTy call_int1 (by rfl) T.z_int (by decide +kernel) (pa_cons (pe_op op_add (pv 0) (pv 1)) pa_nil)) pe_int) (fun _ _ => rfl)))))))
      pss_nil)
    (pss_one (ps_ret (pe_tup (pa_cons (pe_op op_add pe_int (pe_op op_mod (pe_callTy call_int1 (by rfl) T.z_int (by decide +kernel) (pa_cons (pv 0) pa_nil)) pe_int)) (pa_cons (pe_op op_add pe_int (pv 5)) pa_nil)))))))))))), ?_⟩
    walk_at "run"
    all_goals first
      | exact q _ _ _ _ (by walk_at "same") (SqT.of upd_same) (by omega) (by omega) (by omega) (by omega)
      | (have d64 := div64 (x := 1 + c1 % 22) (by omega) (by omega); exact q _ _ _ _ (by walk_at "same") (SqT.of upd_same) (by omega) (by omega) (by omega) (by omega))
      | skip
    · refine atI_go (SqL.of upd_same) (by omega) (by show _ < (2 : Int); omega) fun v hv => ?_
      simp only [List.mem_cons, List.not_mem_nil, or_false] at hv
      rcases hv with rfl | rfl
      all_goals exact q _ _ _ _ (by walk_at "same") (SqT.of (by walk_at "look")) (by omega) (by omega) (by omega) (by omega)
    · refine atI_go (SqL.of upd_same) (by omega) ?_ fun v hv => ?_
      · simp only [List.length_append, List.length_cons, List.length_nil]
        omega
      simp only [List.cons_append, List.nil_append, List.mem_cons, List.not_mem_nil, or_false] at hv
      rcases hv with rfl | rfl | rfl | rfl | rfl | rfl | rfl | rfl | rfl | rfl | rfl | rfl | rfl | rfl | rfl | rfl | rfl | rfl | rfl | rfl | rfl | rfl | rfl | rfl
      all_goals exact q _ _ _ _ (by walk_at "same") (SqT.of (by walk_at "look")) (by decide) (by decide) (by decide) (by decide)

theorem ok_law_same (T : Txt K mg) : FnOk P w K mg base CX0 1 T.a_law_same T.d_law_same P_law_same (sp_law_same K) := by
  refine T.F_law_same.ok sc_law_same (fun vs H Q E h => ?_) (fun cdv A outer s H vs Q E hr h => ?_)
  · obtain ⟨x, rfl, _⟩ := h
    rfl
  · obtain ⟨x, rfl, hx, q⟩ := h
    refine ⟨_, (pss_cons (ps_if (pt_val (pe_callB call_isiV (by rfl) T.z_isinstance (by decide +kernel) (pa_cons (pv 1) (pa_cons (pe_bltn (v := .ty "bool") (by rfl) T.z_bool (by decide +kernel) rfl) pa_nil))))
      (pss_one (ps_ret (pe_and (pe_callB call_isiV (by rfl) T.z_isinstance (by decide +kernel) (pa_cons (pv 0) (pa_cons (pe_bltn (v := .ty "bool") (by rfl) T.z_bool (by decide +kernel) rfl) pa_nil))) (pe_one (pe_cmpR op_eq (pv 0) (pv 1) (by first | exact nomark _ | rfl))))))
      pss_nil)
    (pss_cons (ps_if (pt_val (pe_callB call_isiV (by rfl) T.z_isinstance (by decide +kernel) (pa_cons (pv 1) (pa_cons (pe_bltn (v := .ty "str") (by rfl) T.z_str (by decide +kernel) rfl) pa_nil))))
      (pss_one (ps_ret (pe_and (pe_callB call_isiV (by rfl) T.z_isinstance (by decide +kernel) (pa_cons (pv 0) (pa_cons (pe_bltn (v := .ty "str") (by rfl) T.z_str (by decide +kernel) rfl) pa_nil))) (pe_one (pe_cmpR op_eq (pv 0) (pv 1) (by first | exact nomark _ | rfl))))))
      pss_nil)
    (pss_one (ps_ret (pe_and (pe_callB call_isiV (by rfl) T.z_isinstance (by decide +kernel) (pa_cons (pv 0) (pa_cons (pe_bltn (v := .ty "int") (by rfl) T.z_int (by decide +kernel) rfl) pa_nil))) (pe_and (pe_not (pe_callB call_isiV (by rfl) T.z_isinstance (by decide +kernel) (pa_cons (pv 0) (pa_cons (pe_bltn (v := .ty "bool") (by rfl) T.z_bool (by decide +kernel) rfl) pa_nil)))) (pe_one (pe_cmpR op_eq (pv 0) (pv 1) (by first | exact nomark _ | rfl))))))))), ?_⟩
    rcases hx with ⟨i, rfl⟩ | ⟨z, rfl⟩ | ⟨z, rfl⟩
    all_goals walk_at "run"
    all_goals rw [decide_eq_true rfl]
    all_goals exact q

theorem okR_law_alike (T : Txt K mg) : ∀ n : Nat, FnOk P w K mg base CX0 (n + 2) T.a_law_alike T.d_law_alike P_law_alike (spR_law_alike K n)
  | 0 => ⟨fun _ _ _ _ h => h.elim, fun _ _ _ _ _ _ _ _ _ _ _ _ _ h => h.elim⟩
  | n + 1 => by
    have F' := okR_law_alike T n
    refine FnOk.mono (j := (n + 2) + 1) ?_ (by omega)
    refine T.F_law_alike.ok sc_law_alike (fun vs H Q E h => ?_) (fun cdv A outer s H vs Q E hr h => ?_)
    · obtain ⟨x, y, rfl, _⟩ := h
      rfl
    · obtain ⟨x, y, rfl, ha, q⟩ := h
      refine ⟨_, (pss_cons (ps_if (pt_not (pt_val (pe_callB call_isiR (by rfl) T.z_isinstance (by decide +kernel) (pa_cons (pv 1) (pa_cons (pe_bltn (v := .ty "tuple") (by rfl) T.z_tuple (by decide +kernel) rfl) pa_nil)))))
      (pss_one (ps_ret (pe_call (ok_law_same T) (hr.mono (by omega)) (by rfl) T.g_law_same T.F_law_same.kp (T.b_law_same) .nil pass0 (pa_cons (pv 0) (pa_cons (pv 1) pa_nil)))))
      pss_nil)
    (pss_cons (ps_if (PW.pt (pw_or (pt_not (pt_val (pe_callB call_isiR (by rfl) T.z_isinstance (by decide +kernel) (pa_cons (pv 0) (pa_cons (pe_bltn (v := .ty "tuple") (by rfl) T.z_tuple (by decide +kernel) rfl) pa_nil))))) (pw_or1 (pt_cmpR op_ne (pe_callB call_len_seq (by rfl) T.z_len (by decide +kernel) (pa_cons (pv 0) pa_nil)) (pe_callB call_len_seq (by rfl) T.z_len (by decide +kernel) (pa_cons (pv 1) pa_nil)) (by first | exact nomark _ | rfl)))))
      (pss_one (ps_ret pe_bl))
      pss_nil)
    (pss_cons (ps_for PassesOwn.never rfl (pi_range1 (by rfl) T.z_range (pa_cons (pe_callB call_len_seq (by rfl) T.z_len (by decide +kernel) (pa_cons (pv 1) pa_nil)) pa_nil)) (pg_name (i := 2) sc_law_alike.nd rfl (by first | exact Or.inl rfl | exact Or.inr rfl))
      (pss_one (ps_if (pt_not (pt_val (pe_call F' (hr.mono (by omega)) (by rfl) T.g_law_alike T.F_law_alike.kp (T.b_law_alike) .nil pass0 (pa_cons (pe_ix ix_tup (pv 0) (pv 2) (fun _ _ => rfl)) (pa_cons (pe_ix ix_tup (pv 1) (pv 2) (fun _ _ => rfl)) pa_nil)))))
      (pss_one (ps_ret pe_bl))
      pss_nil)))
    (pss_one (ps_ret pe_bl))))), ?_⟩
      rcases ha with ⟨hf, rfl⟩ | ⟨p1, p2, xs, ys, rfl, rfl, hx, hy, ⟨hl, hl2⟩, hk⟩
      · rcases hf with ⟨i, rfl⟩ | ⟨z, rfl⟩ | ⟨z, rfl⟩
        all_goals walk_at "run"
        all_goals exact q
      · walk_at "run"
        · omega
        refine for_range (lo := 0) (n := (ys.length : Int).toNat) (fun i σ H' => H' = H ∧ ∃ u, σ = [some (.ref p1), some (.ref p2), u]) ⟨rfl, none, rfl⟩ (fun i σ H' hi hp => ?_) (fun σ H' hp => ?_)
        · obtain ⟨rfl, u, rfl⟩ := hp
          have i1 : i < ys.length := by omega
          have i2 : i < xs.length := by omega
          have e1 : atI xs (0 + (i : Int)) = some xs[i] := atI_at (by omega) (List.getElem?_eq_getElem i2)
          have e2 : atI ys (0 + (i : Int)) = some ys[i] := atI_at (by omega) (List.getElem?_eq_getElem i1)
          have ak := hk i _ _ (List.getElem?_eq_getElem i2) (List.getElem?_eq_getElem i1)
          cases n with
          | zero => exact False.elim ak
          | succ n =>
            walk_at "run"
            all_goals exact ⟨_, rfl⟩
        · obtain ⟨rfl, u, rfl⟩ := hp
          exact q
theorem ok_law_alike (T : Txt K mg) : FnOk P w K mg base CX0 6 T.a_law_alike T.d_law_alike P_law_alike (sp_law_alike K) := okR_law_alike T 4

theorem ok_law_due (T : Txt K mg) : FnOk P w K mg base CX0 1 T.a_law_due T.d_law_due P_law_due (sp_law_due K) := by
  refine T.F_law_due.ok sc_law_due (fun vs H Q E h => ?_) (fun cdv A outer s H vs Q E hr h => ?_)
  · obtain ⟨h, w, m, ys, rfl, _⟩ := h
    rfl
  · obtain ⟨h, w, m, ys, rfl, hm, hb, hl, q⟩ := h
    refine ⟨_, (pss_cons (ps_if (pt_cmpR op_eq (pe_op op_mul (pv 0) (pv 1)) pe_int (by first | exact nomark _ | rfl))
      (pss_one (ps_ret (pe_ix ix_seq (pv 2) pe_int (fun _ _ => rfl))))
      pss_nil)
    (pss_cons (ps_if (PW.pt (pw_or (pt_cmpR op_gt (pv 0) pe_int (by first | exact nomark _ | rfl)) (pw_or (pt_cmpR op_gt (pv 1) pe_int (by first | exact nomark _ | rfl)) (pw_or1 (pt_cmpR op_gt (pe_op op_mul (pv 0) (pv 1)) pe_int (by first | exact nomark _ | rfl))))))
      (pss_one (ps_ret (pe_tup (pa_cons pe_str (pa_cons pe_str pa_nil)))))
      pss_nil)
    (pss_one (ps_ret (pe_tup (pa_cons pe_str (pa_cons (pv 0) (pa_cons (pv 1) (pa_cons (pe_callTy call_tuple_of (by rfl) T.z_tuple (by decide +kernel) (pa_cons (pv 2) pa_nil)) pa_nil))))))))), ?_⟩
    obtain ⟨h1, w1, h2, w2⟩ := hb
    obtain ⟨k1, k2, k3⟩ := hw_bounds h1 w1 h2 w2
    obtain ⟨y0, rest, rfl⟩ : ∃ y r, ys = y :: r := by
      cases ys with
      | nil => exact absurd hl (by show ¬ (0 : Int) = _; omega)
      | cons y r => exact ⟨y, r, rfl⟩
    rcases hm with hm | hm
    all_goals walk_at "run"
    all_goals first
      | exact q _ _ (by walk_at "same") (Or.inr (Or.inl ⟨by omega, by omega, _, rfl, SqT.of upd_same⟩))
      | exact q _ _ (by walk_at "same") (Or.inl ⟨by assumption, rfl⟩)
      | exact q _ _ (by walk_at "same") (Or.inr (Or.inr ⟨by omega, by omega, by omega, by omega, _, _, rfl, SqT.of upd_same, same_tk (same_upd (by assumption)) _ _ (SqT.of upd_same)⟩))
      | exact q _ _ (by walk_at "same") (Or.inr (Or.inr ⟨by omega, by omega, by omega, by omega, _, _, rfl, SqT.of upd_same, same_tk (by walk_at "same") _ _ hm⟩))

theorem ok_law_measured (T : Txt K mg) : FnOk P w K mg base CX0 7 T.a_law_measured T.d_law_measured P_law_measured (sp_law_measured K) := by
  refine T.F_law_measured.ok sc_law_measured (fun vs H Q E h => ?_) (fun cdv A outer s H vs Q E hr h => ?_)
  · obtain ⟨v, h, w, m, ys, rfl, _⟩ := h
    rfl
  · obtain ⟨v, h, w, m, ys, rfl, hm, hb, hs, hv, q⟩ := h
    refine ⟨_, (pss_cons (ps_if (PW.pt (pw_or (pt_not (pt_val (pe_call (ok_law_same T) (hr.mono (by decide)) (by rfl) T.g_law_same T.F_law_same.kp (T.b_law_same) .nil pass0 (pa_cons (pe_call (okheight T) (hr.mono (by decide)) (by rfl) T.gheight T.Fheight.kp (T.bheight) .nil pass0 (pa_cons (pv 0) pa_nil)) (pa_cons (pv 1) pa_nil))))) (pw_or1 (pt_not (pt_val (pe_call (ok_law_same T) (hr.mono (by decide)) (by rfl) T.g_law_same T.F_law_same.kp (T.b_law_same) .nil pass0 (pa_cons (pe_call (okwidth T) (hr.mono (by decide)) (by rfl) T.gwidth T.Fwidth.kp (T.bwidth) .nil pass0 (pa_cons (pv 0) pa_nil)) (pa_cons (pv 2) pa_nil))))))))
      (pss_one (ps_ret pe_bl))
      pss_nil)
    (pss_cons (ps_if (PW.pt (pw_or (pt_not (pt_val (pe_call (ok_law_same T) (hr.mono (by decide)) (by rfl) T.g_law_same T.F_law_same.kp (T.b_law_same) .nil pass0 (pa_cons (pe_callK0 (okheight T) (hr.mono (by decide)) (by rfl) T.gheight T.Fheight.kp (kbheight_v T) pass0 (pk_cons (pv 0) pk_nil)) (pa_cons (pv 1) pa_nil))))) (pw_or1 (pt_not (pt_val (pe_call (ok_law_same T) (hr.mono (by decide)) (by rfl) T.g_law_same T.F_law_same.kp (T.b_law_same) .nil pass0 (pa_cons (pe_callK0 (okwidth T) (hr.mono (by decide)) (by rfl) T.gwidth T.Fwidth.kp (kbwidth_v T) pass0 (pk_cons (pv 0) pk_nil)) (pa_cons (pv 2) pa_nil))))))))
      (pss_one (ps_ret pe_bl))
      pss_nil)
    (pss_cons (ps_for PassesOwn.never rfl (pi_range1 (by rfl) T.z_range (pa_cons (pv 1) pa_nil)) (pg_name (i := 4) sc_law_measured.nd rfl (by first | exact Or.inl rfl | exact Or.inr rfl))
      (pss_one (ps_for PassesOwn.never rfl (pi_range1 (by rfl) T.z_range (pa_cons (pv 2) pa_nil)) (pg_name (i := 5) sc_law_measured.nd rfl (by first | exact Or.inl rfl | exact Or.inr rfl))
      (pss_cons (ps_if (pt_not (pt_val (pe_call (ok_law_alike T) (hr.mono (by decide)) (by rfl) T.g_law_alike T.F_law_alike.kp (T.b_law_alike) .nil pass0 (pa_cons (pe_call (okmember T) (hr.mono (by decide)) (by rfl) T.gmember T.Fmember.kp (T.bmember) .nil pass0 (pa_cons (pv 0) (pa_cons (pv 4) (pa_cons (pv 5) pa_nil)))) (pa_cons (pe_ix ix_list (pv 3) (pe_op op_add (pe_op op_mul (pv 4) (pv 2)) (pv 5)) (fun _ _ => rfl)) pa_nil)))))
      (pss_one (ps_ret pe_bl))
      pss_nil)
    (pss_one (ps_if (pt_not (pt_val (pe_call (ok_law_alike T) (hr.mono (by decide)) (by rfl) T.g_law_alike T.F_law_alike.kp (T.b_law_alike) .nil pass0 (pa_cons (pe_callK0 (okmember T) (hr.mono (by decide)) (by rfl) T.gmember T.Fmember.kp (kbmember_j_i_v T) pass0 (pk_cons (pv 5) (pk_cons (pv 4) (pk_cons (pv 0) pk_nil)))) (pa_cons (pe_ix ix_list (pv 3) (pe_op op_add (pe_op op_mul (pv 4) (pv 2)) (pv 5)) (fun _ _ => rfl)) pa_nil)))))
      (pss_one (ps_ret pe_bl))
      pss_nil))))))
    (pss_one (ps_ret pe_bl))))), ?_⟩
    obtain ⟨hb1, hb3, hb4, hb5⟩ := hb
    rcases hv with ⟨p, b, rfl, hp, hb2, e⟩ | ⟨hv, rfl, rfl, rest, rfl⟩
    · walk_at "run"
      refine for_range (lo := 0) (n := h.toNat) (fun i σ H' => H' = H ∧ ∃ u1 u2, σ = [some (.ref p), some (.int h), some (.int w), some (.ref m), u1, u2]) ⟨rfl, none, none, rfl⟩ (fun i σ H' hi hp => ?_) (fun σ H' hp => ?_)
      · obtain ⟨rfl, u1, u2, rfl⟩ := hp
        walk_at "run"
        refine for_range (lo := 0) (n := w.toNat) (fun j σ H1 => H1 = H' ∧ ∃ u2, σ = [some (.ref p), some (.int h), some (.int w), some (.ref m), some (.int (0 + (i : Int))), u2]) ⟨rfl, u2, rfl⟩ (fun j σ H1 hj hp => ?_) (fun σ H1 hp => ?_)
        · obtain ⟨rfl, u2, rfl⟩ := hp
          obtain ⟨a0, a1⟩ := at_bounds (h := h) (w := w) (i := 0 + (i : Int)) (j := 0 + (j : Int)) (by omega) (by omega) (by omega) (by omega)
          obtain ⟨x, hx, ex⟩ := atI_some (xs := ys) a0 (by rw [e]; exact a1)
          have sx := hs x hx
          walk_at "run"
          all_goals exact ⟨_, rfl⟩
        · obtain ⟨rfl, u2, rfl⟩ := hp
          exact ⟨rfl, _, _, rfl⟩
      · obtain ⟨rfl, u1, u2, rfl⟩ := hp
        exact q
    · walk_at "run"
      refine for_range (lo := 0) (n := (1 : Int).toNat) (fun i σ H' => H' = H ∧ ∃ u1 u2, σ = [some (v), some (.int (1 : Int)), some (.int (1 : Int)), some (.ref m), u1, u2]) ⟨rfl, none, none, rfl⟩ (fun i σ H' hi hp => ?_) (fun σ H' hp => ?_)
      · obtain ⟨rfl, u1, u2, rfl⟩ := hp
        walk_at "run"
        refine for_range (lo := 0) (n := (1 : Int).toNat) (fun j σ H1 => H1 = H' ∧ ∃ u2, σ = [some (v), some (.int (1 : Int)), some (.int (1 : Int)), some (.ref m), some (.int (0 + (i : Int))), u2]) ⟨rfl, u2, rfl⟩ (fun j σ H1 hj hp => ?_) (fun σ H1 hp => ?_)
        · obtain ⟨rfl, u2, rfl⟩ := hp
          have ex : atI (v :: rest) ((0 + (i : Int)) * 1 + (0 + (j : Int))) = some v := atI_at (n := 0) (by omega) rfl
          walk_at "run"
          all_goals exact ⟨_, rfl⟩
        · obtain ⟨rfl, u2, rfl⟩ := hp
          exact ⟨rfl, _, _, rfl⟩
      · obtain ⟨rfl, u1, u2, rfl⟩ := hp
        exact q

theorem oklaw (T : Txt K mg) : FnOk P w K mg base CX0 8 T.alaw T.dlaw Plaw (splaw K) := by
  refine T.Flaw.ok sclaw (fun vs H Q E h => ?_) (fun cdv A outer s H vs Q E hr h => ?_)
  · obtain ⟨a, ns, rfl, _⟩ := h
    rfl
  · obtain ⟨a, ns, rfl, hS, hl, q⟩ := h
    refine ⟨_, (pss_cons (ps_if (pt_not (pt_val (pe_call (ok_law_alike T) (hr.mono (by decide)) (by rfl) T.g_law_alike T.F_law_alike.kp (T.b_law_alike) .nil pass0 (pa_cons (pe_glob (v := .ref T.o_EMPTY) (by rfl) T.m_EMPTY rfl) (pa_cons (pe_tup (pa_cons pe_str pa_nil)) pa_nil)))))
      (pss_one (ps_ret pe_bl))
      pss_nil)
    (pss_cons (ps_set (i := 1) sclaw.nd rfl (by first | exact Or.inl rfl | exact Or.inr rfl) (pe_call (ok_law_size T) (hr.mono (by decide)) (by rfl) T.g_law_size T.F_law_size.kp (T.b_law_size) .nil pass0 (pa_cons (pe_call (ok_law_cell T) (hr.mono (by decide)) (by rfl) T.g_law_cell T.F_law_cell.kp (T.b_law_cell) .nil pass0 (pa_cons (pv 0) (pa_cons pe_int pa_nil))) (pa_cons (pe_call (ok_law_cell T) (hr.mono (by decide)) (by rfl) T.g_law_cell T.F_law_cell.kp (T.b_law_cell) .nil pass0 (pa_cons (pv 0) (pa_cons pe_int pa_nil))) (pa_cons (pe_call (ok_law_cell T) (hr.mono (by decide)) (by rfl) T.g_law_cell T.F_law_cell.kp (T.b_law_cell) .nil pass0 (pa_cons (pv 0) (pa_cons pe_int pa_nil))) pa_nil)))))
    (pss_cons (ps_set (i := 2) sclaw.nd rfl (by first | exact Or.inl rfl | exact Or.inr rfl) (pe_ix ix_tup (pv 1) pe_int (fun _ _ => rfl)))
    (pss_cons (ps_set (i := 3) sclaw.nd rfl (by first | exact Or.inl rfl | exact Or.inr rfl) (pe_ix ix_tup (pv 1) pe_int (fun _ _ => rfl)))
    (pss_cons (ps_set (i := 4) sclaw.nd rfl (by first | exact Or.inl rfl | exact Or.inr rfl) (pe_lst (pa_cons (pe_callB (call_max2 rfl) (by rfl) T.z_max (by decide +kernel) (pa_cons pe_int (pa_cons (pe_op op_sub (pe_call (ok_law_cell T) (hr.mono (by decide)) (by rfl) T.g_law_cell T.F_law_cell.kp (T.b_law_cell) .nil pass0 (pa_cons (pv 0) (pa_cons pe_int pa_nil))) (pe_powc (c := 1000000000000000000) (by decide) (by decide +kernel))) pa_nil))) (pa_cons pe_int (pa_cons (pe_call (ok_law_cell T) (hr.mono (by decide)) (by rfl) T.g_law_cell T.F_law_cell.kp (T.b_law_cell) .nil pass0 (pa_cons (pv 0) (pa_cons pe_int pa_nil))) pa_nil)))))
    (pss_cons (ps_set (i := 5) sclaw.nd rfl (by first | exact Or.inl rfl | exact Or.inr rfl) (pe_lc (own := [("k", 6)]) (g := gName 6) (tt := tYes) rfl sclaw.nd (pi_range1 (by rfl) T.z_range (pa_cons (pe_callB (call_min2 rfl) (by rfl) T.z_min (by decide +kernel) (pa_cons pe_int (pa_cons (pe_op op_mul (pv 2) (pv 3)) pa_nil))) pa_nil)) (blkOk_by (N := Nlaw) (sc := defScope slaw) (by decide +kernel)) (fun _ _ _ _ _ => pg_name (i := 6) sclaw.nd rfl (Or.inl rfl)) (fun _ _ _ _ _ => pts_nil) (fun _ _ _ _ _ => (pe_call (ok_law_scalar T) (hr.mono (by decide)) (by rfl) T.g_law_scalar T.F_law_scalar.kp (T.b_law_scalar) .nil pass0 (pa_cons (pv 4) pa_nil)))))
    (pss_cons (ps_setLc (i := 7) (own := [("k", 6)]) (g := gName 6) (tt := tYes) rfl sclaw.nd rfl rfl (sw_true rfl rfl rfl (by decide +kernel)) (pi_range1 (by rfl) T.z_range (pa_cons (pe_op op_mul (pv 2) (pv 3)) pa_nil)) (blkOk_by (N := Nlaw) (sc := defScope slaw) (by decide +kernel)) (fun _ _ _ _ _ => pg_name (i := 6) sclaw.nd rfl (Or.inl rfl)) (fun _ _ _ _ _ => pts_nil) (fun _ _ _ _ _ => (pe_ix (ix_listK rfl) (pv 5) (pe_op op_mul (pv 6) (pe_callTy call_int1 (by rfl) T.z_int (by decide +kernel) (pa_cons (pe_cmpR op_lt (pv 6) (pe_callB (call_len_seqK rfl) (by rfl) T.z_len (by decide +kernel) (pa_cons (pv 5) pa_nil)) (by first | exact nomark _ | rfl)) pa_nil))) (fun _ _ => rfl))))
    (pss_cons (ps_set (i := 8) sclaw.nd rfl (by first | exact Or.inl rfl | exact Or.inr rfl) (pe_call (ok_law_due T) (hr.mono (by decide)) (by rfl) T.g_law_due T.F_law_due.kp (T.b_law_due) .nil pass0 (pa_cons (pv 2) (pa_cons (pv 3) (pa_cons (pv 7) pa_nil)))))
    (pss_cons (ps_set (i := 9) sclaw.nd rfl (by first | exact Or.inl rfl | exact Or.inr rfl) (pe_callTy call_list_of (by rfl) T.z_list (by decide +kernel) (pa_cons (pv 7) pa_nil)))
    (pss_cons (ps_set (i := 10) sclaw.nd rfl (by first | exact Or.inl rfl | exact Or.inr rfl) (pe_call (okarray T) (hr.mono (by decide)) (by rfl) T.garray T.Farray.kp (T.barray) .nil pass0 (pa_cons (pv 2) (pa_cons (pv 3) (pa_cons (pv 9) pa_nil)))))
    (pss_cons (ps_if (PW.pt (pw_or (pt_not (pt_val (pe_call (ok_law_alike T) (hr.mono (by decide)) (by rfl) T.g_law_alike T.F_law_alike.kp (T.b_law_alike) .nil pass0 (pa_cons (pe_callTy call_tuple_of (by rfl) T.z_tuple (by decide +kernel) (pa_cons (pv 9) pa_nil)) (pa_cons (pe_callTy call_tuple_of (by rfl) T.z_tuple (by decide +kernel) (pa_cons (pv 7) pa_nil)) pa_nil))))) (pw_or1 (pt_not (pt_val (pe_callB call_isiR (by rfl) T.z_isinstance (by decide +kernel) (pa_cons (pv 9) (pa_cons (pe_bltn (v := .ty "list") (by rfl) T.z_list (by decide +kernel) rfl) pa_nil))))))))
      (pss_one (ps_ret pe_bl))
      pss_nil)
    (pss_cons (ps_asg (pe_tup (pa_cons pe_str (pa_cons pe_str pa_nil))) (pg_sub (pv 9) pe_int set_list))
    (pss_cons (ps_expr (pe_bm PySem.F.plainAttrs_list PySem.F.slot_list_append PySem.F.type_list_append mt_append (pv 9) (pa_cons (pe_tup (pa_cons pe_str (pa_cons pe_bl pa_nil))) pa_nil)))
    (pss_cons (ps_if (PW.pt (pw_or (pt_not (pt_val (pe_call (ok_law_alike T) (hr.mono (by decide)) (by rfl) T.g_law_alike T.F_law_alike.kp (T.b_law_alike) .nil pass0 (pa_cons (pv 10) (pa_cons (pv 8) pa_nil))))) (pw_or1 (pt_not (pt_val (pe_call (ok_law_alike T) (hr.mono (by decide)) (by rfl) T.g_law_alike T.F_law_alike.kp (T.b_law_alike) .nil pass0 (pa_cons (pe_call (okarray T) (hr.mono (by decide)) (by rfl) T.garray T.Farray.kp (T.barray) .nil pass0 (pa_cons (pv 2) (pa_cons (pv 3) (pa_cons (pe_callTy call_tuple_of (by rfl) T.z_tuple (by decide +kernel) (pa_cons (pv 7) pa_nil)) pa_nil)))) (pa_cons (pv 8) pa_nil))))))))
      (pss_one (ps_ret pe_bl))
      pss_nil)
    (pss_cons (ps_if (pt_not (pt_val (pe_call (ok_law_alike T) (hr.mono (by decide)) (by rfl) T.g_law_alike T.F_law_alike.kp (T.b_law_alike) .nil pass0 (pa_cons (pe_callK0 (okarray T) (hr.mono (by decide)) (by rfl) T.garray T.Farray.kp (kbarray_members_w_h T) pass0 (pk_cons (pe_slice sl_list (pv 9) po_none (po_some (pe_op op_mul (pv 2) (pv 3)))) (pk_cons (pv 3) (pk_cons (pv 2) pk_nil)))) (pa_cons (pe_call (ok_law_due T) (hr.mono (by decide)) (by rfl) T.g_law_due T.F_law_due.kp (T.b_law_due) .nil pass0 (pa_cons (pv 2) (pa_cons (pv 3) (pa_cons (pe_slice sl_list (pv 9) po_none (po_some (pe_op op_mul (pv 2) (pv 3)))) pa_nil)))) pa_nil)))))
      (pss_one (ps_ret pe_bl))
      pss_nil)
    (pss_cons (ps_if (pt_cmpR op_eq (pe_ix ix_tup (pv 8) pe_int (fun _ _ => rfl)) pe_str (by first | exact nomark _ | rfl))
      (pss_one (ps_ret (pe_call (ok_law_measured T) (hr.mono (by decide)) (by rfl) T.g_law_measured T.F_law_measured.kp (T.b_law_measured) .nil pass0 (pa_cons (pv 8) (pa_cons (pv 2) (pa_cons (pv 3) (pa_cons (pv 7) pa_nil)))))))
      pss_nil)
    (pss_one (ps_ret (pe_and (pe_call (ok_law_measured T) (hr.mono (by decide)) (by rfl) T.g_law_measured T.F_law_measured.kp (T.b_law_measured) .nil pass0 (pa_cons (pv 8) (pa_cons pe_int (pa_cons pe_int (pa_cons (pe_lst (pa_cons (pv 8) pa_nil)) pa_nil))))) (pe_one (pe_call (ok_law_measured T) (hr.mono (by decide)) (by rfl) T.g_law_measured T.F_law_measured.kp (T.b_law_measured) .nil pass0 (pa_cons (pe_ix ix_list (pv 7) pe_int (fun _ _ => rfl)) (pa_cons pe_int (pa_cons pe_int (pa_cons (pv 7) pa_nil))))))))))))))))))))))))), ?_⟩
    walk_at "run"
    refine ⟨Al.tup (by decide) (T.q_EMPTY _) (SqT.of upd_same) (fun y hy => ?_), ?_⟩
    · rcases List.mem_cons.mp hy with rfl | hy
      · exact Al.flat (Or.inr (Or.inl ⟨_, rfl⟩))
      · cases hy
    walk_at "run"
    rename_i p0 hp0
    have hS1 := Same.seq (same_upd (o := .tup [.str "empty"]) hp0) hS
    refine ⟨_, ns, 0, rfl, hS1, ?_⟩
    refine ⟨_, rfl, _, ns, 1, rfl, hS1, ?_⟩
    refine ⟨_, rfl, _, ns, 2, rfl, hS1, ?_⟩
    refine ⟨_, _, _, rfl, fun p h w H1 s1 hp h1 w1 h2 w2 => ?_⟩
    have hS2 := Same.seq s1 hS1
    walk_at "run"
    refine ⟨_, ns, 3, rfl, hS2, ?_⟩
    walk_at "run"
    refine ⟨_, ns, 3, rfl, hS2, ?_⟩
    obtain ⟨k1, k2, k3⟩ := hw_bounds h1 w1 h2 w2
    walk_at "run"
    rename_i b hb0 D hD
    have hbat := (⟨_, _, _, upd_same⟩ : BoxAt b (upd H1 b (.lst [V.int (if ns.getD 3 0 - 1000000000000000000 > 0 then ns.getD 3 0 - 1000000000000000000 else 0), V.int 0, V.int (ns.getD 3 0)])))
    obtain ⟨hD0, hne⟩ := (Bx.refl hbat).back hbat hD
    refine lc_range (lo := 0) (n := _) (fun i H' => Bx b (upd H1 b (.lst [V.int (if ns.getD 3 0 - 1000000000000000000 > 0 then ns.getD 3 0 - 1000000000000000000 else 0), V.int 0, V.int (ns.getD 3 0)])) H' ∧ ∃ xs, H' D = some (.lst xs) ∧ xs.length = i ∧ ∀ x ∈ xs, Sca K H' x) ⟨(Bx.refl hbat).new hD, [], upd_same, rfl, fun _ h => nomatch h⟩ (fun i H' hi hp => ?_) (fun H2 hp2 => ?_)
    · obtain ⟨bx, xs, hxs, hxl, hsc⟩ := hp
      walk_at "run"
      rename_i y H4 b4
      intro s4
      have hd4 := b4.1 _ _ (Ne.symm hne) hxs
      refine ⟨xs, hd4, small1000 (by omega), (bx.trans b4).more hD0 hne, xs ++ [y], upd_same, ?_, fun x hx => ?_⟩
      · rw [List.length_append, hxl]
        rfl
      · rcases List.mem_append.mp hx with hx | hx
        · exact ((hsc x hx).keep (b4.tk bx.2)).keep (lst_tk hd4)
        · rcases List.mem_cons.mp hx with rfl | hx
          · exact s4.keep (lst_tk hd4)
          · cases hx
    obtain ⟨bx2, xs, hxs, hxl, hsc⟩ := hp2
    walk_at "run"
    rename_i D2 hD2
    refine lc_range (lo := 0) (n := _) (fun i H' => Same H2 H' ∧ ∃ ys, H' D2 = some (.lst ys) ∧ ys.length = i ∧ ∀ y ∈ ys, y ∈ xs) ⟨same_upd hD2, [], upd_same, rfl, fun _ h => nomatch h⟩ (fun i H' hi hp => ?_) (fun H3 hp3 => ?_)
    · obtain ⟨s2, ys, hys, hyl, hyx⟩ := hp
      have hx2 : SqL K H' D xs := SqL.of (s2 _ _ hxs)
      walk_at "run"
      refine Or.inr ⟨_, rfl, ?_⟩
      walk_at "run"
      refine atI_go hx2 ?_ ?_ fun x hx => ?_
      · simp only [decide_eq_true_eq]
        split <;> omega
      · simp only [decide_eq_true_eq]
        split <;> omega
      refine ⟨ys, hys, Nat.lt_of_le_of_lt (show ys.length ≤ 5000 by omega) (by decide), same_put s2 hD2, ys ++ [x], upd_same, ?_, fun y hy => ?_⟩
      · rw [List.length_append, hyl]
        rfl
      · rcases List.mem_append.mp hy with hy | hy
        · exact hyx y hy
        · rcases List.mem_cons.mp hy with rfl | hy
          · exact hx
          · cases hy
    obtain ⟨s3, ys, hys, hyl, hyx⟩ := hp3
    have hsc3 : ∀ y ∈ ys, Sca K H3 y := fun y hy => (hsc y (hyx y hy)).keep (same_tk s3)
    walk_at "run"
    clear hp hS hS1 hS2 hD hbat hD0 bx2 hb0 hp0 hD2 hsc hyx
    refine ⟨_, _, _, _, rfl, Or.inl (SqL.of hys), ⟨h1, w1, h2, w2⟩, by omega, fun u H4 s4 m4 => ?_⟩
    have y4 : SqL K H4 D2 ys := SqL.of (s4 _ _ hys)
    have sc4 : ∀ y ∈ ys, Sca K H4 y := fun y hy => (hsc3 y hy).keep (same_tk s4)
    walk_at "run"
    intro l hl0
    walk_at "run"
    refine ⟨_, _, _, _, rfl, Or.inl (SqL.of upd_same), ⟨h1, w1, h2, w2⟩, by omega, fun v H6 s6 m6 => ?_⟩
    have l6 : SqL K H6 l ys := SqL.of (s6 _ _ upd_same)
    have y6 : SqL K H6 D2 ys := SqL.of (s6 _ _ ((same_upd hl0) _ _ (s4 _ _ hys)))
    have sc6 : ∀ y ∈ ys, Sca K H6 y := fun y hy => ((sc4 y hy).keep (same_tk (same_upd hl0))).keep (same_tk s6)
    walk_at "run"
    rename_i p1 hp1
    refine ⟨_, _, rfl, Or.inl ⟨(same_upd hp1).seq y6, fun p2 hp2 => ?_⟩⟩
    have s7 := (same_upd (o := .tup ys) hp1).trans (same_upd (o := .tup ys) hp2)
    refine ⟨_, _, rfl, Al.tup (by omega) (SqT.of ((same_upd hp2) _ _ upd_same)) (SqT.of upd_same) (fun y hy => ((sc6 y hy).keep (same_tk s7)).al 1), ?_⟩
    generalize upd (upd H6 p1 (.tup ys)) p2 (.tup ys) = H7 at s7 ⊢
    have l7 : H7 l = some (.lst ys) := s7 _ _ (s6 _ _ upd_same)
    have d7 : H7 D2 = some (.lst ys) := s7 _ _ (s6 _ _ ((same_upd hl0) _ _ (s4 _ _ hys)))
    have lq7 : SqL K H7 l ys := SqL.of l7
    have hDl : D2 ≠ l := ne_of_none (s4 _ _ hys) hl0
    have t47 : TK K H4 H7 := same_tk (((same_upd hl0).trans s6).trans s7)
    have t67 : TK K H6 H7 := same_tk s7
    have sc7 : ∀ y ∈ ys, Sca K H7 y := fun y hy => (sc6 y hy).keep t67
    clear s7
    walk_at "run"
    rename_i p3 hp3
    have l8 : (upd H7 p3 (.tup [.str "error", .str "NA"])) l = some (.lst ys) := (same_upd hp3) _ _ l7
    refine ⟨_, _, _, 0, rfl, rfl, l8, by unfold ixN; rw [if_pos (by decide), if_pos (by omega)]; rfl, ?_⟩
    have s9 : Sca K (upd (upd H7 p3 (.tup [.str "error", .str "NA"])) l (.lst (ys.set 0 (.ref p3)))) (.ref p3) := (sca2 (by decide +kernel) (Or.inr (Or.inl ⟨_, rfl⟩))).keep (lst_tk l8)
    have t79 : TK K H7 (upd (upd H7 p3 (.tup [.str "error", .str "NA"])) l (.lst (ys.set 0 (.ref p3)))) := (same_tk (same_upd hp3)).trans (lst_tk l8)
    have d9 : (upd (upd H7 p3 (.tup [.str "error", .str "NA"])) l (.lst (ys.set 0 (.ref p3)))) D2 = some (.lst ys) := by
      rw [upd_ne hDl]
      exact (same_upd hp3) _ _ d7
    have l9 : (upd (upd H7 p3 (.tup [.str "error", .str "NA"])) l (.lst (ys.set 0 (.ref p3)))) l = some (.lst (ys.set 0 (.ref p3))) := upd_same
    generalize upd (upd H7 p3 (.tup [.str "error", .str "NA"])) l (.lst (ys.set 0 (.ref p3))) = H9 at s9 t79 d9 l9 ⊢
    walk_at "run"
    refine ⟨.inl ⟨rfl, _, SqL.of l9⟩, ?_⟩
    walk_at "run"
    rename_i p4 hp4
    have l10 : (upd H9 p4 (.tup [.str "truth", .bl true])) l = some (.lst (ys.set 0 (.ref p3))) := (same_upd hp4) _ _ l9
    have hlen : (ys.set 0 (.ref p3)).length = ys.length := List.length_set
    refine ⟨_, _, _, rfl, rfl, l10, Nat.lt_of_le_of_lt (show (ys.set 0 (.ref p3)).length ≤ 5000 by omega) (by decide), ?_⟩
    have t911 : TK K H9 (upd (upd H9 p4 (.tup [.str "truth", .bl true])) l (.lst (ys.set 0 (.ref p3) ++ [.ref p4]))) := (same_tk (same_upd hp4)).trans (lst_tk l10)
    have d11 : (upd (upd H9 p4 (.tup [.str "truth", .bl true])) l (.lst (ys.set 0 (.ref p3) ++ [.ref p4]))) D2 = some (.lst ys) := by
      rw [upd_ne hDl]
      exact (same_upd hp4) _ _ d9
    have l11 : (upd (upd H9 p4 (.tup [.str "truth", .bl true])) l (.lst (ys.set 0 (.ref p3) ++ [.ref p4]))) l = some (.lst (ys.set 0 (.ref p3) ++ [.ref p4])) := upd_same
    generalize upd (upd H9 p4 (.tup [.str "truth", .bl true])) l (.lst (ys.set 0 (.ref p3) ++ [.ref p4])) = H11 at t911 d11 l11 ⊢
    have t411 := (t47.trans t79).trans t911
    have t611 := (t67.trans t79).trans t911
    have sc11 : ∀ y ∈ ys, Sca K H11 y := fun y hy => (sc7 y hy).keep (t79.trans t911)
    have s11 := s9.keep t911
    have u11 := m4.keep t411
    have dq11 : SqL K H11 D2 ys := SqL.of d11
    have a1 := Made.al (by omega) sc11 (m6.keep t611) u11
    walk_at "run"
    rename_i p5 hp5
    refine ⟨_, _, _, _, rfl, Or.inr (SqT.of upd_same), ⟨h1, w1, h2, w2⟩, by omega, fun v2 H13 s13 m13 => ?_⟩
    have t13 : TK K H11 H13 := (same_tk (same_upd hp5)).trans (same_tk s13)
    have l13 : H13 l = some (.lst (ys.set 0 (.ref p3) ++ [.ref p4])) := s13 _ _ ((same_upd hp5) _ _ l11)
    have d13 : H13 D2 = some (.lst ys) := s13 _ _ ((same_upd hp5) _ _ d11)
    have lq13 : SqL K H13 l (ys.set 0 (.ref p3) ++ [.ref p4]) := SqL.of l13
    have sc13 : ∀ y ∈ ys, Sca K H13 y := fun y hy => (sc11 y hy).keep t13
    have sp13 := s11.keep t13
    have u13 := u11.keep t13
    have a2 := Made.al (by omega) sc13 m13 u13
    walk_at "run"
    have ec := cut_pre (zs := ys.set 0 (.ref p3)) (x := .ref p4) (k := h * w) (by omega)
    refine ⟨_, _, rfl, lq13, fun p6 hp6 => ?_⟩
    rw [ec]
    walk_at "run"
    refine ⟨_, _, _, _, rfl, Or.inl (SqL.of upd_same), ⟨h1, w1, h2, w2⟩, by omega, fun v3 H15 s15 m15 => ?_⟩
    have t15 : TK K H13 H15 := (same_tk (same_upd hp6)).trans (same_tk s15)
    have l15 : H15 l = some (.lst (ys.set 0 (.ref p3) ++ [.ref p4])) := s15 _ _ ((same_upd hp6) _ _ l13)
    have d15 : H15 D2 = some (.lst ys) := s15 _ _ ((same_upd hp6) _ _ d13)
    have lq15 : SqL K H15 l (ys.set 0 (.ref p3) ++ [.ref p4]) := SqL.of l15
    walk_at "run"
    refine ⟨_, _, rfl, lq15, fun p7 hp7 => ?_⟩
    rw [ec]
    walk_at "run"
    refine ⟨_, _, _, _, rfl, Or.inl (SqL.of upd_same), ⟨h1, w1, h2, w2⟩, by omega, fun u3 H17 s17 m17 => ?_⟩
    have t1517 : TK K H15 H17 := (same_tk (same_upd hp7)).trans (same_tk s17)
    have t17 := t15.trans t1517
    have d17 : H17 D2 = some (.lst ys) := s17 _ _ ((same_upd hp7) _ _ d15)
    have sc17 : ∀ y ∈ ys, Sca K H17 y := fun y hy => (sc13 y hy).keep t17
    have zs17 : ∀ y ∈ ys.set 0 (.ref p3), Sca K H17 y := fun y hy => by
      rcases List.mem_or_eq_of_mem_set hy with hy | rfl
      · exact sc17 y hy
      · exact sp13.keep t17
    have a3 := Made.al (by omega) zs17 (m15.keep t1517) m17
    have dq17 : SqL K H17 D2 ys := SqL.of d17
    walk_at "run"
    have u17 := u13.keep t17
    obtain ⟨y0, rest, rfl⟩ : ∃ y r, ys = y :: r := by
      cases ys with
      | nil => exact absurd hyl (by show ¬ (0 : Nat) = _; omega)
      | cons y r => exact ⟨y, r, rfl⟩
    have sy0 := sc17 y0 (List.mem_cons_self ..)
    clear a1 a2 a3 m4 m6 m13 m15 m17 u11 u13 y4 y6 l6 lq7 lq13 lq15 dq11
    walk_at "run"
    have su : Sca K H17 u ∨ ∃ p q, u = .ref p ∧ SqT K H17 p [.str "array", .int h, .int w, .ref q] ∧ SqT K H17 q (y0 :: rest) := by
      rcases u17 with ⟨_, b⟩ | ⟨_, _, p, rfl, c⟩ | ⟨_, _, _, _, p, q, rfl, f, g⟩
      · obtain rfl := Option.some.inj b
        exact Or.inl sy0
      · refine Or.inl ⟨p, _, _, rfl, c, by decide +kernel, by decide, fun y hy => ?_⟩
        rcases List.mem_cons.mp hy with rfl | hy
        · exact Or.inr (Or.inl ⟨_, rfl⟩)
        · cases hy
      · exact Or.inr ⟨p, q, rfl, f, g⟩
    rcases su with su | ⟨pa, qa, rfl, f, g⟩
    · have su2 := su
      obtain ⟨pu, k, ru, rfl, hpu, hk, _, _⟩ := su
      walk_at "run"
      rename_i p8 hp8
      have su8 := su2.keep (same_tk (same_upd (o := .lst [.ref pu]) hp8))
      refine ⟨_, _, _, _, _, rfl, SqL.of upd_same, ⟨by decide, by decide, by decide, by decide⟩, fun y hy => ?_, Or.inr ⟨su8, rfl, rfl, [], rfl⟩, ?_⟩
      · rcases List.mem_cons.mp hy with rfl | hy
        · exact su8
        · cases hy
      have t8 := same_tk (K := K) (same_upd (o := .lst [.ref pu]) hp8)
      walk_at "run"
      have dq := (same_upd (o := .lst [.ref pu]) hp8).seq dq17
      refine ⟨_, _, _, _, rfl, rfl, dq, atI_at (n := 0) rfl rfl, ?_⟩
      walk_at "run"
      exact ⟨_, _, _, _, _, rfl, dq, ⟨by decide, by decide, by decide, by decide⟩, fun y hy => (sc17 y hy).keep t8, Or.inr ⟨sy0.keep t8, rfl, rfl, rest, rfl⟩, q _⟩
    · walk_at "run"
      exact ⟨_, _, _, _, _, rfl, dq17, ⟨h1, w1, h2, w2⟩, sc17, Or.inl ⟨_, _, rfl, f, g, by omega⟩, q _⟩

end
/-! ### the top -/
theorem all_mk {l : PySem.W.OpenLaw} {w : World} {K : PySem.W.Frag} {h : Heap} {mg : Str → Option Value} {fa : Addr} (X : K.In h) (G : h.Ns mainGlobals mg) (hfa : mg "law" = some (.ref fa))
    {od0 an0 : Option Addr} {sl0 : Array (Option Value)} {oc0 kV0 dc0 pm0 cd0 ct0 : Value} {f0 : Addr}
    (a0 : PySem.W.nsIn K mainGlobals "fits" = some (some (.ref f0))) (l0 : K.lookup f0 = some ⟨oc0, od0, .func (PySem.W.fnOf "fits" "fits" (defArgs sfits) (defBody sfits) (defScope sfits) .none kV0 dc0 pm0 an0 cd0 ct0), sl0⟩) (c0 : PySem.W.codeIn K cd0 "fits" = true) (k0 : PySem.W.keepIn K (.ref f0) = true)
    {od1 an1 : Option Addr} {sl1 : Array (Option Value)} {oc1 kV1 dc1 pm1 cd1 ct1 : Value} {f1 : Addr}
    (a1 : PySem.W.nsIn K mainGlobals "array" = some (some (.ref f1))) (l1 : K.lookup f1 = some ⟨oc1, od1, .func (PySem.W.fnOf "array" "array" (defArgs sarray) (defBody sarray) (defScope sarray) .none kV1 dc1 pm1 an1 cd1 ct1), sl1⟩) (c1 : PySem.W.codeIn K cd1 "array" = true) (k1 : PySem.W.keepIn K (.ref f1) = true)
    {od2 an2 : Option Addr} {sl2 : Array (Option Value)} {oc2 kV2 dc2 pm2 cd2 ct2 : Value} {f2 : Addr}
    (a2 : PySem.W.nsIn K mainGlobals "height" = some (some (.ref f2))) (l2 : K.lookup f2 = some ⟨oc2, od2, .func (PySem.W.fnOf "height" "height" (defArgs sheight) (defBody sheight) (defScope sheight) .none kV2 dc2 pm2 an2 cd2 ct2), sl2⟩) (c2 : PySem.W.codeIn K cd2 "height" = true) (k2 : PySem.W.keepIn K (.ref f2) = true)
    {od3 an3 : Option Addr} {sl3 : Array (Option Value)} {oc3 kV3 dc3 pm3 cd3 ct3 : Value} {f3 : Addr}
    (a3 : PySem.W.nsIn K mainGlobals "width" = some (some (.ref f3))) (l3 : K.lookup f3 = some ⟨oc3, od3, .func (PySem.W.fnOf "width" "width" (defArgs swidth) (defBody swidth) (defScope swidth) .none kV3 dc3 pm3 an3 cd3 ct3), sl3⟩) (c3 : PySem.W.codeIn K cd3 "width" = true) (k3 : PySem.W.keepIn K (.ref f3) = true)
    {od4 an4 : Option Addr} {sl4 : Array (Option Value)} {oc4 kV4 dc4 pm4 cd4 ct4 : Value} {f4 : Addr}
    (a4 : PySem.W.nsIn K mainGlobals "member" = some (some (.ref f4))) (l4 : K.lookup f4 = some ⟨oc4, od4, .func (PySem.W.fnOf "member" "member" (defArgs smember) (defBody smember) (defScope smember) .none kV4 dc4 pm4 an4 cd4 ct4), sl4⟩) (c4 : PySem.W.codeIn K cd4 "member" = true) (k4 : PySem.W.keepIn K (.ref f4) = true)
    {od5 an5 : Option Addr} {sl5 : Array (Option Value)} {oc5 kV5 dc5 pm5 cd5 ct5 : Value} {f5 : Addr}
    (a5 : PySem.W.nsIn K mainGlobals "_law_cell" = some (some (.ref f5))) (l5 : K.lookup f5 = some ⟨oc5, od5, .func (PySem.W.fnOf "_law_cell" "_law_cell" (defArgs s_law_cell) (defBody s_law_cell) (defScope s_law_cell) .none kV5 dc5 pm5 an5 cd5 ct5), sl5⟩) (c5 : PySem.W.codeIn K cd5 "_law_cell" = true) (k5 : PySem.W.keepIn K (.ref f5) = true)
    {od6 an6 : Option Addr} {sl6 : Array (Option Value)} {oc6 kV6 dc6 pm6 cd6 ct6 : Value} {f6 : Addr}
    (a6 : PySem.W.nsIn K mainGlobals "_law_mix" = some (some (.ref f6))) (l6 : K.lookup f6 = some ⟨oc6, od6, .func (PySem.W.fnOf "_law_mix" "_law_mix" (defArgs s_law_mix) (defBody s_law_mix) (defScope s_law_mix) .none kV6 dc6 pm6 an6 cd6 ct6), sl6⟩) (c6 : PySem.W.codeIn K cd6 "_law_mix" = true) (k6 : PySem.W.keepIn K (.ref f6) = true)
    {od7 an7 : Option Addr} {sl7 : Array (Option Value)} {oc7 kV7 dc7 pm7 cd7 ct7 : Value} {f7 : Addr}
    (a7 : PySem.W.nsIn K mainGlobals "_law_amount" = some (some (.ref f7))) (l7 : K.lookup f7 = some ⟨oc7, od7, .func (PySem.W.fnOf "_law_amount" "_law_amount" (defArgs s_law_amount) (defBody s_law_amount) (defScope s_law_amount) .none kV7 dc7 pm7 an7 cd7 ct7), sl7⟩) (c7 : PySem.W.codeIn K cd7 "_law_amount" = true) (k7 : PySem.W.keepIn K (.ref f7) = true)
    {od8 an8 : Option Addr} {sl8 : Array (Option Value)} {oc8 kV8 dc8 pm8 cd8 ct8 : Value} {f8 : Addr}
    (a8 : PySem.W.nsIn K mainGlobals "_law_draw" = some (some (.ref f8))) (l8 : K.lookup f8 = some ⟨oc8, od8, .func (PySem.W.fnOf "_law_draw" "_law_draw" (defArgs s_law_draw) (defBody s_law_draw) (defScope s_law_draw) .none kV8 dc8 pm8 an8 cd8 ct8), sl8⟩) (c8 : PySem.W.codeIn K cd8 "_law_draw" = true) (k8 : PySem.W.keepIn K (.ref f8) = true)
    {od9 an9 : Option Addr} {sl9 : Array (Option Value)} {oc9 kV9 dc9 pm9 cd9 ct9 : Value} {f9 : Addr}
    (a9 : PySem.W.nsIn K mainGlobals "_law_text" = some (some (.ref f9))) (l9 : K.lookup f9 = some ⟨oc9, od9, .func (PySem.W.fnOf "_law_text" "_law_text" (defArgs s_law_text) (defBody s_law_text) (defScope s_law_text) .none kV9 dc9 pm9 an9 cd9 ct9), sl9⟩) (c9 : PySem.W.codeIn K cd9 "_law_text" = true) (k9 : PySem.W.keepIn K (.ref f9) = true)
    {od10 an10 : Option Addr} {sl10 : Array (Option Value)} {oc10 kV10 dc10 pm10 cd10 ct10 : Value} {f10 : Addr}
    (a10 : PySem.W.nsIn K mainGlobals "_law_scalar" = some (some (.ref f10))) (l10 : K.lookup f10 = some ⟨oc10, od10, .func (PySem.W.fnOf "_law_scalar" "_law_scalar" (defArgs s_law_scalar) (defBody s_law_scalar) (defScope s_law_scalar) .none kV10 dc10 pm10 an10 cd10 ct10), sl10⟩) (c10 : PySem.W.codeIn K cd10 "_law_scalar" = true) (k10 : PySem.W.keepIn K (.ref f10) = true)
    {od11 an11 : Option Addr} {sl11 : Array (Option Value)} {oc11 kV11 dc11 pm11 cd11 ct11 : Value} {f11 : Addr}
    (a11 : PySem.W.nsIn K mainGlobals "_law_size" = some (some (.ref f11))) (l11 : K.lookup f11 = some ⟨oc11, od11, .func (PySem.W.fnOf "_law_size" "_law_size" (defArgs s_law_size) (defBody s_law_size) (defScope s_law_size) .none kV11 dc11 pm11 an11 cd11 ct11), sl11⟩) (c11 : PySem.W.codeIn K cd11 "_law_size" = true) (k11 : PySem.W.keepIn K (.ref f11) = true)
    {od12 an12 : Option Addr} {sl12 : Array (Option Value)} {oc12 kV12 dc12 pm12 cd12 ct12 : Value} {f12 : Addr}
    (a12 : PySem.W.nsIn K mainGlobals "_law_same" = some (some (.ref f12))) (l12 : K.lookup f12 = some ⟨oc12, od12, .func (PySem.W.fnOf "_law_same" "_law_same" (defArgs s_law_same) (defBody s_law_same) (defScope s_law_same) .none kV12 dc12 pm12 an12 cd12 ct12), sl12⟩) (c12 : PySem.W.codeIn K cd12 "_law_same" = true) (k12 : PySem.W.keepIn K (.ref f12) = true)
    {od13 an13 : Option Addr} {sl13 : Array (Option Value)} {oc13 kV13 dc13 pm13 cd13 ct13 : Value} {f13 : Addr}
    (a13 : PySem.W.nsIn K mainGlobals "_law_alike" = some (some (.ref f13))) (l13 : K.lookup f13 = some ⟨oc13, od13, .func (PySem.W.fnOf "_law_alike" "_law_alike" (defArgs s_law_alike) (defBody s_law_alike) (defScope s_law_alike) .none kV13 dc13 pm13 an13 cd13 ct13), sl13⟩) (c13 : PySem.W.codeIn K cd13 "_law_alike" = true) (k13 : PySem.W.keepIn K (.ref f13) = true)
    {od14 an14 : Option Addr} {sl14 : Array (Option Value)} {oc14 kV14 dc14 pm14 cd14 ct14 : Value} {f14 : Addr}
    (a14 : PySem.W.nsIn K mainGlobals "_law_due" = some (some (.ref f14))) (l14 : K.lookup f14 = some ⟨oc14, od14, .func (PySem.W.fnOf "_law_due" "_law_due" (defArgs s_law_due) (defBody s_law_due) (defScope s_law_due) .none kV14 dc14 pm14 an14 cd14 ct14), sl14⟩) (c14 : PySem.W.codeIn K cd14 "_law_due" = true) (k14 : PySem.W.keepIn K (.ref f14) = true)
    {od15 an15 : Option Addr} {sl15 : Array (Option Value)} {oc15 kV15 dc15 pm15 cd15 ct15 : Value} {f15 : Addr}
    (a15 : PySem.W.nsIn K mainGlobals "_law_measured" = some (some (.ref f15))) (l15 : K.lookup f15 = some ⟨oc15, od15, .func (PySem.W.fnOf "_law_measured" "_law_measured" (defArgs s_law_measured) (defBody s_law_measured) (defScope s_law_measured) .none kV15 dc15 pm15 an15 cd15 ct15), sl15⟩) (c15 : PySem.W.codeIn K cd15 "_law_measured" = true) (k15 : PySem.W.keepIn K (.ref f15) = true)
    {od16 an16 : Option Addr} {sl16 : Array (Option Value)} {oc16 kV16 dc16 pm16 cd16 ct16 : Value} {f16 : Addr}
    (a16 : PySem.W.nsIn K mainGlobals "law" = some (some (.ref f16))) (l16 : K.lookup f16 = some ⟨oc16, od16, .func (PySem.W.fnOf "law" "law" (defArgs slaw) (defBody slaw) (defScope slaw) .none kV16 dc16 pm16 an16 cd16 ct16), sl16⟩) (c16 : PySem.W.codeIn K cd16 "law" = true) (k16 : PySem.W.keepIn K (.ref f16) = true)
    {o_EMPTY : Addr} {od_EMPTY : Option Addr} {n_EMPTY : Nat} {sl_EMPTY : Array (Option Value)} {t0_EMPTY : Tok} (v_EMPTY : PySem.W.nsIn K mainGlobals "EMPTY" = some (some (.ref o_EMPTY))) (u_EMPTY : K.lookup o_EMPTY = some ⟨.type "tuple", od_EMPTY, .seq #[.str "empty" t0_EMPTY] n_EMPTY, sl_EMPTY⟩)
    {t_MOST_MEMBERS : Tok} (v_MOST_MEMBERS : PySem.W.nsIn K mainGlobals "MOST_MEMBERS" = some (some (.int 64 t_MOST_MEMBERS)))
    {t_MOST_ROWS : Tok} (v_MOST_ROWS : PySem.W.nsIn K mainGlobals "MOST_ROWS" = some (some (.int 20 t_MOST_ROWS)))
    {t_MOST_COLUMNS : Tok} (v_MOST_COLUMNS : PySem.W.nsIn K mainGlobals "MOST_COLUMNS" = some (some (.int 20 t_MOST_COLUMNS)))
    (z_bool : PySem.W.nsIn K mainGlobals "bool" = some none)
    (z_int : PySem.W.nsIn K mainGlobals "int" = some none)
    (z_isinstance : PySem.W.nsIn K mainGlobals "isinstance" = some none)
    (z_len : PySem.W.nsIn K mainGlobals "len" = some none)
    (z_list : PySem.W.nsIn K mainGlobals "list" = some none)
    (z_max : PySem.W.nsIn K mainGlobals "max" = some none)
    (z_min : PySem.W.nsIn K mainGlobals "min" = some none)
    (z_range : PySem.W.nsIn K mainGlobals "range" = some none)
    (z_str : PySem.W.nsIn K mainGlobals "str" = some none)
    (z_tuple : PySem.W.nsIn K mainGlobals "tuple" = some none) :
    ∃ fd : FuncData, (∀ (s : Shared) (v : Value), BindsTo s fd ⟨[v], []⟩ [("script", v)]) ∧ ∀ base : Heap, K.In base → base.Ns mainGlobals mg → FnOk l.prog w K mg base CX0 8 fa fd ["script"] (splaw K) := by
  have e := hfa.symm.trans (PySem.W.mg_of X G a16)
  cases e
  have F0 := fun_mk (st := sfits) l0 c0 k0
  have b0 := F0.binds (ps := Pfits) fun _ _ _ _ _ _ us hl => match us, hl with | [_, _], _ => rfl
  have F1 := fun_mk (st := sarray) l1 c1 k1
  have b1 := F1.binds (ps := Parray) fun _ _ _ _ _ _ us hl => match us, hl with | [_, _, _], _ => rfl
  have F2 := fun_mk (st := sheight) l2 c2 k2
  have b2 := F2.binds (ps := Pheight) fun _ _ _ _ _ _ us hl => match us, hl with | [_], _ => rfl
  have F3 := fun_mk (st := swidth) l3 c3 k3
  have b3 := F3.binds (ps := Pwidth) fun _ _ _ _ _ _ us hl => match us, hl with | [_], _ => rfl
  have F4 := fun_mk (st := smember) l4 c4 k4
  have b4 := F4.binds (ps := Pmember) fun _ _ _ _ _ _ us hl => match us, hl with | [_, _, _], _ => rfl
  have F5 := fun_mk (st := s_law_cell) l5 c5 k5
  have b5 := F5.binds (ps := P_law_cell) fun _ _ _ _ _ _ us hl => match us, hl with | [_, _], _ => rfl
  have F6 := fun_mk (st := s_law_mix) l6 c6 k6
  have b6 := F6.binds (ps := P_law_mix) fun _ _ _ _ _ _ us hl => match us, hl with | [_, _], _ => rfl
  have F7 := fun_mk (st := s_law_amount) l7 c7 k7
  have b7 := F7.binds (ps := P_law_amount) fun _ _ _ _ _ _ us hl => match us, hl with | [_, _], _ => rfl
  have F8 := fun_mk (st := s_law_draw) l8 c8 k8
  have b8 := F8.binds (ps := P_law_draw) fun _ _ _ _ _ _ us hl => match us, hl with | [_, _], _ => rfl
  have F9 := fun_mk (st := s_law_text) l9 c9 k9
  have b9 := F9.binds (ps := P_law_text) fun _ _ _ _ _ _ us hl => match us, hl with | [_], _ => rfl
  have F10 := fun_mk (st := s_law_scalar) l10 c10 k10
  have b10 := F10.binds (ps := P_law_scalar) fun _ _ _ _ _ _ us hl => match us, hl with | [_], _ => rfl
  have F11 := fun_mk (st := s_law_size) l11 c11 k11
  have b11 := F11.binds (ps := P_law_size) fun _ _ _ _ _ _ us hl => match us, hl with | [_, _, _], _ => rfl
  have F12 := fun_mk (st := s_law_same) l12 c12 k12
  have b12 := F12.binds (ps := P_law_same) fun _ _ _ _ _ _ us hl => match us, hl with | [_, _], _ => rfl
  have F13 := fun_mk (st := s_law_alike) l13 c13 k13
  have b13 := F13.binds (ps := P_law_alike) fun _ _ _ _ _ _ us hl => match us, hl with | [_, _], _ => rfl
  have F14 := fun_mk (st := s_law_due) l14 c14 k14
  have b14 := F14.binds (ps := P_law_due) fun _ _ _ _ _ _ us hl => match us, hl with | [_, _, _], _ => rfl
  have F15 := fun_mk (st := s_law_measured) l15 c15 k15
  have b15 := F15.binds (ps := P_law_measured) fun _ _ _ _ _ _ us hl => match us, hl with | [_, _, _, _], _ => rfl
  have F16 := fun_mk (st := slaw) l16 c16 k16
  have b16 := F16.binds (ps := Plaw) fun _ _ _ _ _ _ us hl => match us, hl with | [_], _ => rfl
  let T : Txt K mg := { afits := f0, dfits := _, Ffits := F0, gfits := PySem.W.mg_of X G a0, bfits := b0, aarray := f1, darray := _, Farray := F1, garray := PySem.W.mg_of X G a1, barray := b1, aheight := f2, dheight := _, Fheight := F2, gheight := PySem.W.mg_of X G a2, bheight := b2, awidth := f3, dwidth := _, Fwidth := F3, gwidth := PySem.W.mg_of X G a3, bwidth := b3, amember := f4, dmember := _, Fmember := F4, gmember := PySem.W.mg_of X G a4, bmember := b4, a_law_cell := f5, d_law_cell := _, F_law_cell := F5, g_law_cell := PySem.W.mg_of X G a5, b_law_cell := b5, a_law_mix := f6, d_law_mix := _, F_law_mix := F6, g_law_mix := PySem.W.mg_of X G a6, b_law_mix := b6, a_law_amount := f7, d_law_amount := _, F_law_amount := F7, g_law_amount := PySem.W.mg_of X G a7, b_law_amount := b7, a_law_draw := f8, d_law_draw := _, F_law_draw := F8, g_law_draw := PySem.W.mg_of X G a8, b_law_draw := b8, a_law_text := f9, d_law_text := _, F_law_text := F9, g_law_text := PySem.W.mg_of X G a9, b_law_text := b9, a_law_scalar := f10, d_law_scalar := _, F_law_scalar := F10, g_law_scalar := PySem.W.mg_of X G a10, b_law_scalar := b10, a_law_size := f11, d_law_size := _, F_law_size := F11, g_law_size := PySem.W.mg_of X G a11, b_law_size := b11, a_law_same := f12, d_law_same := _, F_law_same := F12, g_law_same := PySem.W.mg_of X G a12, b_law_same := b12, a_law_alike := f13, d_law_alike := _, F_law_alike := F13, g_law_alike := PySem.W.mg_of X G a13, b_law_alike := b13, a_law_due := f14, d_law_due := _, F_law_due := F14, g_law_due := PySem.W.mg_of X G a14, b_law_due := b14, a_law_measured := f15, d_law_measured := _, F_law_measured := F15, g_law_measured := PySem.W.mg_of X G a15, b_law_measured := b15, alaw := fa, dlaw := _, Flaw := F16, glaw := PySem.W.mg_of X G a16, blaw := b16, o_EMPTY := o_EMPTY, m_EMPTY := PySem.W.mg_of X G v_EMPTY, q_EMPTY := fun _ => .inr ⟨_, _, _, u_EMPTY, rfl, rfl, (show 1 ≤ sizeLine by decide), (.cons ⟨_, rfl⟩ .nil)⟩, t_MOST_MEMBERS := t_MOST_MEMBERS, m_MOST_MEMBERS := PySem.W.mg_of X G v_MOST_MEMBERS, t_MOST_ROWS := t_MOST_ROWS, m_MOST_ROWS := PySem.W.mg_of X G v_MOST_ROWS, t_MOST_COLUMNS := t_MOST_COLUMNS, m_MOST_COLUMNS := PySem.W.mg_of X G v_MOST_COLUMNS, z_bool := PySem.W.mg_none_of X G z_bool, z_int := PySem.W.mg_none_of X G z_int, z_isinstance := PySem.W.mg_none_of X G z_isinstance, z_len := PySem.W.mg_none_of X G z_len, z_list := PySem.W.mg_none_of X G z_list, z_max := PySem.W.mg_none_of X G z_max, z_min := PySem.W.mg_none_of X G z_min, z_range := PySem.W.mg_none_of X G z_range, z_str := PySem.W.mg_none_of X G z_str, z_tuple := PySem.W.mg_none_of X G z_tuple }
  exact ⟨T.dlaw, fun s v => .of_eq rfl, fun base _ _ => oklaw T⟩

end Mysheetworks_k09_arrays_made
open PySem PySem.W PyProof.Rows
set_option maxHeartbeats 0 in
theorem PySem.Challenge.cw_sheetworks_k09_arrays_made_holds : PySem.Challenge.rw_sheetworks_k09_arrays_made.Holds := by
  w_on; o_law; k_head; (case hw => w_witness2)
  k_fill
  refine L2.walk_of (l := PySem.Challenge.rw_sheetworks_k09_arrays_made) (n := 63) (k := 8) (x := "script") (CX := fun _ => L2.CX0) (sp := fun w => Mysheetworks_k09_arrays_made.splaw _) rfl (by decide) rfl ⟨rfl, by decide, by decide⟩ (fun w h Y => PySem.W.kIn_of Y) ?F (fun _ _ a ns hl _ hS => ⟨a, ns, rfl, hS, hl, fun _ => rfl⟩) (fun _ _ _ _ _ h => h)
  case F =>
    intro w mg fa h KX G hmg
    refine' Mysheetworks_k09_arrays_made.all_mk KX G hmg ?a0 ?l0 ?c0 ?k0 ?a1 ?l1 ?c1 ?k1 ?a2 ?l2 ?c2 ?k2 ?a3 ?l3 ?c3 ?k3 ?a4 ?l4 ?c4 ?k4 ?a5 ?l5 ?c5 ?k5 ?a6 ?l6 ?c6 ?k6 ?a7 ?l7 ?c7 ?k7 ?a8 ?l8 ?c8 ?k8 ?a9 ?l9 ?c9 ?k9 ?a10 ?l10 ?c10 ?k10 ?a11 ?l11 ?c11 ?k11 ?a12 ?l12 ?c12 ?k12 ?a13 ?l13 ?c13 ?k13 ?a14 ?l14 ?c14 ?k14 ?a15 ?l15 ?c15 ?k15 ?a16 ?l16 ?c16 ?k16 ?v_EMPTY ?u_EMPTY ?v_MOST_MEMBERS ?v_MOST_ROWS ?v_MOST_COLUMNS ?z_bool ?z_int ?z_isinstance ?z_len ?z_list ?z_max ?z_min ?z_range ?z_str ?z_tuple
    (case a0 => k_is); (case l0 => k_is); (case c0 => k_is); (case k0 => k_is); (case a1 => k_is); (case l1 => k_is); (case c1 => k_is); (case k1 => k_is); (case a2 => k_is); (case l2 => k_is); (case c2 => k_is); (case k2 => k_is); (case a3 => k_is); (case l3 => k_is); (case c3 => k_is); (case k3 => k_is); (case a4 => k_is); (case l4 => k_is); (case c4 => k_is); (case k4 => k_is); (case a5 => k_is); (case l5 => k_is); (case c5 => k_is); (case k5 => k_is); (case a6 => k_is); (case l6 => k_is); (case c6 => k_is); (case k6 => k_is); (case a7 => k_is); (case l7 => k_is); (case c7 => k_is); (case k7 => k_is); (case a8 => k_is); (case l8 => k_is); (case c8 => k_is); (case k8 => k_is); (case a9 => k_is); (case l9 => k_is); (case c9 => k_is); (case k9 => k_is); (case a10 => k_is); (case l10 => k_is); (case c10 => k_is); (case k10 => k_is); (case a11 => k_is); (case l11 => k_is); (case c11 => k_is); (case k11 => k_is); (case a12 => k_is); (case l12 => k_is); (case c12 => k_is); (case k12 => k_is); (case a13 => k_is); (case l13 => k_is); (case c13 => k_is); (case k13 => k_is); (case a14 => k_is); (case l14 => k_is); (case c14 => k_is); (case k14 => k_is); (case a15 => k_is); (case l15 => k_is); (case c15 => k_is); (case k15 => k_is); (case a16 => k_is); (case l16 => k_is); (case c16 => k_is); (case k16 => k_is); (case v_EMPTY => k_is); (case u_EMPTY => k_is); (case v_MOST_MEMBERS => k_is); (case v_MOST_ROWS => k_is); (case v_MOST_COLUMNS => k_is); (case z_bool => k_is); (case z_int => k_is); (case z_isinstance => k_is); (case z_len => k_is); (case z_list => k_is); (case z_max => k_is); (case z_min => k_is); (case z_range => k_is); (case z_str => k_is); (case z_tuple => k_is)

