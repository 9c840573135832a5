import PyProof.Rows.All
import Wide.All
import OpenK.AllK
import Wide.FinOn
import HandS.ForMost
import HandS.Gcd
import Flt.RightSqrt
import KE.KMathG
import HandS.IsInst
import HandS.Wide
import HandS.WideBits
import HandS.StrMore
import HandS.FStr
import HandS.EndBits
import PySem.Challenge.RW_sheetworks_k02_half_even
set_option Elab.async false
set_option linter.all false
set_option maxRecDepth 100000
set_option maxHeartbeats 4000000
namespace Mysheetworks_k02_half_even
open PySem PySem.Spec PyProof.Rows L2
def topS (i : Nat) : Stmt := PySem.Challenge.pw_sheetworks_k02_half_even.main.body.getD i (.Pass ⟨0, 0, 0, 0⟩)
abbrev shalf_even : Stmt := topS 1
abbrev Nhalf_even : List Str := ["a", "b", "below", "rest"]
abbrev Phalf_even : List Str := ["a", "b"]
theorem schalf_even : FnScope Nhalf_even Phalf_even (defScope shalf_even) := ⟨rfl, rfl, rfl, by decide +kernel, rfl, by decide +kernel, by decide +kernel⟩
abbrev s_law_cell : Stmt := topS 3
abbrev N_law_cell : List Str := ["script", "k"]
abbrev P_law_cell : List Str := ["script", "k"]
theorem sc_law_cell : FnScope N_law_cell P_law_cell (defScope s_law_cell) := ⟨rfl, rfl, rfl, by decide +kernel, rfl, by decide +kernel, by decide +kernel⟩
abbrev s_law_mix : Stmt := topS 4
abbrev N_law_mix : List Str := ["cell", "salt", "one"]
abbrev P_law_mix : List Str := ["cell", "salt"]
theorem sc_law_mix : FnScope N_law_mix P_law_mix (defScope s_law_mix) := ⟨rfl, rfl, rfl, by decide +kernel, rfl, by decide +kernel, by decide +kernel⟩
abbrev s_law_divisor : Stmt := topS 5
abbrev N_law_divisor : List Str := ["cell", "choice", "one"]
abbrev P_law_divisor : List Str := ["cell"]
theorem sc_law_divisor : FnScope N_law_divisor P_law_divisor (defScope s_law_divisor) := ⟨rfl, rfl, rfl, by decide +kernel, rfl, by decide +kernel, by decide +kernel⟩
abbrev s_law_pair : Stmt := topS 6
abbrev N_law_pair : List Str := ["q", "b", "cell", "mode", "step"]
abbrev P_law_pair : List Str := ["q", "b", "cell"]
theorem sc_law_pair : FnScope N_law_pair P_law_pair (defScope s_law_pair) := ⟨rfl, rfl, rfl, by decide +kernel, rfl, by decide +kernel, by decide +kernel⟩
abbrev s_law_nearest : Stmt := topS 7
abbrev N_law_nearest : List Str := ["a", "b", "whole", "twice"]
abbrev P_law_nearest : List Str := ["a", "b"]
theorem sc_law_nearest : FnScope N_law_nearest P_law_nearest (defScope s_law_nearest) := ⟨rfl, rfl, rfl, by decide +kernel, rfl, by decide +kernel, by decide +kernel⟩
abbrev s_law_is_integer : Stmt := topS 8
abbrev N_law_is_integer : List Str := ["actual", "due"]
abbrev P_law_is_integer : List Str := ["actual", "due"]
theorem sc_law_is_integer : FnScope N_law_is_integer P_law_is_integer (defScope s_law_is_integer) := ⟨rfl, rfl, rfl, by decide +kernel, rfl, by decide +kernel, by decide +kernel⟩
abbrev slaw : Stmt := topS 9
abbrev Nlaw : List Str := ["script", "pair", "a", "b", "due"]
abbrev Plaw : List Str := ["script"]
theorem sclaw : FnScope Nlaw Plaw (defScope slaw) := ⟨rfl, rfl, rfl, by decide +kernel, rfl, by decide +kernel, by decide +kernel⟩

/-! ### own rules -/
theorem pe_powc {X : Cx} {a b c : Int} {j k : Nat} {p q pos : Pos} (hb : 0 ≤ b ∧ b ≤ 1000000 ∧ a.natAbs < 2 ^ 64) (h : a ^ b.toNat = c) : PE X (.BinOp (.Constant (.int a) j p) .Pow (.Constant (.int b) k q) pos) (tC (.int c)) :=
  ⟨fun pins s σ H Q I hq => (pe_op op_pow pe_int pe_int).run pins s σ H Q I ⟨a, b, rfl, rfl, hb, by
    show Q (.int (a ^ b.toNat)) H
    rw [h]
    exact hq⟩⟩
/-- isinstance of a flat value: told by its kind -/
def isiV : V → String → Option Bool
  | .int _, "int" => some true | .bl _, "int" => some true | .str _, "int" => some false | .non, "int" => some false
  | .int _, "bool" => some false | .bl _, "bool" => some true | .str _, "bool" => some false | .non, "bool" => some false
  | .int _, "str" => some false | .bl _, "str" => some false | .str _, "str" => some true | .non, "str" => some false
  | .int _, "tuple" => some false | .bl _, "tuple" => some false | .str _, "tuple" => some false | .non, "tuple" => some false
  | _, _ => none
theorem call_isiV {X : Cx} : CallR X (.builtin "isinstance") (fun xs H Q => ∃ x n b, xs = [x, .ty n] ∧ isiV x n = some b ∧ Q (.bl b) H) := by
  intro pins s σ H xs us Q I r h
  obtain ⟨x, n, b, rfl, e, q⟩ := h
  refine call_isi pins s σ H _ us Q I r ?_
  unfold isiV at e
  split at e
  case h_17 => cases e
  all_goals (cases e)
  all_goals first
    | exact ⟨_, _, .type "int", _, _, rfl, .ty _, .base (.int _), kit_ty (by decide +kernel), q⟩
    | exact ⟨_, _, .type "bool", _, _, rfl, .ty _, .base (.bl _), kit_ty (by decide +kernel), q⟩
    | exact ⟨_, _, .type "str", _, _, rfl, .ty _, .base (.str _), kit_ty (by decide +kernel), q⟩
    | exact ⟨_, _, .type "NoneType", _, _, rfl, .ty _, .base .non, kit_ty (by decide +kernel), q⟩
/-- how a call by keywords alone binds -/
structure KB0 (K : PySem.W.Frag) (fd : FuncData) (ps ks : List Str) (g : List Value → List Value) (gV : List V → List V) : Prop where
  to : ∀ (s : Shared) (ws : List Value), ws.length = ks.length → BindsTo s fd ⟨[], ks.zip ws⟩ (ps.zip (g ws))
  rel : ∀ {zs : List V} {ws : List Value}, Vals zs ws → Vals (gV zs) (g ws)
def tCallK0 (n : Nat) (sp : Sp) (gV : List V → List V) (E : XK) (tk : TA) : TE := fun σ H Q => tk σ H fun zs H2 => zs.length = n ∧ sp (gV zs) H2 Q E
theorem pe_callK0 {X : Cx} {CX : CXT} {k : Nat} {f : Addr} {fd : FuncData} {ps ks : List Str} {sp : Sp} {E : XK} {x : Str} {p pos : Pos} {kws : List Keyword} {tk : TA} {g : List Value → List Value} {gV : List V → List V}
    (F : FnOk X.prog X.w X.K X.mg X.base CX k f fd ps sp) (hr : Room k X.A) (hg : Gl X x) (hm : X.mg x = some (.ref f)) (hk : PySem.W.keepIn X.K (.ref f) = true) (hb : KB0 X.K fd ps ks g gV) (hx : Passes CX X E)
    (hkw : PK X kws tk) (hall : (backToKw pos (keywordEach kws X.env)).all (·.1.isSome) = true := by rfl) (hks : (backToKw pos (keywordEach kws X.env)).filterMap (·.1) = ks := by rfl)
    (hdb : (x == ("__debug__" : Str)) = false := by decide)
    (hpl : ((backTo pos (starEach [] X.env)).any (·.1) || (backToKw pos (keywordEach kws X.env)).any (·.1.isNone)) = false := by rfl) :
    PE X (.Call (.Name x p) [] kws pos) (tCallK0 ks.length sp gV E tk) := by
  refine ⟨fun pins s σ H Q I h => ?_⟩
  refine wpAny_Call_Name_kw (ld_glob I hg hm ?_ hdb)
  refine PySem.W.callWith_KW0 (h₀ := X.base) I.ok.mod.kin hk hall (thn (hkw.run pos pins s σ H _ I h) fun ws s2 ⟨zs, H2, I2, rz, l2, q2⟩ => ⟨I2.kIn, ?_⟩) hpl
  rw [hks]
  have r2 := hb.rel rz
  refine wpAny_call (codeAny_mono (F.run X.A X.stack s2 H2 ⟨[], ks.zip ws⟩ (g ws) (gV zs) Q E hr I2.env0 (hb.to s2 ws (rz.length.symm.trans l2)) r2 q2) fun r s' hq => ?_)
  cases r with
  | error e => exact hx pins σ H2 s2 e s' I2 hq
  | ok fl =>
    cases fl with
    | ret u => exact I2.after hq
    | next => exact False.elim hq
    | brk => exact False.elim hq
    | cont => exact False.elim hq
theorem atI_mem {xs : List V} {i : Int} (h0 : 0 ≤ i) (h1 : i < (xs.length : Int)) : ∃ v, v ∈ xs ∧ atI xs i = some v := by
  obtain ⟨n, rfl⟩ := Int.eq_ofNat_of_zero_le h0
  have h2 : n < xs.length := by omega
  exact ⟨xs[n], List.getElem_mem h2, atI_nat (List.getElem?_eq_getElem h2)⟩
/-- rules with conditions that are linear -/
theorem opr_imp {X : Cx} {f : Value → Value → Sem Value} {C C' : Int → Int → Prop} {g : Int → Int → V} (h : OpR X f (rI C g)) (k : ∀ i j, C' i j → C i j) : OpR X f (rI C' g) := fun pins s σ H x y v u Q I rx ry hq => by
  obtain ⟨i, j, ex, ey, hc, q⟩ := hq
  exact h pins s σ H x y v u Q I rx ry ⟨i, j, ex, ey, k i j hc, q⟩
def CB (_ j : Int) : Prop := 0 < j ∧ j < 1267650600228229401496703205376
def CMB (i j : Int) : Prop := (-1000000000000000000000000000000000000000000000000000000000000 < i ∧ i < 1000000000000000000000000000000000000000000000000000000000000) ∧ (-1000000000000000000000000000000000000000000000000000000000000 < j ∧ j < 1000000000000000000000000000000000000000000000000000000000000)
theorem abs200 {i : Int} (h : -1000000000000000000000000000000000000000000000000000000000000 < i ∧ i < 1000000000000000000000000000000000000000000000000000000000000) : i.natAbs < 2 ^ 200 := by
  have e : (2 : Nat) ^ 200 = 1606938044258990275541962092341162602522202993782792835301376 := by decide
  rw [e]
  omega
theorem abs100 {i : Int} (h : 0 < i ∧ i < 1267650600228229401496703205376) : i.natAbs < 2 ^ 100 := by
  have e : (2 : Nat) ^ 100 = 1267650600228229401496703205376 := by decide
  rw [e]
  omega
theorem op_mulB {X : Cx} : OpR X (binaryOp .Mult) (rI CMB fun i j => .int (i * j)) := opr_imp op_mulW fun i j h => wide_mul (abs200 h.1) (abs200 h.2) (by decide) (by decide) (by decide)
theorem op_fdivB {X : Cx} : OpR X (binaryOp .FloorDiv) (rI CB fun i j => .int (i / j)) := opr_imp op_fdivW fun i j h => wide_div h.1 (abs100 h) (by decide) (by decide)
theorem ediv_up {i j : Int} (h : 0 < j) (h0 : 0 ≤ i) : 0 ≤ i / j ∧ i / j ≤ i := ⟨Int.ediv_nonneg h0 (Int.le_of_lt h), Int.ediv_le_self j h0⟩
theorem ediv_dn {i j : Int} (h : 0 < j) (h0 : i < 0) : i ≤ i / j ∧ i / j < 0 := by
  refine ⟨?_, Int.ediv_neg_of_neg_of_pos h0 h⟩
  rw [Int.le_ediv_iff_mul_le h]
  have a : i * (j - 1) ≤ 0 := Int.mul_nonpos_of_nonpos_of_nonneg (Int.le_of_lt h0) (by omega)
  rw [Int.mul_sub, Int.mul_one] at a
  omega
/-- the quotient as a letter, with its bounds -/
theorem op_fdivL {X : Cx} : OpR X (binaryOp .FloorDiv) (fun x y H Q => ∃ i j, x = .int i ∧ y = .int j ∧ CB i j ∧ ∀ d, d = i / j → (0 ≤ i → 0 ≤ d ∧ d ≤ i) → (i < 0 → i ≤ d ∧ d < 0) → Q (.int d) H) := fun pins s σ H x y v u Q I rx ry hq => by
  obtain ⟨i, j, ex, ey, hc, q⟩ := hq
  exact op_fdivB pins s σ H x y v u Q I rx ry ⟨i, j, ex, ey, hc, q _ rfl (ediv_up hc.1) (ediv_dn hc.1)⟩
theorem call_divmodB {X : Cx} : CallR X (.builtin "divmod") (fun xs H Q => ∃ i j, xs = [.int i, .int j] ∧ CB i j ∧ ∀ p, H p = none → Q (.ref p) (upd H p (.tup [.int (i / j), .int (i % j)]))) := fun pins s σ H xs us Q I r hq => by
  obtain ⟨i, j, ex, hc, q⟩ := hq
  have w := wide_div (i := i) hc.1 (abs100 hc) (by decide) (by decide)
  exact call_divmodW pins s σ H xs us Q I r ⟨i, j, ex, ⟨hc.1, PyProof.noPylong_of_log2 w.2⟩, q⟩
theorem iteEqI {i j : Int} {A B : Prop} (h1 : i = j → A) (h2 : ¬ i = j → B) : if decide (V.int i = V.int j) = true then A else B := by
  by_cases h : i = j
  · rw [if_pos (decide_eq_true (congrArg V.int h))]
    exact h1 h
  · rw [if_neg (fun z => h (V.int.inj (of_decide_eq_true z)))]
    exact h2 h
theorem iteNeI {i j : Int} {A B : Prop} (h1 : ¬ i = j → A) (h2 : i = j → B) : if (!decide (V.int i = V.int j)) = true then A else B := by
  by_cases h : i = j
  · rw [decide_eq_true (congrArg V.int h)]
    exact iteF (h2 h)
  · rw [decide_eq_false (fun z => h (V.int.inj z))]
    exact iteT (h1 h)
theorem iteSS {x : Str} {A B : Prop} (h : A) : if decide (V.str x = V.str x) = true then A else B := by
  rw [if_pos (decide_eq_true rfl)]
  exact h
theorem iteIS {i : Int} {x : Str} {A B : Prop} (h : B) : if decide (V.int i = V.str x) = true then A else B := by
  rw [if_neg (fun z => V.noConfusion (of_decide_eq_true z))]
  exact h
theorem iteD {c A B : Prop} [Decidable c] (h1 : c → A) (h2 : ¬ c → B) : if decide c = true then A else B := by
  by_cases h : c
  · rw [if_pos (decide_eq_true h)]
    exact h1 h
  · rw [if_neg (fun z => h (of_decide_eq_true z))]
    exact h2 h
theorem same_upd {H : Hp} {p : Addr} {o : HO} (h : H p = none) : Same H (upd H p o) := fun b x e => by
  rw [upd_ne (ne_of_none e h)]
  exact e
theorem ix_listK {X : Cx} {K : PySem.W.Frag} (e : X.K = K) : IxR X (rIxL K) := e ▸ ix_list
theorem ix_tupK {X : Cx} {K : PySem.W.Frag} (e : X.K = K) : IxR X (rIxT K) := e ▸ ix_tup
theorem ix_seqK {X : Cx} {K : PySem.W.Frag} (e : X.K = K) : IxR X (rIx K) := e ▸ ix_seq
theorem call_len_seqK {X : Cx} {K : PySem.W.Frag} (e : X.K = K) : CallR X (.builtin "len") (fun xs H Q => ∃ p ys, xs = [.ref p] ∧ (SqL K H p ys ∨ SqT K H p ys) ∧ Q (.int ys.length) H) := e ▸ call_len_seq
/-- an item of a list, whichever -/
theorem atI_go {K : PySem.W.Frag} {p : Addr} {xs : List V} {i : Int} {H : Hp} {Q : VK} (h : SqL K H p xs) (h0 : 0 ≤ i) (h1 : i < (xs.length : Int)) (q : ∀ v, v ∈ xs → Q v H) : rIxL K (.ref p) (.int i) H Q := by
  obtain ⟨v, hv, e⟩ := atI_mem h0 h1
  exact ⟨_, _, _, v, rfl, rfl, h, e, q v hv⟩

/-- the product as a letter, with its bounds -/
theorem op_mulL {X : Cx} : OpR X (binaryOp .Mult) (fun x y H Q => ∃ i j, x = .int i ∧ y = .int j ∧ CMul i j ∧ ∀ d, d = i * j → (0 ≤ i → 0 ≤ j → 0 ≤ d) → (0 ≤ i → i ≤ 100000000000000 → 0 ≤ j → j ≤ 100000000000000 → d ≤ 10000000000000000000000000000) → Q (.int d) H) := fun pins s σ H x y v u Q I rx ry hq => by
  obtain ⟨i, j, ex, ey, hc, q⟩ := hq
  exact op_mul pins s σ H x y v u Q I rx ry ⟨i, j, ex, ey, hc, q _ rfl (fun a b => Int.mul_nonneg a b) (fun a b c d => Int.le_trans (Int.mul_le_mul b d c (by decide)) (by decide))⟩

/-- one written part within another -/
def Sub (K K2 : PySem.W.Frag) : Prop := ∀ a o, K.lookup a = some o → K2.lookup a = some o
theorem ns_sub {K K2 : PySem.W.Frag} (b : Sub K K2) {ns : Addr} {x : Str} {r : Option Value} (e : PySem.W.nsIn K ns x = some r) : PySem.W.nsIn K2 ns x = some r := by
  unfold PySem.W.nsIn at e
  split at e
  · rename_i c d es n sl ho
    unfold PySem.W.nsIn
    rw [b _ _ ho]
    exact e
  · cases e
theorem code_sub {K K2 : PySem.W.Frag} (b : Sub K K2) {cd : Value} {q : Str} (e : PySem.W.codeIn K cd q = true) : PySem.W.codeIn K2 cd q = true := by
  unfold PySem.W.codeIn at e
  split at e
  · split at e
    · rename_i vs sl ho
      simp only [PySem.W.codeIn, b _ _ ho]
      exact e
    · cases e
  · cases e
theorem keep_fn {K : PySem.W.Frag} {f : Addr} {oc : Value} {od : Option Addr} {fd : FuncData} {sl : Array (Option Value)} (l : K.lookup f = some ⟨oc, od, .func fd, sl⟩) : PySem.W.keepIn K (.ref f) = true := by
  simp only [PySem.W.keepIn, l]
/-- what must stand -/
def Seer (K : PySem.W.Frag) : Prop := ∀ h : Heap, K.In h → h.NoSeer
theorem seer_objs {h : Heap} (N : h.NoSeer) : ∃ L : List (Addr × Obj), (∀ p ∈ L, h.get? p.1 = some p.2) ∧ ∀ h' : Heap, (∀ p ∈ L, h'.get? p.1 = some p.2) → h'.NoSeer := by
  obtain ⟨mc, ⟨oc, c1, c2, ec, rc⟩, kc⟩ := N.statics
  obtain ⟨mm, ⟨om, m1, m2, em, rm⟩, km⟩ := N.mods
  obtain ⟨mb, ⟨ob, b1, b2, eb, rb⟩, kb⟩ := N.imp
  obtain ⟨mg, bm, oq, ⟨og, g1, g2, eg, rg⟩, kg, eq, c3, c4⟩ := N.main
  refine ⟨[(cStatics, oc), (sysModules, om), (builtinsNs, ob), (mainGlobals, og), (bm, oq)], fun p hp => ?_, fun h' hh => ⟨⟨mc, ⟨oc, c1, c2, hh (cStatics, oc) ?_, rc⟩, kc⟩, ⟨mm, ⟨om, m1, m2, hh (sysModules, om) ?_, rm⟩, km⟩, ⟨mb, ⟨ob, b1, b2, hh (builtinsNs, ob) ?_, rb⟩, kb⟩, mg, bm, oq, ⟨og, g1, g2, hh (mainGlobals, og) ?_, rg⟩, kg, hh (bm, oq) ?_, c3, c4⟩⟩
  · simp only [List.mem_cons, List.not_mem_nil, or_false] at hp
    rcases hp with rfl | rfl | rfl | rfl | rfl
    · exact ec
    · exact em
    · exact eb
    · exact eg
    · exact eq
  all_goals simp only [List.mem_cons, true_or, or_true]
theorem look_cons {b a : Addr} {u : Obj} {L : PySem.W.Frag} : List.lookup a ((b, u) :: L) = if a = b then some u else List.lookup a L := by
  rw [List.lookup_cons]
  by_cases e : a = b
  · rw [if_pos e, beq_iff_eq.mpr e]
  · rw [if_neg e, beq_eq_false_iff_ne.mpr e]
theorem lookup_app {K : PySem.W.Frag} {a : Addr} {o : Obj} (L : PySem.W.Frag) : List.lookup a (L ++ K) = some o → (a, o) ∈ L ∨ List.lookup a K = some o := by
  induction L with
  | nil => exact fun h => Or.inr h
  | cons p L ih =>
    intro h
    obtain ⟨b, u⟩ := p
    rw [List.cons_append, look_cons] at h
    by_cases e : a = b
    · rw [if_pos e] at h
      rw [e, ← Option.some.inj h]
      exact Or.inl (List.mem_cons_self ..)
    · rw [if_neg e] at h
      rcases ih h with h | h
      · exact Or.inl (List.mem_cons_of_mem _ h)
      · exact Or.inr h
theorem lookup_mem {K : PySem.W.Frag} {p : Addr × Obj} (L : PySem.W.Frag) : p ∈ L → ∃ u, List.lookup p.1 (L ++ K) = some u := by
  induction L with
  | nil => exact fun h => absurd h (List.not_mem_nil)
  | cons c L ih =>
    intro h
    obtain ⟨b, u⟩ := c
    rw [List.cons_append, look_cons]
    by_cases e : p.1 = b
    · rw [if_pos e]
      exact ⟨u, rfl⟩
    · rw [if_neg e]
      rcases List.mem_cons.mp h with h | h
      · exact absurd (congrArg Prod.fst h) e
      · exact ih h
theorem lookup_some {K : PySem.W.Frag} {a : Addr} {o : Obj} (L : PySem.W.Frag) (h : List.lookup a K = some o) : ∃ u, List.lookup a (L ++ K) = some u := by
  induction L with
  | nil => exact ⟨o, h⟩
  | cons c L ih =>
    obtain ⟨b, u⟩ := c
    rw [List.cons_append, look_cons]
    by_cases e : a = b
    · rw [if_pos e]
      exact ⟨u, rfl⟩
    · rw [if_neg e]
      exact ih
/-- the written part, and beside it what must stand -/
theorem wider {K : PySem.W.Frag} {h : Heap} (KX : K.In h) (N : h.NoSeer) : ∃ K2 : PySem.W.Frag, Sub K K2 ∧ K2.In h ∧ Seer K2 := by
  obtain ⟨L, hL, hN⟩ := seer_objs N
  have KX2 : PySem.W.Frag.In (L ++ K) h := fun a o e => by
    rcases lookup_app L e with e | e
    · exact hL _ e
    · exact KX a o e
  refine ⟨L ++ K, fun a o e => ?_, KX2, fun h' Z => hN h' fun p hp => ?_⟩
  · obtain ⟨u, eu⟩ := lookup_some L e
    have e1 := KX2 a u eu
    rw [KX a o e] at e1
    rw [eu, ← Option.some.inj e1]
  · obtain ⟨u, eu⟩ := lookup_mem (K := K) L hp
    have e1 := KX2 p.1 u eu
    rw [hL p hp] at e1
    rw [Z p.1 u eu, ← Option.some.inj e1]
/-- the end of a law over ints of any size -/
theorem walk_seer {l : PySem.W.OpenLaw} {n k : Nat} {q : Program} {loose : List Str} {XP : (Str → Option Value) → Heap → Prop} {YP : World → Heap → Prop} {d : DefRec} {K : Params → PySem.W.Frag} {sp : PySem.W.Frag → Sp} {x : Str}
    (hi : importsNone q = true) (hn : l.most = some n) (hn2 : n ≤ sizeLine) (hdf : d.params.defaults = []) (hr : Room k callerA)
    (hY : ∀ (w : World) (h : Heap), YP w h → (K w.params).In h)
    (F : ∀ (w : World) (mg : Str → Option Value) (fa : Addr) (h : Heap) (K2 : PySem.W.Frag), Sub (K w.params) K2 → K2.In h → Seer K2 → h.Ns mainGlobals mg → mg d.name = some (.ref fa) →
      ∃ fd : FuncData, (∀ (s : Shared) (u : Value), BindsTo s fd ⟨[u], []⟩ [(x, u)]) ∧ ∀ base : Heap, K2.In base → base.Ns mainGlobals mg → FnOk l.prog w K2 mg base CX0 k fa fd [x] (sp K2))
    (hsp : ∀ (K2 : PySem.W.Frag) (H : Hp) (a : Addr) (ns : List Int), ns.length ≤ n → (∀ z ∈ ns, Builtin.Int.intBits z ≤ 1048576) → SqL K2 H a (ns.map V.int) → sp K2 [.ref a] H (fun v _ => v = .bl true) fun _ _ _ => False) :
    PySem.W.WalkO q loose XP YP l.row.toRowW d [] (fun f vs => PySem.call f vs) := by
  refine Att.attach_callB hn hdf fun w s₀ s₁ mg mb fa o pm cd doc a vs ns G Y ho hd hcd hmg hobj hints hlen hbits hg => ?_
  obtain ⟨K2, sb, KX2, sr⟩ := wider (hY w _ Y) (G.T.seer hi)
  obtain ⟨fd, hb, hF⟩ := F w mg fa _ K2 sb KX2 sr G.T.g hmg
  exact law_call KX2 G.T.g G.T.b G.T.builtins G.T.nolimit hg hobj hints (Nat.le_trans hlen hn2) hr hF hb (fun H _ hS => hsp K2 H a ns hlen hbits hS) fun H e s' h => h
/-- the program brings no tree of files -/
class TreeN (P : Program) : Prop where e : P.given.tree = none
theorem room_seer {X : Cx} {pins : List (Addr × Obj)} {σ : L2.St} {H : Hp} {s : Shared} (I : Inv X pins σ H s) (ht : X.prog.given.tree = none) (S : Seer X.K) (hr : Room 34 X.A) (hst : X.stack = X.env :: X.outer) (h1 : X.env.scope.isGenerator = false) (h2 : X.env.scope.isCoroutine = false) : PySem.PylongRoom (model X.prog X.w) X.A s := by
  have d := hr.dp
  have e : Builtin.pylongFrames = 100 := rfl
  refine PySem.PylongRoom.of I.nolimit (by rw [e]; omega) (PySem.SeerAt.of (S _ I.kIn) ht (I.ok.frames.trans (congrArg some hst)) h1 h2 I.ok.blt I.ok.glob)
theorem op_fdivH {X : Cx} (ht : X.prog.given.tree = none) (S : Seer X.K) (hr : Room 34 X.A) (hst : X.stack = X.env :: X.outer) (h1 : X.env.scope.isGenerator = false) (h2 : X.env.scope.isCoroutine = false) : OpR X (binaryOp .FloorDiv) (rI (fun _ j => 0 < j) fun i j => .int (i / j)) := by
  intro pins s σ H x y v u Q I rx ry h
  obtain ⟨i, j, rfl, rfl, hc, q⟩ := h
  obtain ⟨t, rfl⟩ := rx
  obtain ⟨t', rfl⟩ := ry
  refine floordiv_int (by omega) ?_ (.inr (room_seer I ht S hr hst h1 h2))
  rw [Int.fdiv_eq_ediv_of_nonneg i (by omega)]
  exact ⟨.int _, H, I.tok _, ⟨_, rfl⟩, q⟩
theorem call_divmodH {X : Cx} (ht : X.prog.given.tree = none) (S : Seer X.K) (hr : Room 34 X.A) (hst : X.stack = X.env :: X.outer) (h1 : X.env.scope.isGenerator = false) (h2 : X.env.scope.isCoroutine = false) : CallR X (.builtin "divmod") (fun xs H Q => ∃ i j, xs = [.int i, .int j] ∧ 0 < j ∧ ∀ p, H p = none → Q (.ref p) (upd H p (.tup [.int (i / j), .int (i % j)]))) := by
  intro pins s σ H xs us Q I r h
  obtain ⟨i, j, rfl, hc, q⟩ := h
  obtain ⟨u, w', rfl, ⟨t, rfl⟩, ⟨t', rfl⟩⟩ := vals2 r
  refine divmod_int (by omega) ?_ (.inr (room_seer I ht S hr hst h1 h2))
  rw [Int.fdiv_eq_ediv_of_nonneg i (by omega), Int.fmod_eq_emod_of_nonneg i (by omega)]
  have hn : H s.heap.objs.size = none := I.hok.fresh (Nat.le_refl _)
  refine ⟨.ref s.heap.objs.size, _, ?_, rfl, q _ hn⟩
  refine I.laid (fun b o e => Heap.get?_push_of_some _ e) (Nat.le_refl _) ⟨by simp only [List.length_cons, List.length_nil]; rw [sizeLine_eq]; decide, [.int (i / j) s.toks, .int (i % j) (s.toks + 1)], .cons ⟨_, rfl⟩ (.cons ⟨_, rfl⟩ .nil), ?_⟩
  exact ⟨_, Heap.get?_push_size s.heap rfl, rfl, 0, rfl⟩

/-! ### what the top has left -/
structure Txt (K : PySem.W.Frag) (mg : Str → Option Value) where
  ahalf_even : Addr
  dhalf_even : FuncData
  Fhalf_even : Fun K "half_even" "half_even" shalf_even ahalf_even dhalf_even
  ghalf_even : mg "half_even" = some (.ref ahalf_even)
  bhalf_even : Binds K dhalf_even Phalf_even []
  a_law_cell : Addr
  d_law_cell : FuncData
  F_law_cell : Fun K "_law_cell" "_law_cell" s_law_cell a_law_cell d_law_cell
  g_law_cell : mg "_law_cell" = some (.ref a_law_cell)
  b_law_cell : Binds K d_law_cell P_law_cell []
  a_law_mix : Addr
  d_law_mix : FuncData
  F_law_mix : Fun K "_law_mix" "_law_mix" s_law_mix a_law_mix d_law_mix
  g_law_mix : mg "_law_mix" = some (.ref a_law_mix)
  b_law_mix : Binds K d_law_mix P_law_mix []
  a_law_divisor : Addr
  d_law_divisor : FuncData
  F_law_divisor : Fun K "_law_divisor" "_law_divisor" s_law_divisor a_law_divisor d_law_divisor
  g_law_divisor : mg "_law_divisor" = some (.ref a_law_divisor)
  b_law_divisor : Binds K d_law_divisor P_law_divisor []
  a_law_pair : Addr
  d_law_pair : FuncData
  F_law_pair : Fun K "_law_pair" "_law_pair" s_law_pair a_law_pair d_law_pair
  g_law_pair : mg "_law_pair" = some (.ref a_law_pair)
  b_law_pair : Binds K d_law_pair P_law_pair []
  a_law_nearest : Addr
  d_law_nearest : FuncData
  F_law_nearest : Fun K "_law_nearest" "_law_nearest" s_law_nearest a_law_nearest d_law_nearest
  g_law_nearest : mg "_law_nearest" = some (.ref a_law_nearest)
  b_law_nearest : Binds K d_law_nearest P_law_nearest []
  a_law_is_integer : Addr
  d_law_is_integer : FuncData
  F_law_is_integer : Fun K "_law_is_integer" "_law_is_integer" s_law_is_integer a_law_is_integer d_law_is_integer
  g_law_is_integer : mg "_law_is_integer" = some (.ref a_law_is_integer)
  b_law_is_integer : Binds K d_law_is_integer P_law_is_integer []
  alaw : Addr
  dlaw : FuncData
  Flaw : Fun K "law" "law" slaw alaw dlaw
  glaw : mg "law" = some (.ref alaw)
  blaw : Binds K dlaw Plaw []
  z_bool : mg "bool" = none
  z_divmod : mg "divmod" = none
  z_int : mg "int" = none
  z_isinstance : mg "isinstance" = none
  z_len : mg "len" = none
  sr : Seer K
/-! ### the mathematics -/

/-- the integer nearest to a / b, of two equally near ones the even one -/
def near (a b : Int) : Int := if 2 * (a % b) > b then a / b + 1 else if 2 * (a % b) = b then a / b + a / b % 2 else a / b

theorem near_neg {a b : Int} (h : 0 < b) : near (-a) b = -near a b := by
  have em := Int.mul_ediv_add_emod a b
  have r0 := Int.emod_nonneg a (show b ≠ 0 by omega)
  have r1 := Int.emod_lt_of_pos a h
  unfold near
  generalize hq : a / b = q at *
  generalize hr : a % b = r at *
  by_cases z : r = 0
  · have e := (Int.ediv_emod_unique (a := -a) (b := b) (r := 0) (q := -q) h).mpr ⟨by rw [Int.mul_neg]; omega, by omega, h⟩
    rw [e.1, e.2]
    (repeat' split) <;> omega
  · have e := (Int.ediv_emod_unique (a := -a) (b := b) (r := b - r) (q := -q - 1) h).mpr ⟨by rw [Int.mul_sub, Int.mul_neg, Int.mul_one]; omega, by omega, by omega⟩
    rw [e.1, e.2]
    (repeat' split) <;> omega
/-- an int of so many bits -/
def W (n : Nat) (x : Int) : Prop := x.natAbs < 2 ^ n
theorem W.mono {n m : Nat} {x : Int} (h : W n x) (e : n ≤ m) : W m x := Nat.lt_of_lt_of_le h (Nat.pow_le_pow_right (by decide) e)
theorem W.mul {n m : Nat} {x y : Int} (h : W n x) (k : W m y) : W (n + m) (x * y) := wide_lt h k
theorem W.add {n : Nat} {x y : Int} (h : W n x) (k : W n y) : W (n + 1) (x + y) := by
  have a := Int.natAbs_add_le x y
  have h2 : x.natAbs < 2 ^ n := h
  have k2 : y.natAbs < 2 ^ n := k
  show (x + y).natAbs < 2 ^ (n + 1)
  rw [Nat.pow_succ]
  omega
theorem W.small {x : Int} (h : -1267650600228229401496703205376 < x ∧ x < 1267650600228229401496703205376) : W 100 x := by
  have e : (2 : Nat) ^ 100 = 1267650600228229401496703205376 := by decide
  show x.natAbs < 2 ^ 100
  rw [e]
  omega
theorem W.neg {n : Nat} {x : Int} (h : W n x) : W n (-x) := by
  show (-x).natAbs < 2 ^ n
  rw [Int.natAbs_neg]
  exact h
theorem W.div {n : Nat} {x b : Int} (h : W n x) (hb : 0 < b) : W n (x / b) := by
  have h2 : x.natAbs < 2 ^ n := h
  show (x / b).natAbs < 2 ^ n
  rcases Int.lt_or_le x 0 with c | c
  · have d := ediv_dn hb c
    omega
  · have d := ediv_up hb c
    omega
theorem W.off {c : Int} (h : W 1048576 c) : W 1048577 (c - 1000000000000000000 + 1) := by
  have a := W.add h ((W.small (x := -999999999999999999) (by decide)).mono (show 100 ≤ 1048576 by decide))
  rw [show c - 1000000000000000000 + 1 = c + -999999999999999999 by omega]
  exact a
theorem mulW {n m : Nat} {x y : Int} (h : W n x) (k : W m y) (e : n + m ≤ 134217728) : CMulX x y := mulx_ok h k e
theorem W.bits {z : Int} {n : Nat} (h : Builtin.Int.intBits z ≤ n) : W n z := by
  unfold Builtin.Int.intBits at h
  by_cases e : z = 0
  · rw [e]
    exact Nat.pow_pos (by decide)
  · rw [if_neg (by simpa using e)] at h
    exact Nat.lt_of_lt_of_le Nat.lt_log2_self (Nat.pow_le_pow_right (by decide) h)
theorem W.getD {ns : List Int} {n : Nat} (h : ∀ z ∈ ns, Builtin.Int.intBits z ≤ n) (j : Nat) : W n (ns.getD j 0) := by
  rw [List.getD_eq_getElem?_getD]
  cases e : ns[j]? with
  | none => exact W.bits (Nat.zero_le _)
  | some z => exact W.bits (h z (List.mem_of_getElem? e))
theorem op_mulH {X : Cx} : OpR X (binaryOp .Mult) (rI (fun i j => CMul i j ∨ CMulX i j) fun i j => .int (i * j)) := fun pins s σ H x y v u Q I rx ry h => by
  obtain ⟨i, j, ex, ey, hc, q⟩ := h
  rcases hc with hc | hc
  · exact op_mul pins s σ H x y v u Q I rx ry ⟨i, j, ex, ey, hc, q⟩
  · exact op_mulX pins s σ H x y v u Q I rx ry ⟨i, j, ex, ey, hc, q⟩

local macro_rules | `(tactic| walk_at "own") => `(tactic| first
  | refine ⟨_, _, rfl, rfl, (show CMul _ _ ∨ CMulX _ _ from Or.inl (by first | exact Or.inl ⟨by decide, by decide⟩ | exact Or.inr ⟨by decide, by decide⟩ | exact Or.inl (by omega) | exact Or.inr (by omega))), ?_⟩
  | refine ⟨_, _, rfl, rfl, (show CMul _ _ ∨ CMulX _ _ from Or.inr (mulW (by assumption) (by assumption) (by decide))), ?_⟩
  | refine ⟨_, _, _, _, rfl, rfl, (by assumption), rfl, ?_⟩
  | refine ⟨_, _, rfl, (by assumption), (by assumption), (by assumption), ?_⟩
  | refine ⟨_, _, rfl, (by assumption), fun H1 s1 => ?_⟩)

/-- a chain of heaps -/
local macro_rules | `(tactic| walk_at "same") => `(tactic| first
  | assumption
  | exact Same.refl _
  | exact same_upd (by assumption)
  | (refine Same.trans ?_ (same_upd (by assumption)); walk_at "same")
  | (refine Same.trans ?_ (by assumption); walk_at "same"))
/-- a step of a reading, by its shape -/
local macro_rules | `(tactic| walk_at "st") => `(tactic| first
  | walk_at "own"
  | refine ⟨_, rfl, fun n h0 h1 => ?_⟩
  | refine ⟨_, rfl, ?_⟩
  | refine ⟨_, _, rfl, rfl, (by first | exact Or.inl ⟨by decide, by decide⟩ | exact Or.inr ⟨by decide, by decide⟩ | exact Or.inl (by omega) | exact Or.inr (by omega)), fun d hd hu hn => ?_⟩
  | refine ⟨_, _, rfl, rfl, by first | exact Or.inl ⟨by decide, by decide⟩ | exact Or.inr ⟨by decide, by decide⟩ | exact Or.inl (by omega) | exact Or.inr (by omega), ?_⟩
  | refine ⟨_, _, rfl, rfl, by first | (show (0 : Int) < _; first | omega | decide | (split <;> omega)) | (show _ ≠ (0 : Int); omega), ?_⟩
  | refine ⟨_, _, rfl, rfl, ⟨by decide, by decide⟩, ?_⟩
  | refine ⟨_, _, rfl, rfl, (by show (_ ∧ _) ∧ (_ ∧ _); omega), ?_⟩
  | refine ⟨_, _, rfl, rfl, (by show _ ∧ _; first | omega | (split <;> omega)), fun d hd hu hn => ?_⟩
  | refine ⟨_, _, rfl, rfl, (by show (0 : Int) < _ ∧ _; first | omega | (split <;> omega)), ?_⟩
  | refine ⟨_, _, rfl, rfl, ?_⟩
  | refine ⟨_, _, _, rfl, rfl, ?_⟩
  | refine ⟨_, _, _, _, rfl, rfl, .inl (.inl (by assumption)), rfl, ?_⟩
  | refine Or.inl ⟨_, rfl, ?_⟩
  | refine ⟨_, _, rfl, fun n H1 s1 h0 h1 => ?_⟩
  | refine ⟨_, _, rfl, fun n h0 h1 => ?_⟩
  | refine ⟨_, _, rfl, ?_⟩
  | refine ⟨Nat.le_of_ble_eq_true rfl, fun p hp => ?_⟩
  | refine ⟨rfl, ?_⟩
  | refine ⟨lim_flat _, ?_⟩
  | refine ⟨⟨by assumption, by assumption⟩, ?_⟩
  | refine And.intro (by assumption) ?_
  | refine ⟨Or.inl ⟨_, rfl⟩, ?_⟩
  | refine And.intro (by omega) (fun H1 s1 => ?_)
  | refine And.intro (by omega) ?_
  | refine iteF ?_
  | refine iteT ?_
  | refine iteSS ?_
  | refine iteIS ?_
  | refine iteEqI (fun _ => ?_) (fun _ => ?_)
  | refine iteNeI (fun _ => ?_) (fun _ => ?_)
  | refine iteD (fun _ => ?_) (fun _ => ?_)
  | refine ite2 (fun _ => ?_) (fun _ => ?_))
local macro_rules | `(tactic| walk_at "run") => `(tactic| repeat' (walk_at "st"))

/-! ### the promises -/
def sphalf_even (K : PySem.W.Frag) : Sp := fun vs H Q _ => ∃ a b : Int, vs = [.int a, .int b] ∧ 0 < b ∧ ∀ H' : Hp, Same H H' → Q (.int (near a b)) H'
def sp_law_cell (K : PySem.W.Frag) : Sp := fun vs H Q _ => ∃ (a : Addr) (ns : List Int) (j : Nat), vs = [.ref a, .int j] ∧ SqL K H a (ns.map V.int) ∧ Q (.int (ns.getD j 0)) H
def sp_law_mix (K : PySem.W.Frag) : Sp := fun vs H Q _ => ∃ (c s : Int), vs = [.int c, .int s] ∧ ∀ n : Int, 0 ≤ n → n < 2147483629 → Q (.int n) H
def sp_law_divisor (K : PySem.W.Frag) : Sp := fun vs H Q _ => ∃ c : Int, vs = [.int c] ∧ W 1048576 c ∧ ∀ (b : Int) (H' : Hp), Same H H' → 0 < b → W 1048577 b → Q (.int b) H'
def sp_law_pair (K : PySem.W.Frag) : Sp := fun vs H Q _ => ∃ x b c : Int, vs = [.int x, .int b, .int c] ∧ 0 < b ∧ W 1048576 x ∧ W 1048577 b ∧ ∀ (p : Addr) (a d : Int) (H' : Hp), Same H H' → SqT K H' p [.int a, .int d] → 0 < d → W 2200000 a → W 1100001 d → Q (.ref p) H'
def sp_law_nearest (K : PySem.W.Frag) : Sp := fun vs H Q _ => ∃ a b : Int, vs = [.int a, .int b] ∧ 0 < b ∧ W 2200000 a ∧ W 1100001 b ∧ Q (.int (near a b)) H
def sp_law_is_integer (K : PySem.W.Frag) : Sp := fun vs H Q _ => ∃ x : Int, vs = [.int x, .int x] ∧ Q (.bl true) H
def splaw (K : PySem.W.Frag) : Sp := fun vs H Q _ => ∃ (a : Addr) (ns : List Int), vs = [.ref a] ∧ SqL K H a (ns.map V.int) ∧ ns.length ≤ 63 ∧ (∀ z ∈ ns, Builtin.Int.intBits z ≤ 1048576) ∧ ∀ H', Q (.bl true) H'
section
variable {P : Program} {w : World} {K : PySem.W.Frag} {mg : Str → Option Value} {base : Heap} [hT : TreeN P]
def gkhalf_even_b_a {α : Type} : List α → List α := fun zs => match zs with | [z0, z1] => [z1, z0] | _ => zs
theorem krhalf_even_b_a : ∀ {zs : List V} {ws : List Value}, Vals zs ws → Vals (gkhalf_even_b_a zs) (gkhalf_even_b_a ws) := fun {zs ws} r => by
  rcases r with _ | ⟨r0, r⟩
  · exact .nil
  rcases r with _ | ⟨r1, r⟩
  · exact (.cons r0 .nil)
  rcases r with _ | ⟨r2, r⟩
  · exact (.cons r1 (.cons r0 .nil))
  exact (.cons r0 (.cons r1 (.cons r2 r)))
theorem kbhalf_even_b_a (T : Txt K mg) : KB0 K T.dhalf_even Phalf_even ["b", "a"] gkhalf_even_b_a gkhalf_even_b_a := by
  obtain ⟨oc, od, kV, doc, pm, an, cdv, ct, osl, e, lk, hcd⟩ := T.Fhalf_even.ex
  refine ⟨fun s ws hl => ?_, krhalf_even_b_a⟩
  rw [e]
  match ws, hl with
  | [z0, z1], _ => exact .of_eq rfl
theorem okhalf_even (T : Txt K mg) : FnOk P w K mg base CX0 36 T.ahalf_even T.dhalf_even Phalf_even (sphalf_even K) := by
  refine T.Fhalf_even.ok schalf_even (fun vs H Q E h => ?_) (fun cdv A outer s H vs Q E hr h => ?_)
  · obtain ⟨a, b, rfl, _⟩ := h
    rfl
  · obtain ⟨a, b, rfl, hb, q⟩ := h
    refine ⟨_, (pss_cons (ps_asg (pe_callB (call_divmodH hT.e T.sr (hr.mono (by decide)) rfl rfl rfl) (by rfl) T.z_divmod (by decide +kernel) (pa_cons (pv 0) (pa_cons (pv 1) pa_nil))) (pg_tup (by rfl) (pgs_cons (pg_name (i := 2) schalf_even.nd rfl (by first | exact Or.inl rfl | exact Or.inr rfl)) (pgs_cons (pg_name (i := 3) schalf_even.nd rfl (by first | exact Or.inl rfl | exact Or.inr rfl)) pgs_nil))))
    (pss_cons (ps_if (pt_cmpR op_gt (pe_op op_mul pe_int (pv 3)) (pv 1) (by first | exact nomark _ | rfl))
      (pss_one (ps_ret (pe_op op_add (pv 2) pe_int)))
      pss_nil)
    (pss_cons (ps_if (pt_cmpR op_eq (pe_op op_mul pe_int (pv 3)) (pv 1) (by first | exact nomark _ | rfl))
      (pss_one (ps_ret (pe_op op_add (pv 2) (pe_op op_mod (pv 2) pe_int))))
      pss_nil)
    (pss_one (ps_ret (pv 2)))))), ?_⟩
    refine ⟨_, rfl, _, rfl, _, _, rfl, hb, fun p hp => ?_⟩
    refine ⟨p, _, rfl, .inl (.inl upd_same), rfl, _, _, rfl, _, _, rfl, rfl, ?_⟩
    walk_at "run"
    all_goals refine (congrArg (fun z => Q (V.int z) _) ?_).mp (q _ (same_upd hp))
    all_goals (unfold near; (repeat' split) <;> omega)

theorem ok_law_cell (T : Txt K mg) : FnOk P w K mg base CX0 1 T.a_law_cell T.d_law_cell P_law_cell (sp_law_cell K) := by
  refine T.F_law_cell.ok sc_law_cell (fun vs H Q E h => ?_) (fun cdv A outer s H vs Q E hr h => ?_)
  · obtain ⟨a, ns, j, rfl, _⟩ := h
    rfl
  · obtain ⟨a, ns, j, rfl, hS, q⟩ := h
    refine ⟨_, (pss_cons (ps_if (pt_cmpR op_lt (pv 1) (pe_callB call_len_seq (by rfl) T.z_len (by decide +kernel) (pa_cons (pv 0) pa_nil)) (by first | exact nomark _ | rfl))
      (pss_one (ps_ret (pe_ix ix_list (pv 0) (pv 1) (fun _ _ => rfl))))
      pss_nil)
    (pss_one (ps_ret pe_int))), ?_⟩
    refine ⟨_, rfl, _, rfl, a, _, rfl, .inl hS, _, _, rfl, rfl, _, rfl, ite2 (fun e => ?_) (fun e => ?_)⟩
    · have e1 : j < ns.length := by
        have e2 := of_decide_eq_true e
        rw [List.length_map] at e2
        omega
      refine ⟨_, rfl, _, rfl, a, _, _, .int (ns.getD j 0), rfl, rfl, hS, atI_nat ?_, q⟩
      rw [List.getElem?_map, List.getD_eq_getElem?_getD, List.getElem?_eq_getElem e1]
      rfl
    · have e1 : ¬ j < ns.length := fun z => e (decide_eq_true (by rw [List.length_map]; omega))
      have e2 : ns.getD j 0 = 0 := by
        rw [List.getD_eq_getElem?_getD, List.getElem?_eq_none (by omega)]
        rfl
      rw [e2] at q
      exact q

theorem ok_law_mix (T : Txt K mg) : FnOk P w K mg base CX0 1 T.a_law_mix T.d_law_mix P_law_mix (sp_law_mix K) := by
  refine T.F_law_mix.ok sc_law_mix (fun vs H Q E h => ?_) (fun cdv A outer s H vs Q E hr h => ?_)
  · obtain ⟨c, s, rfl, _⟩ := h
    rfl
  · obtain ⟨c, s, rfl, q⟩ := h
    refine ⟨_, (pss_cons (ps_set (i := 2) sc_law_mix.nd rfl (by first | exact Or.inl rfl | exact Or.inr rfl) (pe_op op_mod (pe_callTy call_int1 (by rfl) T.z_int (by decide +kernel) (pa_cons (pe_op op_add (pe_op op_add (pe_op op_mul (pv 0) pe_int) (pe_op op_mul (pv 1) pe_int)) pe_int) pa_nil)) pe_int))
    (pss_one (ps_ret (pe_op op_mod (pe_callTy call_int1 (by rfl) T.z_int (by decide +kernel) (pa_cons (pe_op op_add (pe_op op_add (pe_op op_mul (pv 2) (pv 2)) (pe_op op_mul (pv 2) pe_int)) (pe_op op_mul (pv 1) pe_int)) pa_nil)) pe_int)))), ?_⟩
    walk_at "run"
    generalize e1 : (c * 48271 + s * 69621 + 12345) % 2147483647 = one
    have h0 : 0 ≤ one := by omega
    have h1 : one < 2147483647 := by omega
    walk_at "run"
    refine q _ ?_ ?_
    · omega
    · omega

theorem ok_law_divisor (T : Txt K mg) : FnOk P w K mg base CX0 2 T.a_law_divisor T.d_law_divisor P_law_divisor (sp_law_divisor K) := by
  refine T.F_law_divisor.ok sc_law_divisor (fun vs H Q E h => ?_) (fun cdv A outer s H vs Q E hr h => ?_)
  · obtain ⟨c, rfl, _⟩ := h
    rfl
  · obtain ⟨c, rfl, wc, q⟩ := h
    refine ⟨_, (pss_cons (ps_if (pt_cmpR op_ge (pv 0) (pe_powc (c := 1000000000000000000) (by decide) (by decide +kernel)) (by first | exact nomark _ | rfl))
      (pss_one (ps_ret (pe_op op_add (pe_op op_sub (pv 0) (pe_powc (c := 1000000000000000000) (by decide) (by decide +kernel))) pe_int)))
      pss_nil)
    (pss_cons (ps_set (i := 1) sc_law_divisor.nd rfl (by first | exact Or.inl rfl | exact Or.inr rfl) (pe_op op_mod (pe_callTy call_int1 (by rfl) T.z_int (by decide +kernel) (pa_cons (pe_call (ok_law_mix (P := P) T) (hr.mono (by decide)) (by rfl) T.g_law_mix T.F_law_mix.kp (T.b_law_mix) .nil pass0 (pa_cons (pv 0) (pa_cons pe_int pa_nil))) pa_nil)) pe_int))
    (pss_cons (ps_set (i := 2) sc_law_divisor.nd rfl (by first | exact Or.inl rfl | exact Or.inr rfl) (pe_call (ok_law_mix (P := P) T) (hr.mono (by decide)) (by rfl) T.g_law_mix T.F_law_mix.kp (T.b_law_mix) .nil pass0 (pa_cons (pv 0) (pa_cons pe_int pa_nil))))
    (pss_cons (ps_if (pt_cmpR op_eq (pv 1) pe_int (by first | exact nomark _ | rfl))
      (pss_one (ps_ret (pe_ix ix_list (pe_lst (pa_cons pe_int (pa_cons pe_int (pa_cons pe_int (pa_cons pe_int (pa_cons pe_int (pa_cons pe_int (pa_cons pe_int (pa_cons pe_int (pa_cons pe_int (pa_cons pe_int (pa_cons pe_int (pa_cons pe_int pa_nil))))))))))))) (pe_op op_mod (pe_callTy call_int1 (by rfl) T.z_int (by decide +kernel) (pa_cons (pv 2) pa_nil)) pe_int) (fun _ _ => rfl))))
      pss_nil)
    (pss_cons (ps_if (pt_cmpR op_eq (pv 1) pe_int (by first | exact nomark _ | rfl))
      (pss_one (ps_ret (pe_op op_add pe_int (pe_op op_mod (pe_callTy call_int1 (by rfl) T.z_int (by decide +kernel) (pa_cons (pv 2) pa_nil)) pe_int))))
      pss_nil)
    (pss_cons (ps_if (pt_cmpR op_eq (pv 1) pe_int (by first | exact nomark _ | rfl))
      (pss_one (ps_ret (pe_op op_add pe_int (pv 2))))
      pss_nil)
    (pss_one (ps_ret (pe_op op_add pe_int (pe_op op_mulL (pv 2) (pv 2))))))))))), ?_⟩
    walk_at "run"
    all_goals first
      | exact q _ _ (Same.refl _) (by omega) (W.off wc)
      | exact q _ _ (Same.refl _) (by omega) ((W.small (by omega)).mono (by decide))
      | skip
    rename_i p hp
    refine atI_go (SqL.of upd_same) (by omega) (by show _ < (12 : Int); omega) fun v hv => ?_
    simp only [List.mem_cons, List.not_mem_nil, or_false] at hv
    rcases hv with rfl | rfl | rfl | rfl | rfl | rfl | rfl | rfl | rfl | rfl | rfl | rfl
    all_goals exact q _ _ (same_upd hp) (by decide) ((W.small (by decide)).mono (by decide))

theorem ok_law_pair (T : Txt K mg) : FnOk P w K mg base CX0 2 T.a_law_pair T.d_law_pair P_law_pair (sp_law_pair K) := by
  refine T.F_law_pair.ok sc_law_pair (fun vs H Q E h => ?_) (fun cdv A outer s H vs Q E hr h => ?_)
  · obtain ⟨x, b, c, rfl, _⟩ := h
    rfl
  · obtain ⟨x, b, c, rfl, hb, wx, wb, q⟩ := h
    refine ⟨_, (pss_cons (ps_set (i := 3) sc_law_pair.nd rfl (by first | exact Or.inl rfl | exact Or.inr rfl) (pe_op op_mod (pe_callTy call_int1 (by rfl) T.z_int (by decide +kernel) (pa_cons (pe_call (ok_law_mix (P := P) T) (hr.mono (by decide)) (by rfl) T.g_law_mix T.F_law_mix.kp (T.b_law_mix) .nil pass0 (pa_cons (pv 2) (pa_cons pe_int pa_nil))) pa_nil)) pe_int))
    (pss_cons (ps_set (i := 4) sc_law_pair.nd rfl (by first | exact Or.inl rfl | exact Or.inr rfl) (pe_op op_sub (pe_op op_mod (pe_callTy call_int1 (by rfl) T.z_int (by decide +kernel) (pa_cons (pe_call (ok_law_mix (P := P) T) (hr.mono (by decide)) (by rfl) T.g_law_mix T.F_law_mix.kp (T.b_law_mix) .nil pass0 (pa_cons (pv 2) (pa_cons pe_int pa_nil))) pa_nil)) pe_int) pe_int))
    (pss_cons (ps_if (pt_cmpR op_eq (pv 3) pe_int (by first | exact nomark _ | rfl))
      (pss_one (ps_ret (pe_tup (pa_cons (pe_op op_add (pe_op op_mulH (pv 1) (pv 0)) (pv 4)) (pa_cons (pv 1) pa_nil)))))
      pss_nil)
    (pss_cons (ps_if (pt_cmpR op_eq (pv 3) pe_int (by first | exact nomark _ | rfl))
      (pss_one (ps_ret (pe_tup (pa_cons (pe_op op_mulH (pv 1) (pe_op op_add (pe_op op_mulH pe_int (pv 0)) pe_int)) (pa_cons (pe_op op_mulH pe_int (pv 1)) pa_nil)))))
      pss_nil)
    (pss_cons (ps_if (pt_cmpR op_eq (pv 3) pe_int (by first | exact nomark _ | rfl))
      (pss_one (ps_ret (pe_tup (pa_cons (pe_op op_add (pe_op op_add (pe_op op_mulH (pv 1) (pv 0)) (pe_op op_fdiv (pv 1) pe_int)) (pv 4)) (pa_cons (pv 1) pa_nil)))))
      pss_nil)
    (pss_cons (ps_if (pt_cmpR op_eq (pv 3) pe_int (by first | exact nomark _ | rfl))
      (pss_one (ps_ret (pe_tup (pa_cons (pe_op op_add (pe_op op_mulH (pv 0) (pe_call (ok_law_mix (P := P) T) (hr.mono (by decide)) (by rfl) T.g_law_mix T.F_law_mix.kp (T.b_law_mix) .nil pass0 (pa_cons (pv 2) (pa_cons pe_int pa_nil)))) (pe_call (ok_law_mix (P := P) T) (hr.mono (by decide)) (by rfl) T.g_law_mix T.F_law_mix.kp (T.b_law_mix) .nil pass0 (pa_cons (pv 2) (pa_cons pe_int pa_nil)))) (pa_cons (pv 1) pa_nil)))))
      pss_nil)
    (pss_one (ps_ret (pe_tup (pa_cons (pv 0) (pa_cons (pv 1) pa_nil))))))))))), ?_⟩
    have w0 : W 1048577 (2 * x) := by
      rw [Int.two_mul]
      exact W.add wx wx
    have w1 : W 1048578 (2 * x + 1) := W.add w0 ((W.small (x := 1) (by decide)).mono (by decide))
    have wbx : W 2097153 (b * x) := (wb.mul wx).mono (by decide)
    have wb2 : W 2097153 (b / 2) := (wb.div (b := 2) (by decide)).mono (by decide)
    have w2b : W 1048578 (2 * b) := by
      rw [Int.two_mul]
      exact W.add wb wb
    walk_at "run"
    all_goals first
      | exact q _ _ _ _ (same_upd (by assumption)) (SqT.of upd_same) hb ((W.add wbx ((W.small (by omega)).mono (by decide))).mono (by decide)) (wb.mono (by decide))
      | exact q _ _ _ _ (same_upd (by assumption)) (SqT.of upd_same) (by omega) ((wb.mul w1).mono (by decide)) (w2b.mono (by decide))
      | exact q _ _ _ _ (same_upd (by assumption)) (SqT.of upd_same) hb ((W.add (W.add wbx wb2) ((W.small (by omega)).mono (by decide))).mono (by decide)) (wb.mono (by decide))
      | exact q _ _ _ _ (same_upd (by assumption)) (SqT.of upd_same) hb ((W.add (wx.mul (W.small (by omega))) ((W.small (by omega)).mono (by decide))).mono (by decide)) (wb.mono (by decide))
      | exact q _ _ _ _ (same_upd (by assumption)) (SqT.of upd_same) hb (wx.mono (by decide)) (wb.mono (by decide))

theorem ok_law_nearest (T : Txt K mg) : FnOk P w K mg base CX0 36 T.a_law_nearest T.d_law_nearest P_law_nearest (sp_law_nearest K) := by
  refine T.F_law_nearest.ok sc_law_nearest (fun vs H Q E h => ?_) (fun cdv A outer s H vs Q E hr h => ?_)
  · obtain ⟨a, b, rfl, _⟩ := h
    rfl
  · obtain ⟨a, b, rfl, hb, wa, wb, q⟩ := h
    refine ⟨_, (pss_cons (ps_set (i := 2) sc_law_nearest.nd rfl (by first | exact Or.inl rfl | exact Or.inr rfl) (pe_op (op_fdivH hT.e T.sr (hr.mono (by decide)) rfl rfl rfl) (pv 0) (pv 1)))
    (pss_cons (ps_set (i := 3) sc_law_nearest.nd rfl (by first | exact Or.inl rfl | exact Or.inr rfl) (pe_op op_mulH pe_int (pe_op op_sub (pv 0) (pe_op op_mulH (pv 2) (pv 1)))))
    (pss_cons (ps_if (PW.pt (pw_or (pt_cmpR op_gt (pv 3) (pv 1) (by first | exact nomark _ | rfl)) (pw_or1 (PW.pt (pw_and (pt_cmpR op_eq (pv 3) (pv 1) (by first | exact nomark _ | rfl)) (pw_and1 (pt_cmpR op_eq (pe_op op_mod (pe_callTy call_int1 (by rfl) T.z_int (by decide +kernel) (pa_cons (pv 2) pa_nil)) pe_int) pe_int (by first | exact nomark _ | rfl))))))))
      (pss_one (ps_ret (pe_op op_add (pv 2) pe_int)))
      pss_nil)
    (pss_one (ps_ret (pv 2)))))), ?_⟩
    have wq := wa.div hb
    have em := Int.mul_ediv_add_emod a b
    have ec := Int.mul_comm b (a / b)
    have r0 := Int.emod_nonneg a (show b ≠ 0 by omega)
    have r1 := Int.emod_lt_of_pos a hb
    walk_at "run"
    all_goals refine (congrArg (fun z => Q (V.int z) _) ?_).mp q
    all_goals (unfold near; (repeat' split) <;> omega)

theorem ok_law_is_integer (T : Txt K mg) : FnOk P w K mg base CX0 1 T.a_law_is_integer T.d_law_is_integer P_law_is_integer (sp_law_is_integer K) := by
  refine T.F_law_is_integer.ok sc_law_is_integer (fun vs H Q E h => ?_) (fun cdv A outer s H vs Q E hr h => ?_)
  · obtain ⟨x, rfl, _⟩ := h
    rfl
  · obtain ⟨x, rfl, q⟩ := h
    refine ⟨_, (pss_one (ps_ret (pe_and (pe_callB call_isiV (by rfl) T.z_isinstance (by decide +kernel) (pa_cons (pv 0) (pa_cons (pe_bltn (v := .ty "int") (by rfl) T.z_int (by decide +kernel) rfl) pa_nil))) (pe_and (pe_not (pe_callB call_isiV (by rfl) T.z_isinstance (by decide +kernel) (pa_cons (pv 0) (pa_cons (pe_bltn (v := .ty "bool") (by rfl) T.z_bool (by decide +kernel) rfl) pa_nil)))) (pe_one (pe_cmpR op_eq (pv 0) (pv 1) (by first | exact nomark _ | rfl))))))), ?_⟩
    walk_at "run"
    rw [decide_eq_true rfl]
    exact q

theorem oklaw (T : Txt K mg) : FnOk P w K mg base CX0 37 T.alaw T.dlaw Plaw (splaw K) := by
  refine T.Flaw.ok sclaw (fun vs H Q E h => ?_) (fun cdv A outer s H vs Q E hr h => ?_)
  · obtain ⟨a, ns, rfl, _⟩ := h
    rfl
  · obtain ⟨a, ns, rfl, hS, hl, hb, q⟩ := h
    refine ⟨_, (pss_cons (ps_set (i := 1) sclaw.nd rfl (by first | exact Or.inl rfl | exact Or.inr rfl) (pe_call (ok_law_pair (P := P) T) (hr.mono (by decide)) (by rfl) T.g_law_pair T.F_law_pair.kp (T.b_law_pair) .nil pass0 (pa_cons (pe_call (ok_law_cell (P := P) T) (hr.mono (by decide)) (by rfl) T.g_law_cell T.F_law_cell.kp (T.b_law_cell) .nil pass0 (pa_cons (pv 0) (pa_cons pe_int pa_nil))) (pa_cons (pe_call (ok_law_divisor (P := P) T) (hr.mono (by decide)) (by rfl) T.g_law_divisor T.F_law_divisor.kp (T.b_law_divisor) .nil pass0 (pa_cons (pe_call (ok_law_cell (P := P) T) (hr.mono (by decide)) (by rfl) T.g_law_cell T.F_law_cell.kp (T.b_law_cell) .nil pass0 (pa_cons (pv 0) (pa_cons pe_int pa_nil))) pa_nil)) (pa_cons (pe_call (ok_law_cell (P := P) T) (hr.mono (by decide)) (by rfl) T.g_law_cell T.F_law_cell.kp (T.b_law_cell) .nil pass0 (pa_cons (pv 0) (pa_cons pe_int pa_nil))) pa_nil)))))
    (pss_cons (ps_set (i := 2) sclaw.nd rfl (by first | exact Or.inl rfl | exact Or.inr rfl) (pe_ix ix_tup (pv 1) pe_int (fun _ _ => rfl)))
    (pss_cons (ps_set (i := 3) sclaw.nd rfl (by first | exact Or.inl rfl | exact Or.inr rfl) (pe_ix ix_tup (pv 1) pe_int (fun _ _ => rfl)))
    (pss_cons (ps_set (i := 4) sclaw.nd rfl (by first | exact Or.inl rfl | exact Or.inr rfl) (pe_call (ok_law_nearest (P := P) T) (hr.mono (by decide)) (by rfl) T.g_law_nearest T.F_law_nearest.kp (T.b_law_nearest) .nil pass0 (pa_cons (pv 2) (pa_cons (pv 3) pa_nil))))
    (pss_cons (ps_if (pt_not (pt_val (pe_call (ok_law_is_integer (P := P) T) (hr.mono (by decide)) (by rfl) T.g_law_is_integer T.F_law_is_integer.kp (T.b_law_is_integer) .nil pass0 (pa_cons (pe_call (okhalf_even (P := P) T) (hr.mono (by decide)) (by rfl) T.ghalf_even T.Fhalf_even.kp (T.bhalf_even) .nil pass0 (pa_cons (pv 2) (pa_cons (pv 3) pa_nil))) (pa_cons (pv 4) pa_nil)))))
      (pss_one (ps_ret pe_bl))
      pss_nil)
    (pss_cons (ps_if (pt_not (pt_val (pe_call (ok_law_is_integer (P := P) T) (hr.mono (by decide)) (by rfl) T.g_law_is_integer T.F_law_is_integer.kp (T.b_law_is_integer) .nil pass0 (pa_cons (pe_call (okhalf_even (P := P) T) (hr.mono (by decide)) (by rfl) T.ghalf_even T.Fhalf_even.kp (T.bhalf_even) .nil pass0 (pa_cons (pe_un un_neg (pv 2)) (pa_cons (pv 3) pa_nil))) (pa_cons (pe_un un_neg (pv 4)) pa_nil)))))
      (pss_one (ps_ret pe_bl))
      pss_nil)
    (pss_one (ps_ret (pe_call (ok_law_is_integer (P := P) T) (hr.mono (by decide)) (by rfl) T.g_law_is_integer T.F_law_is_integer.kp (T.b_law_is_integer) .nil pass0 (pa_cons (pe_callK0 (okhalf_even (P := P) T) (hr.mono (by decide)) (by rfl) T.ghalf_even T.Fhalf_even.kp (kbhalf_even_b_a T) pass0 (pk_cons (pv 3) (pk_cons (pv 2) pk_nil))) (pa_cons (pv 4) pa_nil))))))))))), ?_⟩
    walk_at "run"
    refine ⟨_, ns, 0, rfl, hS, ?_⟩
    refine ⟨_, rfl, _, ns, 1, rfl, hS, ?_⟩
    refine ⟨_, rfl, W.getD hb 1, fun b H1 s1 b0 wb => ?_⟩
    refine ⟨_, rfl, _, ns, 2, rfl, Same.seq s1 hS, ?_⟩
    refine ⟨_, _, _, rfl, b0, W.getD hb 0, wb, fun p a d H2 s2 hp d0 wa wd => ?_⟩
    walk_at "run"
    rw [near_neg d0]
    walk_at "run"
    exact q _

end
/-! ### the top -/
theorem all_mk {l : PySem.W.OpenLaw} {w : World} {K : PySem.W.Frag} {h : Heap} {mg : Str → Option Value} {fa : Addr} [hT : TreeN l.prog] (X : K.In h) (G : h.Ns mainGlobals mg) (hfa : mg "law" = some (.ref fa)) (sr : Seer K)
    {od0 an0 : Option Addr} {sl0 : Array (Option Value)} {oc0 kV0 dc0 pm0 cd0 ct0 : Value} {f0 : Addr}
    (a0 : PySem.W.nsIn K mainGlobals "half_even" = some (some (.ref f0))) (l0 : K.lookup f0 = some ⟨oc0, od0, .func (PySem.W.fnOf "half_even" "half_even" (defArgs shalf_even) (defBody shalf_even) (defScope shalf_even) .none kV0 dc0 pm0 an0 cd0 ct0), sl0⟩) (c0 : PySem.W.codeIn K cd0 "half_even" = true)
    {od1 an1 : Option Addr} {sl1 : Array (Option Value)} {oc1 kV1 dc1 pm1 cd1 ct1 : Value} {f1 : Addr}
    (a1 : PySem.W.nsIn K mainGlobals "_law_cell" = some (some (.ref f1))) (l1 : K.lookup f1 = some ⟨oc1, od1, .func (PySem.W.fnOf "_law_cell" "_law_cell" (defArgs s_law_cell) (defBody s_law_cell) (defScope s_law_cell) .none kV1 dc1 pm1 an1 cd1 ct1), sl1⟩) (c1 : PySem.W.codeIn K cd1 "_law_cell" = true)
    {od2 an2 : Option Addr} {sl2 : Array (Option Value)} {oc2 kV2 dc2 pm2 cd2 ct2 : Value} {f2 : Addr}
    (a2 : PySem.W.nsIn K mainGlobals "_law_mix" = some (some (.ref f2))) (l2 : K.lookup f2 = some ⟨oc2, od2, .func (PySem.W.fnOf "_law_mix" "_law_mix" (defArgs s_law_mix) (defBody s_law_mix) (defScope s_law_mix) .none kV2 dc2 pm2 an2 cd2 ct2), sl2⟩) (c2 : PySem.W.codeIn K cd2 "_law_mix" = true)
    {od3 an3 : Option Addr} {sl3 : Array (Option Value)} {oc3 kV3 dc3 pm3 cd3 ct3 : Value} {f3 : Addr}
    (a3 : PySem.W.nsIn K mainGlobals "_law_divisor" = some (some (.ref f3))) (l3 : K.lookup f3 = some ⟨oc3, od3, .func (PySem.W.fnOf "_law_divisor" "_law_divisor" (defArgs s_law_divisor) (defBody s_law_divisor) (defScope s_law_divisor) .none kV3 dc3 pm3 an3 cd3 ct3), sl3⟩) (c3 : PySem.W.codeIn K cd3 "_law_divisor" = true)
    {od4 an4 : Option Addr} {sl4 : Array (Option Value)} {oc4 kV4 dc4 pm4 cd4 ct4 : Value} {f4 : Addr}
    (a4 : PySem.W.nsIn K mainGlobals "_law_pair" = some (some (.ref f4))) (l4 : K.lookup f4 = some ⟨oc4, od4, .func (PySem.W.fnOf "_law_pair" "_law_pair" (defArgs s_law_pair) (defBody s_law_pair) (defScope s_law_pair) .none kV4 dc4 pm4 an4 cd4 ct4), sl4⟩) (c4 : PySem.W.codeIn K cd4 "_law_pair" = true)
    {od5 an5 : Option Addr} {sl5 : Array (Option Value)} {oc5 kV5 dc5 pm5 cd5 ct5 : Value} {f5 : Addr}
    (a5 : PySem.W.nsIn K mainGlobals "_law_nearest" = some (some (.ref f5))) (l5 : K.lookup f5 = some ⟨oc5, od5, .func (PySem.W.fnOf "_law_nearest" "_law_nearest" (defArgs s_law_nearest) (defBody s_law_nearest) (defScope s_law_nearest) .none kV5 dc5 pm5 an5 cd5 ct5), sl5⟩) (c5 : PySem.W.codeIn K cd5 "_law_nearest" = true)
    {od6 an6 : Option Addr} {sl6 : Array (Option Value)} {oc6 kV6 dc6 pm6 cd6 ct6 : Value} {f6 : Addr}
    (a6 : PySem.W.nsIn K mainGlobals "_law_is_integer" = some (some (.ref f6))) (l6 : K.lookup f6 = some ⟨oc6, od6, .func (PySem.W.fnOf "_law_is_integer" "_law_is_integer" (defArgs s_law_is_integer) (defBody s_law_is_integer) (defScope s_law_is_integer) .none kV6 dc6 pm6 an6 cd6 ct6), sl6⟩) (c6 : PySem.W.codeIn K cd6 "_law_is_integer" = true)
    {od7 an7 : Option Addr} {sl7 : Array (Option Value)} {oc7 kV7 dc7 pm7 cd7 ct7 : Value} {f7 : Addr}
    (a7 : PySem.W.nsIn K mainGlobals "law" = some (some (.ref f7))) (l7 : K.lookup f7 = some ⟨oc7, od7, .func (PySem.W.fnOf "law" "law" (defArgs slaw) (defBody slaw) (defScope slaw) .none kV7 dc7 pm7 an7 cd7 ct7), sl7⟩) (c7 : PySem.W.codeIn K cd7 "law" = true)
    (z_bool : PySem.W.nsIn K mainGlobals "bool" = some none)
    (z_divmod : PySem.W.nsIn K mainGlobals "divmod" = some none)
    (z_int : PySem.W.nsIn K mainGlobals "int" = some none)
    (z_isinstance : PySem.W.nsIn K mainGlobals "isinstance" = some none)
    (z_len : PySem.W.nsIn K mainGlobals "len" = some none) :
    ∃ fd : FuncData, (∀ (s : Shared) (v : Value), BindsTo s fd ⟨[v], []⟩ [("script", v)]) ∧ ∀ base : Heap, K.In base → base.Ns mainGlobals mg → FnOk l.prog w K mg base CX0 37 fa fd ["script"] (splaw K) := by
  have e := hfa.symm.trans (PySem.W.mg_of X G a7)
  cases e
  have F0 := fun_mk (st := shalf_even) l0 c0 (keep_fn l0)
  have b0 := F0.binds (ps := Phalf_even) fun _ _ _ _ _ _ us hl => match us, hl with | [_, _], _ => rfl
  have F1 := fun_mk (st := s_law_cell) l1 c1 (keep_fn l1)
  have b1 := F1.binds (ps := P_law_cell) fun _ _ _ _ _ _ us hl => match us, hl with | [_, _], _ => rfl
  have F2 := fun_mk (st := s_law_mix) l2 c2 (keep_fn l2)
  have b2 := F2.binds (ps := P_law_mix) fun _ _ _ _ _ _ us hl => match us, hl with | [_, _], _ => rfl
  have F3 := fun_mk (st := s_law_divisor) l3 c3 (keep_fn l3)
  have b3 := F3.binds (ps := P_law_divisor) fun _ _ _ _ _ _ us hl => match us, hl with | [_], _ => rfl
  have F4 := fun_mk (st := s_law_pair) l4 c4 (keep_fn l4)
  have b4 := F4.binds (ps := P_law_pair) fun _ _ _ _ _ _ us hl => match us, hl with | [_, _, _], _ => rfl
  have F5 := fun_mk (st := s_law_nearest) l5 c5 (keep_fn l5)
  have b5 := F5.binds (ps := P_law_nearest) fun _ _ _ _ _ _ us hl => match us, hl with | [_, _], _ => rfl
  have F6 := fun_mk (st := s_law_is_integer) l6 c6 (keep_fn l6)
  have b6 := F6.binds (ps := P_law_is_integer) fun _ _ _ _ _ _ us hl => match us, hl with | [_, _], _ => rfl
  have F7 := fun_mk (st := slaw) l7 c7 (keep_fn l7)
  have b7 := F7.binds (ps := Plaw) fun _ _ _ _ _ _ us hl => match us, hl with | [_], _ => rfl
  let T : Txt K mg := { ahalf_even := f0, dhalf_even := _, Fhalf_even := F0, ghalf_even := PySem.W.mg_of X G a0, bhalf_even := b0, a_law_cell := f1, d_law_cell := _, F_law_cell := F1, g_law_cell := PySem.W.mg_of X G a1, b_law_cell := b1, a_law_mix := f2, d_law_mix := _, F_law_mix := F2, g_law_mix := PySem.W.mg_of X G a2, b_law_mix := b2, a_law_divisor := f3, d_law_divisor := _, F_law_divisor := F3, g_law_divisor := PySem.W.mg_of X G a3, b_law_divisor := b3, a_law_pair := f4, d_law_pair := _, F_law_pair := F4, g_law_pair := PySem.W.mg_of X G a4, b_law_pair := b4, a_law_nearest := f5, d_law_nearest := _, F_law_nearest := F5, g_law_nearest := PySem.W.mg_of X G a5, b_law_nearest := b5, a_law_is_integer := f6, d_law_is_integer := _, F_law_is_integer := F6, g_law_is_integer := PySem.W.mg_of X G a6, b_law_is_integer := b6, alaw := fa, dlaw := _, Flaw := F7, glaw := PySem.W.mg_of X G a7, blaw := b7, z_bool := PySem.W.mg_none_of X G z_bool, z_divmod := PySem.W.mg_none_of X G z_divmod, z_int := PySem.W.mg_none_of X G z_int, z_isinstance := PySem.W.mg_none_of X G z_isinstance, z_len := PySem.W.mg_none_of X G z_len, sr := sr }
  exact ⟨T.dlaw, fun s v => .of_eq rfl, fun base _ _ => oklaw T⟩

end Mysheetworks_k02_half_even
open PySem PySem.W PyProof.Rows
set_option maxHeartbeats 0 in
theorem PySem.Challenge.cw_sheetworks_k02_half_even_holds : PySem.Challenge.rw_sheetworks_k02_half_even.Holds := by
  w_on; o_law; k_head; (case hw => w_witness2)
  k_fill
  refine Mysheetworks_k02_half_even.walk_seer (l := PySem.Challenge.rw_sheetworks_k02_half_even) (n := 63) (k := 37) (x := "script") (sp := Mysheetworks_k02_half_even.splaw) (by decide +kernel) rfl (by decide) rfl ⟨rfl, by decide, by decide⟩ (fun w h Y => PySem.W.kIn_of Y) ?F (fun _ _ a ns hl hb hS => ⟨a, ns, rfl, hS, hl, hb, fun _ => rfl⟩)
  case F =>
    intro w mg fa h K2 sb KX sr G hmg
    refine' Mysheetworks_k02_half_even.all_mk (hT := ⟨rfl⟩) KX G hmg sr ?a0 ?l0 ?c0 ?a1 ?l1 ?c1 ?a2 ?l2 ?c2 ?a3 ?l3 ?c3 ?a4 ?l4 ?c4 ?a5 ?l5 ?c5 ?a6 ?l6 ?c6 ?a7 ?l7 ?c7 ?z_bool ?z_divmod ?z_int ?z_isinstance ?z_len
    (case a0 => refine Mysheetworks_k02_half_even.ns_sub sb ?_; k_is); (case l0 => refine sb _ _ ?_; k_is); (case c0 => refine Mysheetworks_k02_half_even.code_sub sb ?_; k_is); (case a1 => refine Mysheetworks_k02_half_even.ns_sub sb ?_; k_is); (case l1 => refine sb _ _ ?_; k_is); (case c1 => refine Mysheetworks_k02_half_even.code_sub sb ?_; k_is); (case a2 => refine Mysheetworks_k02_half_even.ns_sub sb ?_; k_is); (case l2 => refine sb _ _ ?_; k_is); (case c2 => refine Mysheetworks_k02_half_even.code_sub sb ?_; k_is); (case a3 => refine Mysheetworks_k02_half_even.ns_sub sb ?_; k_is); (case l3 => refine sb _ _ ?_; k_is); (case c3 => refine Mysheetworks_k02_half_even.code_sub sb ?_; k_is); (case a4 => refine Mysheetworks_k02_half_even.ns_sub sb ?_; k_is); (case l4 => refine sb _ _ ?_; k_is); (case c4 => refine Mysheetworks_k02_half_even.code_sub sb ?_; k_is); (case a5 => refine Mysheetworks_k02_half_even.ns_sub sb ?_; k_is); (case l5 => refine sb _ _ ?_; k_is); (case c5 => refine Mysheetworks_k02_half_even.code_sub sb ?_; k_is); (case a6 => refine Mysheetworks_k02_half_even.ns_sub sb ?_; k_is); (case l6 => refine sb _ _ ?_; k_is); (case c6 => refine Mysheetworks_k02_half_even.code_sub sb ?_; k_is); (case a7 => refine Mysheetworks_k02_half_even.ns_sub sb ?_; k_is); (case l7 => refine sb _ _ ?_; k_is); (case c7 => refine Mysheetworks_k02_half_even.code_sub sb ?_; k_is); (case z_bool => refine Mysheetworks_k02_half_even.ns_sub sb ?_; k_is); (case z_divmod => refine Mysheetworks_k02_half_even.ns_sub sb ?_; k_is); (case z_int => refine Mysheetworks_k02_half_even.ns_sub sb ?_; k_is); (case z_isinstance => refine Mysheetworks_k02_half_even.ns_sub sb ?_; k_is); (case z_len => refine Mysheetworks_k02_half_even.ns_sub sb ?_; k_is)

