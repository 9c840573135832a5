import PyProof.Rows.All
import Wide.All
import OpenK.AllK
import Wide.FinOn
import HandS.ForMost
import HandS.Gcd
import Flt.RightSqrt
import KE.KMathG
import HandS.IsInst
import HandS.Wide
import HandS.WideBits
import HandS.StrMore
import HandS.FStr
import HandS.EndBits
import HandS.Codes
import HandS.Walk
import HandS.Strs
import PyProof.Rows.StrPadFill
import HandS.RaiseMore
import HandS.TupLe
import HandS.TupAny
import HandS.StrSplit
import HandS.Rev
import HandS.Sort
import HandS.Flow
import HandS.More
import HandS.Deep
import HandS.Lambda
import HandS.Nested
import HandS.EndTab
import HandS.CallLocal
import KE.KNestM
import HandS.Style
import HandS.Star
import HandS.NoneIn
import KE.KRevSl
import KE.KUnpackStar
import HandS.Walk
import HandS.Iter
import PySem.Challenge.RW_sheetworks_k17_shifts_composed
set_option Elab.async false
set_option linter.all false
set_option maxRecDepth 100000
set_option maxHeartbeats 20000000
namespace Mysheetworks_k17_shifts_composed
open PySem PySem.Spec PyProof.Rows L2
def topS (i : Nat) : Stmt := PySem.Challenge.pw_sheetworks_k17_shifts_composed.main.body.getD i (.Pass ⟨0, 0, 0, 0⟩)
abbrev sordered : Stmt := topS 3
abbrev Nordered : List Str := ["span", "low", "high", "fixed_low", "fixed_high"]
abbrev Pordered : List Str := ["span"]
theorem scordered : FnScope Nordered Pordered (defScope sordered) := ⟨rfl, rfl, rfl, by decide +kernel, rfl, by decide +kernel, by decide +kernel⟩
abbrev srow_span : Stmt := topS 4
abbrev Nrow_span : List Str := ["node", "kind", "_", "numbers", "row", "fixed_row"]
abbrev Prow_span : List Str := ["node"]
theorem scrow_span : FnScope Nrow_span Prow_span (defScope srow_span) := ⟨rfl, rfl, rfl, by decide +kernel, rfl, by decide +kernel, by decide +kernel⟩
abbrev scolumn_span : Stmt := topS 5
abbrev Ncolumn_span : List Str := ["node", "kind", "_", "numbers", "column", "fixed_column"]
abbrev Pcolumn_span : List Str := ["node"]
theorem sccolumn_span : FnScope Ncolumn_span Pcolumn_span (defScope scolumn_span) := ⟨rfl, rfl, rfl, by decide +kernel, rfl, by decide +kernel, by decide +kernel⟩
abbrev snode_of : Stmt := topS 6
abbrev Nnode_of : List Str := ["kind", "sheet", "rows", "columns", "top", "bottom", "fixed_top", "fixed_bottom", "left", "right", "fixed_left", "fixed_right"]
abbrev Pnode_of : List Str := ["kind", "sheet", "rows", "columns"]
theorem scnode_of : FnScope Nnode_of Pnode_of (defScope snode_of) := ⟨rfl, rfl, rfl, by decide +kernel, rfl, by decide +kernel, by decide +kernel⟩
abbrev sarea_of : Stmt := topS 10
abbrev Narea_of : List Str := ["node", "own", "key", "rows", "columns", "top", "bottom", "left", "right"]
abbrev Parea_of : List Str := ["node", "own"]
theorem scarea_of : FnScope Narea_of Parea_of (defScope sarea_of) := ⟨rfl, rfl, rfl, by decide +kernel, rfl, by decide +kernel, by decide +kernel⟩
abbrev srebuilt : Stmt := topS 11
abbrev Nrebuilt : List Str := ["tree", "deed", "kind"]
abbrev Prebuilt : List Str := ["tree", "deed"]
theorem screbuilt : FnScope Nrebuilt Prebuilt (defScope srebuilt) := ⟨rfl, rfl, rfl, by decide +kernel, rfl, by decide +kernel, by decide +kernel⟩
abbrev sall_rebuilt : Stmt := topS 12
abbrev Nall_rebuilt : List Str := ["trees", "deed", "tree"]
abbrev Pall_rebuilt : List Str := ["trees", "deed"]
theorem scall_rebuilt : FnScope Nall_rebuilt Pall_rebuilt (defScope sall_rebuilt) := ⟨rfl, rfl, rfl, by decide +kernel, rfl, by decide +kernel, by decide +kernel⟩
abbrev swith_spans : Stmt := topS 13
abbrev Nwith_spans : List Str := ["node", "rows_deed", "columns_deed", "rows", "columns", "new_rows", "new_columns"]
abbrev Pwith_spans : List Str := ["node", "rows_deed", "columns_deed"]
theorem scwith_spans : FnScope Nwith_spans Pwith_spans (defScope swith_spans) := ⟨rfl, rfl, rfl, by decide +kernel, rfl, by decide +kernel, by decide +kernel⟩
abbrev sshifted : Stmt := topS 14
abbrev Nshifted : List Str := ["tree", "down", "right", "deed"]
abbrev Pshifted : List Str := ["tree", "down", "right"]
theorem scshifted : FnScope Nshifted Pshifted (defScope sshifted) := ⟨rfl, rfl, rfl, by decide +kernel, rfl, by decide +kernel, by decide +kernel⟩
abbrev sshifted_span : Stmt := topS 15
abbrev Nshifted_span : List Str := ["span", "many", "size", "low", "high", "fixed_low", "fixed_high", "new_low", "new_high"]
abbrev Pshifted_span : List Str := ["span", "many", "size"]
theorem scshifted_span : FnScope Nshifted_span Pshifted_span (defScope sshifted_span) := ⟨rfl, rfl, rfl, by decide +kernel, rfl, by decide +kernel, by decide +kernel⟩
abbrev s_law_mixed : Stmt := topS 17
abbrev N_law_mixed : List Str := ["cell", "turn", "one", "two"]
abbrev P_law_mixed : List Str := ["cell", "turn"]
theorem sc_law_mixed : FnScope N_law_mixed P_law_mixed (defScope s_law_mixed) := ⟨rfl, rfl, rfl, by decide +kernel, rfl, by decide +kernel, by decide +kernel⟩
abbrev s_law_draw : Stmt := topS 18
abbrev N_law_draw : List Str := ["state", "limit", "cells", "cell", "found"]
abbrev P_law_draw : List Str := ["state", "limit"]
theorem sc_law_draw : FnScope N_law_draw P_law_draw (defScope s_law_draw) := ⟨rfl, rfl, rfl, by decide +kernel, rfl, by decide +kernel, by decide +kernel⟩
abbrev s_law_start : Stmt := topS 19
abbrev N_law_start : List Str := ["script", "state", "cell"]
abbrev P_law_start : List Str := ["script"]
theorem sc_law_start : FnScope N_law_start P_law_start (defScope s_law_start) := ⟨rfl, rfl, rfl, by decide +kernel, rfl, by decide +kernel, by decide +kernel⟩
abbrev s_law_near : Stmt := topS 20
abbrev N_law_near : List Str := ["state", "span", "k"]
abbrev P_law_near : List Str := ["state", "span"]
theorem sc_law_near : FnScope N_law_near P_law_near (defScope s_law_near) := ⟨rfl, rfl, rfl, by decide +kernel, rfl, by decide +kernel, by decide +kernel⟩
abbrev s_law_words : Stmt := topS 21
abbrev N_law_words : List Str := ["words", "row", "k"]
abbrev P_law_words : List Str := []
theorem sc_law_words : FnScope N_law_words P_law_words (defScope s_law_words) := ⟨rfl, rfl, rfl, by decide +kernel, rfl, by decide +kernel, by decide +kernel⟩
abbrev s_law_is_cell : Stmt := topS 22
abbrev N_law_is_cell : List Str := ["word", "k"]
abbrev P_law_is_cell : List Str := ["word"]
theorem sc_law_is_cell : FnScope N_law_is_cell P_law_is_cell (defScope s_law_is_cell) := ⟨rfl, rfl, rfl, by decide +kernel, rfl, by decide +kernel, by decide +kernel⟩
abbrev s_law_name : Stmt := topS 23
abbrev N_law_name : List Str := ["state", "plan", "signs", "word", "k", "row"]
abbrev P_law_name : List Str := ["state", "plan"]
theorem sc_law_name : FnScope N_law_name P_law_name (defScope s_law_name) := ⟨rfl, rfl, rfl, by decide +kernel, rfl, by decide +kernel, by decide +kernel⟩
abbrev s_law_signs : Stmt := topS 24
abbrev N_law_signs : List Str := ["signs"]
abbrev P_law_signs : List Str := []
theorem sc_law_signs : FnScope N_law_signs P_law_signs (defScope s_law_signs) := ⟨rfl, rfl, rfl, by decide +kernel, rfl, by decide +kernel, by decide +kernel⟩
abbrev s_law_text : Stmt := topS 25
abbrev N_law_text : List Str := ["state", "signs", "size", "k"]
abbrev P_law_text : List Str := ["state"]
theorem sc_law_text : FnScope N_law_text P_law_text (defScope s_law_text) := ⟨rfl, rfl, rfl, by decide +kernel, rfl, by decide +kernel, by decide +kernel⟩
abbrev s_law_amount : Stmt := topS 26
abbrev N_law_amount : List Str := ["state", "kind"]
abbrev P_law_amount : List Str := ["state"]
theorem sc_law_amount : FnScope N_law_amount P_law_amount (defScope s_law_amount) := ⟨rfl, rfl, rfl, by decide +kernel, rfl, by decide +kernel, by decide +kernel⟩
abbrev s_law_scalar : Stmt := topS 27
abbrev N_law_scalar : List Str := ["state", "signed", "kind", "amount"]
abbrev P_law_scalar : List Str := ["state", "signed"]
theorem sc_law_scalar : FnScope N_law_scalar P_law_scalar (defScope s_law_scalar) := ⟨rfl, rfl, rfl, by decide +kernel, rfl, by decide +kernel, by decide +kernel⟩
abbrev s_law_array : Stmt := topS 28
abbrev N_law_array : List Str := ["state", "height", "width", "j", "i"]
abbrev P_law_array : List Str := ["state"]
theorem sc_law_array : FnScope N_law_array P_law_array (defScope s_law_array) := ⟨rfl, rfl, rfl, by decide +kernel, rfl, by decide +kernel, by decide +kernel⟩
abbrev s_law_area : Stmt := topS 29
abbrev N_law_area : List Str := ["state", "plan", "sheet", "tops", "lefts", "marks", "k", "kind"]
abbrev P_law_area : List Str := ["state", "plan"]
theorem sc_law_area : FnScope N_law_area P_law_area (defScope s_law_area) := ⟨rfl, rfl, rfl, by decide +kernel, rfl, by decide +kernel, by decide +kernel⟩
abbrev s_law_leaf : Stmt := topS 30
abbrev N_law_leaf : List Str := ["state", "plan", "kind", "empty"]
abbrev P_law_leaf : List Str := ["state", "plan"]
theorem sc_law_leaf : FnScope N_law_leaf P_law_leaf (defScope s_law_leaf) := ⟨rfl, rfl, rfl, by decide +kernel, rfl, by decide +kernel, by decide +kernel⟩
abbrev s_law_filled : Stmt := topS 31
abbrev N_law_filled : List Str := ["state", "trees", "many", "row", "k"]
abbrev P_law_filled : List Str := ["state", "trees", "many"]
theorem sc_law_filled : FnScope N_law_filled P_law_filled (defScope s_law_filled) := ⟨rfl, rfl, rfl, by decide +kernel, rfl, by decide +kernel, by decide +kernel⟩
abbrev s_law_call : Stmt := topS 32
abbrev N_law_call : List Str := ["state", "plan", "trees", "start", "many", "word", "k"]
abbrev P_law_call : List Str := ["state", "plan", "trees"]
theorem sc_law_call : FnScope N_law_call P_law_call (defScope s_law_call) := ⟨rfl, rfl, rfl, by decide +kernel, rfl, by decide +kernel, by decide +kernel⟩
abbrev s_law_apply : Stmt := topS 33
abbrev N_law_apply : List Str := ["state", "trees", "many"]
abbrev P_law_apply : List Str := ["state", "trees"]
theorem sc_law_apply : FnScope N_law_apply P_law_apply (defScope s_law_apply) := ⟨rfl, rfl, rfl, by decide +kernel, rfl, by decide +kernel, by decide +kernel⟩
abbrev s_law_let : Stmt := topS 34
abbrev N_law_let : List Str := ["state", "plan", "trees", "many", "row", "k"]
abbrev P_law_let : List Str := ["state", "plan", "trees"]
theorem sc_law_let : FnScope N_law_let P_law_let (defScope s_law_let) := ⟨rfl, rfl, rfl, by decide +kernel, rfl, by decide +kernel, by decide +kernel⟩
abbrev s_law_lambda : Stmt := topS 35
abbrev N_law_lambda : List Str := ["state", "plan", "body", "words", "k", "word"]
abbrev P_law_lambda : List Str := ["state", "plan", "body"]
theorem sc_law_lambda : FnScope N_law_lambda P_law_lambda (defScope s_law_lambda) := ⟨rfl, rfl, rfl, by decide +kernel, rfl, by decide +kernel, by decide +kernel⟩
abbrev s_law_node : Stmt := topS 36
abbrev N_law_node : List Str := ["state", "plan", "trees", "many", "kind", "signs"]
abbrev P_law_node : List Str := ["state", "plan", "trees"]
theorem sc_law_node : FnScope N_law_node P_law_node (defScope s_law_node) := ⟨rfl, rfl, rfl, by decide +kernel, rfl, by decide +kernel, by decide +kernel⟩
abbrev s_law_parts : Stmt := topS 37
abbrev N_law_parts : List Str := ["tree"]
abbrev P_law_parts : List Str := ["tree"]
theorem sc_law_parts : FnScope N_law_parts P_law_parts (defScope s_law_parts) := ⟨rfl, rfl, rfl, by decide +kernel, rfl, by decide +kernel, by decide +kernel⟩
abbrev s_law_size : Stmt := topS 38
abbrev N_law_size : List Str := ["tree", "parts", "part", "deep"]
abbrev P_law_size : List Str := ["tree"]
theorem sc_law_size : FnScope N_law_size P_law_size (defScope s_law_size) := ⟨rfl, rfl, rfl, by decide +kernel, rfl, by decide +kernel, by decide +kernel⟩
abbrev s_law_fits : Stmt := topS 39
abbrev N_law_fits : List Str := ["tree", "room", "deep", "size"]
abbrev P_law_fits : List Str := ["tree", "room", "deep"]
theorem sc_law_fits : FnScope N_law_fits P_law_fits (defScope s_law_fits) := ⟨rfl, rfl, rfl, by decide +kernel, rfl, by decide +kernel, by decide +kernel⟩
abbrev s_law_grown : Stmt := topS 40
abbrev N_law_grown : List Str := ["state", "plan", "stack", "size", "room", "deep", "node"]
abbrev P_law_grown : List Str := ["state", "plan", "stack", "size", "room", "deep"]
theorem sc_law_grown : FnScope N_law_grown P_law_grown (defScope s_law_grown) := ⟨rfl, rfl, rfl, by decide +kernel, rfl, by decide +kernel, by decide +kernel⟩
abbrev s_law_gathered : Stmt := topS 41
abbrev N_law_gathered : List Str := ["state", "stack", "room", "deep", "trees", "total", "tree", "size"]
abbrev P_law_gathered : List Str := ["state", "stack", "room", "deep"]
theorem sc_law_gathered : FnScope N_law_gathered P_law_gathered (defScope s_law_gathered) := ⟨rfl, rfl, rfl, by decide +kernel, rfl, by decide +kernel, by decide +kernel⟩
abbrev s_law_tree : Stmt := topS 42
abbrev N_law_tree : List Str := ["state", "plan", "room", "deep", "stack", "sizes", "steps", "k", "size", "tree", "trees", "node"]
abbrev P_law_tree : List Str := ["state", "plan", "room", "deep"]
theorem sc_law_tree : FnScope N_law_tree P_law_tree (defScope s_law_tree) := ⟨rfl, rfl, rfl, by decide +kernel, rfl, by decide +kernel, by decide +kernel⟩
abbrev s_law_walk : Stmt := topS 43
abbrev N_law_walk : List Str := ["tree", "found", "rest", "node", "part"]
abbrev P_law_walk : List Str := ["tree"]
theorem sc_law_walk : FnScope N_law_walk P_law_walk (defScope s_law_walk) := ⟨rfl, rfl, rfl, by decide +kernel, rfl, by decide +kernel, by decide +kernel⟩
abbrev s_law_same : Stmt := topS 44
abbrev N_law_same : List Str := ["actual", "due", "k"]
abbrev P_law_same : List Str := ["actual", "due"]
theorem sc_law_same : FnScope N_law_same P_law_same (defScope s_law_same) := ⟨rfl, rfl, rfl, by decide +kernel, rfl, by decide +kernel, by decide +kernel⟩
abbrev s_law_is_area : Stmt := topS 45
abbrev N_law_is_area : List Str := ["node"]
abbrev P_law_is_area : List Str := ["node"]
theorem sc_law_is_area : FnScope N_law_is_area P_law_is_area (defScope s_law_is_area) := ⟨rfl, rfl, rfl, by decide +kernel, rfl, by decide +kernel, by decide +kernel⟩
abbrev s_law_meant : Stmt := topS 46
abbrev N_law_meant : List Str := ["node", "own", "sheet"]
abbrev P_law_meant : List Str := ["node", "own"]
theorem sc_law_meant : FnScope N_law_meant P_law_meant (defScope s_law_meant) := ⟨rfl, rfl, rfl, by decide +kernel, rfl, by decide +kernel, by decide +kernel⟩
abbrev s_law_step : Stmt := topS 47
abbrev N_law_step : List Str := ["state", "count", "kind", "far"]
abbrev P_law_step : List Str := ["state", "count"]
theorem sc_law_step : FnScope N_law_step P_law_step (defScope s_law_step) := ⟨rfl, rfl, rfl, by decide +kernel, rfl, by decide +kernel, by decide +kernel⟩
abbrev s_law_ends : Stmt := topS 48
abbrev N_law_ends : List Str := ["low", "high", "low_mark", "high_mark", "step", "count"]
abbrev P_law_ends : List Str := ["low", "high", "low_mark", "high_mark", "step", "count"]
theorem sc_law_ends : FnScope N_law_ends P_law_ends (defScope s_law_ends) := ⟨rfl, rfl, rfl, by decide +kernel, rfl, by decide +kernel, by decide +kernel⟩
abbrev s_law_moved : Stmt := topS 49
abbrev N_law_moved : List Str := ["node", "down", "right", "row", "column", "ends"]
abbrev P_law_moved : List Str := ["node", "down", "right"]
theorem sc_law_moved : FnScope N_law_moved P_law_moved (defScope s_law_moved) := ⟨rfl, rfl, rfl, by decide +kernel, rfl, by decide +kernel, by decide +kernel⟩
abbrev s_law_shifted : Stmt := topS 50
abbrev N_law_shifted : List Str := ["tree", "down", "right", "part"]
abbrev P_law_shifted : List Str := ["tree", "down", "right"]
theorem sc_law_shifted : FnScope N_law_shifted P_law_shifted (defScope s_law_shifted) := ⟨rfl, rfl, rfl, by decide +kernel, rfl, by decide +kernel, by decide +kernel⟩
abbrev s_law_areas : Stmt := topS 51
abbrev N_law_areas : List Str := ["tree", "node"]
abbrev P_law_areas : List Str := ["tree"]
theorem sc_law_areas : FnScope N_law_areas P_law_areas (defScope s_law_areas) := ⟨rfl, rfl, rfl, by decide +kernel, rfl, by decide +kernel, by decide +kernel⟩
abbrev s_law_meanings : Stmt := topS 52
abbrev N_law_meanings : List Str := ["nodes", "own", "node"]
abbrev P_law_meanings : List Str := ["nodes", "own"]
theorem sc_law_meanings : FnScope N_law_meanings P_law_meanings (defScope s_law_meanings) := ⟨rfl, rfl, rfl, by decide +kernel, rfl, by decide +kernel, by decide +kernel⟩
abbrev slaw : Stmt := topS 53
abbrev Nlaw : List Str := ["script", "state", "rows", "columns", "own", "keys", "plan", "steps", "k", "tree", "due", "second", "total"]
abbrev Plaw : List Str := ["script"]
theorem sclaw : FnScope Nlaw Plaw (defScope slaw) := ⟨rfl, rfl, rfl, by decide +kernel, rfl, by decide +kernel, by decide +kernel⟩

/-! ### own rules -/
theorem pe_powc {X : Cx} {a b c : Int} {j k : Nat} {p q pos : Pos} (hb : 0 ≤ b ∧ b ≤ 1000000 ∧ a.natAbs < 2 ^ 64) (h : a ^ b.toNat = c) : PE X (.BinOp (.Constant (.int a) j p) .Pow (.Constant (.int b) k q) pos) (tC (.int c)) :=
  ⟨fun pins s σ H Q I hq => (pe_op op_pow pe_int pe_int).run pins s σ H Q I ⟨a, b, rfl, rfl, hb, by
    show Q (.int (a ^ b.toNat)) H
    rw [h]
    exact hq⟩⟩
/-- isinstance of a flat value: told by its kind -/
def isiV : V → String → Option Bool
  | .int _, "int" => some true | .bl _, "int" => some true | .str _, "int" => some false | .non, "int" => some false
  | .int _, "bool" => some false | .bl _, "bool" => some true | .str _, "bool" => some false | .non, "bool" => some false
  | .int _, "str" => some false | .bl _, "str" => some false | .str _, "str" => some true | .non, "str" => some false
  | .int _, "tuple" => some false | .bl _, "tuple" => some false | .str _, "tuple" => some false | .non, "tuple" => some false
  | _, _ => none
theorem call_isiV {X : Cx} : CallR X (.builtin "isinstance") (fun xs H Q => ∃ x n b, xs = [x, .ty n] ∧ isiV x n = some b ∧ Q (.bl b) H) := by
  intro pins s σ H xs us Q I r h
  obtain ⟨x, n, b, rfl, e, q⟩ := h
  refine call_isi pins s σ H _ us Q I r ?_
  unfold isiV at e
  split at e
  case h_17 => cases e
  all_goals (cases e)
  all_goals first
    | exact ⟨_, _, .type "int", _, _, rfl, .ty _, .base (.int _), kit_ty (by decide +kernel), q⟩
    | exact ⟨_, _, .type "bool", _, _, rfl, .ty _, .base (.bl _), kit_ty (by decide +kernel), q⟩
    | exact ⟨_, _, .type "str", _, _, rfl, .ty _, .base (.str _), kit_ty (by decide +kernel), q⟩
    | exact ⟨_, _, .type "NoneType", _, _, rfl, .ty _, .base .non, kit_ty (by decide +kernel), q⟩
/-- how a call by keywords alone binds -/
structure KB0 (K : PySem.W.Frag) (fd : FuncData) (ps ks : List Str) (g : List Value → List Value) (gV : List V → List V) : Prop where
  to : ∀ (s : Shared) (ws : List Value), ws.length = ks.length → BindsTo s fd ⟨[], ks.zip ws⟩ (ps.zip (g ws))
  rel : ∀ {zs : List V} {ws : List Value}, Vals zs ws → Vals (gV zs) (g ws)
def tCallK0 (n : Nat) (sp : Sp) (gV : List V → List V) (E : XK) (tk : TA) : TE := fun σ H Q => tk σ H fun zs H2 => zs.length = n ∧ sp (gV zs) H2 Q E
theorem pe_callK0 {X : Cx} {CX : CXT} {k : Nat} {f : Addr} {fd : FuncData} {ps ks : List Str} {sp : Sp} {E : XK} {x : Str} {p pos : Pos} {kws : List Keyword} {tk : TA} {g : List Value → List Value} {gV : List V → List V}
    (F : FnOk X.prog X.w X.K X.mg X.base CX k f fd ps sp) (hr : Room k X.A) (hg : Gl X x) (hm : X.mg x = some (.ref f)) (hk : PySem.W.keepIn X.K (.ref f) = true) (hb : KB0 X.K fd ps ks g gV) (hx : Passes CX X E)
    (hkw : PK X kws tk) (hall : (backToKw pos (keywordEach kws X.env)).all (·.1.isSome) = true := by rfl) (hks : (backToKw pos (keywordEach kws X.env)).filterMap (·.1) = ks := by rfl)
    (hdb : (x == ("__debug__" : Str)) = false := by decide)
    (hpl : ((backTo pos (starEach [] X.env)).any (·.1) || (backToKw pos (keywordEach kws X.env)).any (·.1.isNone)) = false := by rfl) :
    PE X (.Call (.Name x p) [] kws pos) (tCallK0 ks.length sp gV E tk) := by
  refine ⟨fun pins s σ H Q I h => ?_⟩
  refine wpAny_Call_Name_kw (ld_glob I hg hm ?_ hdb)
  refine PySem.W.callWith_KW0 (h₀ := X.base) I.ok.mod.kin hk hall (thn (hkw.run pos pins s σ H _ I h) fun ws s2 ⟨zs, H2, I2, rz, l2, q2⟩ => ⟨I2.kIn, ?_⟩) hpl
  rw [hks]
  have r2 := hb.rel rz
  refine wpAny_call (codeAny_mono (F.run X.A X.stack s2 H2 ⟨[], ks.zip ws⟩ (g ws) (gV zs) Q E hr I2.env0 (hb.to s2 ws (rz.length.symm.trans l2)) r2 q2) fun r s' hq => ?_)
  cases r with
  | error e => exact hx pins σ H2 s2 e s' I2 hq
  | ok fl =>
    cases fl with
    | ret u => exact I2.after hq
    | next => exact False.elim hq
    | brk => exact False.elim hq
    | cont => exact False.elim hq
theorem atI_mem {xs : List V} {i : Int} (h0 : 0 ≤ i) (h1 : i < (xs.length : Int)) : ∃ v, v ∈ xs ∧ atI xs i = some v := by
  obtain ⟨n, rfl⟩ := Int.eq_ofNat_of_zero_le h0
  have h2 : n < xs.length := by omega
  exact ⟨xs[n], List.getElem_mem h2, atI_nat (List.getElem?_eq_getElem h2)⟩
/-- rules with conditions that are linear -/
theorem opr_imp {X : Cx} {f : Value → Value → Sem Value} {C C' : Int → Int → Prop} {g : Int → Int → V} (h : OpR X f (rI C g)) (k : ∀ i j, C' i j → C i j) : OpR X f (rI C' g) := fun pins s σ H x y v u Q I rx ry hq => by
  obtain ⟨i, j, ex, ey, hc, q⟩ := hq
  exact h pins s σ H x y v u Q I rx ry ⟨i, j, ex, ey, k i j hc, q⟩
def CB (_ j : Int) : Prop := 0 < j ∧ j < 1267650600228229401496703205376
def CMB (i j : Int) : Prop := (-1000000000000000000000000000000000000000000000000000000000000 < i ∧ i < 1000000000000000000000000000000000000000000000000000000000000) ∧ (-1000000000000000000000000000000000000000000000000000000000000 < j ∧ j < 1000000000000000000000000000000000000000000000000000000000000)
theorem abs200 {i : Int} (h : -1000000000000000000000000000000000000000000000000000000000000 < i ∧ i < 1000000000000000000000000000000000000000000000000000000000000) : i.natAbs < 2 ^ 200 := by
  have e : (2 : Nat) ^ 200 = 1606938044258990275541962092341162602522202993782792835301376 := by decide
  rw [e]
  omega
theorem abs100 {i : Int} (h : 0 < i ∧ i < 1267650600228229401496703205376) : i.natAbs < 2 ^ 100 := by
  have e : (2 : Nat) ^ 100 = 1267650600228229401496703205376 := by decide
  rw [e]
  omega
theorem op_mulB {X : Cx} : OpR X (binaryOp .Mult) (rI CMB fun i j => .int (i * j)) := opr_imp op_mulW fun i j h => wide_mul (abs200 h.1) (abs200 h.2) (by decide) (by decide) (by decide)
theorem op_fdivB {X : Cx} : OpR X (binaryOp .FloorDiv) (rI CB fun i j => .int (i / j)) := opr_imp op_fdivW fun i j h => wide_div h.1 (abs100 h) (by decide) (by decide)
theorem ediv_up {i j : Int} (h : 0 < j) (h0 : 0 ≤ i) : 0 ≤ i / j ∧ i / j ≤ i := ⟨Int.ediv_nonneg h0 (Int.le_of_lt h), Int.ediv_le_self j h0⟩
theorem ediv_dn {i j : Int} (h : 0 < j) (h0 : i < 0) : i ≤ i / j ∧ i / j < 0 := by
  refine ⟨?_, Int.ediv_neg_of_neg_of_pos h0 h⟩
  rw [Int.le_ediv_iff_mul_le h]
  have a : i * (j - 1) ≤ 0 := Int.mul_nonpos_of_nonpos_of_nonneg (Int.le_of_lt h0) (by omega)
  rw [Int.mul_sub, Int.mul_one] at a
  omega
/-- the quotient as a letter, with its bounds -/
theorem op_fdivL {X : Cx} : OpR X (binaryOp .FloorDiv) (fun x y H Q => ∃ i j, x = .int i ∧ y = .int j ∧ CB i j ∧ ∀ d, d = i / j → (0 ≤ i → 0 ≤ d ∧ d ≤ i) → (i < 0 → i ≤ d ∧ d < 0) → Q (.int d) H) := fun pins s σ H x y v u Q I rx ry hq => by
  obtain ⟨i, j, ex, ey, hc, q⟩ := hq
  exact op_fdivB pins s σ H x y v u Q I rx ry ⟨i, j, ex, ey, hc, q _ rfl (ediv_up hc.1) (ediv_dn hc.1)⟩
theorem call_divmodB {X : Cx} : CallR X (.builtin "divmod") (fun xs H Q => ∃ i j, xs = [.int i, .int j] ∧ CB i j ∧ ∀ p, H p = none → Q (.ref p) (upd H p (.tup [.int (i / j), .int (i % j)]))) := fun pins s σ H xs us Q I r hq => by
  obtain ⟨i, j, ex, hc, q⟩ := hq
  have w := wide_div (i := i) hc.1 (abs100 hc) (by decide) (by decide)
  exact call_divmodW pins s σ H xs us Q I r ⟨i, j, ex, ⟨hc.1, PyProof.noPylong_of_log2 w.2⟩, q⟩
theorem iteEqI {i j : Int} {A B : Prop} (h1 : i = j → A) (h2 : ¬ i = j → B) : if decide (V.int i = V.int j) = true then A else B := by
  by_cases h : i = j
  · rw [if_pos (decide_eq_true (congrArg V.int h))]
    exact h1 h
  · rw [if_neg (fun z => h (V.int.inj (of_decide_eq_true z)))]
    exact h2 h
theorem iteNeI {i j : Int} {A B : Prop} (h1 : ¬ i = j → A) (h2 : i = j → B) : if (!decide (V.int i = V.int j)) = true then A else B := by
  by_cases h : i = j
  · rw [decide_eq_true (congrArg V.int h)]
    exact iteF (h2 h)
  · rw [decide_eq_false (fun z => h (V.int.inj z))]
    exact iteT (h1 h)
theorem iteSS {x : Str} {A B : Prop} (h : A) : if decide (V.str x = V.str x) = true then A else B := by
  rw [if_pos (decide_eq_true rfl)]
  exact h
theorem iteIS {i : Int} {x : Str} {A B : Prop} (h : B) : if decide (V.int i = V.str x) = true then A else B := by
  rw [if_neg (fun z => V.noConfusion (of_decide_eq_true z))]
  exact h
theorem iteD {c A B : Prop} [Decidable c] (h1 : c → A) (h2 : ¬ c → B) : if decide c = true then A else B := by
  by_cases h : c
  · rw [if_pos (decide_eq_true h)]
    exact h1 h
  · rw [if_neg (fun z => h (of_decide_eq_true z))]
    exact h2 h
theorem same_upd {H : Hp} {p : Addr} {o : HO} (h : H p = none) : Same H (upd H p o) := fun b x e => by
  rw [upd_ne (ne_of_none e h)]
  exact e
theorem ix_listK {X : Cx} {K : PySem.W.Frag} (e : X.K = K) : IxR X (rIxL K) := e ▸ ix_list
theorem ix_tupK {X : Cx} {K : PySem.W.Frag} (e : X.K = K) : IxR X (rIxT K) := e ▸ ix_tup
theorem ix_seqK {X : Cx} {K : PySem.W.Frag} (e : X.K = K) : IxR X (rIx K) := e ▸ ix_seq
theorem call_len_seqK {X : Cx} {K : PySem.W.Frag} (e : X.K = K) : CallR X (.builtin "len") (fun xs H Q => ∃ p ys, xs = [.ref p] ∧ (SqL K H p ys ∨ SqT K H p ys) ∧ Q (.int ys.length) H) := e ▸ call_len_seq
/-- an item of a list, whichever -/
theorem atI_go {K : PySem.W.Frag} {p : Addr} {xs : List V} {i : Int} {H : Hp} {Q : VK} (h : SqL K H p xs) (h0 : 0 ≤ i) (h1 : i < (xs.length : Int)) (q : ∀ v, v ∈ xs → Q v H) : rIxL K (.ref p) (.int i) H Q := by
  obtain ⟨v, hv, e⟩ := atI_mem h0 h1
  exact ⟨_, _, _, v, rfl, rfl, h, e, q v hv⟩

/-- the product as a letter, with its bounds -/
theorem op_mulL {X : Cx} : OpR X (binaryOp .Mult) (fun x y H Q => ∃ i j, x = .int i ∧ y = .int j ∧ CMul i j ∧ ∀ d, d = i * j → (0 ≤ i → 0 ≤ j → 0 ≤ d) → (0 ≤ i → i ≤ 100000000000000 → 0 ≤ j → j ≤ 100000000000000 → d ≤ 10000000000000000000000000000) → Q (.int d) H) := fun pins s σ H x y v u Q I rx ry hq => by
  obtain ⟨i, j, ex, ey, hc, q⟩ := hq
  exact op_mul pins s σ H x y v u Q I rx ry ⟨i, j, ex, ey, hc, q _ rfl (fun a b => Int.mul_nonneg a b) (fun a b c d => Int.le_trans (Int.mul_le_mul b d c (by decide)) (by decide))⟩

section
open HT
variable {prog : Program} {w : World} {A : Around} {E : Value → Shared → Prop} {s : Shared}
theorem places_rev (n : Nat) : Builtin.Slice.slicePlaces ((n : Int) - 1) (-1) (-1) = n := by
  unfold Builtin.Slice.slicePlaces
  have h1 : ¬ ((-1 : Int) > 0) := by decide
  by_cases h : (n : Int) - 1 > -1
  · rw [if_neg h1, if_pos h, show (- -1 : Int) = 1 by decide, Int.ediv_one]
    omega
  · rw [if_neg h1, if_neg h]
    omega
theorem sliceApplied_rev {sl : Addr} {vl vu vs : Value} {n : Nat} {Q : Int × Int × Nat → Shared → Prop} (hs : s.heap.IsSliceOf sl vl vu vs) (pl : IsPart vl none) (pu : IsPart vu none) (ps : IsPart vs (some (-1)))
    (h : Q ((n : Int) - 1, -1, n) s) : wpAny (model prog w) A (Builtin.Slice.sliceApplied (.ref sl) (pure (n : Int))) Q E s := by
  obtain ⟨os, hos, hcs, hds⟩ := id hs
  unfold Builtin.Slice.sliceApplied Builtin.Slice.sliceFields
  refine wpAny_bind (wpAny_bind (wpAny_field hos hds (x := vl) rfl (wpAny_bind (wpAny_field hos hds (x := vu) rfl (wpAny_bind (wpAny_field hos hds (x := vs) rfl (wpAny_pure ?_)))))))
  refine wpAny_bind (slicePart_ ps ?_)
  show wpAny _ _ (if ((-1 : Int) == 0) = true then _ else _) _ _ s
  rw [if_neg (by decide)]
  refine wpAny_bind (slicePart_ pl (wpAny_bind (slicePart_ pu (wpAny_bind (wpAny_pure ?_)))))
  show wpAny _ _ (pure ((n : Int) - 1, (-1 : Int), Builtin.Slice.slicePlaces ((n : Int) - 1) (-1) (-1))) _ _ s
  rw [places_rev]
  exact wpAny_pure h
theorem fm_congr {α β : Type} {f g : α → Option β} : ∀ l : List α, (∀ m ∈ l, f m = g m) → l.filterMap f = l.filterMap g
  | [], _ => rfl
  | a :: l, h => by rw [List.filterMap_cons, List.filterMap_cons, h a (List.mem_cons_self ..), fm_congr l fun m hm => h m (List.mem_cons_of_mem _ hm)]
theorem pick_rev (xs : Array Value) : ((List.range xs.size).filterMap fun (m : Nat) => xs[((xs.size : Int) - 1 + (m : Int) * (-1)).toNat]?).toArray = xs.toList.reverse.toArray := by
  rw [← PySem.W.krv_pick]
  unfold slicePick
  rw [PySem.W.krv_bounds]
  show _ = ((sliceRange ((xs.size : Int) - 1) (-1) (-1)).filterMap (xs[·]?)).toArray
  rw [PySem.W.krv_sliceRange, List.filterMap_map]
  congr 1
  refine fm_congr _ fun m hm => ?_
  show xs[((xs.size : Int) - 1 + (m : Int) * (-1)).toNat]? = xs[xs.size - 1 - m]?
  have := List.mem_range.mp hm
  rw [show ((xs.size : Int) - 1 + (m : Int) * (-1)).toNat = xs.size - 1 - m by omega]
theorem getItem_tuple_rev {t sl : Addr} {items : Array Value} {vl vu vs : Value} {Q : Value → Shared → Prop} (ht : IsTup s.heap t items) (hs : s.heap.IsSliceOf sl vl vu vs) (pl : IsPart vl none) (pu : IsPart vu none) (ps : IsPart vs (some (-1)))
    (h : Q (.ref s.heap.objs.size) { s with heap := s.heap.push { cls := .type "tuple", data := .seq items.toList.reverse.toArray } })
    (hsz : items.size ≤ sizeLine) : wpAny (model prog w) A (getItem (.ref t) (.ref sl)) Q E s := by
  have htake : sizeOk (.seq items.toList.reverse.toArray) := by
    show items.toList.reverse.toArray.size ≤ sizeLine
    rw [List.size_toArray, List.length_reverse, Array.length_toList]
    omega
  obtain ⟨os, hos, hcs, hds⟩ := id hs
  have hTs : s.TypeIs (.ref sl) "slice" := ⟨os, hos, hcs⟩
  unfold getItem
  try with_reducible refine wpAny_holding ?_
  first | refine wpAny_bind (wpAny_pure ?_) | skip
  refine wpAny_bind (wpAny_sequenceKey ht.typeIs (by decide) ?_)
  refine wpAny_bind (wpAny_callSpecial?_slot (name := Str.ofString "__getitem__") ht.typeIs PyProof.Rows.slot_tuple_getitem
    (wpAny_call_entry PyProof.Rows.slot_tuple_getitem ht.typeIs entry_tuple_getitem ?_ (args_tuple_getitem _ _)))
  show wpAny _ _ (Builtin.Tuple.tupleItemsOf (.ref t) >>= _) _ _ s
  refine wpAny_bind (tupleItemsOf_ ht ?_)
  refine wpAny_bind (wpAny_typeOf hTs ?_)
  rw [if_pos (by decide)]
  refine wpAny_bind (sliceApplied_rev hs pl pu ps ?_)
  show wpAny _ _ (if (((items.size : Int) - 1) == 0 && (-1 : Int) == 1 && items.size == items.size) = true then _ else _) _ _ s
  rw [if_neg (by rw [show ((-1 : Int) == 1) = false by decide, Bool.and_false, Bool.false_and]; exact Bool.false_ne_true), pick_rev]
  first
    | exact wpAny_bind (m := Builtin.Tuple.tupleExact _) (wpAny_newObj_type (wpAny_pure ⟨_, rfl, wpAny_pure h⟩) htake)
    | exact wpAny_bind (m := Builtin.Tuple.tupleExact _) (wpAny_newObj_type (wpAny_bind (wpAny_pure (wpAny_pure ⟨_, rfl, wpAny_pure h⟩))) htake)
    | exact wpAny_bind (wpAny_bind (m := Builtin.Tuple.tupleExact _) (wpAny_newObj_type (wpAny_pure (wpAny_pure ⟨_, rfl, wpAny_pure h⟩)) htake))
    | exact wpAny_bind (wpAny_bind (m := Builtin.Tuple.tupleExact _) (wpAny_newObj_type (wpAny_pure ⟨_, rfl, wpAny_pure h⟩) htake))
end
/-- t[::-1] of a tuple -/
def tRevT (K : PySem.W.Frag) (te : TE) : TE := fun σ H Q => te σ H fun x H1 => ∃ a xs, x = .ref a ∧ SqT K H1 a xs ∧ ∀ p, H1 p = none → Q (.ref p) (upd H1 p (.tup xs.reverse))
section
variable {X : Cx}
theorem pe_revT {e : Expr} {te : TE} {k : Nat} {p1 p2 p3 pos : Pos} (he : PE X e te) : PE X (.Subscript e (.Slice none none (some (.UnaryOp .USub (.Constant (.int 1) k p1) p2)) p3) pos) (tRevT X.K te) := by
  refine ⟨fun pins s σ H Q I h => ?_⟩
  refine Subscript_ (thn (he.run pins s σ H _ I h) fun v s1 ⟨x, H1, I1, r1, q1⟩ => ?_)
  obtain ⟨a, xs, ex, hx, q⟩ := q1
  subst ex
  cases r1
  have hst : PO X (some (.UnaryOp .USub (.Constant (.int 1) k p1) p2)) (tPart (tUn (rU fun i => .int (-i)) (tC (.int 1)))) := po_some (pe_un un_neg pe_int)
  refine wpAny_Slice (thn (po_none.run pins s1 σ H1 (fun o H2 => o = none ∧ H2 = H1) I1 ⟨rfl, rfl⟩) fun vl s2 ⟨l, H2, I2, pl, el, e2⟩ => ?_)
  subst el e2
  refine thn (po_none.run pins s2 σ H2 (fun o H3 => o = none ∧ H3 = H2) I2 ⟨rfl, rfl⟩) fun vu s3 ⟨u, H3, I3, pu, eu, e3⟩ => ?_
  subst eu e3
  refine thn (hst.run pins s3 σ H3 (fun o H4 => o = some (-1) ∧ H4 = H3) I3 ⟨1, rfl, -1, rfl, rfl, rfl⟩) fun vs s4 ⟨o, H4, I4, ps, eo, e4⟩ => ?_
  subst eo e4
  have I5 : Inv X pins σ H4 { s4 with heap := s4.heap.push { cls := .type "slice", data := .fields #[vl, vu, vs] } } := I4.kept (t' := s4.toks) fun b ob q => Heap.get?_push_of_some _ q
  obtain ⟨its, r, ht, hz⟩ := I5.tuple hx
  have hlen := r.length
  show wpAny (model X.prog X.w) X.A (subscriptTail e (.Slice none none (some (.UnaryOp .USub (.Constant (.int 1) k p1) p2)) p3) (.ref a) (.ref s4.heap.objs.size)) (EP X pins σ Q) X.xe { s4 with heap := s4.heap.push { cls := .type "slice", data := .fields #[vl, vu, vs] } }
  refine tail_any (ops := [.ref a, .ref s4.heap.objs.size]) ht.typeIs (PyProof.Rows.slot_tuple_getitem.lookup) ?_ (by with_unfolding_all rfl)
  refine getItem_tuple_rev ht (Heap.IsSliceOf.new _ vl vu vs) pl pu ps ?_ (by rw [List.size_toArray]; omega)
  refine ⟨.ref _, _, I5.laid (t' := s4.toks) (o := .tup xs.reverse) (fun b ob q => Heap.get?_push_of_some _ q) (Nat.le_refl _) ?_, rfl, q _ (I5.hok.fresh (Nat.le_refl _))⟩
  exact ⟨by rw [List.length_reverse]; exact hz, _, r.reverse, IsTup.new _ _⟩
theorem op_in_seqK {K : PySem.W.Frag} (e : X.K = K) : OpR X (compareOp .In) (rIn K false) := e ▸ op_in_seq
theorem ext_meets (l b : Addr) (items : Array Value) (n : Nat) (items2 : Array Value) (hlong : ¬ (!items.isEmpty && Builtin.List.listTooLong (items.size + items2.size)) = true) (hs1 : items.size ≤ sizeLine) (hs2 : items.size + items2.size ≤ sizeLine + 1) :
    Meets (Builtin.«list.extend» ⟨[.ref l, .ref b], []⟩) (fun _ R s => s.heap.get? l = some { cls := .type "list", dict := none, data := .seq items n, slots := #[] } ∧ IsTup s.heap b items2 ∧ R (.ok (.ret .none)) { s with heap := s.heap.update l (Obj.mapSeq fun x => x ++ items2), toks := s.toks }) :=
  .of_wp fun prog w A R s h => by
    obtain ⟨hl, ⟨o, ho, hc, n2, hd⟩, h⟩ := h
    show wpAny _ A.in1 (Builtin.List.listExtendWith (.ref l) (.ref b) .none) _ _ s
    unfold Builtin.List.listExtendWith
    refine wpAny_bind (wpAny_typeOf ⟨o, ho, hc⟩ ?_)
    have h1 : (Builtin.List.listSameRef (.ref l) (.ref b) || Value.type "tuple" == Value.type "list" || Value.type "tuple" == Value.type "tuple") = true := by simp
    simp only [h1, if_true]
    refine wpAny_bind ?_
    unfold Builtin.List.listItems
    refine wpAny_bind (wpAny_seqItems ho hd (wpAny_pure ?_))
    refine wpAny_bind ?_
    refine wpAny_bind (wpAny_seqItems hl rfl (wpAny_pure ?_))
    rw [if_neg hlong]
    show wpAny _ A.in1 (updateSeq l (· ++ items2) >>= _) _ _ s
    refine wpAny_bind (wpAny_updateSeq hl rfl ?_ (hz := hs1) (_hz' := by rw [Array.size_append]; exact hs2))
    exact wpAny_pure ⟨_, rfl, h⟩
/-- xs.extend(t), t a tuple -/
def rExtT (K : PySem.W.Frag) : V → List V → Hp → VK → Prop := fun x vs H Q => ∃ l b xs zs, x = .ref l ∧ vs = [.ref b] ∧ H l = some (.lst xs) ∧ SqT K H b zs ∧ xs.length + zs.length ≤ sizeLine ∧ Q .non (upd H l (.lst (xs ++ zs)))
theorem mt_extT : MtM X "list.extend" (rExtT X.K) := by
  intro pins s σ H x vs v us Q I rx rv h
  obtain ⟨l, b, xs, zs, rfl, rfl, hH, hB, hz, q⟩ := h
  cases rx
  obtain ⟨u, rfl, ru⟩ := rv.one
  cases ru
  obtain ⟨z, its, n, r, hl, e⟩ := I.lstM hH
  obtain ⟨its2, r2, ⟨o2, e2, c2, n2, d2⟩, hl2⟩ := I.tuple hB
  have e3 := r.length
  have e4 := r2.length
  have hsz : its.toArray.size + its2.toArray.size ≤ sizeLine := by rw [List.size_toArray, List.size_toArray]; omega
  have hlong : ¬ (!its.toArray.isEmpty && Builtin.List.listTooLong (its.toArray.size + its2.toArray.size)) = true := by
    rw [notLongL hsz, Bool.and_false]
    exact Bool.false_ne_true
  refine call_meets F.slot_list_extend ⟨_, e, rfl⟩ F.entry_list_extend (F.args_list_extend_2 _ _)
    (ext_meets l b its.toArray n its2.toArray hlong (by rw [List.size_toArray]; omega) (by omega)) ⟨e, ⟨o2, e2, c2, n2, d2⟩, ?_⟩
  refine ⟨.non, _, I.lset (its' := its ++ its2) hH e (by simp) (r.append r2) ?_, rfl, q⟩
  rw [List.length_append]
  omega
end

section
variable {J J1 : It} {n n1 : Nat} {G G1 : Hp → Prop} {Y Y1 : Nat → Hp → V → Hp → Prop}
theorem lc2_it (w : Walk J n G Y) {g g1 : TG} {tt tt1 : TT} {te : TE} {wi1 : TI} {vs vs1 : List Nat} {σ : L2.St} {H1 : Hp} {D : Addr} {Qd : Hp → Prop} (Pv : Nat → Hp → Prop) (h0 : Pv 0 (upd H1 D (.lst []))) (hG : ∀ i H, i ≤ n → Pv i H → G H)
    (hs : ∀ i x H H', i < n → Pv i H → Y i H x H' → g x (wipe σ vs) H' fun σ2 H2 => wipe σ2 vs = wipe σ vs ∧ tt σ2 H2 fun b H3 =>
      if b = true then wi1 σ2 H3 fun J1 H4 => ∃ W1 : Nat → Nat → Hp → Prop, (∃ m, W1 0 m H4) ∧ ∀ j k H, W1 j k H → (J1.stop j H ∧ Pv (i + 1) H) ∨ (J1.go j H ∧ ∃ Nx1 : Hp → Prop, (∀ H', Nx1 H' → ∃ k', k' < k ∧ W1 (j + 1) k' H') ∧ ∀ x H', J1.yld j H x H' → g1 x (wipe σ2 vs1) H' fun σ3 H5 => wipe σ3 vs1 = wipe σ2 vs1 ∧ tt1 σ3 H5 fun b H6 => if b = true then te σ3 H6 fun y H7 => ∃ acc, H7 D = some (.lst acc) ∧ acc.length < sizeLine ∧ Nx1 (upd H7 D (.lst (acc ++ [y]))) else Nx1 H6) else Pv (i + 1) H3) (hd : ∀ H, Pv n H → Qd H) :
    ∃ W : Nat → Nat → Hp → Prop, (∃ m, W 0 m (upd H1 D (.lst []))) ∧ ∀ i m H, W i m H →
      (J.stop i H ∧ Qd H) ∨ (J.go i H ∧ ∃ Nx : Hp → Prop, (∀ H', Nx H' → ∃ m', m' < m ∧ W (i + 1) m' H') ∧ ∀ x H', J.yld i H x H' → g x (wipe σ vs) H' fun σ2 H2 => wipe σ2 vs = wipe σ vs ∧ tt σ2 H2 fun b H3 =>
        if b = true then wi1 σ2 H3 fun J1 H4 => ∃ W1 : Nat → Nat → Hp → Prop, (∃ m, W1 0 m H4) ∧ ∀ j k H, W1 j k H → (J1.stop j H ∧ Nx H) ∨ (J1.go j H ∧ ∃ Nx1 : Hp → Prop, (∀ H', Nx1 H' → ∃ k', k' < k ∧ W1 (j + 1) k' H') ∧ ∀ x H', J1.yld j H x H' → g1 x (wipe σ2 vs1) H' fun σ3 H5 => wipe σ3 vs1 = wipe σ2 vs1 ∧ tt1 σ3 H5 fun b H6 => if b = true then te σ3 H6 fun y H7 => ∃ acc, H7 D = some (.lst acc) ∧ acc.length < sizeLine ∧ Nx1 (upd H7 D (.lst (acc ++ [y]))) else Nx1 H6) else Nx H3) := by
  refine ⟨fun i m H => m = n - i ∧ i ≤ n ∧ Pv i H, ⟨n, by simp, Nat.zero_le _, h0⟩, ?_⟩
  rintro i m H ⟨rfl, hi, p⟩
  have q := hG i H hi p
  by_cases hlt : i < n
  · refine .inr ⟨w.goes i H hlt q, Pv (i + 1), fun H' p' => ⟨n - (i + 1), by omega, rfl, hlt, p'⟩, fun x H' y => hs i x H H' hlt p (w.yields i H x H' hlt q y)⟩
  · have e : i = n := by omega
    subst e
    exact .inl ⟨w.stops H q, hd H p⟩
theorem lcin_it (w : Walk J n G Y) {g1 : TG} {tt1 : TT} {te : TE} {vs1 : List Nat} {σ2 : L2.St} {H4 : Hp} {D : Addr} {Nx : Hp → Prop} (Pv : Nat → Hp → Prop) (h0 : Pv 0 H4) (hG : ∀ i H, i ≤ n → Pv i H → G H)
    (hs : ∀ j x H H', j < n → Pv j H → Y j H x H' → g1 x (wipe σ2 vs1) H' fun σ3 H5 => wipe σ3 vs1 = wipe σ2 vs1 ∧ tt1 σ3 H5 fun b H6 => if b = true then te σ3 H6 fun y H7 => ∃ acc, H7 D = some (.lst acc) ∧ acc.length < sizeLine ∧ Pv (j + 1) (upd H7 D (.lst (acc ++ [y]))) else Pv (j + 1) H6) (hd : ∀ H, Pv n H → Nx H) :
    ∃ W1 : Nat → Nat → Hp → Prop, (∃ m, W1 0 m H4) ∧ ∀ j k H, W1 j k H → (J.stop j H ∧ Nx H) ∨ (J.go j H ∧ ∃ Nx1 : Hp → Prop, (∀ H', Nx1 H' → ∃ k', k' < k ∧ W1 (j + 1) k' H') ∧ ∀ x H', J.yld j H x H' → g1 x (wipe σ2 vs1) H' fun σ3 H5 => wipe σ3 vs1 = wipe σ2 vs1 ∧ tt1 σ3 H5 fun b H6 => if b = true then te σ3 H6 fun y H7 => ∃ acc, H7 D = some (.lst acc) ∧ acc.length < sizeLine ∧ Nx1 (upd H7 D (.lst (acc ++ [y]))) else Nx1 H6) := by
  refine ⟨fun i m H => m = n - i ∧ i ≤ n ∧ Pv i H, ⟨n, by simp, Nat.zero_le _, h0⟩, ?_⟩
  rintro i m H ⟨rfl, hi, p⟩
  have q := hG i H hi p
  by_cases hlt : i < n
  · refine .inr ⟨w.goes i H hlt q, Pv (i + 1), fun H' p' => ⟨n - (i + 1), by omega, rfl, hlt, p'⟩, fun x H' y => hs i x H H' hlt p (w.yields i H x H' hlt q y)⟩
  · have e : i = n := by omega
    subst e
    exact .inl ⟨w.stops H q, hd H p⟩
end

theorem call_tuple_ofK {X : Cx} {K : PySem.W.Frag} (e : X.K = K) : CallR X (.type "tuple") (fun xs H Q => ∃ p ys, xs = [V.ref p] ∧ ((SqL K H p ys ∧ ∀ l : Addr, H l = none → Q (.ref l) (upd H l (.tup ys))) ∨ SqT K H p ys ∧ Q (.ref p) H)) := e ▸ call_tuple_of
theorem pi_tupK {X : Cx} {K : PySem.W.Frag} (e : X.K = K) {tg l : Expr} {tl : TE} (hl : PE X l tl) : PI X tg l (iTup K tl) := e ▸ pi_tup hl

theorem get_list {X : Cx} : PGet X (rIxL X.K) := by
  intro pins s σ H x y v u Q I rx ry h
  obtain ⟨p, xs, i, z, rfl, rfl, hq, he, q⟩ := h
  cases rx
  obtain ⟨t, rfl⟩ := ry
  obtain ⟨its, r, pl, hz⟩ := I.list hq
  obtain ⟨j, h1, h2, h3, h4, h5⟩ := atI_get he
  obtain ⟨w, ew, rw'⟩ := r.get h2
  have hl := r.length
  have hn := line63
  have fin : EP X pins σ Q w s := ⟨z, H, I, rw', q⟩
  by_cases h0 : 0 ≤ i
  · have hj : i.toNat = j := by
      rw [seqIndex_of h0 h5] at h1
      exact Option.some.inj h1
    exact wpAny_getItem_list pl.isList h0 (by omega) (by rw [hj]; simpa using ew) fin
  · have hj : (i + (its.toArray.size : Int)).toNat = j := by
      rw [seqIndex_neg (by omega) h4] at h1
      rw [List.size_toArray, ← hl]
      exact Option.some.inj h1
    exact wpAny_getItem_list_neg pl.isList (by omega) (by rw [List.size_toArray] <;> omega) (by omega) (by rw [hj]; simpa using ew) fin
section Closures
open LamX NdefX
/-- the object at f is the lambda -/
def LamO (f : Addr) (F : NF) (b : Expr) : HO := .ext fun h => ∃ (pm ctv : Value), h.get? f = some (PySem.W.kla_obj "<lambda>" F.qual F.params b F.scope F.cl pm F.c ctv)
/-- the very object of a cell -/
def CelO (c : Addr) (o : Obj) : HO := .ext fun h => h.get? c = some o
theorem lamO_at {P : Program} {w : World} {H : Hp} {h : Heap} {f : Addr} {F : NF} {b : Expr} (hok : HOk P w H h) (e : H f = some (LamO f F b)) : ∃ (pm ctv : Value), h.get? f = some (PySem.W.kla_obj "<lambda>" F.qual F.params b F.scope F.cl pm F.c ctv) := (hok f _ e).1
theorem celO_at {P : Program} {w : World} {H : Hp} {h : Heap} {c : Addr} {o : Obj} (hok : HOk P w H h) (e : H c = some (CelO c o)) : h.get? c = some o := (hok c _ e).1
/-- b is one of the captured cells -/
def InC (cl : List (Str × Addr)) (b : Addr) : Prop := ∃ y, cl.lookup y = some b
open Classical in
/-- the cells told -/
noncomputable def trk (cl : List (Str × Addr)) (h : Heap) (H : Hp) : Hp := fun b => if InC cl b then (h.get? b).map (CelO b) else H b
open Classical in
/-- the cells not told -/
noncomputable def unt (cl : List (Str × Addr)) (H : Hp) : Hp := fun b => if InC cl b then none else H b
open Classical in
/-- the cells as H tells them, all else as H' -/
noncomputable def ret (cl : List (Str × Addr)) (H H' : Hp) : Hp := fun b => if InC cl b then H b else H' b
theorem trk_in {cl : List (Str × Addr)} {h : Heap} {H : Hp} {b : Addr} (e : InC cl b) : trk cl h H b = (h.get? b).map (CelO b) := if_pos e
theorem trk_out {cl : List (Str × Addr)} {h : Heap} {H : Hp} {b : Addr} (e : ¬ InC cl b) : trk cl h H b = H b := if_neg e
theorem unt_in {cl : List (Str × Addr)} {H : Hp} {b : Addr} (e : InC cl b) : unt cl H b = none := if_pos e
theorem unt_out {cl : List (Str × Addr)} {H : Hp} {b : Addr} (e : ¬ InC cl b) : unt cl H b = H b := if_neg e
theorem ret_in {cl : List (Str × Addr)} {H H' : Hp} {b : Addr} (e : InC cl b) : ret cl H H' b = H b := if_pos e
theorem ret_out {cl : List (Str × Addr)} {H H' : Hp} {b : Addr} (e : ¬ InC cl b) : ret cl H H' b = H' b := if_neg e
/-- what the captured cells hold, told in the heap -/
structure Told (cl : List (Str × Addr)) (fr : List Str) (ws : List (Option V)) (H : Hp) : Prop where
  len : ws.length = fr.length
  all : ∀ y c, cl.lookup y = some c → ∃ o v, H c = some (CelO c o) ∧ o.data = .cell v
  inj : ∀ x y c, cl.lookup x = some c → cl.lookup y = some c → x = y
  has : ∀ (i : Nat) (y : Str), fr[i]? = some y → ∃ c, cl.lookup y = some c ∧ ∀ v, ws[i]? = some (some v) → ∃ o u, H c = some (CelO c o) ∧ o.data = .cell (some u) ∧ L2.RelV v u
theorem Told.keep {cl : List (Str × Addr)} {fr : List Str} {ws : List (Option V)} {H H' : Hp} (t : Told cl fr ws H) (e : ∀ b, InC cl b → H' b = H b) : Told cl fr ws H' :=
  ⟨t.len, fun y c q => by rw [e c ⟨y, q⟩]; exact t.all y c q, t.inj, fun i y q => by
    obtain ⟨c, q1, q2⟩ := t.has i y q
    exact ⟨c, q1, fun v hv => by rw [e c ⟨y, q1⟩]; exact q2 v hv⟩⟩
theorem Told.same {cl : List (Str × Addr)} {fr : List Str} {ws : List (Option V)} {H H' : Hp} (t : Told cl fr ws H) (e : Same H H') : Told cl fr ws H' := t.keep fun b ⟨y, q⟩ => by
  obtain ⟨o, v, h1, _⟩ := t.all y b q
  rw [h1, e _ _ h1]
theorem Told.cells {cl : List (Str × Addr)} {fr : List Str} {ws : List (Option V)} {P : Program} {w : World} {H : Hp} {h : Heap} (t : Told cl fr ws H) (hok : HOk P w H h) : CellsAt cl fr ws h (unt cl H) :=
  ⟨t.len, fun y c q => ⟨unt_in ⟨y, q⟩, by
    obtain ⟨o, v, h1, h2⟩ := t.all y c q
    exact ⟨v, o, celO_at hok h1, h2⟩⟩, t.inj, fun i y q => by
    obtain ⟨c, q1, q2⟩ := t.has i y q
    refine ⟨c, q1, fun v hv => ?_⟩
    obtain ⟨o, u, h1, h2, h3⟩ := q2 v hv
    exact ⟨u, h3, o, celO_at hok h1, h2⟩⟩
theorem told_of {cl : List (Str × Addr)} {fr : List Str} {ws : List (Option V)} {h : Heap} {H : Hp} (C : CellsAt cl fr ws h H) : Told cl fr ws (trk cl h H) :=
  ⟨C.len, fun y c q => by
    obtain ⟨_, v, o, h1, h2⟩ := C.all y c q
    exact ⟨o, v, by rw [trk_in ⟨y, q⟩, h1]; rfl, h2⟩, C.inj, fun i y q => by
    obtain ⟨c, q1, q2⟩ := C.has i y q
    refine ⟨c, q1, fun v hv => ?_⟩
    obtain ⟨u, h3, o, h1, h2⟩ := q2 v hv
    exact ⟨o, u, by rw [trk_in ⟨y, q1⟩, h1]; rfl, h2, h3⟩⟩
theorem celO_ne_tup {c : Addr} {o : Obj} (xs : List V) : CelO c o ≠ .tup xs := fun z => by unfold CelO at z; cases z
theorem celO_ne_own {c a : Addr} {o : Obj} : CelO c o ≠ .own a := fun z => by unfold CelO at z; cases z
theorem celO_ne_frz {c : Addr} {o ob : Obj} {u : HO} : CelO c o ≠ .frz ob u := fun z => by unfold CelO at z; cases z
theorem celO_ne_tbl {c : Addr} {o : Obj} {ps : Array Value} : CelO c o ≠ .tbl ps := fun z => by unfold CelO at z; cases z
/-- a call that ran with the cells told: they are told no more -/
theorem ce_unt {P : Program} {w : World} {outer : List Env} {H : Hp} {s s' : Shared} {Q : VK} {u : Value} {cl : List (Str × Addr)} (hn : ∀ y c, cl.lookup y = some c → H c = none ∧ ∃ o, s.heap.get? c = some o)
    (h : CE outer P w (trk cl s.heap H) s (fun v H' => (∀ b, InC cl b → H' b = trk cl s.heap H b) ∧ Q v (unt cl H')) u s') : CE outer P w H s Q u s' := by
  obtain ⟨v, H', os, bare, un, hok, rv, qe, q⟩ := h
  have cel : ∀ b, InC cl b → ∃ o, s.heap.get? b = some o ∧ H' b = some (CelO b o) := fun b hb => by
    obtain ⟨y, hy⟩ := hb
    obtain ⟨_, o, ho⟩ := hn y b hy
    exact ⟨o, ho, by rw [qe b ⟨y, hy⟩, trk_in ⟨y, hy⟩, ho]; rfl⟩
  have no : ∀ b u, H b = some u → ¬ InC cl b := fun b u e ⟨y, hy⟩ => by
    rw [(hn y b hy).1] at e
    cases e
  refine ⟨v, unt cl H', os, bare, ⟨fun b o e n hb hx => ?_, fun b o e n hb hx => ?_, fun b o e n hx => ?_, un.there, fun b xs e => ?_, fun b o u e => ?_, fun b ps e => ?_⟩, fun b u e => ?_, rv, q⟩
  · by_cases hc : InC cl b
    · obtain ⟨o', h1, h2⟩ := cel b hc
      rw [e] at h1
      rw [Option.some.inj h1]
      exact celO_at hok h2
    · exact un.keep b o e (by rw [trk_out hc]; exact n) hb hx
  · by_cases hc : InC cl b
    · obtain ⟨o', h1, h2⟩ := cel b hc
      rw [e] at h1
      rw [Option.some.inj h1]
      exact ⟨o'.slots, celO_at hok h2⟩
    · exact un.slot b o e (by rw [trk_out hc]; exact n) hb hx
  · by_cases hc : InC cl b
    · exact unt_in hc
    · rw [unt_out hc]
      exact un.free b o e (by rw [trk_out hc]; exact n) hx
  · have hc := no b _ e
    rw [unt_out hc]
    exact un.tups b xs (by rw [trk_out hc]; exact e)
  · have hc := no b _ e
    rw [unt_out hc]
    exact un.frzs b o u (by rw [trk_out hc]; exact e)
  · have hc := no b _ e
    rw [unt_out hc]
    exact un.tbls b ps (by rw [trk_out hc]; exact e)
  · by_cases hc : InC cl b
    · rw [unt_in hc] at e
      cases e
    · rw [unt_out hc] at e
      have out : ∀ {d : Addr} {x : HO}, H' d = some x → (∀ o, x ≠ CelO d o) → unt cl H' d = some x := fun {d x} hd hx => by
        by_cases hi : InC cl d
        · obtain ⟨o, _, h2⟩ := cel d hi
          rw [hd] at h2
          exact absurd (Option.some.inj h2) (hx o)
        · rw [unt_out hi]
          exact hd
      exact (hok b u e).stay (fun c v _ q => q) (fun c q => out q fun o z => celO_ne_own z.symm) fun c xs q => out q fun o z => celO_ne_tup xs z.symm
/-- a call that ran with the cells not told: they are told again -/
theorem ce_ret {P : Program} {w : World} {outer : List Env} {H : Hp} {s s' : Shared} {Q : VK} {u : Value} {cl : List (Str × Addr)} (hok0 : HOk P w H s.heap) (hn : ∀ y c, cl.lookup y = some c → c ∉ frs outer ∧ ∃ o, H c = some (CelO c o))
    (h : CE outer P w (unt cl H) s (fun v H' => (∀ b, InC cl b → H' b = none) → Q v (ret cl H H')) u s') : CE outer P w H s Q u s' := by
  obtain ⟨v, H', os, bare, un, hok, rv, q0⟩ := h
  have cel : ∀ b, InC cl b → ∃ o, b ∉ frs outer ∧ H b = some (CelO b o) := fun b ⟨y, hy⟩ => by
    obtain ⟨h1, o, h2⟩ := hn y b hy
    exact ⟨o, h1, h2⟩
  have q := q0 fun b hb => by
    obtain ⟨o, h1, h2⟩ := cel b hb
    exact un.free b o (celO_at hok0 h2) (unt_in hb) (by simp)
  have no : ∀ b, H b = none → ¬ InC cl b := fun b e hb => by
    obtain ⟨o, _, h2⟩ := cel b hb
    rw [e] at h2
    cases h2
  have noC : ∀ b u, H b = some u → (∀ o, u ≠ CelO b o) → ¬ InC cl b := fun b u e hu hb => by
    obtain ⟨o, _, h2⟩ := cel b hb
    rw [e] at h2
    exact hu o (Option.some.inj h2)
  refine ⟨v, ret cl H H', os, bare, ⟨fun b o e n hb hx => un.keep b o e (by rw [unt_out (no b n)]; exact n) hb hx, fun b o e n hb hx => un.slot b o e (by rw [unt_out (no b n)]; exact n) hb hx, fun b o e n hx => ?_, un.there, fun b xs e => ?_, fun b o u e => ?_, fun b ps e => ?_⟩, fun b u e => ?_, rv, q⟩
  · rw [ret_out (no b n)]
    exact un.free b o e (by rw [unt_out (no b n)]; exact n) hx
  · have hc := noC b _ e fun o z => celO_ne_tup xs z.symm
    rw [ret_out hc]
    exact un.tups b xs (by rw [unt_out hc]; exact e)
  · have hc := noC b _ e fun o' z => celO_ne_frz z.symm
    rw [ret_out hc]
    exact un.frzs b o u (by rw [unt_out hc]; exact e)
  · have hc := noC b _ e fun o' z => celO_ne_tbl z.symm
    rw [ret_out hc]
    exact un.tbls b ps (by rw [unt_out hc]; exact e)
  · by_cases hc : InC cl b
    · rw [ret_in hc] at e
      obtain ⟨o, h1, h2⟩ := cel b hc
      rw [e] at h2
      obtain rfl := Option.some.inj h2
      have h3 : s'.heap.get? b = some o := un.keep b o (celO_at hok0 e) (unt_in hc) h1 (by simp)
      exact ⟨h3, ⟨o, h3⟩, fun h1 h2 e st => st _ e⟩
    · rw [ret_out hc] at e
      have out : ∀ {d : Addr} {x : HO}, H' d = some x → ret cl H H' d = some x := fun {d x} hd => by
        by_cases hi : InC cl d
        · obtain ⟨o, h1, h2⟩ := cel d hi
          have z := un.free d o (celO_at hok0 h2) (unt_in hi) (by simp)
          rw [hd] at z
          cases z
        · rw [ret_out hi]
          exact hd
      exact (hok b u e).stay (fun c v _ q => q) (fun c q => out q) fun c xs q => out q
section
variable {X : Cx} {pins : List (Addr × Obj)} {σ : L2.St} {H : Hp} {s : Shared}
theorem inv_lam {F : NF} {b : Expr} {o : Obj} {t' : Nat} {pm ctv : Value} (I : Inv X pins σ H s) (ho : o = PySem.W.kla_obj "<lambda>" F.qual F.params b F.scope F.cl pm F.c ctv) :
    Inv X pins σ (upd H s.heap.objs.size (LamO s.heap.objs.size F b)) { s with heap := s.heap.push o, toks := t' } := by
  subst ho
  refine I.laid (a := s.heap.objs.size) (fun b u e => Heap.get?_push_of_some _ e) (Nat.le_refl _) ?_
  have e : (s.heap.push (PySem.W.kla_obj "<lambda>" F.qual F.params b F.scope F.cl pm F.c ctv)).get? s.heap.objs.size = some (PySem.W.kla_obj "<lambda>" F.qual F.params b F.scope F.cl pm F.c ctv) := Heap.get?_push_size _ rfl
  exact ⟨⟨pm, ctv, e⟩, ⟨_, e⟩, fun h1 h2 ⟨p, t, z⟩ st => ⟨p, t, st _ z⟩⟩
/-- the lambda is made: its code object is new, or found in the table -/
theorem lam_make3 {T : List (Addr × Str)} {c P : Addr} {params : Arguments} {body : Expr} {scope : Scope} {pos : Pos} {E : Value → Shared → Prop} {Q : Value → Shared → Prop} (I : Inv X pins σ H s) (TB : TabB X.base X.mg c P) (hcode : X.env.code = .ref c)
    (hm : (P, X.env.qual ++ "<lambda>") ∈ T) (hu : ∀ p ∈ T, p.1 = P → p.2 = X.env.qual ++ "<lambda>") (hT : Tabs T H) (hdef : defaultsOf params X.env = ([], [])) (hfree : ∀ y ∈ scope.names, y.2 = .free → ∃ c, X.env.cells.lookup y.1 = some c)
    (h : ∀ (f c' : Addr) (H1 : Hp) (s' : Shared), Inv X pins σ H1 s' → ExtN H H1 → Tabs T H1 → H f = none → H1 f = some (LamO f ⟨"<lambda>", X.env.qual ++ "<lambda>", params, [], scope, cloFrom X.env.cells scope.names [], c'⟩ body) → H1 c' = some (CodeO c' (X.env.qual ++ "<lambda>")) → Q (.ref f) s') :
    wpAny (model X.prog X.w) X.A (eval (.Lambda params body scope pos) X.env) Q E s := by
  obtain ⟨ps, hP, ht, ha⟩ := hT _ hm
  refine PySem.W.kla_eval hdef ?_
  have bP : s.heap.BuiltinsAt X.mg P := TB.bm.keeps I.bk
  have hP' : s.heap.get? P = some { cls := .none, data := .fields ps } := I.hok P _ hP
  cases hc : codeAmong pos ps.toList with
  | none =>
    refine PySem.W.kla_makeFunction (mg := X.mg) (c := c) (P := P) (ps := ps) (closure_ok hfree) I.ok.glob (I.mod.glob.keeps I.bk) hcode (TB.code.keeps I.bk) hP' ht hc TB.gP bP fun c' ctv h' tk hx hge hlt hrec htb => ?_
    obtain ⟨c2, oc, vs, t, e2, hoc, hd, hv⟩ := hrec
    cases e2
    have nC : H c' = none := I.hok.fresh hge
    have I1 := inv_table (t' := tk) (more := #[rawInt pos.line, rawInt pos.col, .ref c']) (h' := h') I hP (fun b o hb e => hx b o hb e) htb hge ⟨oc, vs, t, hoc, hd, hv⟩
    have hE : ExtN H (upd (upd H P (.tbl (ps ++ #[rawInt pos.line, rawInt pos.col, .ref c']))) c' (CodeO c' (X.env.qual ++ "<lambda>"))) := fun b o e n => by
      rw [upd_ne (ne_of_none e nC), upd_ne (fun z => n ps (Option.some.inj (e.symm.trans (by rw [z]; exact hP))))]
      exact e
    have eL : (ps ++ #[rawInt pos.line, rawInt pos.col, .ref c']).toList = ps.toList ++ [rawInt pos.line, rawInt pos.col, .ref c'] := by simp
    have T1 : Tabs T (upd (upd H P (.tbl (ps ++ #[rawInt pos.line, rawInt pos.col, .ref c']))) c' (CodeO c' (X.env.qual ++ "<lambda>"))) := fun p hp => by
      by_cases hb : p.1 = P
      · rw [hu p hp hb, hb]
        refine ⟨_, by rw [upd_ne (ne_of_none hP nC), upd_same], by rw [eL]; exact PySem.TriplesOk_snoc _ _ _ _ ht, fun p' cv hcv => ?_⟩
        rw [eL] at hcv
        rcases among_app _ ht hcv with z | z
        · obtain ⟨c0, e1, e2⟩ := ha p' cv z
          exact ⟨c0, e1, hE _ _ e2 codeO_ne⟩
        · exact ⟨c', z, upd_same⟩
      · obtain ⟨ps', a1, a2, a3⟩ := hT p hp
        refine ⟨ps', by rw [upd_ne (ne_of_none a1 nC), upd_ne hb]; exact a1, a2, fun p' cv hcv => ?_⟩
        obtain ⟨c0, e1, e2⟩ := a3 p' cv hcv
        exact ⟨c0, e1, hE _ _ e2 codeO_ne⟩
    have nF := I1.hok.fresh (Nat.le_refl _)
    have I2 := inv_lam (F := ⟨"<lambda>", X.env.qual ++ "<lambda>", params, [], scope, cloFrom X.env.cells scope.names [], c'⟩) (b := body) (t' := tk) (pm := (X.mg "__name__").getD .none) (ctv := ctv) I1 rfl
    refine h h'.objs.size c' _ _ I2 (fun b o e n => ?_) (T1.ext fun b o e => ?_) (I.hok.fresh (Nat.le_trans hge (Nat.le_of_lt hlt))) upd_same ?_
    · have e1 := hE b o e n
      exact (upd_ne (ne_of_none e1 nF)).trans e1
    · exact (upd_ne (ne_of_none e nF)).trans e
    · exact (upd_ne (Nat.ne_of_lt hlt)).trans upd_same
  | some cv =>
    obtain ⟨c', e, hco⟩ := ha pos cv hc
    subst e
    refine PySem.W.kla_makeFunctionHit (mg := X.mg) (c := c) (P := P) (ps := ps) (closure_ok hfree) I.ok.glob (I.mod.glob.keeps I.bk) hcode (TB.code.keeps I.bk) hP' ht hc bP fun ctv h' tk hx hsz => ?_
    have I1 : Inv X pins σ H { s with heap := h', toks := tk } := I.kept hx
    have nF : H h'.objs.size = none := I1.hok.fresh (Nat.le_refl _)
    have I2 := inv_lam (F := ⟨"<lambda>", X.env.qual ++ "<lambda>", params, [], scope, cloFrom X.env.cells scope.names [], c'⟩) (b := body) (t' := tk) (pm := (X.mg "__name__").getD .none) (ctv := ctv) I1 rfl
    refine h h'.objs.size c' _ _ I2 (fun b o e n => ?_) (hT.ext fun b o e => ?_) nF upd_same ?_
    · exact (upd_ne (ne_of_none e nF)).trans e
    · exact (upd_ne (ne_of_none e nF)).trans e
    · exact (upd_ne (ne_of_none hco nF)).trans hco
end
/-- the lambda's reading: the function object is new; its code object may be -/
def tLamM (T : List (Addr × Str)) (mk : Addr → NF) (body : Expr) : TE := fun _ H Q => Tabs T H ∧ ∀ (f c' : Addr) (H1 : Hp), ExtN H H1 → Tabs T H1 → H f = none → H1 f = some (LamO f (mk c') body) → H1 c' = some (CodeO c' (mk c').qual) → Q (.ref f) H1
theorem pe_lam {X : Cx} {T : List (Addr × Str)} {c P : Addr} {params : Arguments} {body : Expr} {scope : Scope} {pos : Pos} (TB : TabB X.base X.mg c P) (hcode : X.env.code = .ref c) (hm : (P, X.env.qual ++ "<lambda>") ∈ T) (hu : ∀ p ∈ T, p.1 = P → p.2 = X.env.qual ++ "<lambda>")
    (hdef : defaultsOf params X.env = ([], [])) (hfree : ∀ y ∈ scope.names, y.2 = .free → X.env.scope.names.lookup y.1 = some .cell ∨ X.env.scope.names.lookup y.1 = some .free) :
    PE X (.Lambda params body scope pos) (tLamM T (fun c' => ⟨"<lambda>", X.env.qual ++ "<lambda>", params, [], scope, cloFrom X.env.cells scope.names [], c'⟩) body) := by
  refine ⟨fun pins s σ H Q I h => ?_⟩
  obtain ⟨hT, h⟩ := h
  have hfr : ∀ y ∈ scope.names, y.2 = .free → ∃ c, X.env.cells.lookup y.1 = some c := fun y hy e => (hfree y hy e).elim (fun z => I.ok.has _ (.inl z)) fun z => I.ok.has _ (.inr z)
  exact lam_make3 I TB hcode hm hu hT hdef hfr fun f c' H1 s' I1 e1 e2 e3 e4 e5 => ⟨.ref f, H1, I1, rfl, h f c' H1 e1 e2 e3 e4 e5⟩
/-! ### a call with the cells of this frame told -/
def Away (X : Cx) (cl : List (Str × Addr)) : Prop := ∀ y c, cl.lookup y = some c → X.base.get? c = none ∧ c ∉ X.fs
theorem away_own {X : Cx} {scope : Scope} (ok : X.Ok) (hfree : ∀ y ∈ scope.names, y.2 = .free → X.env.scope.names.lookup y.1 = some .cell ∨ X.env.scope.names.lookup y.1 = some .free) (hfn : ∀ y, X.fn y = true) : Away X (cloFrom X.env.cells scope.names []) := fun y c e => by
  have hf : ∀ y ∈ scope.names, y.2 = .free → ∃ c, X.env.cells.lookup y.1 = some c := fun y hy e => (hfree y hy e).elim (fun z => ok.has _ (.inl z)) fun z => ok.has _ (.inr z)
  have h1 := ok.cab y c (hfn y) (clo_cm hf e)
  refine ⟨Heap.get?_none_of_le (Nat.le_trans ok.bsz h1), fun z => ?_⟩
  obtain ⟨_, o, ho, _⟩ := ok.funs.mem z
  exact absurd (Nat.lt_of_lt_of_le (Heap.lt_size ho) h1) (Nat.lt_irrefl _)
def tCallC (cl : List (Str × Addr)) (fr : List Str) (js : List Nat) (sp : Sp) (E : XK) (t : TA) : TE := fun σ H Q => t σ H fun vs H1 => ∀ H2 : Hp, (∀ b, InC cl b → H1 b = none) → (∀ b, ¬ InC cl b → H2 b = H1 b) → Told cl fr (js.map (slotAt σ)) H2 →
  sp vs H2 (fun v H3 => (∀ b, InC cl b → H3 b = H2 b) ∧ Q v (unt cl H3)) E
section
variable {X : Cx} {k : Nat} {f : Addr} {fd : FuncData} {ps fr : List Str} {js : List Nat} {sp : Sp} {E : XK} {x : Str} {p pos : Pos} {e : Expr} {es : List Expr} {t : TA} {cl : List (Str × Addr)}
theorem env0_trk {pins : List (Addr × Obj)} {σ : L2.St} {H : Hp} {s : Shared} (I : Inv X pins σ H s) (C : CellsAt cl fr (js.map (slotAt σ)) s.heap H) (cp : Caps X cl fr js) (aw : Away X cl) : Env0 X.prog X.w X.K X.mg X.base X.A X.stack s (trk cl s.heap H) := by
  have e0 := I.env0
  have no : ∀ b u, H b = some u → ¬ InC cl b := fun b u e ⟨y, hy⟩ => by
    rw [(C.all y b hy).1] at e
    cases e
  refine ⟨e0.frames, e0.mod, fun b o e => ⟨(e0.bs b o e).1, ?_⟩, e0.bsz, e0.funs, fun b hb => ?_, fun b u e => ?_, e0.bare⟩
  · by_cases hc : InC cl b
    · obtain ⟨y, hy⟩ := hc
      rw [(aw y b hy).1] at e
      cases e
    · rw [trk_out hc]
      exact (e0.bs b o e).2
  · by_cases hc : InC cl b
    · obtain ⟨y, hy⟩ := hc
      rcases List.mem_cons.mp (I.stkSub b hb) with z | z
      · exact absurd z (I.cne y b (cp.sub y b hy))
      · exact absurd z (aw y b hy).2
    · rw [trk_out hc]
      exact e0.frf b hb
  · by_cases hc : InC cl b
    · rw [trk_in hc] at e
      obtain ⟨y, hy⟩ := id hc
      obtain ⟨_, v, o, ho, _⟩ := C.all y b hy
      rw [ho] at e
      obtain rfl := Option.some.inj e
      exact ⟨ho, ⟨o, ho⟩, fun h1 h2 e st => st _ e⟩
    · rw [trk_out hc] at e
      exact (I.hok b u e).stay (fun c v _ q => q) (fun c q => by rw [trk_out (no c _ q)]; exact q) fun c xs q => by rw [trk_out (no c _ q)]; exact q
theorem pe_callC (F : FnOk X.prog X.w X.K X.mg X.base CX0 k f fd ps sp) (hr : Room k X.A) (hg : Gl X x) (hm : X.mg x = some (.ref f)) (hk : PySem.W.keepIn X.K (.ref f) = true) (hb : Binds X.K fd ps [])
    (cp : X.Ok → Caps X cl fr js) (aw : X.Ok → Away X cl) (ha : PA X (e :: es) t) (hdb : (x == ("__debug__" : Str)) = false := by decide) (he : starEach (e :: es) X.env = (false, eval e X.env) :: starEach es X.env := by rfl) (hpl : (backTo pos (starEach es X.env)).any (·.1) = false := by rfl) :
    PE X (.Call (.Name x p) (e :: es) [] pos) (tCallC cl fr js sp E t) := by
  refine ⟨fun pins s σ H Q I h => ?_⟩
  refine wpAny_Call_Name_kw (ld_glob I hg hm ?_ hdb)
  refine PySem.W.callWith_K (h₀ := X.base) I.ok.mod.kin hk (thn (ha.run pos pins s σ H _ I h) fun us s1 ⟨vs, H1, I1, r, q⟩ => ⟨I1.kIn, ?_⟩) he hpl
  have C := cells_of I1 (cp I1.ok)
  have q1 := q (trk cl s1.heap H1) (fun b ⟨y, hy⟩ => (C.all y b hy).1) (fun b hb => trk_out hb) (told_of C)
  have hl := F.len _ _ _ _ q1
  refine wpAny_call (codeAny_mono (F.run X.A X.stack s1 (trk cl s1.heap H1) ⟨us, []⟩ us vs _ E hr (env0_trk I1 C (cp I1.ok) (aw I1.ok)) ?_ r q1) fun r s' hq => ?_)
  · have b1 := hb s1 us I1.kIn (by rw [List.append_nil, ← r.length, hl])
    rw [List.append_nil] at b1
    exact b1
  · cases r with
    | error e => exact (show False from hq).elim
    | ok fl =>
      cases fl with
      | ret u => exact I1.after (ce_unt (fun y c hy => by
          obtain ⟨h1, v, o, ho, _⟩ := C.all y c hy
          exact ⟨h1, o, ho⟩) hq)
      | next => exact False.elim hq
      | brk => exact False.elim hq
      | cont => exact False.elim hq
end
/-! ### a call of a name that holds the lambda -/
/-- the promise of a lambda, whatever it captured -/
structure CloOk (P : Program) (w : World) (K : PySem.W.Frag) (mg : Str → Option Value) (base : Heap) (k : Nat) (mk : List (Str × Addr) → Addr → NF) (body : Expr) (ps fr : List Str) (sp : List (Option V) → Sp) : Prop where
  run : ∀ (A : Around) (outer : List Env) (s : Shared) (H : Hp) (us : List Value) (vs : List V) (ws : List (Option V)) (f c' : Addr) (cl : List (Str × Addr)) (Q : VK) (E : XK), Room k A → Env0 P w K mg base A outer s H → H f = some (LamO f (mk cl c') body) → H c' = some (CodeO c' (mk cl c').qual) → Told cl fr ws H →
    Vals vs us → vs.length = ps.length → sp ws vs (unt cl H) (fun v H' => (∀ b, InC cl b → H' b = none) → Q v (ret cl H H')) E → codeAny (model P w) A (.call (.ref f) ⟨us, []⟩) (CR CX0 outer P w H s Q E) s
section
variable {w : World} {P : Program} {K : PySem.W.Frag} {mg : Str → Option Value} {base : Heap} {N ps fr : List Str} {mk : List (Str × Addr) → Addr → NF} {body : Expr} {k : Nat} {sp : List (Option V) → Sp} {scope : Scope}
theorem clo_of (hsc : ∀ cl c', (mk cl c').scope = scope) (hcl : ∀ cl c', (mk cl c').cl = cl) (hcc : ∀ cl c', (mk cl c').c = c') (S : NScope N ps fr scope) (hb : ∀ (cl : List (Str × Addr)) (c' : Addr) (pm ctv : Value) (us : List Value), us.length = ps.length → bindArgs (PySem.W.kla_fn "<lambda>" (mk cl c').qual (mk cl c').params body (mk cl c').scope (mk cl c').cl pm (.ref (mk cl c').c) ctv) ⟨us, []⟩ = pure (ps.zip us))
    (hbody : ∀ (A : Around) (outer : List Env) (s : Shared) (H : Hp) (vs : List V) (ws : List (Option V)) (f c' : Addr) (cl : List (Str × Addr)) (Q : VK) (E : XK), Room k (A.deeper (envF (mk cl c') f s.heap.objs.size)) → (∀ y c, cl.lookup y = some c → base.get? c = none ∧ c ∉ frs outer) → ws.length = fr.length → vs.length = ps.length → sp ws vs H Q E →
      ∃ t, PE (ncx CX0 P w K mg base N (mk cl c') f A outer s H E) body t ∧ t (startF N vs ws) H Q) :
    CloOk P w K mg base (k + 1) mk body ps fr sp := by
  refine ⟨fun A outer s H us vs ws f c' cl Q E hr e0 hf hc t r hl hsp => ?_⟩
  have lim : s.heap.NoLimit := e0.mod.nolimit.keeps fun b o e => (e0.bs b o e).1
  obtain ⟨pm, ctv, ho⟩ := lamO_at e0.hok hf
  have C0 := t.cells e0.hok
  have out : ∀ y c, cl.lookup y = some c → base.get? c = none ∧ c ∉ frs outer := fun y c hy => by
    obtain ⟨o, v, h1, _⟩ := t.all y c hy
    refine ⟨?_, fun z => ?_⟩
    · cases q : base.get? c with
      | none => rfl
      | some ob =>
        rw [(e0.bs c ob q).2] at h1
        cases h1
    · rw [e0.frf c z] at h1
      cases h1
  have e1 : Env0 P w K mg base A outer s (unt cl H) := by
    have unn : ∀ b, H b = none → unt cl H b = none := fun b e => by
      by_cases hi : InC cl b
      · exact unt_in hi
      · rw [unt_out hi]
        exact e
    refine ⟨e0.frames, e0.mod, fun b o e => ⟨(e0.bs b o e).1, unn b (e0.bs b o e).2⟩, e0.bsz, e0.funs, fun b hb => unn b (e0.frf b hb), fun b u e => ?_, e0.bare⟩
    by_cases hi : InC cl b
    · rw [unt_in hi] at e
      cases e
    · rw [unt_out hi] at e
      have keep : ∀ {d : Addr} {x : HO}, H d = some x → (∀ o, x ≠ CelO d o) → unt cl H d = some x := fun {d x} hd hx => by
        by_cases hi : InC cl d
        · obtain ⟨y, hy⟩ := hi
          obtain ⟨o, _, h2, _⟩ := t.all y d hy
          rw [hd] at h2
          exact absurd (Option.some.inj h2) (hx o)
        · rw [unt_out hi]
          exact hd
      exact (e0.hok b u e).stay (fun c v _ q => q) (fun c q => keep q fun o z => celO_ne_own z.symm) fun c xs q => keep q fun o z => celO_ne_tup xs z.symm
  have C : CellsAt (mk cl c').cl fr ws s.heap (unt cl H) := by rw [hcl]; exact C0
  have S' : NScope N ps fr (mk cl c').scope := by rw [hsc]; exact S
  have rc : codeAny (model P w) A (.call (.ref f) ⟨us, []⟩) (CR CX0 outer P w (unt cl H) s (fun v H' => (∀ b, InC cl b → H' b = none) → Q v (ret cl H H')) E) s := by
    refine PySem.W.kla_callFunE hr.depth ho rfl S'.co S'.gen rfl (codeO_at e0.hok (by rw [hcc]; exact hc)) ?_
    rw [hb cl c' pm ctv us (by rw [← r.length]; exact hl)]
    refine wpAny_pure (wpAny_newFunctionEnv S'.nocell (fun ⟨n, _⟩ hy => S'.par n (List.of_mem_zip hy).1) (fun h₁ hns hsb => ⟨lim.fresh _ hsb, ?_⟩) S'.kind)
    show codeAny _ _ (.expr body (envF (mk cl c') f s.heap.objs.size)) _ _
    have kp : ∀ b o, s.heap.get? b = some o → h₁.get? b = some o := fun b o e => hsb.extBut b o (Nat.ne_of_lt (Heap.lt_size e)) (Heap.get?_push_of_some _ e)
    obtain ⟨tt, ht, hq⟩ := hbody A outer s (unt cl H) vs ws f c' cl _ E (hr.deeper _) out t.len hl hsp
    have I : Inv (ncx CX0 P w K mg base N (mk cl c') f A outer s (unt cl H) E) [] (startF N vs ws) (unt cl H) { s with heap := h₁, toks := s.toks + (ps.zip us).length } := inv_startN S' hr.hd e1 hl r C hns kp
    refine PySem.W.kla_codeExpr (wpAny_mono (ht.run [] _ (startF N vs ws) _ _ I hq) (fun v s' hs => ?_) fun e s' hs => hs)
    obtain ⟨w', H', J, rv, q⟩ := hs
    exact ⟨w', H', J.os, J.bare, J.base, J.hok, rv, q⟩
  refine codeAny_mono rc fun r s' hq => ?_
  cases r with
  | error e => exact hq
  | ok fl =>
    cases fl with
    | ret u => exact ce_ret e0.hok (fun y c hy => ⟨(out y c hy).2, by
        obtain ⟨o, _, h1, _⟩ := t.all y c hy
        exact ⟨o, h1⟩⟩) hq
    | next => exact hq
    | brk => exact hq
    | cont => exact hq
theorem CloOk.mono {j : Nat} (o : CloOk P w K mg base j mk body ps fr sp) (h : j ≤ k) : CloOk P w K mg base k mk body ps fr sp := ⟨fun A outer s H us vs ws f c' cl Q E hr => o.run A outer s H us vs ws f c' cl Q E (hr.mono h)⟩
end
def tCallX (mk : List (Str × Addr) → Addr → NF) (body : Expr) (n : Nat) (fr : List Str) (i : Nat) (sp : List (Option V) → Sp) (E : XK) (t : TA) : TE := fun σ H Q => ∃ f, σ[i]? = some (some (.ref f)) ∧ (∃ F, H f = some (LamO f F body)) ∧
  t σ H fun vs H1 => ∃ cl c' ws, H1 f = some (LamO f (mk cl c') body) ∧ H1 c' = some (CodeO c' (mk cl c').qual) ∧ Told cl fr ws H1 ∧ vs.length = n ∧ sp ws vs (unt cl H1) (fun v H' => (∀ b, InC cl b → H' b = none) → Q v (ret cl H1 H')) E
section
variable {X : Cx} {k i : Nat} {ps fr : List Str} {sp : List (Option V) → Sp} {E : XK} {x : Str} {p pos : Pos} {e : Expr} {es : List Expr} {t : TA} {mk : List (Str × Addr) → Addr → NF} {body : Expr}
theorem pe_callX (Fn : CloOk X.prog X.w X.K X.mg X.base k mk body ps fr sp) (hr : Room k X.A) (hN : X.N[i]? = some x) (hv : Vis X.env.scope x) (ha : PA X (e :: es) t)
    (hd : (x == ("__debug__" : Str)) = false := by decide) (hcd : (x == ("__classdict__" : Str)) = false := by decide)
    (he : starEach (e :: es) X.env = (false, eval e X.env) :: starEach es X.env := by rfl) (hpl : (backTo pos (starEach es X.env)).any (·.1) = false := by rfl) :
    PE X (.Call (.Name x p) (e :: es) [] pos) (tCallX mk body ps.length fr i sp E t) := by
  refine ⟨fun pins s σ H Q I h => ?_⟩
  obtain ⟨f, hs, ⟨F0, hf0⟩, ht⟩ := h
  refine wpAny_Call_Name_kw (thn ((pe_var (pos := p) hN hv hd hcd).run pins s σ H (fun v H1 => v = .ref f ∧ H1 = H) I ⟨.ref f, hs, rfl, rfl⟩) fun u s1 ⟨v, H1, I1, r1, q1⟩ => ?_)
  obtain ⟨ev, eH⟩ := q1
  subst ev
  rw [eH] at I1
  obtain rfl : u = Value.ref f := r1
  have fa : ∀ {H2 : Hp} {s2 : Shared} {F : NF}, Inv X pins σ H2 s2 → H2 f = some (LamO f F body) → PySem.W.FnAt f s2.heap := fun {H2 s2 F} J e => by
    obtain ⟨pm, ctv, ho⟩ := lamO_at J.hok e
    exact ⟨_, _, _, _, ho⟩
  refine PySem.W.callWith_F (first := []) (fa I1 hf0) (thn (ha.run pos pins s1 σ H _ I1 ht) fun us s2 ⟨vs, H2, I2, r, cl, c', ws, h1, h2, h3, hl, q⟩ => ⟨fa I2 h1, ?_⟩) he hpl
  show wpAny _ _ (call (.ref f) us) _ _ _
  refine wpAny_call (codeAny_mono (Fn.run X.A X.stack s2 H2 us vs ws f c' cl Q E hr I2.env0 h1 h2 h3 r hl q) fun r s' hq => ?_)
  cases r with
  | error e => exact (show False from hq).elim
  | ok fl =>
    cases fl with
    | ret u => exact I2.after hq
    | next => exact False.elim hq
    | brk => exact False.elim hq
    | cont => exact False.elim hq
end
/-! ### what is kept -/
theorem unt_keep {cl : List (Str × Addr)} {fr : List Str} {ws : List (Option V)} {H : Hp} (t : Told cl fr ws H) {b : Addr} {x : HO} (e : H b = some x) (hx : ∀ φ, x ≠ .ext φ) : unt cl H b = some x := by
  by_cases hi : InC cl b
  · obtain ⟨y, hy⟩ := hi
    obtain ⟨o, _, h2, _⟩ := t.all y b hy
    rw [e] at h2
    exact absurd (Option.some.inj h2) (hx _)
  · rw [unt_out hi]
    exact e
theorem ret_same {cl : List (Str × Addr)} {H H' : Hp} (e : Same (unt cl H) H') : Same H (ret cl H H') := fun b x q => by
  by_cases hi : InC cl b
  · rw [ret_in hi]
    exact q
  · rw [ret_out hi]
    exact e b x (by rw [unt_out hi]; exact q)
theorem unt_same {cl : List (Str × Addr)} {H1 H2 H3 : Hp} (hn : ∀ b, InC cl b → H1 b = none) (he : ∀ b, ¬ InC cl b → H2 b = H1 b) (e : Same H2 H3) : Same H1 (unt cl H3) := fun b x q => by
  by_cases hi : InC cl b
  · rw [hn b hi] at q
    cases q
  · rw [unt_out hi]
    exact e b x (by rw [he b hi]; exact q)
end Closures

class TabsB (mg : Str → Option Value) (base : Heap) (c P : Addr) : Prop where e : LamX.TabB base mg c P
theorem Fun.okC {P : Program} {w : World} {K : PySem.W.Frag} {mg : Str → Option Value} {base : Heap} {x qual : Str} {st : Stmt} {f : Addr} {fd : FuncData} {N ps : List Str} {k : Nat} {sp : Sp} (F : L2.Fun K x qual st f fd) (S : FnScope N ps (defScope st)) (len : ∀ vs H Q E, sp vs H Q E → vs.length = ps.length)
    (hbody : ∀ (cdv : Value) (A : Around) (outer : List Env) (s : Shared) (H : Hp) (vs : List V) (Q : VK) (E : XK), fd.code = cdv → Room k (A.deeper (envOfC qual (defScope st) s.heap.objs.size f cdv)) → sp vs H Q E →
      ∃ t, PSs (cxOf CX0 P w K mg base N qual (defScope st) f cdv A outer s H E).nox (defBody st) t ∧ t { nx := fun _ H' => Q .non H', rt := Q } (start N vs) H) : FnOk P w K mg base CX0 (k + 1) f fd ps sp := by
  obtain ⟨oc, od, kV, doc, pm, an, cdv, ct, osl, rfl, lk, hcd⟩ := F.ex
  refine fn_of lk hcd S len fun A outer s H vs Q E hr hsp => ?_
  obtain ⟨t, h, q⟩ := hbody cdv A outer s H vs Q E rfl hr hsp
  exact ⟨t, h.nox, q⟩

section LevelTwo
open LamX NdefX HT
section
variable {M : Model} {A : Around} {E : Value → Shared → Prop} {s : Shared} {nme qul : Str} {prs : Arguments} {bdy : List Stmt} {scp : Scope} {env : Env} {c P : Addr} {tab : Array Value} {pos : Pos} {fl : Nat} {mg : Str → Option Value} {clos : List (Str × Addr)} {Q : Value → Shared → Prop}
/-- a def is made in a def's body: the new code object with its own empty table -/
theorem own_makeDef (k1 : closureFor scp env = pure clos) (k2 : env.globals = mainGlobals) (k3 : s.heap.Ns mainGlobals mg) (k4 : env.code = .ref c) (C : PySem.W.CodeHd s.heap c P) (k5 : s.heap.get? P = some (PySem.W.tabObj tab)) (k6 : TriplesOk tab.toList)
    (k7 : codeAmong pos tab.toList = none) (k8 : mainGlobals ≠ P) (k9 : s.heap.BuiltinsAt mg P)
    (fin : ∀ (c' Pi : Addr) (ctv doc : Value) (h' : Heap) (tk : Tok), Heap.ExtBut P s.heap h' → s.heap.objs.size ≤ c' → c' < h'.objs.size → s.heap.objs.size ≤ Pi → h'.CodeRec (.ref c') qul → PySem.W.CodeHd h' c' Pi → h'.get? Pi = some (PySem.W.tabObj #[]) → h'.get? P = some (PySem.W.tabObj (tab ++ #[rawInt pos.line, rawInt pos.col, .ref c'])) →
      Q (.ref h'.objs.size) { s with heap := h'.push (PySem.W.fnMade nme qul prs bdy scp clos doc ((mg "__name__").getD .none) c' ctv), toks := tk }) :
    wpAny M A (makeFunction nme qul prs (.stmts bdy) scp env [] [] [] pos fl) Q E s := by
  obtain ⟨bm, ob, b1, b2, b3, b4, b5, b6, b7, b8⟩ := k9
  rw [makeFunction_eq]
  simp only [List.zip_nil_right, List.filterMap_nil, List.isEmpty_nil, if_true, pure_bind]
  unfold makeTail
  rw [k1, k2]
  refine wpAny_bind (wpAny_pure ?_)
  have pk : ∀ (o' : Obj) b o, s.heap.get? b = some o → (s.heap.push o').get? b = some o := fun o' b o e => Heap.get?_push_of_some _ e
  cases clos with
  | nil =>
    simp only [List.isEmpty_nil, if_true]
    refine wpAny_bind (wpAny_pure ?_)
    refine wpAny_bind (wpAny_functionCodeX k4 (C.code k5 k6) (C.tab k5) k7 fun c' h' tk e1 e2 e3 _ e4 e5 e6 => ?_)
    obtain ⟨Pi, f1, f2, f3⟩ := e6
    have g' := k3.extBut e1 k8
    refine wpAny_bind (wpAny_builtinsFor g' b1 b2 (e1 _ _ b4 b5) b6 b7 b8 ?_)
    refine wpAny_bind (wpAny_nsGet g' ?_)
    have done : ∀ (d : Value) (t : Tok), Q (.ref h'.objs.size) { s with heap := h'.push (PySem.W.fnMade nme qul prs bdy scp [] d ((mg "__name__").getD .none) c' .none), toks := t } := fun d t => fin c' Pi .none d h' t e1 e2 e3 f1 e4 (PySem.W.CodeHd.of f2 f3) f3.2 e5.2
    cases hdoc : docOf bdy with
    | none => exact wpAny_bind (wpAny_pure (wpAny_newObj_type (done .none _) (by size_fits)))
    | some t => exact wpAny_bind (wpAny_mkText (wpAny_newObj_type (done _ _) (by size_fits)))
  | cons q r =>
    simp only [List.isEmpty_cons, Bool.false_eq_true, if_false]
    refine wpAny_bind (wpAny_newTextTuple ?_)
    refine wpAny_bind (wpAny_functionCodeX k4 ((C.keeps (pk _)).code (pk _ _ _ k5) k6) ((C.keeps (pk _)).tab (pk _ _ _ k5)) k7 fun c' h' tk e1 e2 e3 _ e4 e5 e6 => ?_)
    obtain ⟨Pi, f1, f2, f3⟩ := e6
    have g' := (k3.push _).extBut e1 k8
    have e1' : Heap.ExtBut P s.heap h' := fun b o n e => e1 b o n (pk _ _ _ e)
    have up : ∀ {n : Nat} {o : Obj}, (s.heap.push o).objs.size ≤ n → s.heap.objs.size ≤ n := fun {n o} h => Nat.le_trans (by rw [Heap.size_push]; omega) h
    refine wpAny_bind (wpAny_builtinsFor g' b1 b2 (e1' _ _ b4 b5) b6 b7 b8 ?_)
    refine wpAny_bind (wpAny_nsGet g' ?_)
    have done : ∀ (d u : Value) (t : Tok), Q (.ref h'.objs.size) { s with heap := h'.push (PySem.W.fnMade nme qul prs bdy scp (q :: r) d ((mg "__name__").getD .none) c' u), toks := t } := fun d u t => fin c' Pi u d h' t e1' (up e2) e3 (up f1) e4 (PySem.W.CodeHd.of f2 f3) f3.2 e5.2
    cases hdoc : docOf bdy with
    | none => exact wpAny_bind (wpAny_pure (wpAny_newObj_type (done .none _ _) (by size_fits)))
    | some t => exact wpAny_bind (wpAny_mkText (wpAny_newObj_type (done _ _ _) (by size_fits)))
end
theorem hd_at {h h' : Heap} {c P : Addr} (x : PySem.W.CodeHd h c P) (k : ∀ o, h.get? c = some o → h'.get? c = some o) : PySem.W.CodeHd h' c P :=
  let ⟨o, vs, a1, a2, a3, a4, a5, a6, a7, e, r⟩ := x
  ⟨o, vs, a1, a2, a3, a4, a5, a6, a7, k o e, r⟩
/-- the object at c is a code object of the name q with its table at Pi -/
def CodeT (c : Addr) (q : Str) (Pi : Addr) : HO := .ext fun h => (∃ (oc : Obj) (vs : Array Value) (t : Tok), h.get? c = some oc ∧ oc.data = .fields vs ∧ vs[1]? = some (.str q t)) ∧ PySem.W.CodeHd h c Pi
theorem codeT_ne {c Pi : Addr} {q : Str} (ps : Array Value) : CodeT c q Pi ≠ .tbl ps := fun z => by
  unfold CodeT at z
  cases z
theorem codeT_rec {P : Program} {w : World} {H : Hp} {h : Heap} {c Pi : Addr} {q : Str} (hok : HOk P w H h) (e : H c = some (CodeT c q Pi)) : h.CodeRec (.ref c) q := by
  obtain ⟨⟨⟨oc, vs, t, h1, h2, h3⟩, _⟩, _, _⟩ := hok c _ e
  exact ⟨c, oc, vs, t, rfl, h1, h2, h3⟩
theorem codeT_hd {P : Program} {w : World} {H : Hp} {h : Heap} {c Pi : Addr} {q : Str} (hok : HOk P w H h) (e : H c = some (CodeT c q Pi)) : PySem.W.CodeHd h c Pi := (hok c _ e).1.2
abbrev Nm := Nat → Nat → Str
/-- a table of the top's own defs: what stands in it are defs with tables of their own, that are none of the tables SP -/
def TabT (H : Hp) (P : Addr) (nm : Nm) (SP : List Addr) : Prop := ∃ ps : Array Value, H P = some (.tbl ps) ∧ TriplesOk ps.toList ∧ ∀ (pos : Pos) (cv : Value), codeAmong pos ps.toList = some cv → ∃ c Pi, cv = .ref c ∧ H c = some (CodeT c (nm pos.line pos.col) Pi) ∧ TabN H Pi nm ∧ ∀ Z ∈ SP, Pi ≠ Z
theorem TabT.nil {H : Hp} {P : Addr} {nm : Nm} {SP : List Addr} (h : H P = some (.tbl #[])) : TabT H P nm SP := ⟨#[], h, True.intro, fun pos cv hc => by
  have z : codeAmong pos [] = some cv := hc
  simp [codeAmong] at z⟩
def TT (SP : List Addr) (nm : Nm) (H : Hp) : Prop := ∀ P ∈ SP, TabT H P nm SP
/-- all but the inner table at Pi stays; that one may grow -/
structure ButT (nm : Nm) (Pi : Addr) (H H' : Hp) : Prop where
  keep : ∀ b o, b ≠ Pi → H b = some o → H' b = some o
  tab : TabN H Pi nm → TabN H' Pi nm
theorem ButT.refl {nm : Nm} {Pi : Addr} {H : Hp} : ButT nm Pi H H := ⟨fun _ _ _ e => e, fun t => t⟩
theorem ButT.trans {nm : Nm} {Pi : Addr} {H H1 H2 : Hp} (x : ButT nm Pi H H1) (y : ButT nm Pi H1 H2) : ButT nm Pi H H2 := ⟨fun b o n e => y.keep b o n (x.keep b o n e), fun t => y.tab (x.tab t)⟩
theorem ButT.of {nm : Nm} {Pi : Addr} {H H' : Hp} (e : Same H H') : ButT nm Pi H H' := ⟨fun b o _ q => e b o q, fun t => t.ext e⟩
theorem ButT.ne {nm : Nm} {Pi : Addr} {H H' : Hp} (x : ButT nm Pi H H') (t : TabN H Pi nm) {b : Addr} {o : HO} (e : H b = some o) (n : ∀ ps, o ≠ .tbl ps) : H' b = some o := x.keep b o (fun z => by
  obtain ⟨ps, h1, _⟩ := t
  rw [z, h1] at e
  exact n ps (Option.some.inj e).symm) e
theorem ButT.extN {nm : Nm} {Pi : Addr} {H H' : Hp} (x : ButT nm Pi H H') (t : TabN H Pi nm) : ExtN H H' := fun b o e n => x.ne t e n
theorem TabN.but {nm : Nm} {Pi Pj : Addr} {H H' : Hp} (t : TabN H Pj nm) (x : ButT nm Pi H H') (ti : TabN H Pi nm) : TabN H' Pj nm := by
  by_cases hp : Pj = Pi
  · subst hp
    exact x.tab t
  · obtain ⟨ps, h1, h2, h3⟩ := t
    refine ⟨ps, x.keep _ _ hp h1, h2, fun pos cv hc => ?_⟩
    obtain ⟨c, e1, e2⟩ := h3 pos cv hc
    exact ⟨c, e1, x.ne ti e2 codeO_ne⟩
theorem TabT.but {nm : Nm} {Pi P : Addr} {SP : List Addr} {H H' : Hp} (t : TabT H P nm SP) (x : ButT nm Pi H H') (ti : TabN H Pi nm) (n : Pi ≠ P) : TabT H' P nm SP := by
  obtain ⟨ps, h1, h2, h3⟩ := t
  refine ⟨ps, x.keep _ _ (Ne.symm n) h1, h2, fun pos cv hc => ?_⟩
  obtain ⟨c, Pj, e1, e2, e3, e4⟩ := h3 pos cv hc
  exact ⟨c, Pj, e1, x.ne ti e2 codeT_ne, TabN.but e3 x ti, e4⟩
theorem TT.but {nm : Nm} {Pi : Addr} {SP : List Addr} {H H' : Hp} (t : TT SP nm H) (x : ButT nm Pi H H') (ti : TabN H Pi nm) (n : ∀ Z ∈ SP, Pi ≠ Z) : TT SP nm H' := fun P hP => (t P hP).but x ti (n P hP)
theorem TabT.same {nm : Nm} {P : Addr} {SP : List Addr} {H H' : Hp} (t : TabT H P nm SP) (e : Same H H') : TabT H' P nm SP := by
  obtain ⟨ps, h1, h2, h3⟩ := t
  refine ⟨ps, e _ _ h1, h2, fun pos cv hc => ?_⟩
  obtain ⟨c, Pj, e1, e2, e3, e4⟩ := h3 pos cv hc
  exact ⟨c, Pj, e1, e _ _ e2, e3.ext e, e4⟩
theorem TT.same {nm : Nm} {SP : List Addr} {H H' : Hp} (t : TT SP nm H) (e : Same H H') : TT SP nm H' := fun P hP => (t P hP).same e
section
variable {X : Cx} {pins : List (Addr × Obj)} {σ : L2.St} {H : Hp} {s : Shared}
/-- the built-ins' place is no tracked table -/
theorem bm_at {P0 Pi : Addr} {ps : Array Value} (I : Inv X pins σ H s) (b : X.base.BuiltinsAt X.mg P0) (hP : H Pi = some (.tbl ps)) : s.heap.BuiltinsAt X.mg Pi := by
  obtain ⟨bm, ob, b1, b2, b3, b4, b5, b6, b7, b8⟩ := b
  refine ⟨bm, ob, b1, b2, b3, fun z => ?_, I.bk _ _ b5, b6, b7, b8⟩
  have e := (I.bs _ _ b5).2
  rw [z, hP] at e
  cases e
theorem gl_at {Pi : Addr} {ps : Array Value} (I : Inv X pins σ H s) (hP : H Pi = some (.tbl ps)) : mainGlobals ≠ Pi := fun z => by
  obtain ⟨o, es, ep, e, _⟩ := I.mod.glob
  have q := (I.bs _ _ e).2
  rw [z, hP] at q
  cases q
/-- an object that came up since, not yet told, is told from now on -/
theorem Inv.told {b : Addr} {o : HO} {s1 : Shared} (I : Inv X pins σ H s) (J : Inv X pins σ H s1) (hb : s.heap.objs.size ≤ b) (hn : H b = none) (ok : ObjOk X.prog X.w (upd H b o) s1.heap b o) : Inv X pins σ (upd H b o) s1 := by
  have old : ∀ d u, s.heap.get? d = some u → d ≠ b := fun d u e z => by
    rw [z] at e
    exact Nat.lt_irrefl _ (Nat.lt_of_lt_of_le (Heap.lt_size e) hb)
  have sm : ∀ d u, H d = some u → d ≠ b := fun d u e => ne_of_none e hn
  have st : s1 = { s1 with heap := s1.heap, gens := s1.gens, drawn := s1.drawn, toks := s1.toks } := rfl
  rw [st]
  refine J.step (ch := [b]) (fun d hd => ?_) (fun d u _ _ _ e _ => e) (fun d u _ _ _ e _ => ⟨u.slots, e⟩) (fun d u hd e n => ?_) (fun d u _ e => ⟨u, e⟩) (fun d xs e => by rw [upd_ne (sm _ _ e)]; exact e) (fun d u v e => by rw [upd_ne (sm _ _ e)]; exact e)
    (fun d ps e => ⟨#[], by rw [upd_ne (sm _ _ e)]; simpa using e⟩) (fun m h => h) (fun d u e => ?_) J.bare
  · obtain rfl := List.mem_singleton.mp hd
    refine ⟨.inr (Nat.le_trans (Nat.le_trans I.ok.above (Nat.le_of_lt I.lt)) hb), fun z => ?_, fun x c hc z => ?_, fun p hp z => ?_⟩
    · have h9 := I.lt
      rw [← z] at h9
      exact Nat.lt_irrefl _ (Nat.lt_of_lt_of_le h9 hb)
    · obtain ⟨v, o, ho, _⟩ := I.cell x c hc
      exact old c o ho z
    · exact old p.1 p.2 (I.pin p hp).1 z
  · rw [upd_ne (fun z => hd (List.mem_singleton.mpr z))]
    exact n
  · by_cases hd : d = b
    · subst hd
      rw [upd_same] at e
      cases e
      exact ok
    · rw [upd_ne hd] at e
      exact (J.hok d u e).stay (fun c v _ q => q) (fun c q => by rw [upd_ne (sm _ _ q)]; exact q) fun c xs q => by rw [upd_ne (sm _ _ q)]; exact q
end
section
variable {X : Cx} {pins : List (Addr × Obj)} {σ : L2.St} {H : Hp} {s : Shared}
/-- the table grows by a code object with a table of its own -/
theorem inv_tableT {P c Pi : Addr} {q : Str} {ps more : Array Value} {h' : Heap} {t' : Nat} (I : Inv X pins σ H s) (hP : H P = some (.tbl ps)) (k : ∀ b o, b ≠ P → s.heap.get? b = some o → h'.get? b = some o)
    (hm : h'.get? P = some { cls := .none, data := .fields (ps ++ more) }) (hc : s.heap.objs.size ≤ c) (hi : s.heap.objs.size ≤ Pi) (ne : Pi ≠ c) (ho : h'.CodeRec (.ref c) q) (hd : PySem.W.CodeHd h' c Pi) (ht : h'.get? Pi = some (PySem.W.tabObj #[])) :
    Inv X pins σ (upd (upd (upd H P (.tbl (ps ++ more))) c (CodeT c q Pi)) Pi (.tbl #[])) { s with heap := h', toks := t' } := by
  obtain ⟨c2, oc, vs, t, e2, h1, h2, h3⟩ := ho
  cases e2
  have nC : H c = none := I.hok.fresh hc
  have nI : H Pi = none := I.hok.fresh hi
  have nPc : P ≠ c := ne_of_none hP nC
  have nPi : P ≠ Pi := ne_of_none hP nI
  have old : ∀ b o, s.heap.get? b = some o → b ≠ c ∧ b ≠ Pi := fun b o e => ⟨fun z => Nat.lt_irrefl _ (Nat.lt_of_lt_of_le (z ▸ Heap.lt_size e) hc), fun z => Nat.lt_irrefl _ (Nat.lt_of_lt_of_le (z ▸ Heap.lt_size e) hi)⟩
  have at0 : ∀ b, b ≠ P → b ≠ c → b ≠ Pi → upd (upd (upd H P (.tbl (ps ++ more))) c (CodeT c q Pi)) Pi (.tbl #[]) b = H b := fun b n1 n2 n3 => by rw [upd_ne n3, upd_ne n2, upd_ne n1]
  have at1 : upd (upd (upd H P (.tbl (ps ++ more))) c (CodeT c q Pi)) Pi (.tbl #[]) P = some (.tbl (ps ++ more)) := by rw [upd_ne nPi, upd_ne nPc, upd_same]
  have tr : ∀ b u, H b = some u → (∀ z, u ≠ .tbl z) → b ≠ P ∧ b ≠ c ∧ b ≠ Pi := fun b u e n => ⟨fun z => n ps (Option.some.inj (e.symm.trans (z ▸ hP))), ne_of_none e nC, ne_of_none e nI⟩
  have un : ∀ b, H b = none → b ≠ P := fun b e z => by
    rw [z, hP] at e
    cases e
  refine I.step (g' := s.gens) (d' := s.drawn) (ch := []) (fun b hb => absurd hb (by simp)) (fun b o _ _ _ e n => k b o (un b n) e) (fun b o _ _ _ e n => ⟨o.slots, k b o (un b n) e⟩)
    (fun b o _ e n => by rw [at0 b (un b n) (old b o e).1 (old b o e).2]; exact n) (fun b o _ e => ?_) (fun b xs e => ?_) (fun b o u e => ?_) (fun b qs e => ?_) (fun m hn => ?_) (fun b u e => ?_) I.bare
  · by_cases hb : b = P
    · exact ⟨_, hb ▸ hm⟩
    · exact ⟨o, k b o hb e⟩
  · obtain ⟨n1, n2, n3⟩ := tr b _ e (fun z y => by cases y)
    rw [at0 b n1 n2 n3]
    exact e
  · obtain ⟨n1, n2, n3⟩ := tr b _ e (fun z y => by cases y)
    rw [at0 b n1 n2 n3]
    exact e
  · by_cases hb : b = P
    · subst hb
      rw [hP] at e
      cases e
      exact ⟨more, at1⟩
    · rw [at0 b hb (ne_of_none e nC) (ne_of_none e nI), e]
      exact ⟨#[], by simp⟩
  · obtain ⟨ob, es, ep, h9, r⟩ := hn
    exact ⟨ob, es, ep, k _ ob (un _ I.free) h9, r⟩
  · by_cases hb3 : b = Pi
    · subst hb3
      rw [upd_same] at e
      cases e
      exact ht
    by_cases hb : b = c
    · subst hb
      rw [upd_ne hb3, upd_same] at e
      cases e
      exact ⟨⟨⟨oc, vs, t, h1, h2, h3⟩, hd⟩, ⟨oc, h1⟩, fun g1 g2 ⟨⟨oc, vs, t, a, b, d⟩, z⟩ st => ⟨⟨oc, vs, t, st _ a, b, d⟩, hd_at z st⟩⟩
    by_cases hb2 : b = P
    · subst hb2
      rw [at1] at e
      cases e
      exact hm
    · rw [at0 b hb2 hb hb3] at e
      refine (I.hok b u e).stay (fun d v h8 q => k d v ?_ q) (fun d q => ?_) fun d xs q => ?_
      · rcases h8 with z | z
        · exact z ▸ hb2
        · exact (tr d _ z (fun z y => by cases y)).1
      · obtain ⟨n1, n2, n3⟩ := tr d _ q (fun z y => by cases y)
        rw [at0 d n1 n2 n3]
        exact q
      · obtain ⟨n1, n2, n3⟩ := tr d _ q (fun z y => by cases y)
        rw [at0 d n1 n2 n3]
        exact q
end
/-! ### a def in a def -/
/-- the reading of «def name(..): ..» whose body makes functions itself -/
def tNdefT (SP : List Addr) (nm : Nm) (i : Nat) (mk : Addr → NF) : TS := fun D σ H => TT SP nm H ∧ ∀ (f c' Pi : Addr) (H1 : Hp), ExtN H H1 → TT SP nm H1 → H f = none → H1 f = some (FnO f (mk c')) → H1 c' = some (CodeT c' (mk c').qual Pi) → TabN H1 Pi nm → (∀ Z ∈ SP, Pi ≠ Z) → D.nx (σ.set i (some (.ref f))) H1
section
variable {X : Cx}
theorem ndefT_make {pins : List (Addr × Obj)} {σ : L2.St} {H : Hp} {s : Shared} {SP : List Addr} {nm : Nm} {c P : Addr} {name : Str} {params : Arguments} {body : List Stmt} {scope : Scope} {pos : Pos} {E Q : Value → Shared → Prop} (I : Inv X pins σ H s) (TB : TabB X.base X.mg c P) (hcode : X.env.code = .ref c)
    (hP : P ∈ SP) (hn : nm pos.line pos.col = X.env.qual ++ name) (hT : TT SP nm H) (hfree : ∀ y ∈ scope.names, y.2 = .free → ∃ c, X.env.cells.lookup y.1 = some c)
    (h : ∀ (f c' Pi : Addr) (H1 : Hp) (s' : Shared), Inv X pins σ H1 s' → ExtN H H1 → TT SP nm H1 → H f = none → H1 f = some (FnO f ⟨name, X.env.qual ++ name, params, body, scope, cloFrom X.env.cells scope.names [], c'⟩) → H1 c' = some (CodeT c' (X.env.qual ++ name) Pi) → TabN H1 Pi nm → (∀ Z ∈ SP, Pi ≠ Z) → Q (.ref f) s') :
    wpAny (model X.prog X.w) X.A (makeFunction name (X.env.qual ++ name) params (.stmts body) scope X.env [] [] [] pos pos.line) Q E s := by
  obtain ⟨ps, tP, ht, ha⟩ := hT P hP
  have bP : s.heap.BuiltinsAt X.mg P := TB.bm.keeps I.bk
  have oP : s.heap.get? P = some (PySem.W.tabObj ps) := I.hok P _ tP
  cases hc : codeAmong pos ps.toList with
  | none =>
    refine own_makeDef (mg := X.mg) (closure_ok hfree) I.ok.glob (I.mod.glob.keeps I.bk) hcode (TB.code.keeps I.bk) oP ht hc TB.gP bP fun c' Pi ctv doc h' tk e1 e2 e3 e4 e5 e6 e7 e8 => ?_
    have nC : H c' = none := I.hok.fresh e2
    have nI : H Pi = none := I.hok.fresh e4
    have ne : Pi ≠ c' := fun z => by
      obtain ⟨o, vs, _, _, _, _, _, _, _, g1, _, g2, _, _, _, _, _, _, g3⟩ := e6
      exact g3 z.symm
    have nPc : P ≠ c' := ne_of_none tP nC
    have nPi : P ≠ Pi := ne_of_none tP nI
    have I1 := inv_tableT (t' := tk) (more := #[rawInt pos.line, rawInt pos.col, .ref c']) I tP (fun b o n e => e1 b o n e) e8 e2 e4 ne e5 e6 e7
    have kp : ∀ b o, b ≠ P → H b = some o → upd (upd (upd H P (.tbl (ps ++ #[rawInt pos.line, rawInt pos.col, .ref c']))) c' (CodeT c' (X.env.qual ++ name) Pi)) Pi (.tbl #[]) b = some o := fun b o n e => by rw [upd_ne (ne_of_none e nI), upd_ne (ne_of_none e nC), upd_ne n]; exact e
    have hE : ExtN H (upd (upd (upd H P (.tbl (ps ++ #[rawInt pos.line, rawInt pos.col, .ref c']))) c' (CodeT c' (X.env.qual ++ name) Pi)) Pi (.tbl #[])) := fun b o e n => kp b o (fun z => n ps (Option.some.inj (e.symm.trans (z ▸ tP)))) e
    have sI : ∀ Z ∈ SP, Pi ≠ Z := fun Z hZ z => by
      obtain ⟨qs, q1, _⟩ := hT Z hZ
      rw [← z, nI] at q1
      cases q1
    have TN : ∀ Pj, Pj ≠ P → TabN H Pj nm → TabN (upd (upd (upd H P (.tbl (ps ++ #[rawInt pos.line, rawInt pos.col, .ref c']))) c' (CodeT c' (X.env.qual ++ name) Pi)) Pi (.tbl #[])) Pj nm := fun Pj n t => by
      obtain ⟨qs, q1, q2, q3⟩ := t
      refine ⟨qs, kp _ _ n q1, q2, fun p' cv hcv => ?_⟩
      obtain ⟨d, d1, d2⟩ := q3 p' cv hcv
      exact ⟨d, d1, hE _ _ d2 codeO_ne⟩
    have T1 : TT SP nm (upd (upd (upd H P (.tbl (ps ++ #[rawInt pos.line, rawInt pos.col, .ref c']))) c' (CodeT c' (X.env.qual ++ name) Pi)) Pi (.tbl #[])) := fun Z hZ => by
      by_cases hZP : Z = P
      · subst hZP
        have eL : (ps ++ #[rawInt pos.line, rawInt pos.col, .ref c']).toList = ps.toList ++ [rawInt pos.line, rawInt pos.col, .ref c'] := by simp
        refine ⟨_, by rw [upd_ne nPi, upd_ne nPc, upd_same], by rw [eL]; exact PySem.TriplesOk_snoc _ _ _ _ ht, fun p' cv hcv => ?_⟩
        rw [eL] at hcv
        rcases among_app2 _ ht hcv with z | ⟨z, z1, z2⟩
        · obtain ⟨d, Pj, d1, d2, d3, d4⟩ := ha p' cv z
          exact ⟨d, Pj, d1, hE _ _ d2 codeT_ne, TN Pj (d4 _ hZ) d3, d4⟩
        · refine ⟨c', Pi, z, ?_, TabN.nil upd_same, sI⟩
          rw [← z1, ← z2, hn, upd_ne (Ne.symm ne), upd_same]
      · obtain ⟨qs, q1, q2, q3⟩ := hT Z hZ
        refine ⟨qs, kp _ _ hZP q1, q2, fun p' cv hcv => ?_⟩
        obtain ⟨d, Pj, d1, d2, d3, d4⟩ := q3 p' cv hcv
        exact ⟨d, Pj, d1, hE _ _ d2 codeT_ne, TN Pj (d4 _ hP) d3, d4⟩
    have nF := I1.hok.fresh (Nat.le_refl _)
    have I2 := inv_fn (F := ⟨name, X.env.qual ++ name, params, body, scope, cloFrom X.env.cells scope.names [], c'⟩) (t' := tk) (doc := doc) (pm := (X.mg "__name__").getD .none) (ctv := ctv) I1 rfl
    have sF : Same (upd (upd (upd H P (.tbl (ps ++ #[rawInt pos.line, rawInt pos.col, .ref c']))) c' (CodeT c' (X.env.qual ++ name) Pi)) Pi (.tbl #[])) (upd (upd (upd (upd H P (.tbl (ps ++ #[rawInt pos.line, rawInt pos.col, .ref c']))) c' (CodeT c' (X.env.qual ++ name) Pi)) Pi (.tbl #[])) h'.objs.size (FnO h'.objs.size ⟨name, X.env.qual ++ name, params, body, scope, cloFrom X.env.cells scope.names [], c'⟩)) := fun b o e => (upd_ne (ne_of_none e nF)).trans e
    refine h h'.objs.size c' Pi _ _ I2 (hE.trans (ExtN.of sF)) (T1.same sF) (I.hok.fresh (Nat.le_trans e2 (Nat.le_of_lt e3))) upd_same ?_ (TabN.ext (TabN.nil upd_same) sF) sI
    exact sF _ _ (by rw [upd_ne (Ne.symm ne), upd_same])
  | some cv =>
    obtain ⟨c', Pi, e, hco, hti, hsp⟩ := ha pos cv hc
    subst e
    rw [hn] at hco
    refine PySem.W.makeFunction_hit (mg := X.mg) (closure_ok hfree) I.ok.glob (I.mod.glob.keeps I.bk) hcode (TB.code.keeps I.bk) oP ht hc bP fun ctv doc h' tk hx hsz => ?_
    have I1 : Inv X pins σ H { s with heap := h', toks := tk } := I.kept hx
    have nF : H h'.objs.size = none := I1.hok.fresh (Nat.le_refl _)
    have I2 := inv_fn (F := ⟨name, X.env.qual ++ name, params, body, scope, cloFrom X.env.cells scope.names [], c'⟩) (t' := tk) (doc := doc) (pm := (X.mg "__name__").getD .none) (ctv := ctv) I1 rfl
    have sF : Same H (upd H h'.objs.size (FnO h'.objs.size ⟨name, X.env.qual ++ name, params, body, scope, cloFrom X.env.cells scope.names [], c'⟩)) := fun b o e => (upd_ne (ne_of_none e nF)).trans e
    exact h h'.objs.size c' Pi _ _ I2 (ExtN.of sF) (hT.same sF) nF upd_same (sF _ _ hco) (hti.ext sF) hsp
theorem ps_ndefT {SP : List Addr} {nm : Nm} {c P : Addr} {name : Str} {params : Arguments} {body : List Stmt} {scope : Scope} {pos : Pos} {i : Nat} (TB : TabB X.base X.mg c P) (hcode : X.env.code = .ref c) (hP : P ∈ SP) (hn : nm pos.line pos.col = X.env.qual ++ name)
    (hfree : ∀ y ∈ scope.names, y.2 = .free → X.env.scope.names.lookup y.1 = some .cell ∨ X.env.scope.names.lookup y.1 = some .free) (hd0 : params.defaults = []) (hk0 : params.kw_defaults = []) (ha : annTrees params none X.env = [])
    (hN : X.N.Nodup) (hi : X.N[i]? = some name) (hx : Loc X.env.scope name) (hf : X.fn name = true ∨ X.env.scope.names.lookup name = some .local) :
    PS X (.FunctionDef name params body [] none [] scope none name pos) (tNdefT SP nm i fun c' => ⟨name, X.env.qual ++ name, params, body, scope, cloFrom X.env.cells scope.names [], c'⟩) := by
  refine ⟨fun pins s σ H D I h => ?_⟩
  obtain ⟨hT, h⟩ := h
  refine PySem.W.nestDef_K hd0 hk0 ha ?_
  rw [show qualnameIn X.env name name = X.env.qual ++ name by
    unfold qualnameIn
    rcases (show X.env.kindOf name = some .local ∨ X.env.kindOf name = some .cell from hx) with k | k <;> rw [k] <;> first | rfl | exact if_neg (by decide)]
  refine ndefT_make I TB hcode hP hn hT (fun y hy e => (hfree y hy e).elim (fun z => I.ok.has _ (.inl z)) fun z => I.ok.has _ (.inr z)) fun f c' Pi H1 s' I1 e1 e2 e3 e4 e5 e6 e7 => ?_
  exact store_ok I1 hN hi hx (v := .ref f) rfl (fun s'' J => ⟨_, H1, J, h f c' Pi H1 e1 e2 e3 e4 e5 e6 e7⟩) hf
end
/-! ### a lambda made by a def in a def -/
/-- the lambda's reading, where the maker's code object c is told with its table at Pi -/
def tLamT (nm : Nm) (c : Addr) (q : Str) (Pi : Addr) (mk : Addr → NF) (body : Expr) : TE := fun _ H Q => H c = some (CodeT c q Pi) ∧ TabN H Pi nm ∧ ∀ (f c' : Addr) (H1 : Hp), ButT nm Pi H H1 → TabN H1 Pi nm → H f = none → H1 f = some (LamO f (mk c') body) → H1 c' = some (CodeO c' (mk c').qual) → Q (.ref f) H1
section
variable {X : Cx}
theorem lamT_make {pins : List (Addr × Obj)} {σ : L2.St} {H : Hp} {s : Shared} {nm : Nm} {c P0 c0 Pi : Addr} {q : Str} {params : Arguments} {body : Expr} {scope : Scope} {pos : Pos} {E Q : Value → Shared → Prop} (I : Inv X pins σ H s) (TB : TabB X.base X.mg c0 P0) (hcode : X.env.code = .ref c)
    (hc0 : H c = some (CodeT c q Pi)) (hT : TabN H Pi nm) (hn : nm pos.line pos.col = X.env.qual ++ "<lambda>") (hdef : defaultsOf params X.env = ([], [])) (hfree : ∀ y ∈ scope.names, y.2 = .free → ∃ c, X.env.cells.lookup y.1 = some c)
    (h : ∀ (f c' : Addr) (H1 : Hp) (s' : Shared), Inv X pins σ H1 s' → ButT nm Pi H H1 → TabN H1 Pi nm → H f = none → H1 f = some (LamO f ⟨"<lambda>", X.env.qual ++ "<lambda>", params, [], scope, cloFrom X.env.cells scope.names [], c'⟩ body) → H1 c' = some (CodeO c' (X.env.qual ++ "<lambda>")) → Q (.ref f) s') :
    wpAny (model X.prog X.w) X.A (eval (.Lambda params body scope pos) X.env) Q E s := by
  obtain ⟨ps, tP, ht, ha⟩ := hT
  have hd := codeT_hd I.hok hc0
  have bP : s.heap.BuiltinsAt X.mg Pi := bm_at I TB.bm tP
  have gP := gl_at I tP
  have oP : s.heap.get? Pi = some (PySem.W.tabObj ps) := I.hok Pi _ tP
  refine PySem.W.kla_eval hdef ?_
  cases hc : codeAmong pos ps.toList with
  | none =>
    refine PySem.W.kla_makeFunction (mg := X.mg) (closure_ok hfree) I.ok.glob (I.mod.glob.keeps I.bk) hcode hd oP ht hc gP bP fun c' ctv h' tk e1 e2 e3 e4 e5 => ?_
    obtain ⟨c2, oc, vs, t, e6, g1, g2, g3⟩ := e4
    cases e6
    have nC : H c' = none := I.hok.fresh e2
    have nPc : Pi ≠ c' := ne_of_none tP nC
    have I1 := inv_table (t' := tk) (more := #[rawInt pos.line, rawInt pos.col, .ref c']) (h' := h') I tP (fun b o n e => e1 b o n e) e5 e2 ⟨oc, vs, t, g1, g2, g3⟩
    have kp : ∀ b o, b ≠ Pi → H b = some o → upd (upd H Pi (.tbl (ps ++ #[rawInt pos.line, rawInt pos.col, .ref c']))) c' (CodeO c' (X.env.qual ++ "<lambda>")) b = some o := fun b o n e => by rw [upd_ne (ne_of_none e nC), upd_ne n]; exact e
    have T1 : TabN (upd (upd H Pi (.tbl (ps ++ #[rawInt pos.line, rawInt pos.col, .ref c']))) c' (CodeO c' (X.env.qual ++ "<lambda>"))) Pi nm := by
      have eL : (ps ++ #[rawInt pos.line, rawInt pos.col, .ref c']).toList = ps.toList ++ [rawInt pos.line, rawInt pos.col, .ref c'] := by simp
      refine ⟨_, by rw [upd_ne nPc, upd_same], by rw [eL]; exact PySem.TriplesOk_snoc _ _ _ _ ht, fun p' cv hcv => ?_⟩
      rw [eL] at hcv
      rcases among_app2 _ ht hcv with z | ⟨z, z1, z2⟩
      · obtain ⟨d, d1, d2⟩ := ha p' cv z
        exact ⟨d, d1, kp _ _ (fun y => codeO_ne ps (Option.some.inj (d2.symm.trans (y ▸ tP)))) d2⟩
      · refine ⟨c', z, ?_⟩
        rw [← z1, ← z2, hn]
        exact upd_same
    have nF := I1.hok.fresh (Nat.le_refl _)
    have I2 := inv_lam (F := ⟨"<lambda>", X.env.qual ++ "<lambda>", params, [], scope, cloFrom X.env.cells scope.names [], c'⟩) (b := body) (t' := tk) (pm := (X.mg "__name__").getD .none) (ctv := ctv) I1 rfl
    have sF : Same (upd (upd H Pi (.tbl (ps ++ #[rawInt pos.line, rawInt pos.col, .ref c']))) c' (CodeO c' (X.env.qual ++ "<lambda>"))) (upd (upd (upd H Pi (.tbl (ps ++ #[rawInt pos.line, rawInt pos.col, .ref c']))) c' (CodeO c' (X.env.qual ++ "<lambda>"))) h'.objs.size (LamO h'.objs.size ⟨"<lambda>", X.env.qual ++ "<lambda>", params, [], scope, cloFrom X.env.cells scope.names [], c'⟩ body)) := fun b o e => (upd_ne (ne_of_none e nF)).trans e
    exact h h'.objs.size c' _ _ I2 ⟨fun b o n e => sF _ _ (kp b o n e), fun _ => T1.ext sF⟩ (T1.ext sF) (I.hok.fresh (Nat.le_trans e2 (Nat.le_of_lt e3))) upd_same (sF _ _ upd_same)
  | some cv =>
    obtain ⟨c', e, hco⟩ := ha pos cv hc
    subst e
    rw [hn] at hco
    refine PySem.W.kla_makeFunctionHit (mg := X.mg) (closure_ok hfree) I.ok.glob (I.mod.glob.keeps I.bk) hcode hd oP ht hc bP fun ctv h' tk hx hsz => ?_
    have I1 : Inv X pins σ H { s with heap := h', toks := tk } := I.kept hx
    have nF : H h'.objs.size = none := I1.hok.fresh (Nat.le_refl _)
    have I2 := inv_lam (F := ⟨"<lambda>", X.env.qual ++ "<lambda>", params, [], scope, cloFrom X.env.cells scope.names [], c'⟩) (b := body) (t' := tk) (pm := (X.mg "__name__").getD .none) (ctv := ctv) I1 rfl
    have sF : Same H (upd H h'.objs.size (LamO h'.objs.size ⟨"<lambda>", X.env.qual ++ "<lambda>", params, [], scope, cloFrom X.env.cells scope.names [], c'⟩ body)) := fun b o e => (upd_ne (ne_of_none e nF)).trans e
    have T0 : TabN H Pi nm := ⟨ps, tP, ht, ha⟩
    exact h h'.objs.size c' _ _ I2 (ButT.of sF) (T0.ext sF) nF upd_same (sF _ _ hco)
theorem pe_lamT {nm : Nm} {c P0 c0 Pi : Addr} {q : Str} {params : Arguments} {body : Expr} {scope : Scope} {pos : Pos} (TB : TabB X.base X.mg c0 P0) (hcode : X.env.code = .ref c) (hn : nm pos.line pos.col = X.env.qual ++ "<lambda>") (hdef : defaultsOf params X.env = ([], []))
    (hfree : ∀ y ∈ scope.names, y.2 = .free → X.env.scope.names.lookup y.1 = some .cell ∨ X.env.scope.names.lookup y.1 = some .free) :
    PE X (.Lambda params body scope pos) (tLamT nm c q Pi (fun c' => ⟨"<lambda>", X.env.qual ++ "<lambda>", params, [], scope, cloFrom X.env.cells scope.names [], c'⟩) body) := by
  refine ⟨fun pins s σ H Q I h => ?_⟩
  obtain ⟨hc, hT, h⟩ := h
  exact lamT_make I TB hcode hc hT hn hdef (fun y hy e => (hfree y hy e).elim (fun z => I.ok.has _ (.inl z)) fun z => I.ok.has _ (.inr z)) fun f c' H1 s' I1 e1 e2 e3 e4 e5 => ⟨.ref f, H1, I1, rfl, h f c' H1 e1 e2 e3 e4 e5⟩
end
/-! ### what a call of a value does -/
/-- what a call of f does, at the heap H -/
def Cal (P : Program) (w : World) (K : PySem.W.Frag) (mg : Str → Option Value) (base : Heap) (k n : Nat) (f : Addr) (sp : Sp) (H : Hp) : Prop := ∀ (A : Around) (outer : List Env) (s : Shared), Room k A → Env0 P w K mg base A outer s H → PySem.W.FnAt f s.heap ∧ ∀ (us : List Value) (vs : List V) (Q : VK) (E : XK), Vals vs us → vs.length = n → sp vs H Q E → codeAny (model P w) A (.call (.ref f) ⟨us, []⟩) (CR CX0 outer P w H s Q E) s
theorem Cal.mono {P : Program} {w : World} {K : PySem.W.Frag} {mg : Str → Option Value} {base : Heap} {j k n : Nat} {f : Addr} {sp : Sp} {H : Hp} (c : Cal P w K mg base j n f sp H) (h : j ≤ k) : Cal P w K mg base k n f sp H := fun A outer s hr e0 => c A outer s (hr.mono h) e0
theorem Cal.imp {P : Program} {w : World} {K : PySem.W.Frag} {mg : Str → Option Value} {base : Heap} {k n : Nat} {f : Addr} {sp sp' : Sp} {H : Hp} (c : Cal P w K mg base k n f sp H) (h : ∀ vs Q E, sp' vs H Q E → sp vs H Q E) : Cal P w K mg base k n f sp' H := fun A outer s hr e0 => ⟨(c A outer s hr e0).1, fun us vs Q E r hl q => (c A outer s hr e0).2 us vs Q E r hl (h vs Q E q)⟩
/-- a call of the name in slot i -/
def tCallV (P : Program) (w : World) (K : PySem.W.Frag) (mg : Str → Option Value) (base : Heap) (k n i : Nat) (sp : Sp) (E : XK) (t : TA) : TE := fun σ H Q => ∃ f, σ[i]? = some (some (.ref f)) ∧ Cal P w K mg base k n f sp H ∧ t σ H fun vs H1 => Cal P w K mg base k n f sp H1 ∧ vs.length = n ∧ sp vs H1 Q E
section
variable {X : Cx} {k n i : Nat} {sp : Sp} {E : XK} {x : Str} {p pos : Pos} {e : Expr} {es : List Expr} {t : TA}
theorem pe_callV (hr : Room k X.A) (hN : X.N[i]? = some x) (hv : Vis X.env.scope x) (ha : PA X (e :: es) t)
    (hd : (x == ("__debug__" : Str)) = false := by decide) (hcd : (x == ("__classdict__" : Str)) = false := by decide)
    (he : starEach (e :: es) X.env = (false, eval e X.env) :: starEach es X.env := by rfl) (hpl : (backTo pos (starEach es X.env)).any (·.1) = false := by rfl) :
    PE X (.Call (.Name x p) (e :: es) [] pos) (tCallV X.prog X.w X.K X.mg X.base k n i sp E t) := by
  refine ⟨fun pins s σ H Q I h => ?_⟩
  obtain ⟨f, hs, c0, ht⟩ := h
  refine wpAny_Call_Name_kw (thn ((pe_var (pos := p) hN hv hd hcd).run pins s σ H (fun v H1 => v = .ref f ∧ H1 = H) I ⟨.ref f, hs, rfl, rfl⟩) fun u s1 ⟨v, H1, I1, r1, ev, eH⟩ => ?_)
  subst ev
  subst eH
  obtain rfl : u = Value.ref f := r1
  refine PySem.W.callWith_F (first := []) (c0 X.A X.stack s1 hr I1.env0).1 (thn (ha.run pos pins s1 σ H1 _ I1 ht) fun us s2 ⟨vs, H2, I2, r, c2, hl, q⟩ => ⟨(c2 X.A X.stack s2 hr I2.env0).1, ?_⟩) he hpl
  show wpAny _ _ (call (.ref f) us) _ _ _
  refine wpAny_call (codeAny_mono ((c2 X.A X.stack s2 hr I2.env0).2 us vs Q E r hl q) fun r s' hq => ?_)
  cases r with
  | error e => exact (show False from hq).elim
  | ok fl =>
    cases fl with
    | ret u => exact I2.after hq
    | next => exact False.elim hq
    | brk => exact False.elim hq
    | cont => exact False.elim hq
end
section Cals
variable {P : Program} {w : World} {K : PySem.W.Frag} {mg : Str → Option Value} {base : Heap} {N ps fr : List Str} {k : Nat}
/-- a def of the top as a value -/
theorem cal_top {x qual : Str} {st : Stmt} {f : Addr} {fd : FuncData} {sp : Sp} {H : Hp} (F : L2.Fun K x qual st f fd) (G : FnOk P w K mg base CX0 k f fd ps sp) (b : Binds K fd ps []) : Cal P w K mg base k ps.length f sp H := fun A outer s hr e0 => by
  have hk : K.In s.heap := fun b o e => (e0.bs b o (e0.mod.kin b o e)).1
  obtain ⟨oc, od, kV, doc, pm, an, cdv, ct, osl, e, lk, hcd⟩ := F.ex
  refine ⟨⟨oc, od, _, osl, hk _ _ lk⟩, fun us vs Q E r hl q => ?_⟩
  have b1 := b s us hk (by rw [List.append_nil, ← r.length, hl])
  rw [List.append_nil] at b1
  exact G.run A outer s H ⟨us, []⟩ us vs Q E hr e0 b1 r q
/-- a lambda as a value -/
theorem cal_lam {mk : List (Str × Addr) → Addr → NF} {body : Expr} {sp : List (Option V) → Sp} {f c' : Addr} {cl : List (Str × Addr)} {ws : List (Option V)} {H : Hp} (C : CloOk P w K mg base k mk body ps fr sp) (h1 : H f = some (LamO f (mk cl c') body)) (h2 : H c' = some (CodeO c' (mk cl c').qual)) (h3 : Told cl fr ws H) :
    Cal P w K mg base k ps.length f (fun vs H Q E => sp ws vs (unt cl H) (fun v H' => (∀ b, InC cl b → H' b = none) → Q v (ret cl H H')) E) H := fun A outer s hr e0 => by
  obtain ⟨pm, ctv, ho⟩ := lamO_at e0.hok h1
  exact ⟨⟨_, _, _, _, ho⟩, fun us vs Q E r hl q => C.run A outer s H us vs ws f c' cl Q E hr e0 h1 h2 h3 r hl q⟩
end Cals
/-! ### a def in a def as a value -/
/-- the promise of a def in a def, whatever it captured; its code object has its table at Pi -/
structure DefOk (P : Program) (w : World) (K : PySem.W.Frag) (mg : Str → Option Value) (base : Heap) (k : Nat) (mk : List (Str × Addr) → Addr → NF) (q : Str) (ps fr : List Str) (sp : Addr → Addr → List (Option V) → Sp) : Prop where
  run : ∀ (A : Around) (outer : List Env) (s : Shared) (H : Hp) (us : List Value) (vs : List V) (ws : List (Option V)) (f c' Pi : Addr) (cl : List (Str × Addr)) (Q : VK) (E : XK), Room k A → Env0 P w K mg base A outer s H → H f = some (FnO f (mk cl c')) → H c' = some (CodeT c' q Pi) → Told cl fr ws H →
    Vals vs us → vs.length = ps.length → sp c' Pi ws vs (unt cl H) (fun v H' => (∀ b, InC cl b → H' b = none) → Q v (ret cl H H')) E → codeAny (model P w) A (.call (.ref f) ⟨us, []⟩) (CR CX0 outer P w H s Q E) s
section
variable {w : World} {P : Program} {K : PySem.W.Frag} {mg : Str → Option Value} {base : Heap} {N ps fr : List Str} {mk : List (Str × Addr) → Addr → NF} {q : Str} {k : Nat} {sp : Addr → Addr → List (Option V) → Sp} {scope : Scope} {body : List Stmt}
theorem env0_unt {A : Around} {outer : List Env} {s : Shared} {H : Hp} {cl : List (Str × Addr)} {ws : List (Option V)} (e0 : Env0 P w K mg base A outer s H) (t : Told cl fr ws H) : Env0 P w K mg base A outer s (unt cl H) := by
  have unn : ∀ b, H b = none → unt cl H b = none := fun b e => by
    by_cases hi : InC cl b
    · exact unt_in hi
    · exact (unt_out hi).trans e
  refine ⟨e0.frames, e0.mod, fun b o e => ⟨(e0.bs b o e).1, unn b (e0.bs b o e).2⟩, e0.bsz, e0.funs, fun b hb => unn b (e0.frf b hb), fun b u e => ?_, e0.bare⟩
  by_cases hi : InC cl b
  · rw [unt_in hi] at e
    cases e
  · rw [unt_out hi] at e
    have kp : ∀ {d : Addr} {x : HO}, H d = some x → (∀ o, x ≠ CelO d o) → unt cl H d = some x := fun {d x} hd hx => by
      by_cases hj : InC cl d
      · obtain ⟨y, hy⟩ := hj
        obtain ⟨o, _, h2, _⟩ := t.all y d hy
        rw [hd] at h2
        exact absurd (Option.some.inj h2) (hx o)
      · exact (unt_out hj).trans hd
    exact (e0.hok b u e).stay (fun c v _ q => q) (fun c q => kp q fun o z => celO_ne_own z.symm) fun c xs q => kp q fun o z => celO_ne_tup xs z.symm
theorem def_of (hsc : ∀ cl c', (mk cl c').scope = scope) (hcl : ∀ cl c', (mk cl c').cl = cl) (hcc : ∀ cl c', (mk cl c').c = c') (hq : ∀ cl c', (mk cl c').qual = q) (hbd : ∀ cl c', (mk cl c').body = body) (S : NScope N ps fr scope) (hb : ∀ (cl : List (Str × Addr)) (c' : Addr) (doc pm ctv : Value) (us : List Value), us.length = ps.length → bindArgs ((mk cl c').fd doc pm ctv) ⟨us, []⟩ = pure (ps.zip us))
    (hbody : ∀ (A : Around) (outer : List Env) (s : Shared) (H : Hp) (vs : List V) (ws : List (Option V)) (f c' Pi : Addr) (cl : List (Str × Addr)) (Q : VK) (E : XK), Room k (A.deeper (envF (mk cl c') f s.heap.objs.size)) → (∀ y c, cl.lookup y = some c → base.get? c = none ∧ c ∉ frs outer) → H c' = some (CodeT c' q Pi) → ws.length = fr.length → vs.length = ps.length → sp c' Pi ws vs H Q E →
      ∃ t, PSs (ncx CX0 P w K mg base N (mk cl c') f A outer s H E) body t ∧ t { nx := fun _ H' => Q .non H', rt := Q } (startF N vs ws) H) :
    DefOk P w K mg base (k + 1) mk q ps fr sp := by
  refine ⟨fun A outer s H us vs ws f c' Pi cl Q E hr e0 hf hc t r hl hsp => ?_⟩
  have lim : s.heap.NoLimit := e0.mod.nolimit.keeps fun b o e => (e0.bs b o e).1
  obtain ⟨od, sl, doc, pm, ctv, ho⟩ := fnO_at e0.hok hf
  have C0 := t.cells e0.hok
  have out : ∀ y c, cl.lookup y = some c → base.get? c = none ∧ c ∉ frs outer := fun y c hy => by
    obtain ⟨o, v, h1, _⟩ := t.all y c hy
    refine ⟨?_, fun z => ?_⟩
    · cases g : base.get? c with
      | none => rfl
      | some ob =>
        rw [(e0.bs c ob g).2] at h1
        cases h1
    · rw [e0.frf c z] at h1
      cases h1
  have e1 := env0_unt e0 t
  have C : CellsAt (mk cl c').cl fr ws s.heap (unt cl H) := by rw [hcl]; exact C0
  have S' : NScope N ps fr (mk cl c').scope := by rw [hsc]; exact S
  have hcu : unt cl H c' = some (CodeT c' q Pi) := by
    by_cases hi : InC cl c'
    · obtain ⟨y, hy⟩ := hi
      obtain ⟨o, v, h1, h2⟩ := t.all y c' hy
      have h3 := celO_at e0.hok h1
      obtain ⟨⟨⟨oc, vs', tk, g1, g2, g3⟩, _⟩, _, _⟩ := e0.hok c' _ hc
      rw [h3] at g1
      cases g1
      rw [h2] at g2
      cases g2
    · exact (unt_out hi).trans hc
  have rc : codeAny (model P w) A (.call (.ref f) ⟨us, []⟩) (CR CX0 outer P w (unt cl H) s (fun v H' => (∀ b, InC cl b → H' b = none) → Q v (ret cl H H')) E) s := by
    refine codeAny_call_function hr.depth ho rfl S'.co S'.gen rfl (by show s.heap.CodeRec (.ref (mk cl c').c) (mk cl c').qual; rw [hcc, hq]; exact codeT_rec e0.hok hc) ?_
    rw [hb cl c' doc pm ctv us (by rw [← r.length]; exact hl)]
    refine wpAny_pure (wpAny_newFunctionEnv S'.nocell (fun ⟨n, _⟩ hy => S'.par n (List.of_mem_zip hy).1) (fun h₁ hns hsb => ⟨lim.fresh _ hsb, ?_⟩) S'.kind)
    show codeAny _ _ (.func (mk cl c').body (envF (mk cl c') f s.heap.objs.size)) _ _
    refine codeAny_func ?_
    have kp : ∀ b o, s.heap.get? b = some o → h₁.get? b = some o := fun b o e => hsb.extBut b o (Nat.ne_of_lt (Heap.lt_size e)) (Heap.get?_push_of_some _ e)
    obtain ⟨tt, ht, hg⟩ := hbody A outer s (unt cl H) vs ws f c' Pi cl _ E (hr.deeper _) out hcu t.len hl hsp
    have I : Inv (ncx CX0 P w K mg base N (mk cl c') f A outer s (unt cl H) E) [] (startF N vs ws) (unt cl H) { s with heap := h₁, toks := s.toks + (ps.zip us).length } := inv_startN S' hr.hd e1 hl r C hns kp
    rw [hbd]
    refine wpAny_mono (ht.run [] _ (startF N vs ws) _ _ I hg) (fun fl s' hs => ?_) fun e s' hs => hs
    cases fl with
    | ret u =>
      obtain ⟨v, σ', H', J, rv, g⟩ := hs
      exact ⟨v, H', J.os, J.bare, J.base, J.hok, rv, g⟩
    | next =>
      obtain ⟨σ', H', J, g⟩ := hs
      exact ⟨V.non, H', J.os, J.bare, J.base, J.hok, rfl, g⟩
    | brk =>
      obtain ⟨_, _, _, g⟩ := hs
      exact False.elim g
    | cont =>
      obtain ⟨_, _, _, g⟩ := hs
      exact False.elim g
  refine codeAny_mono rc fun r s' hg => ?_
  cases r with
  | error e => exact hg
  | ok fl =>
    cases fl with
    | ret u => exact ce_ret e0.hok (fun y c hy => ⟨(out y c hy).2, by
        obtain ⟨o, _, h1, _⟩ := t.all y c hy
        exact ⟨o, h1⟩⟩) hg
    | next => exact hg
    | brk => exact hg
    | cont => exact hg
theorem DefOk.mono {j : Nat} (o : DefOk P w K mg base j mk q ps fr sp) (h : j ≤ k) : DefOk P w K mg base k mk q ps fr sp := ⟨fun A outer s H us vs ws f c' Pi cl Q E hr => o.run A outer s H us vs ws f c' Pi cl Q E (hr.mono h)⟩
theorem cal_def {f c' Pi : Addr} {cl : List (Str × Addr)} {ws : List (Option V)} {H : Hp} (C : DefOk P w K mg base k mk q ps fr sp) (h1 : H f = some (FnO f (mk cl c'))) (h2 : H c' = some (CodeT c' q Pi)) (h3 : Told cl fr ws H) :
    Cal P w K mg base k ps.length f (fun vs H Q E => sp c' Pi ws vs (unt cl H) (fun v H' => (∀ b, InC cl b → H' b = none) → Q v (ret cl H H')) E) H := fun A outer s hr e0 => by
  obtain ⟨od, sl, doc, pm, ctv, ho⟩ := fnO_at e0.hok h1
  exact ⟨⟨_, _, _, _, ho⟩, fun us vs Q E r hl g => C.run A outer s H us vs ws f c' Pi cl Q E hr e0 h1 h2 h3 r hl g⟩
/-- in the frame of a def in a def: the cells of what it makes lie outside the frames -/
theorem away_in {X : Cx} {sc : Scope} {cl : List (Str × Addr)} (ok : X.Ok) (hce : X.env.cells = cl) (out : ∀ y c, cl.lookup y = some c → X.base.get? c = none ∧ c ∉ X.fs) (hfree : ∀ y ∈ sc.names, y.2 = .free → X.env.scope.names.lookup y.1 = some .cell ∨ X.env.scope.names.lookup y.1 = some .free) : Away X (cloFrom X.env.cells sc.names []) := fun y c e => by
  have hf : ∀ y ∈ sc.names, y.2 = .free → ∃ c, X.env.cells.lookup y.1 = some c := fun y hy e => (hfree y hy e).elim (fun z => ok.has _ (.inl z)) fun z => ok.has _ (.inr z)
  exact out y c (hce ▸ clo_cm hf e)
end
end LevelTwo

section
open HT PySem.W
variable {prog : Program} {w : World} {A : Around} {E : Value → Shared → Prop} {s : Shared}
theorem starT0 {l : Addr} {items : Array Value} {n i : Nat} {Q : List Value → Shared → Prop} (hl : IsTup s.heap l items) (hh : A.handled = none) (hi : i < n) (hn : n ≤ items.size + 1) (hz : items.size ≤ sizeLine)
    (h : ∀ h' tk, (∀ b o, b ≠ s.heap.objs.size → s.heap.get? b = some o → h'.get? b = some o) → wpAny (model prog w) A (newList ((items.toList.drop i).take (items.size + 1 - n)) >>= fun d => pure (items.toList.take i ++ [d] ++ (items.toList.drop i).drop (items.size + 1 - n))) Q E { s with heap := h', toks := tk }) :
    wpAny (model prog w) A (unpackItems (.ref l) n (some i)) Q E s := by
  have hlt : l ≠ s.heap.objs.size := by obtain ⟨o, ho, _⟩ := hl; exact Nat.ne_of_lt (Heap.lt_size ho)
  unfold unpackItems
  refine wpAny_bind ?_
  unfold notIterableAtAll
  refine wpAny_bind (wpAny_specialOf hl.typeIs PyProof.Rows.slot_tuple_iter.lookup ?_)
  refine wpAny_pure ?_
  simp only [Bool.false_eq_true, if_false]
  refine wpAny_bind (wpAny_holding (iter_tuple hl ?_))
  refine wpAny_bind (wpAny_holding (draw_tuple hlt i 0 _ _ ⟨_, Heap.get?_push_size _ rfl, rfl, rfl⟩ (hl.push _) (by omega) fun h₁ hit₁ hs₁ => ?_))
  have hl₁ : IsTup h₁ l items := (hl.push _).extBut hs₁.extBut hlt
  rw [Nat.zero_add] at hit₁
  have hit₁' := hit₁
  obtain ⟨oi, hoi, _⟩ := hit₁'
  have hl₁' := hl₁
  obtain ⟨ol, hol, _⟩ := hl₁'
  rw [List.drop_zero]
  have hfl : (items.toList.take i).length = i := by rw [List.length_take, Array.length_toList]; omega
  rw [if_neg (show ¬ ((items.toList.take i).length < i) by rw [hfl]; omega)]
  refine wpAny_bind (wpAny_holding (kun_collect (s := { s with heap := h₁ }) (T := "tuple_iterator") (.inr (.inr (.inr rfl))) (Walks.tuple (A := A.in1) hh s.heap.objs.size l hlt items) (fun j u st => st.1.typeIs) (k := i) (by omega) ⟨hit₁, hl₁⟩ (Heap.lt_size hoi) (Heap.lt_size hol) (fun h₂ tk hk => ?_) hz))
  have hrl : (items.toList.drop i).length = items.size - i := by rw [List.length_drop, Array.length_toList]
  have hmid : (items.toList.drop i).length - (n - 1 - i) = items.size + 1 - n := by rw [hrl]; omega
  show wpAny _ _ (if (items.toList.drop i).length < n - 1 - i then _ else _) _ _ _
  rw [if_neg (by rw [hrl]; omega)]
  show wpAny _ _ (newList ((items.toList.drop i).take ((items.toList.drop i).length - (n - 1 - i))) >>= fun d => pure (items.toList.take i ++ [d] ++ (items.toList.drop i).drop ((items.toList.drop i).length - (n - 1 - i)))) _ _ _
  rw [hmid]
  exact h h₂ tk fun b o hb e => hk b o hb (hs₁.extBut b o hb (Heap.get?_push_of_some _ e))
end
theorem vals_drop : ∀ (n : Nat) {xs : List V} {us : List Value}, Vals xs us → Vals (xs.drop n) (us.drop n)
  | 0, _, _, h => h
  | _ + 1, _, _, .nil => .nil
  | n + 1, _, _, .cons _ b => vals_drop n b
theorem vals_take : ∀ (n : Nat) {xs : List V} {us : List Value}, Vals xs us → Vals (xs.take n) (us.take n)
  | 0, _, _, _ => .nil
  | _ + 1, _, _, .nil => .nil
  | n + 1, _, _, .cons a b => .cons a (vals_take n b)
/-- (a, b, *rest, c) = a tuple; the rest in a new list -/
def gStarT (K : PySem.W.Frag) (i n : Nat) (t : TGs) : TG := fun v σ H Q => ∃ a xs, v = .ref a ∧ SqT K H a xs ∧ n ≤ xs.length + 1 ∧ ∀ D, H D = none → t (xs.take i ++ [.ref D] ++ (xs.drop i).drop (xs.length + 1 - n)) σ (upd H D (.lst ((xs.drop i).take (xs.length + 1 - n)))) Q
section
variable {X : Cx} {pos : Pos}
theorem pg_starT {es : List Expr} {k : Nat} {t : TGs} {n i : Nat} (hc : X.calm = true) (h : PGs X es t)
    (hn : (assignEach es X.env).length = n := by rfl) (hst : (assignEach es X.env).findIdx? (·.1) = some i := by rfl) (hi : i < n := by decide) : PG X (.Tuple es k pos) (gStarT X.K i n t) := by
  refine ⟨fun pins s σ H v u Q I r hw => ?_⟩
  obtain ⟨a, xs, e1, hq, hl, hw⟩ := hw
  subst e1
  cases r
  obtain ⟨its, rv, ht, hz⟩ := I.tuple hq
  have hlen := rv.length
  rw [assign_Tuple]
  refine wpAny_bind (wpAny_standAt ?_)
  unfold unpack
  rw [hn, hst]
  refine wpAny_bind (wpAny_holding (starT0 ht (I.ok.hd hc) hi (by rw [List.size_toArray]; omega) (by rw [List.size_toArray]; omega) fun h' tk hx => ?_))
  have I1 : Inv X pins σ H { s with heap := h', toks := tk } := I.kept (t' := tk) fun b o e => hx b o (Nat.ne_of_lt (Heap.lt_size e)) e
  have e0 : its.toArray.size = xs.length := by rw [List.size_toArray, hlen]
  rw [e0]
  refine wpAny_bind (wpAny_newObj_type (wpAny_pure ?_) (by show List.length _ ≤ sizeLine; rw [List.length_take, List.length_drop]; omega))
  have hf : H h'.objs.size = none := I1.hok.fresh (Nat.le_refl _)
  have rm : Vals ((xs.drop i).take (xs.length + 1 - n)) ((its.drop i).take (xs.length + 1 - n)) := vals_take _ (vals_drop _ rv)
  have I2 := I1.laid (t' := tk) (o := .lst ((xs.drop i).take (xs.length + 1 - n))) (fun b u e => Heap.get?_push_of_some { cls := .type "list", data := .seq ((its.drop i).take (xs.length + 1 - n)).toArray } e) (Nat.le_refl _) ⟨by rw [List.length_take, List.length_drop]; omega, _, 0, rm, Heap.get?_push_size _ rfl⟩
  refine h.run pins _ σ _ _ _ Q I2 ?_ (hw _ hf)
  exact ((vals_take i rv).append (.cons (show RelV (.ref h'.objs.size) (.ref h'.objs.size) from rfl) .nil)).append (vals_drop _ (vals_drop _ rv))
theorem pgs_star {e : Expr} {p : Pos} {es : List Expr} {t : TG} {u : TGs} (h1 : PG X e t) (h2 : PGs X es u)
    (hs : (assignEach (.Starred e p :: es) X.env).map (·.2) = assign e X.env :: (assignEach es X.env).map (·.2) := by rfl) : PGs X (.Starred e p :: es) (gCons t u) := by
  refine ⟨fun pins s σ H vs us Q I r h => ?_⟩
  obtain ⟨v, vr, e1, h⟩ := h
  subst e1
  cases r with
  | cons r rr =>
    rw [hs]
    refine assignInOrder_cons (thn (h1.run pins s σ H _ _ _ I r h) fun _ s1 ⟨σ1, H1, I1, q1⟩ => ?_)
    exact h2.run pins s1 σ1 H1 _ _ Q I1 rr q1
end

section
variable {X : Cx}
/-- a tuple among texts -/
def rInTS (K : PySem.W.Frag) : R2 := fun x y H Q => ∃ (p q : Addr) (xs : List V) (zs : List Str), x = .ref q ∧ SqT K H q xs ∧ y = .ref p ∧ SqT K H p (zs.map V.str) ∧ Q (.bl false) H
theorem strs_mem : ∀ {zs : List Str} {us : List Value}, Vals (zs.map V.str) us → ∀ u ∈ us, ∃ z t, u = Value.str z t
  | [], _, .nil, u, h => by cases h
  | z :: zs, _, .cons r t, u, h => by
    rcases List.mem_cons.mp h with rfl | h
    · obtain ⟨t, rfl⟩ := r
      exact ⟨z, t, rfl⟩
    · exact strs_mem t u h
theorem op_inX (hu : X.A.units + 64 < cLine) : OpR X (compareOp .In) (fun x y H Q => rIn X.K false x y H Q ∨ rInTS X.K x y H Q) := by
  intro pins s σ H x y v u Q I rx ry h
  rcases h with h | ⟨p, q, xs, zs, rfl, hq, rfl, hp, qq⟩
  · exact op_in_seq pins s σ H x y v u Q I rx ry h
  · cases rx
    cases ry
    obtain ⟨its, r, pl, hz⟩ := I.tuple hp
    obtain ⟨its2, r2, pl2, hz2⟩ := I.tuple hq
    refine SeqAt.in_tupleAt (fun _ => false) pl (fun w hw => ?_) ⟨.bl _, H, I, rfl, ?_⟩
    · obtain ⟨z, t, rfl⟩ := strs_mem r w (by simpa using hw)
      exact SeqAt.EqAt.str_tuple z t pl2 (by show X.A.units + 1 < cLine; omega)
    · rw [show its.toArray.any (fun _ => false) = false by simp]
      exact qq
/-- lists of the same ints -/
def rEqLI (K : PySem.W.Frag) : R2 := fun x y H Q => ∃ (p q : Addr) (ns : List Int), x = .ref p ∧ y = .ref q ∧ SqL K H p (ns.map V.int) ∧ SqL K H q (ns.map V.int) ∧ Q (.bl true) H
theorem dp_intsL {K : PySem.W.Frag} {H : Hp} : ∀ zs : List Int, DpAll K H (zs.map V.int) (zs.map PyData.int)
  | [] => .nil
  | z :: zs => .cons (.int z) (dp_intsL zs)
theorem lay_ints : ∀ zs : List Int, PyData.canLayAll0 (zs.map PyData.int) = true
  | [] => rfl
  | z :: zs => by
    rw [List.map_cons, PyData.canLayAll0, lay_ints zs]
    rfl
theorem dep_ints : ∀ zs : List Int, PyData.depthAll (zs.map PyData.int) ≤ 1
  | [] => by simp [PyData.depthAll]
  | z :: zs => by
    have := dep_ints zs
    rw [List.map_cons, PyData.depthAll]
    have e : PyData.depth (.int z) ≤ 1 := by simp [PyData.depth]
    omega
theorem shp_ints (zs : List Int) : SeqAt.shaped (.list (zs.map PyData.int)) = true := by
  unfold SeqAt.shaped
  rw [Bool.and_eq_true]
  refine ⟨by rw [PyData.canLay0]; exact lay_ints zs, decide_eq_true ?_⟩
  have := dep_ints zs
  rw [PyData.depth]
  omega
theorem op_eqLI (hu : X.A.units + 64 < cLine) : OpR X (compareOp .Eq) (rEqLI X.K) := by
  intro pins s σ H x y v u Q I rx ry h
  obtain ⟨p, q, ns, rfl, rfl, hp, hq, qq⟩ := h
  have e : PyData.eqv (.list (ns.map PyData.int)) (.list (ns.map PyData.int)) = true := SeqAt.eqv_refl _ (by rw [PyData.canLay0]; exact lay_ints ns)
  refine op_eqD hu pins s σ H _ _ v u Q I rx ry ⟨_, _, .lst hp (dp_intsL ns), .lst hq (dp_intsL ns), shp_ints ns, shp_ints ns, ?_⟩
  rw [e]
  exact qq
end

section
open LamX
theorem told_sub {cl cl' : List (Str × Addr)} {fr fr' : List Str} {ws ws' : List (Option V)} {H : Hp} (t : Told cl fr ws H) (hl : ws'.length = fr'.length) (sub : ∀ y c, cl'.lookup y = some c → cl.lookup y = some c) (has : ∀ (i : Nat) (y : Str), fr'[i]? = some y → ∃ j : Nat, fr[j]? = some y ∧ ws'[i]? = ws[j]? ∧ ∀ c, cl.lookup y = some c → cl'.lookup y = some c) : Told cl' fr' ws' H :=
  ⟨hl, fun y c e => t.all y c (sub y c e), fun x y c e1 e2 => t.inj x y c (sub x c e1) (sub y c e2), fun i y e => by
    obtain ⟨j, h1, h2, h3⟩ := has i y e
    obtain ⟨c, q1, q2⟩ := t.has j y h1
    exact ⟨c, h3 c q1, fun v hv => q2 v (by rw [← h2]; exact hv)⟩⟩
theorem told_lam {cl : List (Str × Addr)} {fr : List Str} {ws : List (Option V)} {H : Hp} {names : List (Str × NameKind)} {z : Str} {j : Nat} {v : V} (t : Told cl fr ws H) (hj : fr[j]? = some z) (hw : ws[j]? = some (some v)) (only : ∀ y ∈ names, y.2 = .free → y.1 = z) (hm : (z, NameKind.free) ∈ names) : Told (cloFrom cl names []) [z] [some v] H := by
  obtain ⟨c0, q1, q2⟩ := t.has j z hj
  have hf : ∀ y ∈ names, y.2 = .free → ∃ c, cl.lookup y.1 = some c := fun y hy e => ⟨c0, by rw [only y hy e]; exact q1⟩
  refine told_sub t rfl (fun y c e => NdefX.clo_cm hf e) fun i y e => ?_
  rcases i with _ | i
  · cases e
    exact ⟨j, hj, hw.symm, fun c hc => NdefX.clo_has hf hm hc⟩
  · cases e
end

/-! ### what the top has left -/
structure Txt (K : PySem.W.Frag) (mg : Str → Option Value) where
  aordered : Addr
  dordered : FuncData
  Fordered : Fun K "ordered" "ordered" sordered aordered dordered
  gordered : mg "ordered" = some (.ref aordered)
  bordered : Binds K dordered Pordered []
  arow_span : Addr
  drow_span : FuncData
  Frow_span : Fun K "row_span" "row_span" srow_span arow_span drow_span
  grow_span : mg "row_span" = some (.ref arow_span)
  brow_span : Binds K drow_span Prow_span []
  acolumn_span : Addr
  dcolumn_span : FuncData
  Fcolumn_span : Fun K "column_span" "column_span" scolumn_span acolumn_span dcolumn_span
  gcolumn_span : mg "column_span" = some (.ref acolumn_span)
  bcolumn_span : Binds K dcolumn_span Pcolumn_span []
  anode_of : Addr
  dnode_of : FuncData
  Fnode_of : Fun K "node_of" "node_of" snode_of anode_of dnode_of
  gnode_of : mg "node_of" = some (.ref anode_of)
  bnode_of : Binds K dnode_of Pnode_of []
  aarea_of : Addr
  darea_of : FuncData
  Farea_of : Fun K "area_of" "area_of" sarea_of aarea_of darea_of
  garea_of : mg "area_of" = some (.ref aarea_of)
  barea_of : Binds K darea_of Parea_of []
  arebuilt : Addr
  drebuilt : FuncData
  Frebuilt : Fun K "rebuilt" "rebuilt" srebuilt arebuilt drebuilt
  grebuilt : mg "rebuilt" = some (.ref arebuilt)
  brebuilt : Binds K drebuilt Prebuilt []
  aall_rebuilt : Addr
  dall_rebuilt : FuncData
  Fall_rebuilt : Fun K "all_rebuilt" "all_rebuilt" sall_rebuilt aall_rebuilt dall_rebuilt
  gall_rebuilt : mg "all_rebuilt" = some (.ref aall_rebuilt)
  ball_rebuilt : Binds K dall_rebuilt Pall_rebuilt []
  awith_spans : Addr
  dwith_spans : FuncData
  Fwith_spans : Fun K "with_spans" "with_spans" swith_spans awith_spans dwith_spans
  gwith_spans : mg "with_spans" = some (.ref awith_spans)
  bwith_spans : Binds K dwith_spans Pwith_spans []
  ashifted : Addr
  dshifted : FuncData
  Fshifted : Fun K "shifted" "shifted" sshifted ashifted dshifted
  gshifted : mg "shifted" = some (.ref ashifted)
  bshifted : Binds K dshifted Pshifted []
  ashifted_span : Addr
  dshifted_span : FuncData
  Fshifted_span : Fun K "shifted_span" "shifted_span" sshifted_span ashifted_span dshifted_span
  gshifted_span : mg "shifted_span" = some (.ref ashifted_span)
  bshifted_span : Binds K dshifted_span Pshifted_span []
  a_law_mixed : Addr
  d_law_mixed : FuncData
  F_law_mixed : Fun K "_law_mixed" "_law_mixed" s_law_mixed a_law_mixed d_law_mixed
  g_law_mixed : mg "_law_mixed" = some (.ref a_law_mixed)
  b_law_mixed : Binds K d_law_mixed P_law_mixed []
  a_law_draw : Addr
  d_law_draw : FuncData
  F_law_draw : Fun K "_law_draw" "_law_draw" s_law_draw a_law_draw d_law_draw
  g_law_draw : mg "_law_draw" = some (.ref a_law_draw)
  b_law_draw : Binds K d_law_draw P_law_draw []
  a_law_start : Addr
  d_law_start : FuncData
  F_law_start : Fun K "_law_start" "_law_start" s_law_start a_law_start d_law_start
  g_law_start : mg "_law_start" = some (.ref a_law_start)
  b_law_start : Binds K d_law_start P_law_start []
  a_law_near : Addr
  d_law_near : FuncData
  F_law_near : Fun K "_law_near" "_law_near" s_law_near a_law_near d_law_near
  g_law_near : mg "_law_near" = some (.ref a_law_near)
  b_law_near : Binds K d_law_near P_law_near []
  a_law_words : Addr
  d_law_words : FuncData
  F_law_words : Fun K "_law_words" "_law_words" s_law_words a_law_words d_law_words
  g_law_words : mg "_law_words" = some (.ref a_law_words)
  b_law_words : Binds K d_law_words P_law_words []
  a_law_is_cell : Addr
  d_law_is_cell : FuncData
  F_law_is_cell : Fun K "_law_is_cell" "_law_is_cell" s_law_is_cell a_law_is_cell d_law_is_cell
  g_law_is_cell : mg "_law_is_cell" = some (.ref a_law_is_cell)
  b_law_is_cell : Binds K d_law_is_cell P_law_is_cell []
  a_law_name : Addr
  d_law_name : FuncData
  F_law_name : Fun K "_law_name" "_law_name" s_law_name a_law_name d_law_name
  g_law_name : mg "_law_name" = some (.ref a_law_name)
  b_law_name : Binds K d_law_name P_law_name []
  a_law_signs : Addr
  d_law_signs : FuncData
  F_law_signs : Fun K "_law_signs" "_law_signs" s_law_signs a_law_signs d_law_signs
  g_law_signs : mg "_law_signs" = some (.ref a_law_signs)
  b_law_signs : Binds K d_law_signs P_law_signs []
  a_law_text : Addr
  d_law_text : FuncData
  F_law_text : Fun K "_law_text" "_law_text" s_law_text a_law_text d_law_text
  g_law_text : mg "_law_text" = some (.ref a_law_text)
  b_law_text : Binds K d_law_text P_law_text []
  a_law_amount : Addr
  d_law_amount : FuncData
  F_law_amount : Fun K "_law_amount" "_law_amount" s_law_amount a_law_amount d_law_amount
  g_law_amount : mg "_law_amount" = some (.ref a_law_amount)
  b_law_amount : Binds K d_law_amount P_law_amount []
  a_law_scalar : Addr
  d_law_scalar : FuncData
  F_law_scalar : Fun K "_law_scalar" "_law_scalar" s_law_scalar a_law_scalar d_law_scalar
  g_law_scalar : mg "_law_scalar" = some (.ref a_law_scalar)
  b_law_scalar : Binds K d_law_scalar P_law_scalar []
  a_law_array : Addr
  d_law_array : FuncData
  F_law_array : Fun K "_law_array" "_law_array" s_law_array a_law_array d_law_array
  g_law_array : mg "_law_array" = some (.ref a_law_array)
  b_law_array : Binds K d_law_array P_law_array []
  a_law_area : Addr
  d_law_area : FuncData
  F_law_area : Fun K "_law_area" "_law_area" s_law_area a_law_area d_law_area
  g_law_area : mg "_law_area" = some (.ref a_law_area)
  b_law_area : Binds K d_law_area P_law_area []
  a_law_leaf : Addr
  d_law_leaf : FuncData
  F_law_leaf : Fun K "_law_leaf" "_law_leaf" s_law_leaf a_law_leaf d_law_leaf
  g_law_leaf : mg "_law_leaf" = some (.ref a_law_leaf)
  b_law_leaf : Binds K d_law_leaf P_law_leaf []
  a_law_filled : Addr
  d_law_filled : FuncData
  F_law_filled : Fun K "_law_filled" "_law_filled" s_law_filled a_law_filled d_law_filled
  g_law_filled : mg "_law_filled" = some (.ref a_law_filled)
  b_law_filled : Binds K d_law_filled P_law_filled []
  a_law_call : Addr
  d_law_call : FuncData
  F_law_call : Fun K "_law_call" "_law_call" s_law_call a_law_call d_law_call
  g_law_call : mg "_law_call" = some (.ref a_law_call)
  b_law_call : Binds K d_law_call P_law_call []
  a_law_apply : Addr
  d_law_apply : FuncData
  F_law_apply : Fun K "_law_apply" "_law_apply" s_law_apply a_law_apply d_law_apply
  g_law_apply : mg "_law_apply" = some (.ref a_law_apply)
  b_law_apply : Binds K d_law_apply P_law_apply []
  a_law_let : Addr
  d_law_let : FuncData
  F_law_let : Fun K "_law_let" "_law_let" s_law_let a_law_let d_law_let
  g_law_let : mg "_law_let" = some (.ref a_law_let)
  b_law_let : Binds K d_law_let P_law_let []
  a_law_lambda : Addr
  d_law_lambda : FuncData
  F_law_lambda : Fun K "_law_lambda" "_law_lambda" s_law_lambda a_law_lambda d_law_lambda
  g_law_lambda : mg "_law_lambda" = some (.ref a_law_lambda)
  b_law_lambda : Binds K d_law_lambda P_law_lambda []
  a_law_node : Addr
  d_law_node : FuncData
  F_law_node : Fun K "_law_node" "_law_node" s_law_node a_law_node d_law_node
  g_law_node : mg "_law_node" = some (.ref a_law_node)
  b_law_node : Binds K d_law_node P_law_node []
  a_law_parts : Addr
  d_law_parts : FuncData
  F_law_parts : Fun K "_law_parts" "_law_parts" s_law_parts a_law_parts d_law_parts
  g_law_parts : mg "_law_parts" = some (.ref a_law_parts)
  b_law_parts : Binds K d_law_parts P_law_parts []
  a_law_size : Addr
  d_law_size : FuncData
  F_law_size : Fun K "_law_size" "_law_size" s_law_size a_law_size d_law_size
  g_law_size : mg "_law_size" = some (.ref a_law_size)
  b_law_size : Binds K d_law_size P_law_size []
  a_law_fits : Addr
  d_law_fits : FuncData
  F_law_fits : Fun K "_law_fits" "_law_fits" s_law_fits a_law_fits d_law_fits
  g_law_fits : mg "_law_fits" = some (.ref a_law_fits)
  b_law_fits : Binds K d_law_fits P_law_fits []
  a_law_grown : Addr
  d_law_grown : FuncData
  F_law_grown : Fun K "_law_grown" "_law_grown" s_law_grown a_law_grown d_law_grown
  g_law_grown : mg "_law_grown" = some (.ref a_law_grown)
  b_law_grown : Binds K d_law_grown P_law_grown []
  a_law_gathered : Addr
  d_law_gathered : FuncData
  F_law_gathered : Fun K "_law_gathered" "_law_gathered" s_law_gathered a_law_gathered d_law_gathered
  g_law_gathered : mg "_law_gathered" = some (.ref a_law_gathered)
  b_law_gathered : Binds K d_law_gathered P_law_gathered []
  a_law_tree : Addr
  d_law_tree : FuncData
  F_law_tree : Fun K "_law_tree" "_law_tree" s_law_tree a_law_tree d_law_tree
  g_law_tree : mg "_law_tree" = some (.ref a_law_tree)
  b_law_tree : Binds K d_law_tree P_law_tree []
  a_law_walk : Addr
  d_law_walk : FuncData
  F_law_walk : Fun K "_law_walk" "_law_walk" s_law_walk a_law_walk d_law_walk
  g_law_walk : mg "_law_walk" = some (.ref a_law_walk)
  b_law_walk : Binds K d_law_walk P_law_walk []
  a_law_same : Addr
  d_law_same : FuncData
  F_law_same : Fun K "_law_same" "_law_same" s_law_same a_law_same d_law_same
  g_law_same : mg "_law_same" = some (.ref a_law_same)
  b_law_same : Binds K d_law_same P_law_same []
  a_law_is_area : Addr
  d_law_is_area : FuncData
  F_law_is_area : Fun K "_law_is_area" "_law_is_area" s_law_is_area a_law_is_area d_law_is_area
  g_law_is_area : mg "_law_is_area" = some (.ref a_law_is_area)
  b_law_is_area : Binds K d_law_is_area P_law_is_area []
  a_law_meant : Addr
  d_law_meant : FuncData
  F_law_meant : Fun K "_law_meant" "_law_meant" s_law_meant a_law_meant d_law_meant
  g_law_meant : mg "_law_meant" = some (.ref a_law_meant)
  b_law_meant : Binds K d_law_meant P_law_meant []
  a_law_step : Addr
  d_law_step : FuncData
  F_law_step : Fun K "_law_step" "_law_step" s_law_step a_law_step d_law_step
  g_law_step : mg "_law_step" = some (.ref a_law_step)
  b_law_step : Binds K d_law_step P_law_step []
  a_law_ends : Addr
  d_law_ends : FuncData
  F_law_ends : Fun K "_law_ends" "_law_ends" s_law_ends a_law_ends d_law_ends
  g_law_ends : mg "_law_ends" = some (.ref a_law_ends)
  b_law_ends : Binds K d_law_ends P_law_ends []
  a_law_moved : Addr
  d_law_moved : FuncData
  F_law_moved : Fun K "_law_moved" "_law_moved" s_law_moved a_law_moved d_law_moved
  g_law_moved : mg "_law_moved" = some (.ref a_law_moved)
  b_law_moved : Binds K d_law_moved P_law_moved []
  a_law_shifted : Addr
  d_law_shifted : FuncData
  F_law_shifted : Fun K "_law_shifted" "_law_shifted" s_law_shifted a_law_shifted d_law_shifted
  g_law_shifted : mg "_law_shifted" = some (.ref a_law_shifted)
  b_law_shifted : Binds K d_law_shifted P_law_shifted []
  a_law_areas : Addr
  d_law_areas : FuncData
  F_law_areas : Fun K "_law_areas" "_law_areas" s_law_areas a_law_areas d_law_areas
  g_law_areas : mg "_law_areas" = some (.ref a_law_areas)
  b_law_areas : Binds K d_law_areas P_law_areas []
  a_law_meanings : Addr
  d_law_meanings : FuncData
  F_law_meanings : Fun K "_law_meanings" "_law_meanings" s_law_meanings a_law_meanings d_law_meanings
  g_law_meanings : mg "_law_meanings" = some (.ref a_law_meanings)
  b_law_meanings : Binds K d_law_meanings P_law_meanings []
  alaw : Addr
  dlaw : FuncData
  Flaw : Fun K "law" "law" slaw alaw dlaw
  glaw : mg "law" = some (.ref alaw)
  blaw : Binds K dlaw Plaw []
  t_ROWS : Tok
  m_ROWS : mg "ROWS" = some (.int 20 t_ROWS)
  t_COLUMNS : Tok
  m_COLUMNS : mg "COLUMNS" = some (.int 10 t_COLUMNS)
  o_AREAS : Addr
  m_AREAS : mg "AREAS" = some (.ref o_AREAS)
  q_AREAS : ∀ H, SqT K H o_AREAS [.str "cell", .str "range", .str "rows", .str "columns"]
  o_LOST : Addr
  m_LOST : mg "LOST" = some (.ref o_LOST)
  q_LOST : ∀ H, SqT K H o_LOST [.str "error", .str "REF"]
  z_bool : mg "bool" = none
  z_int : mg "int" = none
  z_isinstance : mg "isinstance" = none
  z_len : mg "len" = none
  z_list : mg "list" = none
  z_max : mg "max" = none
  z_min : mg "min" = none
  z_range : mg "range" = none
  z_reversed : mg "reversed" = none
  z_sorted : mg "sorted" = none
  z_str : mg "str" = none
  z_sum : mg "sum" = none
  z_tuple : mg "tuple" = none
  cS : Addr
  pS : Addr
  hcS : dshifted.code = .ref cS
/-! ### the mathematics -/

theorem atI_some {α : Type} {xs : List α} {i : Int} (h0 : 0 ≤ i) (h1 : i < (xs.length : Int)) : ∃ v, v ∈ xs ∧ atI xs i = some v := by
  obtain ⟨n, rfl⟩ := Int.eq_ofNat_of_zero_le h0
  have h2 : n < xs.length := by omega
  exact ⟨xs[n], List.getElem_mem h2, atI_nat (List.getElem?_eq_getElem h2)⟩
theorem atI_at {α : Type} {xs : List α} {i : Int} {n : Nat} (e : i = (n : Int)) {v : α} (h : xs[n]? = some v) : atI xs i = some v := by
  rw [e]
  exact atI_nat h
theorem sqT_ty {K : PySem.W.Frag} {H : Hp} {p : Addr} {xs : List V} (h : SqT K H p xs) : TyX K H (.ref p) (.type "tuple") := by
  rcases h with (h | ⟨o, h⟩) | ⟨o, its, n, e, c, _⟩
  · exact .base (.tup h)
  · exact .fTuple h
  · exact .kTuple e c
theorem sqL_ty {K : PySem.W.Frag} {H : Hp} {p : Addr} {xs : List V} (h : SqL K H p xs) : TyX K H (.ref p) (.type "list") := by
  rcases h with (h | ⟨o, h⟩) | ⟨o, its, n, e, c, _⟩
  · exact .base (.lst h)
  · exact .base (.frz h)
  · exact .kList e c
/-- isinstance: flat values, tuples, lists -/
theorem call_isiR {X : Cx} : CallR X (.builtin "isinstance") (fun xs H Q => (∃ x n b, xs = [x, .ty n] ∧ isiV x n = some b ∧ Q (.bl b) H) ∨ (∃ p ys n b, xs = [.ref p, .ty n] ∧ SqT X.K H p ys ∧ kitB "tuple" n = some b ∧ Q (.bl b) H) ∨ ∃ p ys n b, xs = [.ref p, .ty n] ∧ SqL X.K H p ys ∧ kitB "list" n = some b ∧ Q (.bl b) H) := by
  intro pins s σ H xs us Q I r h
  rcases h with h | ⟨p, ys, n, b, rfl, hp, e, q⟩ | ⟨p, ys, n, b, rfl, hp, e, q⟩
  · exact call_isiV pins s σ H xs us Q I r h
  · exact call_isi pins s σ H _ us Q I r ⟨_, _, .type "tuple", _, _, rfl, .ty _, sqT_ty hp, kit_ty e, q⟩
  · exact call_isi pins s σ H _ us Q I r ⟨_, _, .type "list", _, _, rfl, .ty _, sqL_ty hp, kit_ty e, q⟩
theorem iteSN {x y : Str} {A B : Prop} (h : x ≠ y) (b : B) : if decide (V.str x = V.str y) = true then A else B := by
  rw [if_neg (fun z => h (V.str.inj (of_decide_eq_true z)))]
  exact b
theorem iteSNn {x y : Str} {A B : Prop} (h : x ≠ y) (a : A) : if (!decide (V.str x = V.str y)) = true then A else B := by
  rw [decide_eq_false (fun z => h (V.str.inj z))]
  exact iteT a
theorem iteSSn {x : Str} {A B : Prop} (b : B) : if (!decide (V.str x = V.str x)) = true then A else B := by
  rw [decide_eq_true rfl]
  exact iteF b
/-- a flat value -/
def Flat3 (x : V) : Prop := (∃ i, x = .int i) ∨ (∃ s, x = .str s) ∨ ∃ b, x = .bl b
/-- the tuples stand as they were -/
def TK (K : PySem.W.Frag) (H H' : Hp) : Prop := ∀ p xs, SqT K H p xs → SqT K H' p xs
theorem TK.refl {K : PySem.W.Frag} {H : Hp} : TK K H H := fun _ _ h => h
theorem TK.trans {K : PySem.W.Frag} {H H1 H2 : Hp} (a : TK K H H1) (b : TK K H1 H2) : TK K H H2 := fun p xs h => b p xs (a p xs h)
theorem same_tk {K : PySem.W.Frag} {H H' : Hp} (e : Same H H') : TK K H H' := by
  intro p xs h
  rcases h with (h | ⟨o, h⟩) | h
  · exact .inl (.inl (e _ _ h))
  · exact .inl (.inr ⟨o, e _ _ h⟩)
  · exact .inr h
theorem but_tk {K : PySem.W.Frag} {H H' : Hp} {b : Addr} {ys : List V} (h : H b = some (.lst ys)) (e : ∀ a o, a ≠ b → H a = some o → H' a = some o) : TK K H H' := by
  intro p xs q
  rcases q with (q | ⟨o, q⟩) | q
  · exact .inl (.inl (e _ _ (ne_of q h (fun z => nomatch z)) q))
  · exact .inl (.inr ⟨o, e _ _ (ne_of q h (fun z => nomatch z)) q⟩)
  · exact .inr q
theorem upd_but {H : Hp} {b : Addr} {u : HO} : ∀ a o, a ≠ b → H a = some o → upd H b u a = some o := fun a o n e => by
  rw [upd_ne n]
  exact e
theorem lst_tk {K : PySem.W.Frag} {H : Hp} {b : Addr} {ys zs : List V} (h : H b = some (.lst ys)) : TK K H (upd H b (.lst zs)) := but_tk h upd_but
theorem same_put {H H' : Hp} {D : Addr} {o : HO} (e : Same H H') (h : H D = none) : Same H (upd H' D o) := fun a x q => by
  rw [upd_ne (ne_of_none q h)]
  exact e _ _ q
/-- likeness, so deep -/
def Al (K : PySem.W.Frag) : Nat → Hp → V → V → Prop
  | 0, _, _, _ => False
  | n + 1, H, x, y => (Flat3 x ∧ x = y) ∨ ∃ (p q : Addr) (xs ys : List V), x = .ref p ∧ y = .ref q ∧ SqT K H p xs ∧ SqT K H q ys ∧ (xs.length = ys.length ∧ ys.length ≤ 5000) ∧ ∀ (k : Nat) (a b : V), xs[k]? = some a → ys[k]? = some b → Al K n H a b
theorem Al.flat {K : PySem.W.Frag} {n : Nat} {H : Hp} {x : V} (h : Flat3 x) : Al K (n + 1) H x x := Or.inl ⟨h, rfl⟩
theorem Al.tup {K : PySem.W.Frag} {n : Nat} {H : Hp} {p q : Addr} {xs : List V} (hl : xs.length ≤ 5000) (hp : SqT K H p xs) (hq : SqT K H q xs) (h : ∀ x ∈ xs, Al K n H x x) : Al K (n + 1) H (.ref p) (.ref q) :=
  Or.inr ⟨p, q, xs, xs, rfl, rfl, hp, hq, ⟨rfl, hl⟩, fun k a b e1 e2 => by
    obtain rfl := Option.some.inj (e1.symm.trans e2)
    exact h _ (List.mem_of_getElem? e1)⟩
/-- a scalar -/
def Sca (K : PySem.W.Frag) (H : Hp) (x : V) : Prop := ∃ p k rest, x = .ref p ∧ SqT K H p (.str k :: rest) ∧ k ≠ ("array" : Str) ∧ rest.length ≤ 20 ∧ ∀ y ∈ rest, Flat3 y
theorem Sca.keep {K : PySem.W.Frag} {H H' : Hp} {x : V} (e : TK K H H') (h : Sca K H x) : Sca K H' x := by
  obtain ⟨p, k, rest, rfl, a, b, c⟩ := h
  exact ⟨p, k, rest, rfl, e _ _ a, b, c⟩
theorem Sca.al {K : PySem.W.Frag} {H : Hp} {x : V} (n : Nat) (h : Sca K H x) : Al K (n + 2) H x x := by
  obtain ⟨p, k, rest, rfl, a, b, l, c⟩ := h
  refine Al.tup (by rw [List.length_cons]; omega) a a fun y hy => Al.flat ?_
  rcases List.mem_cons.mp hy with rfl | hy
  · exact Or.inr (Or.inl ⟨_, rfl⟩)
  · exact c y hy
theorem sca1 {K : PySem.W.Frag} {H : Hp} {p : Addr} {k : Str} (h : k ≠ ("array" : Str)) : Sca K (upd H p (.tup [.str k])) (.ref p) := ⟨p, k, [], rfl, SqT.of upd_same, h, by decide, fun y hy => by cases hy⟩
theorem sca2 {K : PySem.W.Frag} {H : Hp} {p : Addr} {k : Str} {x : V} (h : k ≠ ("array" : Str)) (hx : Flat3 x) : Sca K (upd H p (.tup [.str k, x])) (.ref p) := ⟨p, k, [x], rfl, SqT.of upd_same, h, (show 1 ≤ 20 by decide), fun y hy => by
  rcases List.mem_cons.mp hy with rfl | hy
  · exact hx
  · cases hy⟩
/-- all the signs -/
def SG : Str := (" !\"#$&'()*+,-./0123456789:;<=>?@ABCDEFGHIJKLMNOPQRSTUVWXYZ[\\]^_`" : Str) ++ ("abcdefghijklmnopqrstuvwxyz{|}~" : Str)
theorem sg_len : SG.cps.toList.length = 94 := by decide +kernel
theorem sg_line : SG.length ≤ sizeLine := by decide +kernel
theorem sg_at {n : Int} (h0 : 0 ≤ n) (h1 : n < 94) : ∃ c, atI SG.cps.toList n = some c := by
  obtain ⟨c, _, e⟩ := atI_some (xs := SG.cps.toList) h0 (by rw [sg_len]; exact h1)
  exact ⟨c, e⟩
theorem ones_sum : ∀ (zs : List Str), (∀ z ∈ zs, z.length = 1) → (zs.map (·.length)).sum = zs.length
  | [], _ => rfl
  | z :: zs, h => by
    rw [List.map_cons, List.sum_cons, ones_sum zs (fun y hy => h y (List.mem_cons_of_mem _ hy)), h z (List.mem_cons_self ..), List.length_cons]
    omega
theorem ones_join {zs : List Str} (h : ∀ z ∈ zs, z.length = 1) (hl : zs.length ≤ 1000) : (zs.map (·.length)).sum + zs.length * ("" : Str).length ≤ 16777216 := by
  rw [ones_sum zs h, show ("" : Str).length = 0 from by decide +kernel]
  omega
/-- the box of draws -/
def BoxAt (b : Addr) (H : Hp) : Prop := ∃ c d z : Int, H b = some (.lst [.int c, .int d, .int z])
def Bx (b : Addr) (H H' : Hp) : Prop := (∀ a o, a ≠ b → H a = some o → H' a = some o) ∧ BoxAt b H'
theorem Bx.refl {b : Addr} {H : Hp} (h : BoxAt b H) : Bx b H H := ⟨fun _ _ _ e => e, h⟩
theorem Bx.trans {b : Addr} {H H1 H2 : Hp} (x : Bx b H H1) (y : Bx b H1 H2) : Bx b H H2 := ⟨fun a o n e => y.1 a o n (x.1 a o n e), y.2⟩
theorem Bx.bat {b : Addr} {H H1 : Hp} (x : Bx b H H1) : BoxAt b H1 := x.2
theorem BoxAt.ne {b p : Addr} {H : Hp} (x : BoxAt b H) (h : H p = none) : b ≠ p := by
  obtain ⟨c, d, z, e⟩ := x
  exact ne_of_none e h
theorem BoxAt.new {b p : Addr} {H : Hp} {o : HO} (x : BoxAt b H) (h : H p = none) : BoxAt b (upd H p o) := by
  have n := x.ne h
  obtain ⟨c, d, z, e⟩ := x
  exact ⟨c, d, z, by rw [upd_ne n]; exact e⟩
theorem Bx.same {b : Addr} {H H1 H2 : Hp} (x : Bx b H H1) (y : Same H1 H2) : Bx b H H2 := by
  obtain ⟨x1, c, d, z, e⟩ := x
  exact ⟨fun a o n e => y _ _ (x1 a o n e), c, d, z, y _ _ e⟩
theorem Bx.new {b p : Addr} {H H1 : Hp} {o : HO} (x : Bx b H H1) (h : H1 p = none) : Bx b H (upd H1 p o) := x.same (same_upd h)
theorem Bx.put {b : Addr} {H H1 : Hp} {c d z : Int} (x : Bx b H H1) : Bx b H (upd H1 b (.lst [.int c, .int d, .int z])) := ⟨fun a o n e => by
  rw [upd_ne n]
  exact x.1 a o n e, c, d, z, upd_same⟩
theorem Bx.tk {K : PySem.W.Frag} {b : Addr} {H H1 : Hp} (x : Bx b H H1) (h : BoxAt b H) : TK K H H1 := by
  obtain ⟨c, d, z, e⟩ := h
  exact but_tk e x.1
/-- a new list beside the box, longer by one -/
theorem Bx.more {b D : Addr} {H0 H : Hp} {o : HO} (x : Bx b H0 H) (hD : H0 D = none) (n : b ≠ D) : Bx b H0 (upd H D o) := by
  obtain ⟨x1, c, d, z, e⟩ := x
  refine ⟨fun a o m q => ?_, c, d, z, by rw [upd_ne n]; exact e⟩
  rw [upd_ne (ne_of_none q hD)]
  exact x1 a o m q
theorem Bx.back {b D : Addr} {H0 H : Hp} (x : Bx b H0 H) (h : BoxAt b H0) (hD : H D = none) : H0 D = none ∧ b ≠ D := by
  have n := x.2.ne hD
  refine ⟨?_, n⟩
  cases q : H0 D with
  | none => rfl
  | some o =>
    rw [x.1 D o (Ne.symm n) q] at hD
    cases hD

/-- tuples and flat data alone, so deep -/
def FitW : Nat → PyData → Prop
  | 0, _ => False
  | n + 1, d => (d = .none ∨ (∃ b, d = .bool b) ∨ (∃ i, d = .int i) ∨ ∃ s, d = .str s) ∨ ∃ ds, d = .tuple ds ∧ ds.length ≤ 5000 ∧ ∀ e ∈ ds, FitW n e
def AKd : List Str := ["cell", "range", "rows", "columns"]
/-- the head is no kind of an area -/
def hdA (ds : List PyData) : Prop := ∀ z, ds.head? = some (.str z) → z ∉ AKd
/-- tuples and flat data alone, so deep, with no area in them -/
def FitD : Nat → PyData → Prop
  | 0, _ => False
  | n + 1, d => (d = .none ∨ (∃ b, d = .bool b) ∨ (∃ i, d = .int i) ∨ ∃ s, d = .str s) ∨ ∃ ds, d = .tuple ds ∧ (ds.length ≤ 5000 ∧ hdA ds) ∧ ∀ e ∈ ds, FitD n e
theorem FitD.weak : ∀ {n : Nat} {d : PyData}, FitD n d → FitW n d
  | 0, _, h => h.elim
  | n + 1, d, h => by
    rcases h with h | ⟨ds, rfl, hl, h⟩
    · exact Or.inl h
    · exact Or.inr ⟨ds, rfl, hl.1, fun e he => (h e he).weak⟩
theorem dp_get {K : PySem.W.Frag} {H : Hp} : ∀ {xs : List V} {ds : List PyData}, DpAll K H xs ds → xs.length = ds.length ∧ ∀ (k : Nat) (x : V) (d : PyData), xs[k]? = some x → ds[k]? = some d → Dp K H x d
  | [], [], _ => ⟨rfl, fun k x d e _ => by simp at e⟩
  | v :: vs, d :: ds, h => by
    cases h with
    | cons h1 h2 =>
      obtain ⟨e, f⟩ := dp_get h2
      refine ⟨by rw [List.length_cons, List.length_cons, e], fun k x d' ex ed => ?_⟩
      cases k with
      | zero =>
        simp only [List.getElem?_cons_zero, Option.some.injEq] at ex ed
        subst ex
        subst ed
        exact h1
      | succ k =>
        simp only [List.getElem?_cons_succ] at ex ed
        exact f k x d' ex ed
theorem dp_all {K : PySem.W.Frag} {H : Hp} : ∀ {xs : List V} {ds : List PyData}, xs.length = ds.length → (∀ (k : Nat) (x : V) (d : PyData), xs[k]? = some x → ds[k]? = some d → Dp K H x d) → DpAll K H xs ds
  | [], [], _, _ => .nil
  | v :: vs, d :: ds, e, f => .cons (f 0 v d rfl rfl) (dp_all (by simpa using e) fun k x d' ex ed => f (k + 1) x d' (by simpa using ex) (by simpa using ed))
  | [], _ :: _, e, _ => by simp at e
  | _ :: _, [], e, _ => by simp at e
theorem dp_tup_get {K : PySem.W.Frag} {H : Hp} {v : V} {ds : List PyData} (h : Dp K H v (.tuple ds)) : ∃ p xs, v = .ref p ∧ SqT K H p xs ∧ DpAll K H xs ds := by
  cases h with
  | tup a b => exact ⟨_, _, rfl, a, b⟩
/-- two values of the same data, tuples and flat ones alone -/
def Lk (K : PySem.W.Frag) (n : Nat) (H : Hp) (x y : V) : Prop := ∃ d, Dp K H x d ∧ Dp K H y d ∧ FitW n d

def StS (c : Addr × Addr) (i1 i2 i3 i4 i5 : Int) : List V := [.ref c.1, .int i1, .int i2, .int i3, .int i4, .int i5, .ref c.2]
def BoxS (K : PySem.W.Frag) (b : Addr) (c : Addr × Addr) (ns : List Int × List Int) (H : Hp) : Prop := (∃ (i1 i2 i3 i4 i5 : Int), H b = some (.lst (StS c i1 i2 i3 i4 i5)) ∧ 0 ≤ i1 ∧ 0 ≤ i2) ∧ SqL K H c.1 (ns.1.map V.int) ∧ SqL K H c.2 (ns.2.map V.int) ∧ ns.1.length ≤ 63 ∧ ns.2.length = ns.1.length
def Bs (K : PySem.W.Frag) (b : Addr) (c : Addr × Addr) (ns : List Int × List Int) (H H' : Hp) : Prop := (∀ a o, a ≠ b → H a = some o → H' a = some o) ∧ BoxS K b c ns H'
theorem stS_ne {b : Addr} {d : Addr × Addr} {i1 i2 i3 i4 i5 : Int} {ns : List Int} {H : Hp} (e : H b = some (.lst (StS d i1 i2 i3 i4 i5))) {a : Addr} (h : H a = some (.lst (ns.map V.int))) : a ≠ b := fun z => by
  rw [z, e] at h
  have h2 : StS d i1 i2 i3 i4 i5 = ns.map V.int := HO.lst.inj (Option.some.inj h)
  have h3 : V.ref d.1 ∈ ns.map V.int := by
    rw [← h2]
    unfold StS
    simp
  obtain ⟨m, _, hm⟩ := List.mem_map.mp h3
  cases hm
theorem but_sqlS {K : PySem.W.Frag} {b : Addr} {d : Addr × Addr} {i1 i2 i3 i4 i5 : Int} {ns : List Int} {H H' : Hp} (e : H b = some (.lst (StS d i1 i2 i3 i4 i5))) (k : ∀ a o, a ≠ b → H a = some o → H' a = some o) {a : Addr} (h : SqL K H a (ns.map V.int)) : SqL K H' a (ns.map V.int) := by
  rcases h with (h | ⟨o, h⟩) | h
  · exact .inl (.inl (k _ _ (stS_ne e h) h))
  · exact .inl (.inr ⟨o, k _ _ (ne_of h e (fun z => nomatch z)) h⟩)
  · exact .inr h
section
variable {K : PySem.W.Frag} {b : Addr} {c : Addr × Addr} {ns : List Int × List Int} {H H0 H1 H2 : Hp}
theorem Bs.refl (h : BoxS K b c ns H) : Bs K b c ns H H := ⟨fun _ _ _ e => e, h⟩
theorem Bs.trans (x : Bs K b c ns H H1) (y : Bs K b c ns H1 H2) : Bs K b c ns H H2 := ⟨fun a o n e => y.1 a o n (x.1 a o n e), y.2⟩
theorem Bs.bat (x : Bs K b c ns H H1) : BoxS K b c ns H1 := x.2
theorem BoxS.ne {p : Addr} (x : BoxS K b c ns H) (h : H p = none) : b ≠ p := by
  obtain ⟨⟨i1, i2, i3, i4, i5, e, _⟩, _⟩ := x
  exact ne_of_none e h
theorem BoxS.same (x : BoxS K b c ns H) (s : Same H H1) : BoxS K b c ns H1 := by
  obtain ⟨⟨i1, i2, i3, i4, i5, e, h0⟩, h1, h2, h3⟩ := x
  exact ⟨⟨i1, i2, i3, i4, i5, s _ _ e, h0⟩, Same.seq s h1, Same.seq s h2, h3⟩
theorem BoxS.new {p : Addr} {o : HO} (x : BoxS K b c ns H) (h : H p = none) : BoxS K b c ns (upd H p o) := x.same (same_upd h)
theorem Bs.same (x : Bs K b c ns H H1) (y : Same H1 H2) : Bs K b c ns H H2 := ⟨fun a o n e => y _ _ (x.1 a o n e), x.2.same y⟩
theorem Bs.new {p : Addr} {o : HO} (x : Bs K b c ns H H1) (h : H1 p = none) : Bs K b c ns H (upd H1 p o) := x.same (same_upd h)
theorem BoxS.put {i1 i2 i3 i4 i5 j1 j2 j3 j4 j5 : Int} (e : H b = some (.lst (StS c i1 i2 i3 i4 i5))) (x : BoxS K b c ns H) (h5 : 0 ≤ j1) (h6 : 0 ≤ j2) : BoxS K b c ns (upd H b (.lst (StS c j1 j2 j3 j4 j5))) :=
  ⟨⟨j1, j2, j3, j4, j5, upd_same, h5, h6⟩, but_sqlS e upd_but x.2.1, but_sqlS e upd_but x.2.2.1, x.2.2.2⟩
theorem Bs.put {xs : List V} (x : ∀ a o, a ≠ b → H a = some o → H1 a = some o) (y : BoxS K b c ns (upd H1 b (.lst xs))) : Bs K b c ns H (upd H1 b (.lst xs)) := ⟨fun a o n e => by
  rw [upd_ne n]
  exact x a o n e, y⟩
theorem Bs.tk (x : Bs K b c ns H H1) (h : BoxS K b c ns H) : TK K H H1 := by
  obtain ⟨⟨i1, i2, i3, i4, i5, e, _⟩, _⟩ := h
  exact but_tk e x.1
/-- a word that the walk does not open -/
inductive Hd (p : Prop) : Prop where
  | mk (h : p)
  | no (h : False)
theorem Hd.get {p : Prop} : Hd p → p
  | .mk h => h
  | .no h => h.elim
theorem dn {i l : Int} {p : Bool} (h : 0 ≤ i) (k : 0 < l) : 0 ≤ i / l * (if p = true then (1 : Int) else 0) := by
  refine Int.mul_nonneg (Int.ediv_nonneg h (Int.le_of_lt k)) ?_
  split <;> decide
/-- a list of our own beside the box, grown -/
theorem Bs.more {D : Addr} {xs : List V} (x : Bs K b c ns H0 H) (h : BoxS K b c ns H0) (hD : H0 D = none) (n : b ≠ D) : Bs K b c ns H0 (upd H D (.lst xs)) := by
  obtain ⟨x1, ⟨i1, i2, i3, i4, i5, e, h0⟩, _, _, h3⟩ := x
  obtain ⟨⟨j1, j2, j3, j4, j5, e0, _⟩, g1, g2, _⟩ := h
  have keep : ∀ {d : Addr} {ks : List Int}, SqL K H0 d (ks.map V.int) → SqL K (upd H D (.lst xs)) d (ks.map V.int) := fun {d ks} q => by
    rcases q with (q | ⟨o, q⟩) | q
    · exact .inl (.inl (by rw [upd_ne (ne_of_none q hD)]; exact x1 d _ (stS_ne e0 q) q))
    · exact .inl (.inr ⟨o, by rw [upd_ne (ne_of_none q hD)]; exact x1 d _ (ne_of q e0 (fun z => nomatch z)) q⟩)
    · exact .inr q
  refine ⟨fun a o m q => ?_, ⟨i1, i2, i3, i4, i5, by rw [upd_ne n]; exact e, h0⟩, keep g1, keep g2, h3⟩
  rw [upd_ne (ne_of_none q hD)]
  exact x1 a o m q
theorem Bs.back {D : Addr} (x : Bs K b c ns H0 H) (hD : H D = none) : H0 D = none ∧ b ≠ D := by
  have n := x.2.ne hD
  refine ⟨?_, n⟩
  cases q : H0 D with
  | none => rfl
  | some o =>
    rw [x.1 D o (Ne.symm n) q] at hD
    cases hD
end

/-! ### trees, told as data -/
structure Ar where
  k : Str
  sh : Option Int
  ns : List Int
  ms : List Bool
def shD : Option Int → PyData
  | none => .none
  | some i => .int i
def Ar.rest (a : Ar) : List PyData := a.ns.map PyData.int ++ a.ms.map PyData.bool
def Ar.data (a : Ar) : PyData := .tuple (.str a.k :: shD a.sh :: a.rest)
def Ar.shp (a : Ar) : Prop := (a.k = "cell" ∧ a.ns.length = 2 ∧ a.ms.length = 2) ∨ (a.k = "range" ∧ a.ns.length = 4 ∧ a.ms.length = 4) ∨ (a.k = "rows" ∧ a.ns.length = 2 ∧ a.ms.length = 2) ∨ (a.k = "columns" ∧ a.ns.length = 2 ∧ a.ms.length = 2)

structure Sn where
  lo : Int
  hi : Int
  fl : Bool
  fh : Bool
def rowN (a : Ar) : Option Sn :=
  if a.k = "cell" then (match a.ns, a.ms with
    | [r, c], [x, y] => some ⟨r, r, x, x⟩
    | _, _ => none)
  else if a.k = "range" then (match a.ns, a.ms with
    | [t, l, b, r], [x, y, z, u] => some ⟨t, b, x, z⟩
    | _, _ => none)
  else if a.k = "rows" then (match a.ns, a.ms with
    | [t, b], [x, y] => some ⟨t, b, x, y⟩
    | _, _ => none)
  else none
def colN (a : Ar) : Option Sn :=
  if a.k = "cell" then (match a.ns, a.ms with
    | [r, c], [x, y] => some ⟨c, c, y, y⟩
    | _, _ => none)
  else if a.k = "range" then (match a.ns, a.ms with
    | [t, l, b, r], [x, y, z, u] => some ⟨l, r, y, u⟩
    | _, _ => none)
  else if a.k = "columns" then (match a.ns, a.ms with
    | [l, r], [x, y] => some ⟨l, r, x, y⟩
    | _, _ => none)
  else none
def Sn.okN (s : Sn) (L : Int) : Prop := 0 ≤ s.lo ∧ s.lo ≤ s.hi ∧ s.hi < L
def Ar.bd (a : Ar) : Prop := (∀ s, rowN a = some s → s.okN 20) ∧ ∀ s, colN a = some s → s.okN 10
def Ar.ok (a : Ar) : Prop := a.shp ∧ a.bd
inductive Tr where
  | leaf (z : Str) (ds : List PyData)
  | area (a : Ar)
  | one (z : Str) (p : PyData) (t : Tr)
  | two (p : PyData) (x y : Tr)
  | call (p : PyData) (cs : List Tr)
  | letk (p : PyData) (cs : List Tr) (t : Tr)
  | app (t : Tr) (cs : List Tr)
mutual
def Tr.data : Tr → PyData
  | .leaf z ds => .tuple (.str z :: ds)
  | .area a => a.data
  | .one z p t => .tuple [.str z, p, t.data]
  | .two p x y => .tuple [.str "binary", p, x.data, y.data]
  | .call p cs => .tuple [.str "call", p, .tuple (Tr.datas cs)]
  | .letk p cs t => .tuple [.str "let", p, .tuple (Tr.datas cs), t.data]
  | .app t cs => .tuple [.str "apply", t.data, .tuple (Tr.datas cs)]
def Tr.datas : List Tr → List PyData
  | [] => []
  | t :: ts => t.data :: Tr.datas ts
end
mutual
def Tr.sz : Tr → Nat
  | .leaf _ _ => 1
  | .area _ => 1
  | .one _ _ t => t.sz + 1
  | .two _ x y => x.sz + y.sz + 1
  | .call _ cs => Tr.szs cs + 1
  | .letk _ cs t => Tr.szs cs + t.sz + 1
  | .app t cs => t.sz + Tr.szs cs + 1
def Tr.szs : List Tr → Nat
  | [] => 0
  | t :: ts => t.sz + Tr.szs ts
end
mutual
def Tr.mp (g : Ar → Tr) : Tr → Tr
  | .leaf z ds => .leaf z ds
  | .area a => g a
  | .one z p t => .one z p (t.mp g)
  | .two p x y => .two p (x.mp g) (y.mp g)
  | .call p cs => .call p (Tr.mps g cs)
  | .letk p cs t => .letk p (Tr.mps g cs) (t.mp g)
  | .app t cs => .app (t.mp g) (Tr.mps g cs)
def Tr.mps (g : Ar → Tr) : List Tr → List Tr
  | [] => []
  | t :: ts => t.mp g :: Tr.mps g ts
end
mutual
/-- all parts of it, itself first -/
def Tr.pre : Tr → List Tr
  | .leaf z ds => [.leaf z ds]
  | .area a => [.area a]
  | .one z p t => .one z p t :: t.pre
  | .two p x y => .two p x y :: (x.pre ++ y.pre)
  | .call p cs => .call p cs :: Tr.pres cs
  | .letk p cs t => .letk p cs t :: (Tr.pres cs ++ t.pre)
  | .app t cs => .app t cs :: (t.pre ++ Tr.pres cs)
def Tr.pres : List Tr → List Tr
  | [] => []
  | t :: ts => t.pre ++ Tr.pres ts
end
mutual
/-- its areas from the left -/
def Tr.refs : Tr → List Ar
  | .leaf _ _ => []
  | .area a => [a]
  | .one _ _ t => t.refs
  | .two _ x y => x.refs ++ y.refs
  | .call _ cs => Tr.refss cs
  | .letk _ cs t => Tr.refss cs ++ t.refs
  | .app t cs => t.refs ++ Tr.refss cs
def Tr.refss : List Tr → List Ar
  | [] => []
  | t :: ts => t.refs ++ Tr.refss ts
end
def Tr.kids : Tr → List Tr
  | .leaf _ _ => []
  | .area _ => []
  | .one _ _ t => [t]
  | .two _ x y => [x, y]
  | .call _ cs => cs
  | .letk _ cs t => cs ++ [t]
  | .app t cs => t :: cs
def Tr.isA : Tr → Bool
  | .area _ => true
  | _ => false
theorem datas_eq : ∀ ts : List Tr, Tr.datas ts = ts.map Tr.data
  | [] => rfl
  | t :: ts => by rw [List.map_cons, ← datas_eq ts]; rfl
theorem mps_eq (g : Ar → Tr) : ∀ ts : List Tr, Tr.mps g ts = ts.map (Tr.mp g)
  | [] => rfl
  | t :: ts => by rw [List.map_cons, ← mps_eq g ts]; rfl
theorem szs_app : ∀ (xs ys : List Tr), Tr.szs (xs ++ ys) = Tr.szs xs + Tr.szs ys
  | [], ys => by rw [List.nil_append, show Tr.szs [] = 0 from rfl, Nat.zero_add]
  | t :: ts, ys => by rw [List.cons_append, Tr.szs, Tr.szs, szs_app ts ys, Nat.add_assoc]
theorem szs_rev : ∀ (xs : List Tr), Tr.szs xs.reverse = Tr.szs xs
  | [] => rfl
  | t :: ts => by
    rw [List.reverse_cons, szs_app, szs_rev ts, Tr.szs]
    simp only [Tr.szs]
    omega
theorem pres_app : ∀ (xs ys : List Tr), Tr.pres (xs ++ ys) = Tr.pres xs ++ Tr.pres ys
  | [], ys => rfl
  | t :: ts, ys => by rw [List.cons_append, Tr.pres, Tr.pres, pres_app ts ys, List.append_assoc]
theorem refss_app : ∀ (xs ys : List Tr), Tr.refss (xs ++ ys) = Tr.refss xs ++ Tr.refss ys
  | [], ys => rfl
  | t :: ts, ys => by rw [List.cons_append, Tr.refss, Tr.refss, refss_app ts ys, List.append_assoc]
theorem pre_kids (t : Tr) : t.pre = t :: Tr.pres t.kids := by
  cases t <;> simp [Tr.pre, Tr.pres, Tr.kids, pres_app]
theorem sz_kids (t : Tr) : t.sz = Tr.szs t.kids + 1 := by
  cases t <;> simp [Tr.sz, Tr.szs, Tr.kids, szs_app] <;> omega
theorem refs_kids (t : Tr) (h : t.isA = false) : t.refs = Tr.refss t.kids := by
  cases t <;> simp [Tr.refs, Tr.refss, Tr.kids, refss_app, Tr.isA] at h ⊢
mutual
theorem pre_refs : ∀ t : Tr, t.pre.filter Tr.isA = t.refs.map Tr.area
  | .leaf z ds => rfl
  | .area a => rfl
  | .one z p t => by rw [Tr.pre, Tr.refs, List.filter_cons_of_neg (by exact Bool.false_ne_true), pre_refs t]
  | .two p x y => by rw [Tr.pre, Tr.refs, List.filter_cons_of_neg (by exact Bool.false_ne_true), List.filter_append, List.map_append, pre_refs x, pre_refs y]
  | .call p cs => by rw [Tr.pre, Tr.refs, List.filter_cons_of_neg (by exact Bool.false_ne_true), pres_refs cs]
  | .letk p cs t => by rw [Tr.pre, Tr.refs, List.filter_cons_of_neg (by exact Bool.false_ne_true), List.filter_append, List.map_append, pres_refs cs, pre_refs t]
  | .app t cs => by rw [Tr.pre, Tr.refs, List.filter_cons_of_neg (by exact Bool.false_ne_true), List.filter_append, List.map_append, pres_refs cs, pre_refs t]
theorem pres_refs : ∀ ts : List Tr, (Tr.pres ts).filter Tr.isA = (Tr.refss ts).map Tr.area
  | [] => rfl
  | t :: ts => by rw [Tr.pres, Tr.refss, List.filter_append, List.map_append, pre_refs t, pres_refs ts]
end
mutual
theorem mp_mp (f g : Ar → Tr) : ∀ t : Tr, (t.mp f).mp g = t.mp fun a => (f a).mp g
  | .leaf z ds => rfl
  | .area a => rfl
  | .one z p t => by rw [Tr.mp, Tr.mp, Tr.mp, mp_mp f g t]
  | .two p x y => by rw [Tr.mp, Tr.mp, Tr.mp, mp_mp f g x, mp_mp f g y]
  | .call p cs => by rw [Tr.mp, Tr.mp, Tr.mp, mps_mps f g cs]
  | .letk p cs t => by rw [Tr.mp, Tr.mp, Tr.mp, mps_mps f g cs, mp_mp f g t]
  | .app t cs => by rw [Tr.mp, Tr.mp, Tr.mp, mps_mps f g cs, mp_mp f g t]
theorem mps_mps (f g : Ar → Tr) : ∀ ts : List Tr, Tr.mps g (Tr.mps f ts) = Tr.mps (fun a => (f a).mp g) ts
  | [] => rfl
  | t :: ts => by rw [Tr.mps, Tr.mps, Tr.mps, mp_mp f g t, mps_mps f g ts]
end
mutual
theorem mp_sz (g : Ar → Tr) (h : ∀ a, (g a).sz = 1) : ∀ t : Tr, (t.mp g).sz = t.sz
  | .leaf z ds => rfl
  | .area a => h a
  | .one z p t => by rw [Tr.mp, Tr.sz, Tr.sz, mp_sz g h t]
  | .two p x y => by rw [Tr.mp, Tr.sz, Tr.sz, mp_sz g h x, mp_sz g h y]
  | .call p cs => by rw [Tr.mp, Tr.sz, Tr.sz, mps_szs g h cs]
  | .letk p cs t => by rw [Tr.mp, Tr.sz, Tr.sz, mps_szs g h cs, mp_sz g h t]
  | .app t cs => by rw [Tr.mp, Tr.sz, Tr.sz, mps_szs g h cs, mp_sz g h t]
theorem mps_szs (g : Ar → Tr) (h : ∀ a, (g a).sz = 1) : ∀ ts : List Tr, Tr.szs (Tr.mps g ts) = Tr.szs ts
  | [] => rfl
  | t :: ts => by rw [Tr.mps, Tr.szs, Tr.szs, mp_sz g h t, mps_szs g h ts]
end
/-- the kinds that have parts or are areas -/
def KS : List Str := ["cell", "range", "rows", "columns", "sign", "lambda", "binary", "call", "let", "apply"]
def Tr.fit : Nat → Tr → Prop
  | 0, _ => False
  | _ + 1, .leaf z ds => z ∉ KS ∧ ds.length ≤ 4000 ∧ ∀ e ∈ ds, FitD 4 e
  | _ + 1, .area a => a.ok
  | n + 1, .one z p t => (z = "sign" ∨ z = "lambda") ∧ FitD 4 p ∧ t.fit n
  | n + 1, .two p x y => FitD 4 p ∧ x.fit n ∧ y.fit n
  | n + 1, .call p cs => FitD 4 p ∧ cs.length ≤ 16 ∧ ∀ c ∈ cs, c.fit n
  | n + 1, .letk p cs t => FitD 4 p ∧ cs.length ≤ 16 ∧ (∀ c ∈ cs, c.fit n) ∧ t.fit n
  | n + 1, .app t cs => t.fit n ∧ cs.length ≤ 16 ∧ ∀ c ∈ cs, c.fit n
theorem Tr.fit.kids {n : Nat} {t : Tr} (h : t.fit (n + 1)) : t.kids.length ≤ 17 ∧ ∀ c ∈ t.kids, c.fit n := by
  cases t with
  | leaf z ds => exact ⟨Nat.zero_le _, fun c hc => absurd hc List.not_mem_nil⟩
  | area a => exact ⟨Nat.zero_le _, fun c hc => absurd hc List.not_mem_nil⟩
  | one z p t => exact ⟨by show 1 ≤ 17; decide, fun c hc => by rw [List.mem_singleton.mp hc]; exact h.2.2⟩
  | two p x y =>
    refine ⟨by show 2 ≤ 17; decide, fun c hc => ?_⟩
    rcases List.mem_cons.mp hc with rfl | hc
    · exact h.2.1
    · rw [List.mem_singleton.mp hc]
      exact h.2.2
  | call p cs => exact ⟨Nat.le_trans h.2.1 (by decide), h.2.2⟩
  | letk p cs t =>
    refine ⟨by show (cs ++ [t]).length ≤ 17; rw [List.length_append]; exact Nat.add_le_add_right h.2.1 1, fun c hc => ?_⟩
    rcases List.mem_append.mp hc with hc | hc
    · exact h.2.2.1 c hc
    · rw [List.mem_singleton.mp hc]
      exact h.2.2.2
  | app t cs =>
    refine ⟨Nat.add_le_add_right h.2.1 1, fun c hc => ?_⟩
    rcases List.mem_cons.mp hc with rfl | hc
    · exact h.1
    · exact h.2.2 c hc
theorem Tr.fit.succ : ∀ {n : Nat} {t : Tr}, t.fit n → t.fit (n + 1)
  | 0, _, h => h.elim
  | n + 1, .leaf z ds, h => h
  | n + 1, .area a, h => h
  | n + 1, .one z p t, h => ⟨h.1, h.2.1, h.2.2.succ⟩
  | n + 1, .two p x y, h => ⟨h.1, h.2.1.succ, h.2.2.succ⟩
  | n + 1, .call p cs, h => ⟨h.1, h.2.1, fun c hc => (h.2.2 c hc).succ⟩
  | n + 1, .letk p cs t, h => ⟨h.1, h.2.1, fun c hc => (h.2.2.1 c hc).succ, h.2.2.2.succ⟩
  | n + 1, .app t cs, h => ⟨h.1.succ, h.2.1, fun c hc => (h.2.2 c hc).succ⟩
theorem Tr.fit.mono {n m : Nat} {t : Tr} (h : t.fit n) (e : n ≤ m) : t.fit m := by
  induction e with
  | refl => exact h
  | step _ ih => exact ih.succ
theorem FitW.succ : ∀ {n : Nat} {d : PyData}, FitW n d → FitW (n + 1) d
  | 0, _, h => h.elim
  | n + 1, d, h => by
    rcases h with h | ⟨ds, rfl, hl, h⟩
    · exact Or.inl h
    · exact Or.inr ⟨ds, rfl, hl, fun e he => (h e he).succ⟩
theorem FitW.mono {n m : Nat} {d : PyData} (h : FitW n d) (e : n ≤ m) : FitW m d := by
  induction e with
  | refl => exact h
  | step _ ih => exact ih.succ
theorem fitW_str (n : Nat) (z : Str) : FitW (n + 1) (.str z) := Or.inl (Or.inr (Or.inr (Or.inr ⟨z, rfl⟩)))
theorem fitW_int (n : Nat) (i : Int) : FitW (n + 1) (.int i) := Or.inl (Or.inr (Or.inr (Or.inl ⟨i, rfl⟩)))
theorem fitW_bl (n : Nat) (b : Bool) : FitW (n + 1) (.bool b) := Or.inl (Or.inr (Or.inl ⟨b, rfl⟩))
theorem fitW_non (n : Nat) : FitW (n + 1) .none := Or.inl (Or.inl rfl)
theorem fitW_tup {n : Nat} {ds : List PyData} (hl : ds.length ≤ 5000) (h : ∀ e ∈ ds, FitW n e) : FitW (n + 1) (.tuple ds) := Or.inr ⟨ds, rfl, hl, h⟩
theorem fitW_sh (n : Nat) (i : Option Int) : FitW (n + 1) (shD i) := by
  cases i with
  | none => exact fitW_non n
  | some i => exact fitW_int n i
theorem Ar.ok.len {a : Ar} (h : a.ok) : a.ns.length ≤ 4 ∧ a.ms.length ≤ 4 := by
  rcases h.1 with ⟨_, h1, h2⟩ | ⟨_, h1, h2⟩ | ⟨_, h1, h2⟩ | ⟨_, h1, h2⟩ <;> omega
theorem Ar.ok.fitW {a : Ar} (h : a.ok) (n : Nat) : FitW (n + 2) a.data := by
  obtain ⟨h1, h2⟩ := h.len
  refine fitW_tup ?_ fun e he => ?_
  · simp only [List.length_cons, Ar.rest, List.length_append, List.length_map]
    omega
  · rcases List.mem_cons.mp he with rfl | he
    · exact fitW_str n _
    rcases List.mem_cons.mp he with rfl | he
    · exact fitW_sh n _
    rcases List.mem_append.mp he with he | he
    · obtain ⟨i, _, rfl⟩ := List.mem_map.mp he
      exact fitW_int n _
    · obtain ⟨i, _, rfl⟩ := List.mem_map.mp he
      exact fitW_bl n _
theorem Tr.fit.fitW : ∀ {n : Nat} {t : Tr}, t.fit n → FitW (2 * n + 5) t.data
  | 0, _, h => h.elim
  | n + 1, .leaf z ds, h => by
    refine FitW.mono (n := 5) (fitW_tup ?_ fun e he => ?_) (by omega)
    · rw [List.length_cons]
      have := h.2.1
      omega
    · rcases List.mem_cons.mp he with rfl | he
      · exact fitW_str _ _
      · exact (h.2.2 e he).weak
  | n + 1, .area a, h => (Ar.ok.fitW (a := a) h (2 * n + 5))
  | n + 1, .one z p t, h => by
    refine fitW_tup (by show 3 ≤ 5000; decide) fun e he => ?_
    simp only [List.mem_cons, List.not_mem_nil, or_false] at he
    rcases he with rfl | rfl | rfl
    · exact fitW_str _ _
    · exact h.2.1.weak.mono (by omega)
    · exact h.2.2.fitW.mono (by omega)
  | n + 1, .two p x y, h => by
    refine fitW_tup (by show 4 ≤ 5000; decide) fun e he => ?_
    simp only [List.mem_cons, List.not_mem_nil, or_false] at he
    rcases he with rfl | rfl | rfl | rfl
    · exact fitW_str _ _
    · exact h.1.weak.mono (by omega)
    · exact h.2.1.fitW.mono (by omega)
    · exact h.2.2.fitW.mono (by omega)
  | n + 1, .call p cs, h => by
    refine fitW_tup (by show 3 ≤ 5000; decide) fun e he => ?_
    simp only [List.mem_cons, List.not_mem_nil, or_false] at he
    rcases he with rfl | rfl | rfl
    · exact fitW_str _ _
    · exact h.1.weak.mono (by omega)
    · refine fitW_tup (n := 2 * n + 5) ?_ fun e he => ?_
      · rw [datas_eq, List.length_map]
        have := h.2.1
        omega
      · rw [datas_eq] at he
        obtain ⟨c, hc, rfl⟩ := List.mem_map.mp he
        exact (h.2.2 c hc).fitW
  | n + 1, .letk p cs t, h => by
    refine fitW_tup (by show 4 ≤ 5000; decide) fun e he => ?_
    simp only [List.mem_cons, List.not_mem_nil, or_false] at he
    rcases he with rfl | rfl | rfl | rfl
    · exact fitW_str _ _
    · exact h.1.weak.mono (by omega)
    · refine fitW_tup (n := 2 * n + 5) ?_ fun e he => ?_
      · rw [datas_eq, List.length_map]
        have := h.2.1
        omega
      · rw [datas_eq] at he
        obtain ⟨c, hc, rfl⟩ := List.mem_map.mp he
        exact (h.2.2.1 c hc).fitW
    · exact h.2.2.2.fitW.mono (by omega)
  | n + 1, .app t cs, h => by
    refine fitW_tup (by show 3 ≤ 5000; decide) fun e he => ?_
    simp only [List.mem_cons, List.not_mem_nil, or_false] at he
    rcases he with rfl | rfl | rfl
    · exact fitW_str _ _
    · exact h.1.fitW.mono (by omega)
    · refine fitW_tup (n := 2 * n + 5) ?_ fun e he => ?_
      · rw [datas_eq, List.length_map]
        have := h.2.1
        omega
      · rw [datas_eq] at he
        obtain ⟨c, hc, rfl⟩ := List.mem_map.mp he
        exact (h.2.2 c hc).fitW
theorem Tr.fit.mp (g : Ar → Tr) (hg : ∀ a : Ar, a.ok → (g a).fit 1) : ∀ {n : Nat} {t : Tr}, t.fit n → (t.mp g).fit n
  | 0, _, h => h.elim
  | n + 1, .leaf z ds, h => h
  | n + 1, .area a, h => (hg a h).mono (by omega)
  | n + 1, .one z p t, h => ⟨h.1, h.2.1, Tr.fit.mp g hg h.2.2⟩
  | n + 1, .two p x y, h => ⟨h.1, Tr.fit.mp g hg h.2.1, Tr.fit.mp g hg h.2.2⟩
  | n + 1, .call p cs, h => by
    refine ⟨h.1, by rw [mps_eq, List.length_map]; exact h.2.1, fun c hc => ?_⟩
    rw [mps_eq] at hc
    obtain ⟨c', hc', rfl⟩ := List.mem_map.mp hc
    exact Tr.fit.mp g hg (h.2.2 c' hc')
  | n + 1, .letk p cs t, h => by
    refine ⟨h.1, by rw [mps_eq, List.length_map]; exact h.2.1, fun c hc => ?_, Tr.fit.mp g hg h.2.2.2⟩
    rw [mps_eq] at hc
    obtain ⟨c', hc', rfl⟩ := List.mem_map.mp hc
    exact Tr.fit.mp g hg (h.2.2.1 c' hc')
  | n + 1, .app t cs, h => by
    refine ⟨Tr.fit.mp g hg h.1, by rw [mps_eq, List.length_map]; exact h.2.1, fun c hc => ?_⟩
    rw [mps_eq] at hc
    obtain ⟨c', hc', rfl⟩ := List.mem_map.mp hc
    exact Tr.fit.mp g hg (h.2.2 c' hc')
/-! ### data that stay -/
mutual
theorem dpW_keep {K : PySem.W.Frag} {H H' : Hp} (e : TK K H H') : ∀ {n : Nat} {v : V} {d : PyData}, FitW n d → Dp K H v d → Dp K H' v d
  | 0, _, _, h, _ => h.elim
  | n + 1, v, d, h, x => by
    rcases h with (rfl | ⟨b, rfl⟩ | ⟨i, rfl⟩ | ⟨z, rfl⟩) | ⟨ds, rfl, _, h⟩
    · cases x
      exact .non
    · cases x
      exact .bl b
    · cases x
      exact .int i
    · cases x
      exact .str z
    · cases x with
      | tup a b => exact .tup (e _ _ a) (dpsW_keep e h b)
theorem dpsW_keep {K : PySem.W.Frag} {H H' : Hp} (e : TK K H H') : ∀ {n : Nat} {vs : List V} {ds : List PyData}, (∀ d ∈ ds, FitW n d) → DpAll K H vs ds → DpAll K H' vs ds
  | _, _, [], _, x => by
    cases x
    exact .nil
  | _, _, d :: ds, h, x => by
    cases x with
    | cons a b => exact .cons (dpW_keep e (h d (List.mem_cons_self ..)) a) (dpsW_keep e (fun d' hd => h d' (List.mem_cons_of_mem _ hd)) b)
end

/-! ### the strong ones -/
theorem FitD.succ : ∀ {n : Nat} {d : PyData}, FitD n d → FitD (n + 1) d
  | 0, _, h => h.elim
  | n + 1, d, h => by
    rcases h with h | ⟨ds, rfl, hl, h⟩
    · exact Or.inl h
    · exact Or.inr ⟨ds, rfl, hl, fun e he => (h e he).succ⟩
theorem FitD.mono {n m : Nat} {d : PyData} (h : FitD n d) (e : n ≤ m) : FitD m d := by
  induction e with
  | refl => exact h
  | step _ ih => exact ih.succ
theorem fitD_str (n : Nat) (z : Str) : FitD (n + 1) (.str z) := Or.inl (Or.inr (Or.inr (Or.inr ⟨z, rfl⟩)))
theorem fitD_int (n : Nat) (i : Int) : FitD (n + 1) (.int i) := Or.inl (Or.inr (Or.inr (Or.inl ⟨i, rfl⟩)))
theorem fitD_bl (n : Nat) (b : Bool) : FitD (n + 1) (.bool b) := Or.inl (Or.inr (Or.inl ⟨b, rfl⟩))
theorem fitD_non (n : Nat) : FitD (n + 1) .none := Or.inl (Or.inl rfl)
theorem fitD_tup {n : Nat} {ds : List PyData} (hl : ds.length ≤ 5000) (h : ∀ e ∈ ds, FitD n e) (hd : hdA ds) : FitD (n + 1) (.tuple ds) := Or.inr ⟨ds, rfl, ⟨hl, hd⟩, h⟩
theorem hdA_tups {ds : List PyData} (h : ∀ e ∈ ds, ∃ es, e = .tuple es) : hdA ds := fun z e => by
  cases ds with
  | nil => cases e
  | cons d ds =>
    obtain ⟨es, q⟩ := h d (List.mem_cons_self ..)
    rw [List.head?_cons, q] at e
    cases e
theorem dp_keep {K : PySem.W.Frag} {H H' : Hp} (e : TK K H H') {n : Nat} {v : V} {d : PyData} (h : FitD n d) (x : Dp K H v d) : Dp K H' v d := dpW_keep e h.weak x
theorem dps_keep {K : PySem.W.Frag} {H H' : Hp} (e : TK K H H') {n : Nat} {vs : List V} {ds : List PyData} (h : ∀ d ∈ ds, FitD n d) (x : DpAll K H vs ds) : DpAll K H' vs ds := dpsW_keep (n := n) e (fun d hd => (h d hd).weak) x
/-- a word that is no kind of an area: its first sign is no small letter -/
def upS (z : Str) : Prop := ∃ c r, TL.tl z = c :: r ∧ c ≤ 95
theorem upS.app {z : Str} (h : upS z) (y : Str) : upS (z ++ y) := by
  obtain ⟨c, r, e, hc⟩ := h
  exact ⟨c, r ++ TL.tl y, by rw [TL.tl_append, e]; rfl, hc⟩
theorem upS.no {z : Str} (h : upS z) : z ∉ AKd := fun m => by
  obtain ⟨c, r, e, hc⟩ := h
  have hh : (TL.tl z).head? = some c := by rw [e]; rfl
  have : ∀ a ∈ AKd, ∀ c, (TL.tl a).head? = some c → ¬ c ≤ 95 := by
    have d : AKd.all (fun a => match (TL.tl a).head? with
      | some c => decide (¬ c ≤ 95)
      | none => true) = true := by decide +kernel
    intro a ha c e
    have d2 := List.all_eq_true.mp d a ha
    rw [e] at d2
    exact of_decide_eq_true d2
  exact this z m c hh hc
/-- the value of a tree, so deep at most -/
def TV (K : PySem.W.Frag) (H : Hp) (n : Nat) (v : V) (t : Tr) : Prop := Dp K H v t.data ∧ t.fit n
theorem TV.keep {K : PySem.W.Frag} {H H' : Hp} {n : Nat} {v : V} {t : Tr} (h : TV K H n v t) (e : TK K H H') : TV K H' n v t := ⟨dpW_keep e h.2.fitW h.1, h.2⟩
theorem TV.mono {K : PySem.W.Frag} {H : Hp} {n m : Nat} {v : V} {t : Tr} (h : TV K H n v t) (e : n ≤ m) : TV K H m v t := ⟨h.1, h.2.mono e⟩
/-- values of trees -/
def TVs (K : PySem.W.Frag) (H : Hp) (n : Nat) (vs : List V) (ts : List Tr) : Prop := DpAll K H vs (ts.map Tr.data) ∧ ∀ t ∈ ts, t.fit n
theorem TVs.keep {K : PySem.W.Frag} {H H' : Hp} {n : Nat} {vs : List V} {ts : List Tr} (h : TVs K H n vs ts) (e : TK K H H') : TVs K H' n vs ts := ⟨dpsW_keep (n := 2 * n + 5) e (fun d hd => by
  obtain ⟨t, ht, rfl⟩ := List.mem_map.mp hd
  exact (h.2 t ht).fitW) h.1, h.2⟩
theorem dpAll_len {K : PySem.W.Frag} {H : Hp} {vs : List V} {ds : List PyData} (h : DpAll K H vs ds) : vs.length = ds.length := (dp_get h).1
theorem TVs.len {K : PySem.W.Frag} {H : Hp} {n : Nat} {vs : List V} {ts : List Tr} (h : TVs K H n vs ts) : vs.length = ts.length := by rw [dpAll_len h.1, List.length_map]
theorem TVs.at {K : PySem.W.Frag} {H : Hp} {n : Nat} {vs : List V} {ts : List Tr} (h : TVs K H n vs ts) {i : Nat} {v : V} (e : vs[i]? = some v) : ∃ t, ts[i]? = some t ∧ TV K H n v t := by
  have hl : i < ts.length := by
    rw [← h.len]
    exact (List.getElem?_eq_some_iff.mp e).1
  refine ⟨ts[i], List.getElem?_eq_getElem hl, (dp_get h.1).2 i v _ e (by rw [List.getElem?_map, List.getElem?_eq_getElem hl]; rfl), h.2 _ (List.getElem_mem hl)⟩
theorem TVs.nil {K : PySem.W.Frag} {H : Hp} {n : Nat} : TVs K H n [] [] := ⟨.nil, fun t h => absurd h List.not_mem_nil⟩
theorem dpAll_app {K : PySem.W.Frag} {H : Hp} : ∀ {vs ws : List V} {ds es : List PyData}, DpAll K H vs ds → DpAll K H ws es → DpAll K H (vs ++ ws) (ds ++ es)
  | [], _, _, _, .nil, h => h
  | _ :: _, _, _, _, .cons a b, h => .cons a (dpAll_app b h)
theorem TVs.app {K : PySem.W.Frag} {H : Hp} {n : Nat} {vs ws : List V} {ts us : List Tr} (h : TVs K H n vs ts) (k : TVs K H n ws us) : TVs K H n (vs ++ ws) (ts ++ us) :=
  ⟨by rw [List.map_append]; exact dpAll_app h.1 k.1, fun t ht => (List.mem_append.mp ht).elim (h.2 t) (k.2 t)⟩
theorem TVs.one {K : PySem.W.Frag} {H : Hp} {n : Nat} {v : V} {t : Tr} (h : TV K H n v t) : TVs K H n [v] [t] := ⟨.cons h.1 .nil, fun u hu => by rw [List.mem_singleton.mp hu]; exact h.2⟩
theorem TVs.snoc {K : PySem.W.Frag} {H : Hp} {n : Nat} {vs : List V} {ts : List Tr} {v : V} {t : Tr} (h : TVs K H n vs ts) (k : TV K H n v t) : TVs K H n (vs ++ [v]) (ts ++ [t]) := h.app (.one k)
theorem TVs.mono {K : PySem.W.Frag} {H : Hp} {n m : Nat} {vs : List V} {ts : List Tr} (h : TVs K H n vs ts) (e : n ≤ m) : TVs K H m vs ts := ⟨h.1, fun t ht => (h.2 t ht).mono e⟩
theorem dpAll_rev {K : PySem.W.Frag} {H : Hp} : ∀ {vs : List V} {ds : List PyData}, DpAll K H vs ds → DpAll K H vs.reverse ds.reverse
  | [], _, .nil => .nil
  | _ :: _, _, .cons a b => by
    rw [List.reverse_cons, List.reverse_cons]
    exact dpAll_app (dpAll_rev b) (.cons a .nil)
theorem TVs.rev {K : PySem.W.Frag} {H : Hp} {n : Nat} {vs : List V} {ts : List Tr} (h : TVs K H n vs ts) : TVs K H n vs.reverse ts.reverse :=
  ⟨by rw [List.map_reverse]; exact dpAll_rev h.1, fun t ht => h.2 t (List.mem_reverse.mp ht)⟩
theorem TV.lk {K : PySem.W.Frag} {H : Hp} {n : Nat} {x y : V} {t : Tr} (h : TV K H n x t) (k : TV K H n y t) : Lk K (2 * n + 5) H x y := ⟨_, h.1, k.1, h.2.fitW⟩
/-! ### how a tree's value is read -/
def shV : Option Int → V
  | none => .non
  | some i => .int i
def TvO (K : PySem.W.Frag) (H : Hp) (n : Nat) (p : Addr) : Tr → Prop
  | .leaf z ds => ∃ xs, SqT K H p (.str z :: xs) ∧ DpAll K H xs ds ∧ z ∉ KS
  | .area a => ∃ xs, SqT K H p (.str a.k :: shV a.sh :: xs) ∧ DpAll K H xs a.rest ∧ a.ok
  | .one z d t => ∃ y x, SqT K H p [.str z, y, x] ∧ Dp K H y d ∧ TV K H n x t ∧ (z = "sign" ∨ z = "lambda") ∧ FitD 4 d
  | .two d a b => ∃ y x1 x2, SqT K H p [.str "binary", y, x1, x2] ∧ Dp K H y d ∧ TV K H n x1 a ∧ TV K H n x2 b ∧ FitD 4 d
  | .call d cs => ∃ y q xs, SqT K H p [.str "call", y, .ref q] ∧ Dp K H y d ∧ SqT K H q xs ∧ TVs K H n xs cs ∧ FitD 4 d ∧ cs.length ≤ 16
  | .letk d cs t => ∃ y q xs x, SqT K H p [.str "let", y, .ref q, x] ∧ Dp K H y d ∧ SqT K H q xs ∧ TVs K H n xs cs ∧ TV K H n x t ∧ FitD 4 d ∧ cs.length ≤ 16
  | .app t cs => ∃ x q xs, SqT K H p [.str "apply", x, .ref q] ∧ TV K H n x t ∧ SqT K H q xs ∧ TVs K H n xs cs ∧ cs.length ≤ 16
theorem dp_str {K : PySem.W.Frag} {H : Hp} {v : V} {z : Str} (h : Dp K H v (.str z)) : v = .str z := by
  cases h
  rfl
theorem dp_sh {K : PySem.W.Frag} {H : Hp} {v : V} {s : Option Int} (h : Dp K H v (shD s)) : v = shV s := by
  cases s <;> cases h <;> rfl
theorem TV.open {K : PySem.W.Frag} {H : Hp} {n : Nat} {v : V} {t : Tr} (h : TV K H (n + 1) v t) : ∃ p, v = .ref p ∧ TvO K H n p t := by
  obtain ⟨hd, hf⟩ := h
  cases t with
  | leaf z ds =>
    obtain ⟨p, xs, rfl, hp, hx⟩ := dp_tup_get hd
    cases hx with
    | cons a b =>
      cases dp_str a
      exact ⟨p, rfl, _, hp, b, hf.1⟩
  | area a =>
    obtain ⟨p, xs, rfl, hp, hx⟩ := dp_tup_get hd
    cases hx with
    | cons a b =>
      cases dp_str a
      cases b with
      | cons c d =>
        cases dp_sh c
        exact ⟨p, rfl, _, hp, d, hf⟩
  | one z d t =>
    obtain ⟨p, xs, rfl, hp, hx⟩ := dp_tup_get hd
    cases hx with
    | cons a b =>
      cases dp_str a
      cases b with
      | cons c e =>
        cases e with
        | cons g k =>
          cases k
          exact ⟨p, rfl, _, _, hp, c, ⟨g, hf.2.2⟩, hf.1, hf.2.1⟩
  | two d x y =>
    obtain ⟨p, xs, rfl, hp, hx⟩ := dp_tup_get hd
    cases hx with
    | cons a b =>
      cases dp_str a
      cases b with
      | cons c e =>
        cases e with
        | cons g k =>
          cases k with
          | cons l m =>
            cases m
            exact ⟨p, rfl, _, _, _, hp, c, ⟨g, hf.2.1⟩, ⟨l, hf.2.2⟩, hf.1⟩
  | call d cs =>
    obtain ⟨p, xs, rfl, hp, hx⟩ := dp_tup_get hd
    cases hx with
    | cons a b =>
      cases dp_str a
      cases b with
      | cons c e =>
        cases e with
        | cons g k =>
          cases k
          obtain ⟨q, ys, rfl, hq, hy⟩ := dp_tup_get g
          rw [datas_eq] at hy
          exact ⟨p, rfl, _, _, _, hp, c, hq, ⟨hy, hf.2.2⟩, hf.1, hf.2.1⟩
  | letk d cs t =>
    obtain ⟨p, xs, rfl, hp, hx⟩ := dp_tup_get hd
    cases hx with
    | cons a b =>
      cases dp_str a
      cases b with
      | cons c e =>
        cases e with
        | cons g k =>
          cases k with
          | cons l m =>
            cases m
            obtain ⟨q, ys, rfl, hq, hy⟩ := dp_tup_get g
            rw [datas_eq] at hy
            exact ⟨p, rfl, _, _, _, _, hp, c, hq, ⟨hy, hf.2.2.1⟩, ⟨l, hf.2.2.2⟩, hf.1, hf.2.1⟩
  | app t cs =>
    obtain ⟨p, xs, rfl, hp, hx⟩ := dp_tup_get hd
    cases hx with
    | cons a b =>
      cases dp_str a
      cases b with
      | cons c e =>
        cases e with
        | cons g k =>
          cases k
          obtain ⟨q, ys, rfl, hq, hy⟩ := dp_tup_get g
          rw [datas_eq] at hy
          exact ⟨p, rfl, _, _, _, hp, ⟨c, hf.1⟩, hq, ⟨hy, hf.2.2⟩, hf.2.1⟩
theorem TV.mk_one {K : PySem.W.Frag} {H : Hp} {n : Nat} {p : Addr} {z : Str} {y x : V} {d : PyData} {t : Tr} (hp : SqT K H p [.str z, y, x]) (hz : z = "sign" ∨ z = "lambda") (hy : Dp K H y d) (fd : FitD 4 d) (hx : TV K H n x t) : TV K H (n + 1) (.ref p) (.one z d t) :=
  ⟨.tup hp (.cons (.str _) (.cons hy (.cons hx.1 .nil))), hz, fd, hx.2⟩
theorem TV.mk_two {K : PySem.W.Frag} {H : Hp} {n : Nat} {p : Addr} {y x1 x2 : V} {d : PyData} {a b : Tr} (hp : SqT K H p [.str "binary", y, x1, x2]) (hy : Dp K H y d) (fd : FitD 4 d) (h1 : TV K H n x1 a) (h2 : TV K H n x2 b) : TV K H (n + 1) (.ref p) (.two d a b) :=
  ⟨.tup hp (.cons (.str _) (.cons hy (.cons h1.1 (.cons h2.1 .nil)))), fd, h1.2, h2.2⟩
theorem TV.mk_call {K : PySem.W.Frag} {H : Hp} {n : Nat} {p q : Addr} {y : V} {xs : List V} {d : PyData} {cs : List Tr} (hp : SqT K H p [.str "call", y, .ref q]) (hy : Dp K H y d) (fd : FitD 4 d) (hq : SqT K H q xs) (hx : TVs K H n xs cs) (hl : cs.length ≤ 16) : TV K H (n + 1) (.ref p) (.call d cs) :=
  ⟨.tup hp (.cons (.str _) (.cons hy (.cons (.tup hq (by rw [datas_eq]; exact hx.1)) .nil))), fd, hl, hx.2⟩
theorem TV.mk_let {K : PySem.W.Frag} {H : Hp} {n : Nat} {p q : Addr} {y x : V} {xs : List V} {d : PyData} {cs : List Tr} {t : Tr} (hp : SqT K H p [.str "let", y, .ref q, x]) (hy : Dp K H y d) (fd : FitD 4 d) (hq : SqT K H q xs) (hx : TVs K H n xs cs) (hl : cs.length ≤ 16) (ht : TV K H n x t) : TV K H (n + 1) (.ref p) (.letk d cs t) :=
  ⟨.tup hp (.cons (.str _) (.cons hy (.cons (.tup hq (by rw [datas_eq]; exact hx.1)) (.cons ht.1 .nil)))), fd, hl, hx.2, ht.2⟩
theorem TV.mk_app {K : PySem.W.Frag} {H : Hp} {n : Nat} {p q : Addr} {x : V} {xs : List V} {cs : List Tr} {t : Tr} (hp : SqT K H p [.str "apply", x, .ref q]) (ht : TV K H n x t) (hq : SqT K H q xs) (hx : TVs K H n xs cs) (hl : cs.length ≤ 16) : TV K H (n + 1) (.ref p) (.app t cs) :=
  ⟨.tup hp (.cons (.str _) (.cons ht.1 (.cons (.tup hq (by rw [datas_eq]; exact hx.1)) .nil))), ht.2, hl, hx.2⟩
theorem TV.mk_leaf {K : PySem.W.Frag} {H : Hp} {n : Nat} {p : Addr} {z : Str} {xs : List V} {ds : List PyData} (hp : SqT K H p (.str z :: xs)) (hz : z ∉ KS) (hx : DpAll K H xs ds) (hl : ds.length ≤ 4000) (hf : ∀ e ∈ ds, FitD 4 e) : TV K H (n + 1) (.ref p) (.leaf z ds) :=
  ⟨.tup hp (.cons (.str _) hx), hz, hl, hf⟩
def dropK (ks : List Int) (a : Ar) : Tr := match a.sh with
  | some i => if i ∈ ks then .leaf "error" [.str "REF"] else .area a
  | none => .area a
theorem dropK_fit (ks : List Int) (a : Ar) (h : a.ok) : (dropK ks a).fit 1 := by
  unfold dropK
  split
  · split
    · exact ⟨by decide +kernel, by show 1 ≤ 4000; decide, fun e he => by rw [List.mem_singleton.mp he]; exact fitD_str _ _⟩
    · exact h
  · exact h
theorem dropK_sz (ks : List Int) (a : Ar) : (dropK ks a).sz = 1 := by
  unfold dropK
  split
  · split <;> rfl
  · rfl
theorem dropK_two (i j : Int) (a : Ar) : (dropK [i] a).mp (dropK [j]) = dropK [i, j] a := by
  unfold dropK
  cases h : a.sh with
  | none => simp [h, Tr.mp]
  | some k =>
    by_cases h1 : k = i
    · simp [h1, Tr.mp]
    · by_cases h2 : k = j
      · subst h2
        simp [h, h1, Tr.mp]
      · simp [h, h1, h2, Tr.mp]

/-! ### tests of a kind -/
theorem eqV_str {a z : Str} : eqV (.str a) (.str z) = (a == z) := rfl
theorem rIn_b {K : PySem.W.Frag} {H : Hp} {Q : VK} {z : Str} {p : Addr} {xs : List V} (b : Bool) (hp : SqL K H p xs ∨ SqT K H p xs) (fs : xs.all flatV = true) (hb : inV (.str z) xs = b) (q : Q (.bl b) H) : rIn K false (.str z) (.ref p) H Q :=
  ⟨p, xs, rfl, hp, rfl, fs, by rw [hb]; exact q⟩
def KV (xs : List V) : Bool := xs.all fun x => match x with
  | .str a => decide (a ∈ KS)
  | _ => false
theorem inV_no {z : Str} (hz : z ∉ KS) : ∀ {xs : List V}, KV xs = true → inV (.str z) xs = false
  | [], _ => rfl
  | x :: xs, h => by
    unfold KV at h
    rw [List.all_cons, Bool.and_eq_true] at h
    have ih := inV_no hz (xs := xs) h.2
    unfold inV at ih ⊢
    rw [List.any_cons, ih, Bool.or_false]
    cases x with
    | str a =>
      have e := of_decide_eq_true h.1
      rw [eqV_str]
      exact beq_eq_false_iff_ne.mpr fun c => hz (c ▸ e)
    | _ => exact absurd h.1 Bool.false_ne_true
theorem rIn_no {K : PySem.W.Frag} {H : Hp} {Q : VK} {z : Str} {p : Addr} {xs : List V} (hz : z ∉ KS) (hp : SqL K H p xs ∨ SqT K H p xs) (fs : xs.all flatV = true) (hk : KV xs = true) (q : Q (.bl false) H) : rIn K false (.str z) (.ref p) H Q :=
  rIn_b false hp fs (inV_no hz hk) q
theorem iteKn {z a : Str} {A B : Prop} (hz : z ∉ KS) (ha : a ∈ KS) (h : B) : if decide (V.str z = V.str a) = true then A else B := by
  rw [if_neg (by
    intro c
    have e := of_decide_eq_true c
    cases e
    exact hz ha)]
  exact h
theorem iteKl {z a : Str} {A B : Prop} (ha : z ≠ a) (h : B) : if decide (V.str z = V.str a) = true then A else B := by
  rw [if_neg (by
    intro c
    have e := of_decide_eq_true c
    cases e
    exact ha rfl)]
  exact h
theorem joinL_len : ∀ (ls : List (List Nat)), (∀ l ∈ ls, l.length = 1) → (TL.joinL [] ls).length = ls.length
  | [], _ => rfl
  | [x], h => by
    rw [show TL.joinL [] [x] = x from by simp [TL.joinL], h x (List.mem_cons_self ..)]
    rfl
  | x :: y :: ls, h => by
    have e : TL.joinL [] (x :: y :: ls) = x ++ [] ++ TL.joinL [] (y :: ls) := by first | rfl | simp [TL.joinL]
    rw [e, List.append_nil, List.length_append, joinL_len (y :: ls) (fun l hl => h l (List.mem_cons_of_mem _ hl)), h x (List.mem_cons_self ..)]
    simp only [List.length_cons]
    omega
theorem len_join1 {zs : List Str} (h : ∀ z ∈ zs, z.length = 1) : (Txt.join (Str.ofString "") zs).length = zs.length := by
  have e : (Txt.join (Str.ofString "") zs).cps.toList = TL.joinL [] (zs.map fun z => z.cps.toList) := by
    rw [TL.join_eq]
    refine (TL.tl_join _ _).trans ?_
    rw [show TL.tl (Str.ofString "") = [] by decide +kernel]
  have e2 : (Txt.join (Str.ofString "") zs).length = (Txt.join (Str.ofString "") zs).cps.toList.length := by
    rw [Array.length_toList] <;> rfl
  rw [e2, e, joinL_len _ fun l hl => ?_, List.length_map]
  obtain ⟨z, hz, rfl⟩ := List.mem_map.mp hl
  rw [← h z hz, Array.length_toList] <;> rfl
theorem join_cps (zs : List Str) : (Txt.join (Str.ofString "") zs).cps.toList = TL.joinL [] (zs.map fun z => z.cps.toList) := by
  rw [TL.join_eq]
  refine (TL.tl_join _ _).trans ?_
  rw [show TL.tl (Str.ofString "") = [] by decide +kernel]
theorem cut_le (z : Str) (a b : Option Int) : (cutS z a b).length ≤ z.length := by
  show (cutS z a b).cps.size ≤ z.cps.size
  unfold cutS
  rw [List.size_toArray, List.length_take, List.length_drop, Array.length_toList]
  omega
theorem div64' {x : Int} (h0 : 1 ≤ x) (h1 : x ≤ 20) : 3 ≤ 64 / x ∧ 64 / x ≤ 64 ∧ 64 / x * x ≤ 64 := by
  refine ⟨?_, Int.ediv_le_self x (by decide), Int.ediv_mul_le 64 (by omega)⟩
  rw [Int.le_ediv_iff_mul_le (by omega)]
  omega
theorem same_none {H H' : Hp} (s : Same H H') {p : Addr} (h : H' p = Option.none) : H p = Option.none := by
  cases e : H p with
  | none => rfl
  | some o =>
    rw [s _ _ e] at h
    cases h

/-! ### lists that the draws do not touch -/
def A2 {α : Type} (R : V → α → Prop) (xs : List V) (ys : List α) : Prop := xs.length = ys.length ∧ ∀ (k : Nat) (x : V) (y : α), xs[k]? = some x → ys[k]? = some y → R x y
section
variable {α : Type} {R S : V → α → Prop} {xs zs : List V} {ys us : List α}
theorem A2.nil : A2 R [] [] := ⟨rfl, fun k x y e _ => by simp at e⟩
theorem A2.imp (h : A2 R xs ys) (f : ∀ x y, R x y → S x y) : A2 S xs ys := ⟨h.1, fun k x y a b => f _ _ (h.2 k x y a b)⟩
theorem A2.app (h : A2 R xs ys) (g : A2 R zs us) : A2 R (xs ++ zs) (ys ++ us) := by
  refine ⟨by rw [List.length_append, List.length_append, h.1, g.1], fun k x y a b => ?_⟩
  by_cases hk : k < xs.length
  · rw [List.getElem?_append_left hk] at a
    rw [List.getElem?_append_left (by rw [← h.1]; exact hk)] at b
    exact h.2 k x y a b
  · rw [List.getElem?_append_right (by omega)] at a
    rw [List.getElem?_append_right (by rw [← h.1]; omega), ← h.1] at b
    exact g.2 _ x y a b
theorem A2.one {x : V} {y : α} (h : R x y) : A2 R [x] [y] := ⟨rfl, fun k a b e f => by
  cases k with
  | zero =>
    cases e
    cases f
    exact h
  | succ k => simp at e⟩
theorem A2.snoc {x : V} {y : α} (h : A2 R xs ys) (g : R x y) : A2 R (xs ++ [x]) (ys ++ [y]) := h.app (.one g)
theorem A2.drop (n : Nat) (h : A2 R xs ys) : A2 R (xs.drop n) (ys.drop n) := ⟨by rw [List.length_drop, List.length_drop, h.1], fun k x y a b => by
  rw [List.getElem?_drop] at a b
  exact h.2 _ x y a b⟩
theorem A2.take (n : Nat) (h : A2 R xs ys) : A2 R (xs.take n) (ys.take n) := ⟨by rw [List.length_take, List.length_take, h.1], fun k x y a b => by
  rw [List.getElem?_take] at a b
  split at a
  · rw [if_pos (by assumption)] at b
    exact h.2 _ x y a b
  · cases a⟩
theorem A2.get (h : A2 R xs ys) {k : Nat} {x : V} (e : xs[k]? = some x) : ∃ y, ys[k]? = some y ∧ R x y := by
  have hl : k < ys.length := by
    rw [← h.1]
    exact (List.getElem?_eq_some_iff.mp e).1
  exact ⟨ys[k], List.getElem?_eq_getElem hl, h.2 k x _ e (List.getElem?_eq_getElem hl)⟩
end
def NoI (xs : List V) : Prop := ∀ c i1 i2 i3 i4 i5, xs ≠ StS c i1 i2 i3 i4 i5
section
variable {K : PySem.W.Frag} {b : Addr} {c : Addr × Addr} {ns : List Int × List Int} {H H1 H2 : Hp}
theorem Bs.lst (x : Bs K b c ns H H1) (h : BoxS K b c ns H) {a : Addr} {xs : List V} (e : H a = some (.lst xs)) (n : NoI xs) : H1 a = some (.lst xs) := by
  obtain ⟨⟨i1, i2, i3, i4, i5, e0, _⟩, _⟩ := h
  refine x.1 a _ (fun z => ?_) e
  rw [z, e0] at e
  have e2 := HO.lst.inj (Option.some.inj e)
  exact n _ _ _ _ _ _ e2.symm
theorem Bs.ints (x : Bs K b c ns H H1) (h : BoxS K b c ns H) {a : Addr} {ks : List Int} (e : H a = some (.lst (ks.map V.int))) : H1 a = some (.lst (ks.map V.int)) := by
  obtain ⟨⟨i1, i2, i3, i4, i5, e0, _⟩, _⟩ := h
  exact x.1 a _ (stS_ne e0 e) e
theorem Bs.sints (x : Bs K b c ns H H1) (h : BoxS K b c ns H) {a : Addr} {ks : List Int} (e : SqL K H a (ks.map V.int)) : SqL K H1 a (ks.map V.int) := by
  obtain ⟨⟨i1, i2, i3, i4, i5, e0, _⟩, _⟩ := h
  exact but_sqlS e0 x.1 e
end
theorem sz_pos (t : Tr) : 1 ≤ t.sz := by
  rw [sz_kids]
  omega
theorem szs_len : ∀ ts : List Tr, ts.length ≤ Tr.szs ts
  | [] => Nat.le_refl _
  | t :: ts => by
    have h1 := sz_pos t
    have h2 := szs_len ts
    rw [Tr.szs, List.length_cons]
    omega
theorem szs_split (ts : List Tr) (n : Nat) : Tr.szs (ts.take n) + Tr.szs (ts.drop n) = Tr.szs ts := by
  rw [← szs_app, List.take_append_drop]
theorem dpAll_drop {K : PySem.W.Frag} {H : Hp} : ∀ (n : Nat) {vs : List V} {ds : List PyData}, DpAll K H vs ds → DpAll K H (vs.drop n) (ds.drop n)
  | 0, _, _, h => h
  | _ + 1, _, _, .nil => .nil
  | n + 1, _, _, .cons _ b => dpAll_drop n b
theorem dpAll_take {K : PySem.W.Frag} {H : Hp} : ∀ (n : Nat) {vs : List V} {ds : List PyData}, DpAll K H vs ds → DpAll K H (vs.take n) (ds.take n)
  | 0, _, _, _ => .nil
  | _ + 1, _, _, .nil => .nil
  | n + 1, _, _, .cons a b => .cons a (dpAll_take n b)
theorem TVs.drop {K : PySem.W.Frag} {H : Hp} {n : Nat} {vs : List V} {ts : List Tr} (h : TVs K H n vs ts) (k : Nat) : TVs K H n (vs.drop k) (ts.drop k) := ⟨by rw [List.map_drop]; exact dpAll_drop k h.1, fun t ht => h.2 t (List.mem_of_mem_drop ht)⟩
theorem TVs.take {K : PySem.W.Frag} {H : Hp} {n : Nat} {vs : List V} {ts : List Tr} (h : TVs K H n vs ts) (k : Nat) : TVs K H n (vs.take k) (ts.take k) := ⟨by rw [List.map_take]; exact dpAll_take k h.1, fun t ht => h.2 t (List.mem_of_mem_take ht)⟩
theorem TV.ref {K : PySem.W.Frag} {H : Hp} {n : Nat} {v : V} {t : Tr} (h : TV K H n v t) : ∃ p, v = .ref p := by
  cases n with
  | zero => exact h.2.elim
  | succ n =>
    obtain ⟨p, e, _⟩ := h.open
    exact ⟨p, e⟩
theorem TVs.noI {K : PySem.W.Frag} {H : Hp} {n : Nat} {vs : List V} {ts : List Tr} (h : TVs K H n vs ts) : NoI vs := fun c i1 i2 i3 i4 i5 z => by
  have e : vs[1]? = some (.int i1) := by rw [z]; rfl
  obtain ⟨t, _, tv⟩ := h.at e
  obtain ⟨p, q⟩ := tv.ref
  cases q
theorem TVs.noE {K : PySem.W.Frag} {H : Hp} {n : Nat} {vs : List V} {ts : List Tr} (h : TVs K H n vs ts) (v : Addr) (d : Int) : vs ≠ [.ref v, .int d] := fun z => by
  have e : vs[1]? = some (.int d) := by rw [z]; rfl
  obtain ⟨t, _, tv⟩ := h.at e
  obtain ⟨p, q⟩ := tv.ref
  cases q
theorem TV.leaf {K : PySem.W.Frag} {H : Hp} {n : Nat} {p : Addr} {z : Str} {xs : List V} {ds : List PyData} (hp : SqT K H p (.str z :: xs)) (hx : DpAll K H xs ds) (hz : z ∉ KS) (hl : ds.length ≤ 4000) (hf : ∀ e ∈ ds, FitD 4 e) : TV K H (n + 1) (.ref p) (.leaf z ds) := TV.mk_leaf hp hz hx hl hf
def EMP : Tr := .leaf "empty" []
theorem tv_emp {K : PySem.W.Frag} {H : Hp} {p : Addr} (n : Nat) (h : SqT K H p [.str "empty"]) : TV K H (n + 1) (.ref p) EMP := TV.mk_leaf h (by decide +kernel) .nil (Nat.zero_le _) (fun e he => absurd he List.not_mem_nil)
def LF1 (z : Str) (d : PyData) : Tr := .leaf z [d]
theorem tv_lf1 {K : PySem.W.Frag} {H : Hp} {p : Addr} {z : Str} {x : V} {d : PyData} (n : Nat) (h : SqT K H p [.str z, x]) (hz : z ∉ KS) (hx : Dp K H x d) (hf : FitD 4 d) : TV K H (n + 1) (.ref p) (LF1 z d) := TV.mk_leaf h hz (.cons hx .nil) (by show 1 ≤ 4000; decide) (fun e he => by rw [List.mem_singleton.mp he]; exact hf)
theorem dp_strs {K : PySem.W.Frag} {H : Hp} : ∀ zs : List Str, DpAll K H (zs.map V.str) (zs.map PyData.str)
  | [] => .nil
  | z :: zs => .cons (.str z) (dp_strs zs)
theorem fitD_strs (n : Nat) (zs : List Str) (h : zs.length ≤ 5000) (hz : ∀ z ∈ zs, upS z) : FitD (n + 2) (.tuple (zs.map PyData.str)) := fitD_tup (by rw [List.length_map]; exact h) (fun e he => by
  obtain ⟨z, _, rfl⟩ := List.mem_map.mp he
  exact fitD_str _ _) (fun z e => by
  cases zs with
  | nil => cases e
  | cons y zs =>
    rw [List.map_cons, List.head?_cons] at e
    have e2 : y = z := PyData.str.inj (Option.some.inj e)
    exact e2 ▸ (hz y (List.mem_cons_self ..)).no)
theorem dp_ints {K : PySem.W.Frag} {H : Hp} : ∀ zs : List Int, DpAll K H (zs.map V.int) (zs.map PyData.int)
  | [] => .nil
  | z :: zs => .cons (.int z) (dp_ints zs)
theorem dp_bls {K : PySem.W.Frag} {H : Hp} : ∀ zs : List Bool, DpAll K H (zs.map V.bl) (zs.map PyData.bool)
  | [] => .nil
  | z :: zs => .cons (.bl z) (dp_bls zs)
theorem dp_shV {K : PySem.W.Frag} {H : Hp} (s : Option Int) : Dp K H (shV s) (shD s) := by
  cases s with
  | none => exact .non
  | some i => exact .int i
theorem tv_area {K : PySem.W.Frag} {H : Hp} {p : Addr} (n : Nat) (a : Ar) (ok : a.ok) (h : SqT K H p (.str a.k :: shV a.sh :: (a.ns.map V.int ++ a.ms.map V.bl))) : TV K H (n + 1) (.ref p) (.area a) :=
  ⟨.tup h (.cons (.str _) (.cons (dp_shV _) (dpAll_app (dp_ints _) (dp_bls _)))), ok⟩
/-- places of a cut -/
theorem cut_drop {xs : List V} {i : Int} (h0 : 0 ≤ i) (h1 : i ≤ xs.length) : cutV xs (some i) none = xs.drop i.toNat := by
  obtain ⟨n, rfl⟩ := Int.eq_ofNat_of_zero_le h0
  unfold cutV
  rw [HT.sIx_none, HT.sIx_nat, Nat.min_eq_left (by omega), List.take_of_length_le (by rw [List.length_drop]; omega)]
  rfl
theorem cut_take {xs : List V} {i : Int} (h0 : 0 ≤ i) (h1 : i ≤ xs.length) : cutV xs none (some i) = xs.take i.toNat := by
  obtain ⟨n, rfl⟩ := Int.eq_ofNat_of_zero_le h0
  unfold cutV
  rw [HT.sIx_none, HT.sIx_nat, Nat.min_eq_left (by omega)]
  rfl
/-- the tail of a list from a place behind, as a drop -/
theorem cut_tail (xs : List V) (o : Option Int) : ∃ k, cutV xs o none = xs.drop k := ⟨_, by
  unfold cutV
  rw [HT.sIx_none, List.take_of_length_le (by rw [List.length_drop]; omega)]⟩
theorem cut_last (xs : List V) (h : 0 < xs.length) : cutV xs none (some (-1)) = xs.take (xs.length - 1) := by
  unfold cutV
  rw [HT.sIx_none]
  have e : HT.sIx xs.length xs.length (some (-1)) = xs.length - 1 := by
    show (if (-1 : Int) < 0 then ((-1 : Int) + (xs.length : Int)).toNat else min (-1 : Int).toNat xs.length) = _
    rw [if_pos (by decide)]
    omega
  rw [e]
  rfl
theorem cut_16 (xs : List V) : (cutV xs (some (-16)) none).length ≤ 16 := by
  unfold cutV
  rw [HT.sIx_none, List.length_take, List.length_drop]
  have e : HT.sIx xs.length 0 (some (-16)) = xs.length - 16 := by
    show (if (-16 : Int) < 0 then ((-16 : Int) + (xs.length : Int)).toNat else min (-16 : Int).toNat xs.length) = _
    rw [if_pos (by decide)]
    omega
  rw [e]
  omega
theorem szs_drop_le (ts : List Tr) (n : Nat) : Tr.szs (ts.drop n) ≤ Tr.szs ts := by
  have := szs_split ts n
  omega
theorem szs_cons (t : Tr) (ts : List Tr) : Tr.szs (t :: ts) = t.sz + Tr.szs ts := rfl
theorem szs_nil : Tr.szs [] = 0 := rfl
theorem fit_pair {z : Str} {n : Nat} (d : PyData) (h : FitD n d) (hz : z ∉ AKd := by decide +kernel) : FitD (n + 1) (.tuple [.str z, d]) := by
  cases n with
  | zero => exact h.elim
  | succ n =>
    refine fitD_tup (by show 2 ≤ 5000; decide) (fun e he => ?_) (fun y e => by cases e; exact hz)
    rcases List.mem_cons.mp he with rfl | he
    · exact fitD_str _ _
    · rw [List.mem_singleton.mp he]
      exact h
theorem flat_strs (zs : List Str) : (zs.map V.str).all flatV = true := List.all_eq_true.mpr fun x hx => by
  obtain ⟨z, _, rfl⟩ := List.mem_map.mp hx
  rfl
theorem strs_noE (zs : List Str) (v : Addr) (d : Int) : zs.map V.str ≠ [.ref v, .int d] := fun h => by
  cases zs with
  | nil => cases h
  | cons z zs => cases h
theorem strs_noI (zs : List Str) : NoI (zs.map V.str) := fun c i1 i2 i3 i4 i5 z => by
  have e : (zs.map V.str)[1]? = some (.int i1) := by rw [z]; rfl
  rw [List.getElem?_map] at e
  cases h : zs[1]? with
  | none =>
    rw [h] at e
    cases e
  | some a =>
    rw [h] at e
    cases e
theorem len_noI {xs : List V} (h : xs.length ≠ 7) : NoI xs := fun c i1 i2 i3 i4 i5 z => h (by rw [z]; rfl)
theorem fst_noI {x : V} {xs : List V} (h : ∀ a, x ≠ .ref a) : NoI (x :: xs) := fun c i1 i2 i3 i4 i5 z => h c.1 (by unfold StS at z; exact (List.cons.inj z).1)
theorem TVs.head {K : PySem.W.Frag} {H : Hp} {n : Nat} {v : V} {vs : List V} {t : Tr} {ts : List Tr} (h : TVs K H n (v :: vs) (t :: ts)) : TV K H n v t := ⟨by cases h.1 with | cons a _ => exact a, h.2 t (List.mem_cons_self ..)⟩
theorem TVs.tail {K : PySem.W.Frag} {H : Hp} {n : Nat} {v : V} {vs : List V} {t : Tr} {ts : List Tr} (h : TVs K H n (v :: vs) (t :: ts)) : TVs K H n vs ts := ⟨by cases h.1 with | cons _ b => exact b, fun u hu => h.2 u (List.mem_cons_of_mem _ hu)⟩
theorem TVs.cons {K : PySem.W.Frag} {H : Hp} {n : Nat} {v : V} {vs : List V} {t : Tr} {ts : List Tr} (h : TV K H n v t) (k : TVs K H n vs ts) : TVs K H n (v :: vs) (t :: ts) := (TVs.one h).app k
theorem TVs.cut1 {K : PySem.W.Frag} {H : Hp} {n : Nat} {vs : List V} {ts : List Tr} (h : TVs K H n vs ts) (hl : 1 ≤ ts.length) : ∃ v vs' t ts', vs = v :: vs' ∧ ts = t :: ts' ∧ TV K H n v t ∧ TVs K H n vs' ts' := by
  have e := h.len
  cases ts with
  | nil => exact absurd hl (by decide)
  | cons t ts' =>
    cases vs with
    | nil => exact absurd e (by simp)
    | cons v vs' => exact ⟨v, vs', t, ts', rfl, rfl, h.head, h.tail⟩
theorem szs_take_succ {ts : List Tr} {i : Nat} {t : Tr} (e : ts[i]? = some t) : Tr.szs (ts.take (i + 1)) = Tr.szs (ts.take i) + t.sz := by
  rw [List.take_add_one, e, szs_app]
  rfl
theorem list_last {α : Type} {xs : List α} (h : 1 ≤ xs.length) : ∃ ys y, xs = ys ++ [y] ∧ xs.take (xs.length - 1) = ys := by
  have e : xs ≠ [] := fun z => by rw [z] at h; simp at h
  refine ⟨xs.dropLast, xs.getLast e, (List.dropLast_concat_getLast e).symm, (List.dropLast_eq_take).symm⟩
theorem TVs.last {K : PySem.W.Frag} {H : Hp} {n : Nat} {ys : List V} {us : List Tr} (h : TVs K H n ys us) (hl : 1 ≤ us.length) : ∃ ys0 y us0 u, ys = ys0 ++ [y] ∧ us = us0 ++ [u] ∧ TVs K H n ys0 us0 ∧ TV K H n y u := by
  obtain ⟨y, yr, u, ur, e1, e2, tv, tr⟩ := TVs.cut1 h.rev (by rw [List.length_reverse]; exact hl)
  refine ⟨yr.reverse, y, ur.reverse, u, ?_, ?_, tr.rev, tv⟩
  · rw [← List.reverse_cons, ← e1, List.reverse_reverse]
  · rw [← List.reverse_cons, ← e2, List.reverse_reverse]
theorem cut_init (ys : List V) (y : V) : cutV (ys ++ [y]) none (some (-1)) = ys := by
  rw [cut_last _ (by simp), List.length_append]
  show (ys ++ [y]).take ys.length = ys
  rw [List.take_left]
theorem many_at {n : Int} (h0 : 0 ≤ n) (h1 : n < 7) : ∃ m : Int, atI [V.int 1, .int 2, .int 2, .int 16, .int 16, .int 8, .int 17] n = some (.int m) ∧ (1 ≤ m ∧ m ≤ 17 ∧ (n = 0 → m = 1) ∧ (n = 1 → m = 2) ∧ (n = 2 → m = 2) ∧ (n = 3 → m = 16) ∧ (n = 4 → m = 16) ∧ (n = 5 → m = 8)) := by
  have h : n = 0 ∨ n = 1 ∨ n = 2 ∨ n = 3 ∨ n = 4 ∨ n = 5 ∨ n = 6 := by omega
  rcases h with rfl | rfl | rfl | rfl | rfl | rfl | rfl <;> exact ⟨_, rfl, by decide⟩
theorem small20000 {n : Nat} (h : n ≤ 20000) : n < sizeLine := Nat.lt_of_le_of_lt h (show 20001 ≤ sizeLine by decide)
def WD : Str := ("ABCDEFGHIJKLMNOPQRSTUVWXYZ" : Str) ++ ("0123456789_" : Str)
theorem str_at {Z : Str} {n : Int} {m : Nat} (h0 : 0 ≤ n) (h1 : n < (m : Int)) (e : Z.length = m) : ∃ ch, atI Z.cps.toList n = some ch := by
  obtain ⟨c, _, e⟩ := atI_some (xs := Z.cps.toList) h0 (by rw [Array.length_toList]; show n < ((Z.length : Nat) : Int); rw [e]; exact h1)
  exact ⟨c, e⟩
mutual
theorem pre_len : ∀ t : Tr, t.pre.length = t.sz
  | .leaf z ds => rfl
  | .area a => rfl
  | .one z p t => by rw [Tr.pre, Tr.sz, List.length_cons, pre_len t]
  | .two p x y => by rw [Tr.pre, Tr.sz, List.length_cons, List.length_append, pre_len x, pre_len y]
  | .call p cs => by rw [Tr.pre, Tr.sz, List.length_cons, pres_len cs]
  | .letk p cs t => by rw [Tr.pre, Tr.sz, List.length_cons, List.length_append, pre_len t, pres_len cs]
  | .app t cs => by rw [Tr.pre, Tr.sz, List.length_cons, List.length_append, pre_len t, pres_len cs]
theorem pres_len : ∀ ts : List Tr, (Tr.pres ts).length = Tr.szs ts
  | [] => rfl
  | t :: ts => by rw [Tr.pres, Tr.szs, List.length_append, pre_len t, pres_len ts]
end
theorem szs_mem : ∀ {ts : List Tr} {t : Tr}, t ∈ ts → t.sz ≤ Tr.szs ts
  | u :: us, t, h => by
    rw [Tr.szs]
    rcases List.mem_cons.mp h with rfl | h
    · omega
    · have := szs_mem h
      omega
theorem refss_len : ∀ ts : List Tr, (∀ t ∈ ts, t.refs.length ≤ t.sz) → (Tr.refss ts).length ≤ Tr.szs ts
  | [], _ => Nat.le_refl _
  | t :: ts, h => by
    rw [Tr.refss, Tr.szs, List.length_append]
    have h1 := h t (List.mem_cons_self ..)
    have h2 := refss_len ts fun u hu => h u (List.mem_cons_of_mem _ hu)
    omega
mutual
theorem refs_len : ∀ t : Tr, t.refs.length ≤ t.sz
  | .leaf z ds => Nat.zero_le _
  | .area a => Nat.le_refl _
  | .one z p t => by rw [Tr.refs, Tr.sz]; have := refs_len t; omega
  | .two p x y => by rw [Tr.refs, Tr.sz, List.length_append]; have := refs_len x; have := refs_len y; omega
  | .call p cs => by rw [Tr.refs, Tr.sz]; have := refss_le cs; omega
  | .letk p cs t => by rw [Tr.refs, Tr.sz, List.length_append]; have := refss_le cs; have := refs_len t; omega
  | .app t cs => by rw [Tr.refs, Tr.sz, List.length_append]; have := refss_le cs; have := refs_len t; omega
theorem refss_le : ∀ ts : List Tr, (Tr.refss ts).length ≤ Tr.szs ts
  | [] => Nat.le_refl _
  | t :: ts => by rw [Tr.refss, Tr.szs, List.length_append]; have := refs_len t; have := refss_le ts; omega
end

/-! ### a statement read alone -/
theorem seq_merge {a b : TS} {D : Ends} {σ : L2.St} {H : Hp} {C : L2.St → Hp → Prop} (tail : ∀ σ H, C σ H → b D σ H) (rest : ∀ R : L2.St → Hp → Prop, (∀ σ H, C σ H → R σ H) → a { D with nx := R } σ H) : tSeq a b D σ H := rest (b D) tail
theorem seq_merge2 {a1 a2 b : TS} {D : Ends} {σ : L2.St} {H : Hp} {C : L2.St → Hp → Prop} (tail : ∀ σ H, C σ H → b D σ H) (rest : ∀ R : L2.St → Hp → Prop, (∀ σ H, C σ H → R σ H) → (tSeq a1 (a2)) { D with nx := R } σ H) : (tSeq a1 (tSeq a2 (b))) D σ H := rest (b D) tail
theorem seq_merge3 {a1 a2 a3 b : TS} {D : Ends} {σ : L2.St} {H : Hp} {C : L2.St → Hp → Prop} (tail : ∀ σ H, C σ H → b D σ H) (rest : ∀ R : L2.St → Hp → Prop, (∀ σ H, C σ H → R σ H) → (tSeq a1 (tSeq a2 (a3))) { D with nx := R } σ H) : (tSeq a1 (tSeq a2 (tSeq a3 (b)))) D σ H := rest (b D) tail
theorem seq_merge4 {a1 a2 a3 a4 b : TS} {D : Ends} {σ : L2.St} {H : Hp} {C : L2.St → Hp → Prop} (tail : ∀ σ H, C σ H → b D σ H) (rest : ∀ R : L2.St → Hp → Prop, (∀ σ H, C σ H → R σ H) → (tSeq a1 (tSeq a2 (tSeq a3 (a4)))) { D with nx := R } σ H) : (tSeq a1 (tSeq a2 (tSeq a3 (tSeq a4 (b))))) D σ H := rest (b D) tail
theorem seq_merge5 {a1 a2 a3 a4 a5 b : TS} {D : Ends} {σ : L2.St} {H : Hp} {C : L2.St → Hp → Prop} (tail : ∀ σ H, C σ H → b D σ H) (rest : ∀ R : L2.St → Hp → Prop, (∀ σ H, C σ H → R σ H) → (tSeq a1 (tSeq a2 (tSeq a3 (tSeq a4 (a5))))) { D with nx := R } σ H) : (tSeq a1 (tSeq a2 (tSeq a3 (tSeq a4 (tSeq a5 (b)))))) D σ H := rest (b D) tail
theorem seq_merge6 {a1 a2 a3 a4 a5 a6 b : TS} {D : Ends} {σ : L2.St} {H : Hp} {C : L2.St → Hp → Prop} (tail : ∀ σ H, C σ H → b D σ H) (rest : ∀ R : L2.St → Hp → Prop, (∀ σ H, C σ H → R σ H) → (tSeq a1 (tSeq a2 (tSeq a3 (tSeq a4 (tSeq a5 (a6)))))) { D with nx := R } σ H) : (tSeq a1 (tSeq a2 (tSeq a3 (tSeq a4 (tSeq a5 (tSeq a6 (b))))))) D σ H := rest (b D) tail
theorem seq_merge7 {a1 a2 a3 a4 a5 a6 a7 b : TS} {D : Ends} {σ : L2.St} {H : Hp} {C : L2.St → Hp → Prop} (tail : ∀ σ H, C σ H → b D σ H) (rest : ∀ R : L2.St → Hp → Prop, (∀ σ H, C σ H → R σ H) → (tSeq a1 (tSeq a2 (tSeq a3 (tSeq a4 (tSeq a5 (tSeq a6 (a7))))))) { D with nx := R } σ H) : (tSeq a1 (tSeq a2 (tSeq a3 (tSeq a4 (tSeq a5 (tSeq a6 (tSeq a7 (b)))))))) D σ H := rest (b D) tail
theorem seq_merge8 {a1 a2 a3 a4 a5 a6 a7 a8 b : TS} {D : Ends} {σ : L2.St} {H : Hp} {C : L2.St → Hp → Prop} (tail : ∀ σ H, C σ H → b D σ H) (rest : ∀ R : L2.St → Hp → Prop, (∀ σ H, C σ H → R σ H) → (tSeq a1 (tSeq a2 (tSeq a3 (tSeq a4 (tSeq a5 (tSeq a6 (tSeq a7 (a8)))))))) { D with nx := R } σ H) : (tSeq a1 (tSeq a2 (tSeq a3 (tSeq a4 (tSeq a5 (tSeq a6 (tSeq a7 (tSeq a8 (b))))))))) D σ H := rest (b D) tail

/-- what the words are split into -/
def ROW : List Str := List.map Str.ofString [
  "ABS", "1", "1", "SIGN", "1", "1", "INT", "1", "1", "TRUNC", "1", "1", "ROUND", "2", 
  "2", "MOD", "2", "2", "QUOTIENT", "2", "2", "POWER", "2", "2", "SQRT", "1", "1", 
  "GCD", "2", "2", "LCM", "2", "2", "SUM", "1", "16", "PRODUCT", "1", "16", "MIN", 
  "1", "16", "MAX", "1", "16", "AVERAGE", "1", "16", "MEDIAN", "1", "16", "COUNT", 
  "1", "16", "COUNTA", "1", "16", "COUNTBLANK", "1", "1", "LARGE", "2", "2", "SMALL", 
  "2", "2", "RANK", "2", "2", "SUMPRODUCT", "1", "4", "COUNTIF", "2", "2", "SUMIF", 
  "2", "3", "IF", "2", "3", "IFS", "2", "16", "SWITCH", "3", "16", "CHOOSE", "2", "16", 
  "AND", "1", "16", "OR", "1", "16", "XOR", "1", "16", "NOT", "1", "1", "IFERROR", 
  "2", "2", "IFNA", "2", "2", "ISBLANK", "1", "1", "ISNUMBER", "1", "1", "ISTEXT", 
  "1", "1", "ISLOGICAL", "1", "1", "ISERROR", "1", "1", "ISNA", "1", "1", "ERRNUMBER", 
  "1", "1", "ISREF", "1", "1", "NA", "0", "0", "ROW", "1", "1", "COLUMN", "1", "1", 
  "ROWS", "1", "1", "COLUMNS", "1", "1", "LEN", "1", "1", "LEFT", "1", "2", "RIGHT", 
  "1", "2", "MID", "3", "3", "FIND", "2", "3", "SUBSTITUTE", "3", "4", "REPLACE", "4", 
  "4", "REPT", "2", "2", "UPPER", "1", "1", "LOWER", "1", "1", "TRIM", "1", "1", "EXACT", 
  "2", "2", "VALUE", "1", "1", "CODE", "1", "1", "CONCAT", "1", "16", "TEXTJOIN", "3", 
  "16", "TEXTSPLIT", "2", "3", "INDEX", "2", "3", "MATCH", "2", "3", "XLOOKUP", "3", 
  "4", "VLOOKUP", "3", "4", "OFFSET", "3", "5", "INDIRECT", "1", "1", "SEQUENCE", "1", 
  "4", "TRANSPOSE", "1", "1", "SORT", "1", "3", "SORTBY", "2", "3", "UNIQUE", "1", 
  "1", "FILTER", "2", "3", "TAKE", "2", "3", "DROP", "2", "3", "VSTACK", "1", "8", 
  "HSTACK", "1", "8", "CHOOSEROWS", "2", "8", "CHOOSECOLS", "2", "8", "EXPAND", "3", 
  "4", "TOCOL", "1", "1", "WRAPROWS", "2", "2", "MMULT", "2", "2", "MUNIT", "1", "1", 
  "MAP", "2", "5", "REDUCE", "3", "3", "SCAN", "3", "3", "MAKEARRAY", "3", "3", "BYROW", 
  "2", "2", "BYCOL", "2", "2"]
def numT (z : Str) : Int := (PySem.intText? z).getD 0
def wordAt (k : Nat) : Str × Int × Int := (ROW.getD (3 * k) "", numT (ROW.getD (3 * k + 1) ""), numT (ROW.getD (3 * k + 2) ""))
def WORDS : List (Str × Int × Int) := (List.range 95).map wordAt
def wordOk (k : Nat) : Bool := decide (PySem.intText? (ROW.getD (3 * k + 1) "") = some (wordAt k).2.1) && decide (PySem.intText? (ROW.getD (3 * k + 2) "") = some (wordAt k).2.2) && decide ((ROW.getD (3 * k + 1) "").length ≤ 640) && decide ((ROW.getD (3 * k + 2) "").length ≤ 640) && decide (0 ≤ (wordAt k).2.1) && decide ((wordAt k).2.1 ≤ (wordAt k).2.2) && decide ((wordAt k).2.2 ≤ 16)
theorem words_ok : (List.range 95).all wordOk = true := by decide +kernel
theorem row_split {W : Str} (h : TL.tl W = TL.joinL [32] (ROW.map TL.tl)) : Txt.split W (Str.ofString " ") = ROW := by
  refine TL.map_tl_inj ?_
  rw [TL.split_spl _ _ (by decide +kernel) (TL.kind_ok (by decide +kernel)), h]
  decide +kernel
theorem row_len : ROW.length = 285 := by decide +kernel
theorem words_len : WORDS.length = 95 := by unfold WORDS; rw [List.length_map, List.length_range]
theorem words_16 : (wordAt 11).2.2 = 16 := by decide +kernel
theorem words_at {k : Nat} (h : k < 95) : WORDS[k]? = some (wordAt k) := by
  unfold WORDS
  rw [List.getElem?_map, List.getElem?_range h]
  rfl
theorem word_ok {k : Nat} (h : k < 95) : (PySem.intText? (ROW.getD (3 * k + 1) "") = some (wordAt k).2.1 ∧ PySem.intText? (ROW.getD (3 * k + 2) "") = some (wordAt k).2.2 ∧ (ROW.getD (3 * k + 1) "").length ≤ 640 ∧ (ROW.getD (3 * k + 2) "").length ≤ 640) ∧ 0 ≤ (wordAt k).2.1 ∧ (wordAt k).2.1 ≤ (wordAt k).2.2 ∧ (wordAt k).2.2 ≤ 16 := by
  have a := List.all_eq_true.mp words_ok k (List.mem_range.mpr h)
  unfold wordOk at a
  simp only [Bool.and_eq_true, decide_eq_true_eq] at a
  obtain ⟨⟨⟨⟨⟨⟨a1, a2⟩, a3⟩, a4⟩, a5⟩, a6⟩, a7⟩ := a
  exact ⟨⟨a1, a2, a3, a4⟩, a5, a6, a7⟩
theorem row_at {i : Nat} (h : i < 285) : (ROW.map V.str)[i]? = some (.str (ROW.getD i "")) := by
  rw [List.getElem?_map, List.getElem?_eq_getElem (by rw [row_len]; exact h), List.getD_eq_getElem?_getD, List.getElem?_eq_getElem (by rw [row_len]; exact h)]
  rfl
/-- of both kinds of spans the marks are alike -/
def EqM (a : Ar) : Prop := (∀ s, rowN a = some s → s.fl = s.fh) ∧ ∀ s, colN a = some s → s.fl = s.fh

def MD (m : Int) (a : Ar) : Prop := m = 1 ∨ m = 2 → EqM a
theorem md_cell {m : Int} {sh : Option Int} {r c : Int} {x y : Bool} (_ : 0 ≤ r ∧ r ≤ 19) (_ : 0 ≤ c ∧ c ≤ 9) : MD m ⟨"cell", sh, [r, c], [x, y]⟩ := fun _ => ⟨fun s e => by cases e; rfl, fun s e => by cases e; rfl⟩
theorem md_range {m : Int} {sh : Option Int} {t l b r : Int} {x y z u : Bool} (_ : 0 ≤ t ∧ t ≤ b ∧ b ≤ 19) (_ : 0 ≤ l ∧ l ≤ r ∧ r ≤ 9) (h : m = 1 ∨ m = 2 → z = x ∧ u = y) : MD m ⟨"range", sh, [t, l, b, r], [x, y, z, u]⟩ := fun hm => ⟨fun s e => by cases e; exact (h hm).1.symm, fun s e => by cases e; exact (h hm).2.symm⟩
theorem md_rows {m : Int} {sh : Option Int} {t b : Int} {x z : Bool} (_ : 0 ≤ t ∧ t ≤ b ∧ b ≤ 19) (h : m = 1 ∨ m = 2 → z = x) : MD m ⟨"rows", sh, [t, b], [x, z]⟩ := fun hm => ⟨fun s e => by cases e; exact (h hm).symm, nofun⟩
theorem md_cols {m : Int} {sh : Option Int} {l r : Int} {y u : Bool} (_ : 0 ≤ l ∧ l ≤ r ∧ r ≤ 9) (h : m = 1 ∨ m = 2 → u = y) : MD m ⟨"columns", sh, [l, r], [y, u]⟩ := fun hm => ⟨nofun, fun s e => by cases e; exact (h hm).symm⟩

def SIG : Str := "ABCDEFGHIJKLMNOPQRSTUVWXYZ0123456789_"
theorem log_small {k : Int} (h : -1267650600228229401496703205376 < k ∧ k < 1267650600228229401496703205376) : k.natAbs.log2 < 1920 := by
  have e : (2 : Nat) ^ 100 = 1267650600228229401496703205376 := by decide
  exact Nat.lt_trans (PySem.Flt.log2_lt_of (by decide) (show k.natAbs < 2 ^ 100 by rw [e]; omega)) (by decide)
theorem sIx_m1 (n k : Nat) : HT.sIx n k (some (-1)) = n - 1 := by
  show (if (-1 : Int) < 0 then ((-1 : Int) + (n : Int)).toNat else min (-1 : Int).toNat n) = _
  rw [if_pos (by decide)]
  omega
theorem Bs.moreL {K : PySem.W.Frag} {b : Addr} {c : Addr × Addr} {ns : List Int × List Int} {H H1 : Hp} {D : Addr} {zs xs : List V} (x : Bs K b c ns (upd H D (.lst zs)) H1) (h : BoxS K b c ns H) (hD : H D = none) (n : b ≠ D) : Bs K b c ns H (upd H1 D (.lst xs)) := ((Bs.refl h).new (o := .lst zs) hD).trans x |>.more h hD n
theorem two_sorted {ns : List Int} {a b : Int} (h : ns.Perm [a, b]) (k : ns.Pairwise (· ≤ ·)) : ∃ x y, ns = [x, y] ∧ x ≤ y ∧ (x = a ∨ x = b) ∧ (y = a ∨ y = b) := by
  have hl := h.length_eq
  match ns, hl with
  | [x, y], _ =>
    have h1 := h.mem_iff.mp (List.mem_cons_self .. : x ∈ [x, y])
    have h2 := h.mem_iff.mp (List.mem_cons_of_mem _ (List.mem_cons_self ..) : y ∈ [x, y])
    refine ⟨x, y, rfl, ?_, by simpa using h1, by simpa using h2⟩
    exact (List.pairwise_cons.mp k).1 y (List.mem_cons_self ..)
theorem bls_noI (xs : List Bool) : NoI (xs.map V.bl) := by
  cases xs with
  | nil => exact len_noI (by decide)
  | cons x xs => exact fst_noI fun a h => by cases h
theorem TV.kind {K : PySem.W.Frag} {H : Hp} {n : Nat} {v : V} {t : Tr} (h : TV K H n v t) : ∃ p z xs, v = .ref p ∧ SqT K H p (.str z :: xs) := by
  cases n with
  | zero => exact h.2.elim
  | succ n =>
    obtain ⟨p, e, ho⟩ := h.open
    cases t with
    | leaf z ds =>
      obtain ⟨xs, hp, _⟩ := ho
      exact ⟨p, _, _, e, hp⟩
    | area a =>
      obtain ⟨xs, hp, _⟩ := ho
      exact ⟨p, _, _, e, hp⟩
    | one z d t =>
      obtain ⟨y, x, hp, _⟩ := ho
      exact ⟨p, _, _, e, hp⟩
    | two d a b =>
      obtain ⟨y, x1, x2, hp, _⟩ := ho
      exact ⟨p, _, _, e, hp⟩
    | call d cs =>
      obtain ⟨y, q, xs, hp, _⟩ := ho
      exact ⟨p, _, _, e, hp⟩
    | letk d cs t =>
      obtain ⟨y, q, xs, x, hp, _⟩ := ho
      exact ⟨p, _, _, e, hp⟩
    | app t cs =>
      obtain ⟨x, q, xs, hp, _⟩ := ho
      exact ⟨p, _, _, e, hp⟩
/-! ### the depth of a tree -/
mutual
def Tr.dep : Tr → Nat
  | .leaf _ _ => 1
  | .area _ => 1
  | .one _ _ t => t.dep + 1
  | .two _ x y => max x.dep y.dep + 1
  | .call _ cs => Tr.deps cs + 1
  | .letk _ cs t => max (Tr.deps cs) t.dep + 1
  | .app t cs => max t.dep (Tr.deps cs) + 1
def Tr.deps : List Tr → Nat
  | [] => 0
  | t :: ts => max t.dep (Tr.deps ts)
end
theorem deps_app : ∀ (xs ys : List Tr), Tr.deps (xs ++ ys) = max (Tr.deps xs) (Tr.deps ys)
  | [], ys => by rw [List.nil_append, show Tr.deps [] = 0 from rfl, Nat.zero_max]
  | t :: ts, ys => by rw [List.cons_append, Tr.deps, Tr.deps, deps_app ts ys, Nat.max_assoc]
theorem dep_kids (t : Tr) : t.dep = Tr.deps t.kids + 1 := by
  cases t <;> simp [Tr.dep, Tr.deps, Tr.kids, deps_app]
theorem deps_mem : ∀ {ts : List Tr} {t : Tr}, t ∈ ts → t.dep ≤ Tr.deps ts
  | u :: us, t, h => by
    rw [Tr.deps]
    rcases List.mem_cons.mp h with rfl | h
    · omega
    · have := deps_mem h
      omega
theorem deps_le : ∀ {ts : List Tr} {n : Nat}, (∀ t ∈ ts, t.dep ≤ n) → Tr.deps ts ≤ n
  | [], _, _ => Nat.zero_le _
  | u :: us, n, h => by
    rw [Tr.deps]
    have h1 := h u (List.mem_cons_self ..)
    have h2 := deps_le fun t ht => h t (List.mem_cons_of_mem _ ht)
    omega
theorem dep_pos (t : Tr) : 1 ≤ t.dep := by
  rw [dep_kids]
  omega
theorem Tr.fit.of_dep : ∀ {n m : Nat} {t : Tr}, t.fit n → t.dep ≤ m → t.fit m
  | 0, _, _, h, _ => h.elim
  | _ + 1, 0, t, _, e => absurd e (by have := dep_pos t; omega)
  | n + 1, m + 1, .leaf z ds, h, e => h
  | n + 1, m + 1, .area a, h, e => h
  | n + 1, m + 1, .one z p t, h, e => ⟨h.1, h.2.1, h.2.2.of_dep (by rw [Tr.dep] at e; omega)⟩
  | n + 1, m + 1, .two p x y, h, e => ⟨h.1, h.2.1.of_dep (by rw [Tr.dep] at e; omega), h.2.2.of_dep (by rw [Tr.dep] at e; omega)⟩
  | n + 1, m + 1, .call p cs, h, e => ⟨h.1, h.2.1, fun c hc => (h.2.2 c hc).of_dep (by have := deps_mem hc; rw [Tr.dep] at e; omega)⟩
  | n + 1, m + 1, .letk p cs t, h, e => ⟨h.1, h.2.1, fun c hc => (h.2.2.1 c hc).of_dep (by have := deps_mem hc; rw [Tr.dep] at e; omega), h.2.2.2.of_dep (by rw [Tr.dep] at e; omega)⟩
  | n + 1, m + 1, .app t cs, h, e => ⟨h.1.of_dep (by rw [Tr.dep] at e; omega), h.2.1, fun c hc => (h.2.2 c hc).of_dep (by have := deps_mem hc; rw [Tr.dep] at e; omega)⟩
theorem Tr.fit.dep : ∀ {n : Nat} {t : Tr}, t.fit n → t.dep ≤ n
  | 0, _, h => h.elim
  | n + 1, .leaf z ds, h => by rw [Tr.dep]; omega
  | n + 1, .area a, h => by rw [Tr.dep]; omega
  | n + 1, .one z p t, h => by have := h.2.2.dep; rw [Tr.dep]; omega
  | n + 1, .two p x y, h => by have := h.2.1.dep; have := h.2.2.dep; rw [Tr.dep]; omega
  | n + 1, .call p cs, h => by have := deps_le fun c hc => (h.2.2 c hc).dep; rw [Tr.dep]; omega
  | n + 1, .letk p cs t, h => by have := deps_le fun c hc => (h.2.2.1 c hc).dep; have := h.2.2.2.dep; rw [Tr.dep]; omega
  | n + 1, .app t cs, h => by have := deps_le fun c hc => (h.2.2 c hc).dep; have := h.1.dep; rw [Tr.dep]; omega
theorem szs_bound {k : Nat} : ∀ {ts : List Tr}, (∀ t ∈ ts, t.sz ≤ k) → Tr.szs ts ≤ k * ts.length
  | [], _ => Nat.zero_le _
  | t :: ts, h => by
    rw [Tr.szs, List.length_cons, Nat.mul_succ]
    have h1 := h t (List.mem_cons_self ..)
    have h2 := szs_bound fun u hu => h u (List.mem_cons_of_mem _ hu)
    omega
theorem max_deps (ts : List Tr) {m : Int} (h : m ∈ (0 : Int) :: ts.map fun t => (t.dep : Int)) (k : ∀ y, y ∈ (0 : Int) :: ts.map (fun t => (t.dep : Int)) → y ≤ m) : m = (Tr.deps ts : Int) := by
  have h0 : 0 ≤ m := k 0 (List.mem_cons_self ..)
  have h1 : Tr.deps ts ≤ m.toNat := deps_le fun t ht => by
    have := k t.dep (List.mem_cons_of_mem _ (List.mem_map.mpr ⟨t, ht, rfl⟩))
    omega
  rcases List.mem_cons.mp h with rfl | h
  · omega
  · obtain ⟨t, ht, rfl⟩ := List.mem_map.mp h
    have := deps_mem ht
    omega
theorem sum_szs : ∀ ts : List Tr, (ts.map fun t => (t.sz : Int)).sum = (Tr.szs ts : Int)
  | [] => rfl
  | t :: ts => by
    rw [List.map_cons, List.sum_cons, sum_szs ts, Tr.szs]
    omega
/-- a size told as a pair -/
def SzE (K : PySem.W.Frag) (H : Hp) (x : V) (t : Tr) : Prop := ∃ p, x = .ref p ∧ SqT K H p [.int (t.sz : Int), .int (t.dep : Int)]
theorem SzE.keep {K : PySem.W.Frag} {H H' : Hp} {x : V} {t : Tr} (h : SzE K H x t) (e : TK K H H') : SzE K H' x t := by
  obtain ⟨p, h1, h2⟩ := h
  exact ⟨p, h1, e _ _ h2⟩
theorem szl_keep {K : PySem.W.Frag} {H H' : Hp} {ys : List V} {ts : List Tr} (h : A2 (SzE K H) ys ts) (e : TK K H H') : A2 (SzE K H') ys ts := h.imp fun _ _ q => q.keep e
/-! ### trees with a word on their areas -/
def AR (m : Int) (t : Tr) : Prop := ∀ a ∈ t.refs, MD m a
def TD (K : PySem.W.Frag) (m : Int) (H : Hp) (n : Nat) (v : V) (t : Tr) : Prop := TV K H n v t ∧ AR m t
def TDs (K : PySem.W.Frag) (m : Int) (H : Hp) (n : Nat) (vs : List V) (ts : List Tr) : Prop := TVs K H n vs ts ∧ ∀ t ∈ ts, AR m t
section
variable {K : PySem.W.Frag} {m : Int} {H H' : Hp} {n k : Nat} {v x x1 x2 y : V} {vs ws xs : List V} {t u : Tr} {ts us cs : List Tr} {p q : Addr} {z : Str} {d : PyData}
theorem mem_refss : ∀ {ts : List Tr} {a : Ar}, a ∈ Tr.refss ts → ∃ t ∈ ts, a ∈ t.refs
  | u :: us, a, h => by
    rw [Tr.refss] at h
    rcases List.mem_append.mp h with h | h
    · exact ⟨u, List.mem_cons_self .., h⟩
    · obtain ⟨t, h1, h2⟩ := mem_refss h
      exact ⟨t, List.mem_cons_of_mem _ h1, h2⟩
theorem ARs.refss (h : ∀ t ∈ ts, AR m t) : ∀ a ∈ Tr.refss ts, MD m a := fun a ha => by
  obtain ⟨t, h1, h2⟩ := mem_refss ha
  exact h t h1 a h2
theorem AR.leaf {ds : List PyData} : AR m (.leaf z ds) := fun a h => absurd h List.not_mem_nil
theorem AR.emp : AR m EMP := AR.leaf
theorem AR.area {a : Ar} (h : MD m a) : AR m (.area a) := fun b hb => by rw [List.mem_singleton.mp hb]; exact h
theorem AR.one (h : AR m t) : AR m (.one z d t) := h
theorem AR.two (h : AR m t) (g : AR m u) : AR m (.two d t u) := fun a ha => (List.mem_append.mp ha).elim (h a) (g a)
theorem AR.call (h : ∀ t ∈ cs, AR m t) : AR m (.call d cs) := ARs.refss h
theorem AR.letk (h : ∀ t ∈ cs, AR m t) (g : AR m t) : AR m (.letk d cs t) := fun a ha => (List.mem_append.mp ha).elim (ARs.refss h a) (g a)
theorem AR.app (g : AR m t) (h : ∀ t ∈ cs, AR m t) : AR m (.app t cs) := fun a ha => (List.mem_append.mp ha).elim (g a) (ARs.refss h a)
theorem TD.keep (h : TD K m H n v t) (e : TK K H H') : TD K m H' n v t := ⟨h.1.keep e, h.2⟩
theorem TD.mono {n' : Nat} (h : TD K m H n v t) (e : n ≤ n') : TD K m H n' v t := ⟨h.1.mono e, h.2⟩
theorem TDs.keep (h : TDs K m H n vs ts) (e : TK K H H') : TDs K m H' n vs ts := ⟨h.1.keep e, h.2⟩
theorem TDs.mono {n' : Nat} (h : TDs K m H n vs ts) (e : n ≤ n') : TDs K m H n' vs ts := ⟨h.1.mono e, h.2⟩
theorem TDs.len (h : TDs K m H n vs ts) : vs.length = ts.length := h.1.len
theorem TDs.at (h : TDs K m H n vs ts) {i : Nat} (e : vs[i]? = some v) : ∃ t, ts[i]? = some t ∧ TD K m H n v t := by
  obtain ⟨t, h1, h2⟩ := h.1.at e
  exact ⟨t, h1, h2, h.2 t (List.mem_of_getElem? h1)⟩
theorem TDs.nil : TDs K m H n [] [] := ⟨.nil, fun t h => absurd h List.not_mem_nil⟩
theorem TDs.one (h : TD K m H n v t) : TDs K m H n [v] [t] := ⟨.one h.1, fun u hu => by rw [List.mem_singleton.mp hu]; exact h.2⟩
theorem TDs.app (h : TDs K m H n vs ts) (g : TDs K m H n ws us) : TDs K m H n (vs ++ ws) (ts ++ us) := ⟨h.1.app g.1, fun t ht => (List.mem_append.mp ht).elim (h.2 t) (g.2 t)⟩
theorem TDs.snoc (h : TDs K m H n vs ts) (g : TD K m H n v t) : TDs K m H n (vs ++ [v]) (ts ++ [t]) := h.app (.one g)
theorem TDs.cons (g : TD K m H n v t) (h : TDs K m H n vs ts) : TDs K m H n (v :: vs) (t :: ts) := (TDs.one g).app h
theorem TDs.take (h : TDs K m H n vs ts) (k : Nat) : TDs K m H n (vs.take k) (ts.take k) := ⟨h.1.take k, fun t ht => h.2 t (List.mem_of_mem_take ht)⟩
theorem TDs.drop (h : TDs K m H n vs ts) (k : Nat) : TDs K m H n (vs.drop k) (ts.drop k) := ⟨h.1.drop k, fun t ht => h.2 t (List.mem_of_mem_drop ht)⟩
theorem TDs.noI (h : TDs K m H n vs ts) : NoI vs := h.1.noI
theorem TDs.cut1 (h : TDs K m H n vs ts) (hl : 1 ≤ ts.length) : ∃ v vs' t ts', vs = v :: vs' ∧ ts = t :: ts' ∧ TD K m H n v t ∧ TDs K m H n vs' ts' := by
  obtain ⟨v, vs', t, ts', rfl, rfl, a, b⟩ := h.1.cut1 hl
  exact ⟨v, vs', t, ts', rfl, rfl, ⟨a, h.2 t (List.mem_cons_self ..)⟩, b, fun u hu => h.2 u (List.mem_cons_of_mem _ hu)⟩
theorem TDs.last (h : TDs K m H n vs ts) (hl : 1 ≤ ts.length) : ∃ ys0 y us0 u, vs = ys0 ++ [y] ∧ ts = us0 ++ [u] ∧ TDs K m H n ys0 us0 ∧ TD K m H n y u := by
  obtain ⟨ys0, y, us0, u, rfl, rfl, a, b⟩ := h.1.last hl
  exact ⟨ys0, y, us0, u, rfl, rfl, ⟨a, fun t ht => h.2 t (List.mem_append.mpr (.inl ht))⟩, b, h.2 u (List.mem_append.mpr (.inr (List.mem_singleton.mpr rfl)))⟩
theorem TD.ref (h : TD K m H n v t) : ∃ p, v = .ref p := h.1.ref
theorem td_emp (n : Nat) (h : SqT K H p [.str "empty"]) : TD K m H (n + 1) (.ref p) EMP := ⟨tv_emp n h, AR.emp⟩
theorem TD.mk_one (hp : SqT K H p [.str z, y, x]) (hz : z = "sign" ∨ z = "lambda") (hy : Dp K H y d) (fd : FitD 4 d) (hx : TD K m H n x t) : TD K m H (n + 1) (.ref p) (.one z d t) := ⟨TV.mk_one hp hz hy fd hx.1, hx.2⟩
theorem TD.mk_two (hp : SqT K H p [.str "binary", y, x1, x2]) (hy : Dp K H y d) (fd : FitD 4 d) (h1 : TD K m H n x1 t) (h2 : TD K m H n x2 u) : TD K m H (n + 1) (.ref p) (.two d t u) := ⟨TV.mk_two hp hy fd h1.1 h2.1, AR.two h1.2 h2.2⟩
theorem TD.mk_call (hp : SqT K H p [.str "call", y, .ref q]) (hy : Dp K H y d) (fd : FitD 4 d) (hq : SqT K H q xs) (hx : TDs K m H n xs cs) (hl : cs.length ≤ 16) : TD K m H (n + 1) (.ref p) (.call d cs) := ⟨TV.mk_call hp hy fd hq hx.1 hl, AR.call hx.2⟩
theorem TD.mk_let (hp : SqT K H p [.str "let", y, .ref q, x]) (hy : Dp K H y d) (fd : FitD 4 d) (hq : SqT K H q xs) (hx : TDs K m H n xs cs) (hl : cs.length ≤ 16) (ht : TD K m H n x t) : TD K m H (n + 1) (.ref p) (.letk d cs t) := ⟨TV.mk_let hp hy fd hq hx.1 hl ht.1, AR.letk hx.2 ht.2⟩
theorem TD.mk_app (hp : SqT K H p [.str "apply", x, .ref q]) (ht : TD K m H n x t) (hq : SqT K H q xs) (hx : TDs K m H n xs cs) (hl : cs.length ≤ 16) : TD K m H (n + 1) (.ref p) (.app t cs) := ⟨TV.mk_app hp ht.1 hq hx.1 hl, AR.app ht.2 hx.2⟩
theorem td_leaf {ds : List PyData} (h : TV K H n v (.leaf z ds)) : TD K m H n v (.leaf z ds) := ⟨h, AR.leaf⟩
end
/-! ### the plan of a drawing -/
/-- a span [low, how many, marks] -/
def SpanL (K : PySem.W.Frag) (H : Hp) (e : Addr) (z m : Int) : Prop := ∃ (e2 : Addr) (xs : List Int), H e = some (.lst [.int z, .int m, .ref e2]) ∧ H e2 = some (.lst (xs.map V.int)) ∧ xs.length ≤ 100
def WdE (K : PySem.W.Frag) (H : Hp) (x : V) (w : Str × Int × Int) : Prop := ∃ p, x = .ref p ∧ SqT K H p [.str w.1, .int w.2.1, .int w.2.2]
def WdL (K : PySem.W.Frag) (H : Hp) (l : Addr) : Prop := ∃ xs, H l = some (.lst xs) ∧ A2 (WdE K H) xs WORDS
structure Pl where
  z0 : Int
  m0 : Int
  z1 : Int
  m1 : Int
  ks : List (Option Int)
  md : Int
def Pl.ok (p : Pl) : Prop := (0 ≤ p.z0 ∧ 1 ≤ p.m0 ∧ p.z0 + p.m0 ≤ 20) ∧ (0 ≤ p.z1 ∧ 1 ≤ p.m1 ∧ p.z1 + p.m1 ≤ 10) ∧ (1 ≤ p.ks.length ∧ p.ks.length ≤ 50)
structure PlL (K : PySem.W.Frag) (H : Hp) (e : Addr) (p : Pl) : Prop where
  ok : p.ok
  at_ : ∃ e0 e1 e2 e3, H e = some (.lst [.ref e0, .ref e1, .ref e2, .ref e3, .int p.md]) ∧ SpanL K H e0 p.z0 p.m0 ∧ SpanL K H e1 p.z1 p.m1 ∧ H e2 = some (.lst (p.ks.map shV)) ∧ WdL K H e3
section
variable {K : PySem.W.Frag} {b : Addr} {c : Addr × Addr} {ns : List Int × List Int} {H H1 : Hp} {e : Addr} {z m : Int} {p : Pl}
theorem ints_noI (xs : List Int) : NoI (xs.map V.int) := by
  cases xs with
  | nil => exact len_noI (by decide)
  | cons x xs => exact fst_noI fun a h => by cases h
theorem shs_noI (xs : List (Option Int)) : NoI (xs.map shV) := by
  cases xs with
  | nil => exact len_noI (by decide)
  | cons x xs => exact fst_noI fun a h => by cases x <;> cases h
theorem SpanL.keep (h : SpanL K H e z m) (bx : BoxS K b c ns H) (x : Bs K b c ns H H1) : SpanL K H1 e z m := by
  obtain ⟨e2, xs, h1, h2, h3⟩ := h
  exact ⟨e2, xs, x.lst bx h1 (len_noI (by show 3 ≠ 7; decide)), x.lst bx h2 (ints_noI xs), h3⟩
theorem WdL.keep (h : WdL K H e) (bx : BoxS K b c ns H) (x : Bs K b c ns H H1) : WdL K H1 e := by
  obtain ⟨xs, h1, h2⟩ := h
  refine ⟨xs, x.lst bx h1 (fun c i1 i2 i3 i4 i5 q => ?_), h2.imp fun v w hv => ?_⟩
  · have q1 : xs[1]? = some (.int i1) := by rw [q]; rfl
    obtain ⟨w, _, a, q2, _⟩ := A2.get h2 q1
    cases q2
  · obtain ⟨a, q1, q2⟩ := hv
    exact ⟨a, q1, x.tk bx _ _ q2⟩
theorem PlL.keep (h : PlL K H e p) (bx : BoxS K b c ns H) (x : Bs K b c ns H H1) : PlL K H1 e p := by
  obtain ⟨ok, e0, e1, e2, e3, h0, h1, h2, h3, h4⟩ := h
  exact ⟨ok, e0, e1, e2, e3, x.lst bx h0 (len_noI (by show 5 ≠ 7; decide)), h1.keep bx x, h2.keep bx x, x.lst bx h3 (shs_noI _), h4.keep bx x⟩
theorem SpanL.same (h : SpanL K H e z m) (s : Same H H1) : SpanL K H1 e z m := by
  obtain ⟨e2, xs, h1, h2, h3⟩ := h
  exact ⟨e2, xs, s _ _ h1, s _ _ h2, h3⟩
theorem WdL.same (h : WdL K H e) (s : Same H H1) : WdL K H1 e := by
  obtain ⟨xs, h1, h2⟩ := h
  refine ⟨xs, s _ _ h1, h2.imp fun v w hv => ?_⟩
  obtain ⟨a, q1, q2⟩ := hv
  exact ⟨a, q1, same_tk s _ _ q2⟩
theorem PlL.same (h : PlL K H e p) (s : Same H H1) : PlL K H1 e p := by
  obtain ⟨ok, e0, e1, e2, e3, h0, h1, h2, h3, h4⟩ := h
  exact ⟨ok, e0, e1, e2, e3, s _ _ h0, h1.same s, h2.same s, s _ _ h3, h4.same s⟩
theorem A2.len {α : Type} {R : V → α → Prop} {xs : List V} {ys : List α} (h : A2 R xs ys) : xs.length = ys.length := h.1
end

theorem sig_up : SIG.cps.toList.all (fun c => decide (c ≤ 95)) = true := by decide +kernel
theorem up_sig {n : Int} {c : Nat} (e : atI SIG.cps.toList n = some c) : upS ⟨#[c]⟩ := by
  have hm : c ∈ SIG.cps.toList := by
    obtain ⟨j, _, e2⟩ := Option.bind_eq_some_iff.mp e
    exact List.mem_of_getElem? e2
  exact ⟨c, [], rfl, of_decide_eq_true (List.all_eq_true.mp sig_up c hm)⟩
theorem up_Z (y : Str) : upS ("Z" ++ y) := upS.app ⟨90, [], by decide +kernel, by decide⟩ y

theorem ok_cell {sh : Option Int} {r c : Int} {x y : Bool} (h : 0 ≤ r ∧ r ≤ 19) (k : 0 ≤ c ∧ c ≤ 9) : Ar.ok ⟨"cell", sh, [r, c], [x, y]⟩ := ⟨.inl ⟨rfl, rfl, rfl⟩, fun s e => by cases e; exact ⟨h.1, Int.le_refl _, Int.lt_of_le_of_lt h.2 (by decide)⟩, fun s e => by cases e; exact ⟨k.1, Int.le_refl _, Int.lt_of_le_of_lt k.2 (by decide)⟩⟩
theorem ok_range {sh : Option Int} {t l b r : Int} {x y z u : Bool} (h : 0 ≤ t ∧ t ≤ b ∧ b ≤ 19) (k : 0 ≤ l ∧ l ≤ r ∧ r ≤ 9) : Ar.ok ⟨"range", sh, [t, l, b, r], [x, y, z, u]⟩ := ⟨.inr (.inl ⟨rfl, rfl, rfl⟩), fun s e => by cases e; exact ⟨h.1, h.2.1, Int.lt_of_le_of_lt h.2.2 (by decide)⟩, fun s e => by cases e; exact ⟨k.1, k.2.1, Int.lt_of_le_of_lt k.2.2 (by decide)⟩⟩
theorem ok_rows {sh : Option Int} {t b : Int} {x z : Bool} (h : 0 ≤ t ∧ t ≤ b ∧ b ≤ 19) : Ar.ok ⟨"rows", sh, [t, b], [x, z]⟩ := ⟨.inr (.inr (.inl ⟨rfl, rfl, rfl⟩)), fun s e => by cases e; exact ⟨h.1, h.2.1, Int.lt_of_le_of_lt h.2.2 (by decide)⟩, nofun⟩
theorem ok_cols {sh : Option Int} {l r : Int} {y u : Bool} (k : 0 ≤ l ∧ l ≤ r ∧ r ≤ 9) : Ar.ok ⟨"columns", sh, [l, r], [y, u]⟩ := ⟨.inr (.inr (.inr ⟨rfl, rfl, rfl⟩)), nofun, fun s e => by cases e; exact ⟨k.1, k.2.1, Int.lt_of_le_of_lt k.2.2 (by decide)⟩⟩
def keyO (own sh : Option Int) : Option Int := match sh with
  | some i => some i
  | none => own
def LOSTt : Tr := .leaf "error" [.str "REF"]
theorem Ar.ok.cases {a : Ar} (h : a.ok) : (∃ sh r c x y, a = ⟨"cell", sh, [r, c], [x, y]⟩) ∨ (∃ sh t l b r x y z u, a = ⟨"range", sh, [t, l, b, r], [x, y, z, u]⟩) ∨ (∃ sh t b x y, a = ⟨"rows", sh, [t, b], [x, y]⟩) ∨ (∃ sh l r x y, a = ⟨"columns", sh, [l, r], [x, y]⟩) := by
  obtain ⟨k, sh, ns, ms⟩ := a
  have two : ∀ {α : Type} {xs : List α}, xs.length = 2 → ∃ x y, xs = [x, y] := fun {α xs} h => by
    match xs, h with
    | [x, y], _ => exact ⟨x, y, rfl⟩
  have four : ∀ {α : Type} {xs : List α}, xs.length = 4 → ∃ x y z u, xs = [x, y, z, u] := fun {α xs} h => by
    match xs, h with
    | [x, y, z, u], _ => exact ⟨x, y, z, u, rfl⟩
  rcases h.1 with ⟨h1, h2, h3⟩ | ⟨h1, h2, h3⟩ | ⟨h1, h2, h3⟩ | ⟨h1, h2, h3⟩
  · obtain ⟨r, c, e⟩ := two h2
    obtain ⟨x, y, f⟩ := two h3
    exact Or.inl ⟨sh, r, c, x, y, by rw [show k = _ from h1, show ns = _ from e, show ms = _ from f]⟩
  · obtain ⟨t, l, b, r, e⟩ := four h2
    obtain ⟨x, y, z, u, f⟩ := four h3
    exact Or.inr (Or.inl ⟨sh, t, l, b, r, x, y, z, u, by rw [show k = _ from h1, show ns = _ from e, show ms = _ from f]⟩)
  · obtain ⟨r, c, e⟩ := two h2
    obtain ⟨x, y, f⟩ := two h3
    exact Or.inr (Or.inr (Or.inl ⟨sh, r, c, x, y, by rw [show k = _ from h1, show ns = _ from e, show ms = _ from f]⟩))
  · obtain ⟨r, c, e⟩ := two h2
    obtain ⟨x, y, f⟩ := two h3
    exact Or.inr (Or.inr (Or.inr ⟨sh, r, c, x, y, by rw [show k = _ from h1, show ns = _ from e, show ms = _ from f]⟩))
def SpanV (K : PySem.W.Frag) (H : Hp) (r : V) : Option (List V) → Prop
  | none => r = .non
  | some xs => ∃ p, r = .ref p ∧ SqT K H p xs
def rowS (a : Ar) : Option (List V) :=
  if a.k = "cell" then (match a.ns, a.ms with
    | [r, c], [x, y] => some [.int r, .int r, .bl x, .bl x]
    | _, _ => none)
  else if a.k = "range" then (match a.ns, a.ms with
    | [t, l, b, r], [x, y, z, u] => some [.int t, .int b, .bl x, .bl z]
    | _, _ => none)
  else if a.k = "rows" then (match a.ns, a.ms with
    | [t, b], [x, y] => some [.int t, .int b, .bl x, .bl y]
    | _, _ => none)
  else none
def colS (a : Ar) : Option (List V) :=
  if a.k = "cell" then (match a.ns, a.ms with
    | [r, c], [x, y] => some [.int c, .int c, .bl y, .bl y]
    | _, _ => none)
  else if a.k = "range" then (match a.ns, a.ms with
    | [t, l, b, r], [x, y, z, u] => some [.int l, .int r, .bl y, .bl u]
    | _, _ => none)
  else if a.k = "columns" then (match a.ns, a.ms with
    | [l, r], [x, y] => some [.int l, .int r, .bl x, .bl y]
    | _, _ => none)
  else none
theorem kN1 : ¬ ("range" : Str) = "cell" := by decide +kernel
theorem kN2 : ¬ ("rows" : Str) = "cell" := by decide +kernel
theorem kN3 : ¬ ("rows" : Str) = "range" := by decide +kernel
theorem kN4 : ¬ ("columns" : Str) = "cell" := by decide +kernel
theorem kN5 : ¬ ("columns" : Str) = "range" := by decide +kernel
theorem kN6 : ¬ ("columns" : Str) = "rows" := by decide +kernel
theorem kN8 : ¬ ("columns" : Str) = "rows" := by decide +kernel
theorem kN7 : ¬ ("rows" : Str) = "columns" := by decide +kernel
theorem rowS_cell (sh : Option Int) (r c : Int) (x y : Bool) : rowS ⟨"cell", sh, [r, c], [x, y]⟩ = some [.int r, .int r, .bl x, .bl x] := if_pos rfl
theorem rowS_range (sh : Option Int) (t l b r : Int) (x y z u : Bool) : rowS ⟨"range", sh, [t, l, b, r], [x, y, z, u]⟩ = some [.int t, .int b, .bl x, .bl z] := (if_neg kN1).trans (if_pos rfl)
theorem rowS_rows (sh : Option Int) (t b : Int) (x y : Bool) : rowS ⟨"rows", sh, [t, b], [x, y]⟩ = some [.int t, .int b, .bl x, .bl y] := ((if_neg kN2).trans (if_neg kN3)).trans (if_pos rfl)
theorem rowS_columns (sh : Option Int) (t b : Int) (x y : Bool) : rowS ⟨"columns", sh, [t, b], [x, y]⟩ = none := ((if_neg kN4).trans (if_neg kN5)).trans (if_neg kN6)
theorem colS_cell (sh : Option Int) (r c : Int) (x y : Bool) : colS ⟨"cell", sh, [r, c], [x, y]⟩ = some [.int c, .int c, .bl y, .bl y] := if_pos rfl
theorem colS_range (sh : Option Int) (t l b r : Int) (x y z u : Bool) : colS ⟨"range", sh, [t, l, b, r], [x, y, z, u]⟩ = some [.int l, .int r, .bl y, .bl u] := (if_neg kN1).trans (if_pos rfl)
theorem colS_rows (sh : Option Int) (t b : Int) (x y : Bool) : colS ⟨"rows", sh, [t, b], [x, y]⟩ = none := ((if_neg kN2).trans (if_neg kN3)).trans (if_neg kN7)
theorem colS_columns (sh : Option Int) (t b : Int) (x y : Bool) : colS ⟨"columns", sh, [t, b], [x, y]⟩ = some [.int t, .int b, .bl x, .bl y] := ((if_neg kN4).trans (if_neg kN5)).trans (if_pos rfl)
def arV (a : Ar) : List V := .str a.k :: shV a.sh :: (a.ns.map V.int ++ a.ms.map V.bl)
theorem dpAll_vs {K : PySem.W.Frag} {H : Hp} : ∀ {ns : List Int} {xs : List V} {ms : List Bool}, DpAll K H xs (ns.map PyData.int ++ ms.map PyData.bool) → xs = ns.map V.int ++ ms.map V.bl
  | [], xs, [], h => by
    cases h
    rfl
  | [], _, m :: ms, h => by
    cases h with
    | cons a b =>
      cases a
      rw [dpAll_vs (ns := []) (ms := ms) b]
      rfl
  | n :: ns, _, ms, h => by
    cases h with
    | cons a b =>
      cases a
      rw [dpAll_vs (ns := ns) (ms := ms) b]
      rfl
theorem arV_len (a : Ar) (h : a.ok) : (arV a).length ≤ 10 := by
  have := h.len
  simp only [arV, List.length_cons, List.length_append, List.length_map]
  omega
/-- an area's value, told whole -/
theorem TV.ar {K : PySem.W.Frag} {H : Hp} {n : Nat} {v : V} {a : Ar} (h : TV K H (n + 1) v (.area a)) : ∃ p, v = .ref p ∧ SqT K H p (arV a) ∧ a.ok := by
  obtain ⟨p, rfl, xs, hp, hx, ok⟩ := h.open
  refine ⟨p, rfl, ?_, ok⟩
  have e := dpAll_vs hx
  subst e
  exact hp
theorem lostTV {K : PySem.W.Frag} {H : Hp} {p : Addr} (h : SqT K H p [.str "error", .str "REF"]) : TV K H 1 (.ref p) LOSTt := TV.mk_leaf h (by decide +kernel) (.cons (.str _) .nil) (by show 1 ≤ 4000; decide) (fun e he => by rw [List.mem_singleton.mp he]; exact fitD_str _ _)
/-- the area that is meant -/
def arO (own : Option Int) (a : Ar) : List V :=
  if a.k = "cell" then (match a.ns with
    | [r, c] => [shV (keyO own a.sh), .int r, .int c, .int r, .int c]
    | _ => [])
  else if a.k = "range" then (match a.ns with
    | [t, l, b, r] => [shV (keyO own a.sh), .int t, .int l, .int b, .int r]
    | _ => [])
  else if a.k = "rows" then (match a.ns with
    | [t, b] => [shV (keyO own a.sh), .int t, .int 0, .int b, .int 9]
    | _ => [])
  else (match a.ns with
    | [l, r] => [shV (keyO own a.sh), .int 0, .int l, .int 19, .int r]
    | _ => [])
theorem arO_cell (own sh : Option Int) (r c : Int) (ms : List Bool) : arO own ⟨"cell", sh, [r, c], ms⟩ = [shV (keyO own sh), .int r, .int c, .int r, .int c] := if_pos rfl
theorem arO_range (own sh : Option Int) (t l b r : Int) (ms : List Bool) : arO own ⟨"range", sh, [t, l, b, r], ms⟩ = [shV (keyO own sh), .int t, .int l, .int b, .int r] := (if_neg (show ¬ ("range" : Str) = "cell" by decide +kernel)).trans (if_pos rfl)
theorem arO_rows (own sh : Option Int) (t b : Int) (ms : List Bool) : arO own ⟨"rows", sh, [t, b], ms⟩ = [shV (keyO own sh), .int t, .int 0, .int b, .int 9] := ((if_neg (show ¬ ("rows" : Str) = "cell" by decide +kernel)).trans (if_neg (show ¬ ("rows" : Str) = "range" by decide +kernel))).trans (if_pos rfl)
theorem arO_columns (own sh : Option Int) (l r : Int) (ms : List Bool) : arO own ⟨"columns", sh, [l, r], ms⟩ = [shV (keyO own sh), .int 0, .int l, .int 19, .int r] := ((if_neg (show ¬ ("columns" : Str) = "cell" by decide +kernel)).trans (if_neg (show ¬ ("columns" : Str) = "range" by decide +kernel))).trans (if_neg (show ¬ ("columns" : Str) = "rows" by decide +kernel))

theorem scal_sh (a : Option Int) (i : Int) : scal (shV a) (.int i) = true := by cases a <;> rfl
theorem scal_shsh (a b : Option Int) : scal (shV a) (shV b) = true := by cases a <;> cases b <;> rfl
theorem dec_sh (a : Option Int) (i : Int) : shV a = V.int i ↔ a = some i := by
  cases a with
  | none => exact ⟨fun h => (nomatch h), fun h => (nomatch h)⟩
  | some j => exact ⟨(fun h => by cases h; rfl), (fun h => by cases h; rfl)⟩
theorem dec_shsh (a b : Option Int) : shV a = shV b ↔ a = b := by
  cases a with
  | none =>
    cases b with
    | none => exact ⟨fun _ => rfl, fun _ => rfl⟩
    | some j => exact ⟨fun h => (nomatch h), fun h => (nomatch h)⟩
  | some i =>
    cases b with
    | none => exact ⟨fun h => (nomatch h), fun h => (nomatch h)⟩
    | some j => exact ⟨(fun h => by cases h; rfl), (fun h => by cases h; rfl)⟩
theorem dec_non (a : Option Int) : shV a = V.non ↔ a = none := by
  cases a with
  | none => exact ⟨fun _ => rfl, fun _ => rfl⟩
  | some j => exact ⟨fun h => (nomatch h), fun h => (nomatch h)⟩
theorem dp_flat {K : PySem.W.Frag} : ∀ xs : List V, (∀ x ∈ xs, (∃ i, x = .int i) ∨ x = .non) → ∃ ds, (∀ H, DpAll K H xs ds) ∧ ds.length = xs.length ∧ ∀ e ∈ ds, FitW 1 e
  | [], _ => ⟨[], fun _ => .nil, rfl, fun e he => absurd he List.not_mem_nil⟩
  | x :: xs, h => by
    obtain ⟨ds, h1, h2, h3⟩ := dp_flat xs fun y hy => h y (List.mem_cons_of_mem _ hy)
    rcases h x (List.mem_cons_self ..) with ⟨i, rfl⟩ | rfl
    · refine ⟨.int i :: ds, fun H => .cons (.int i) (h1 H), by rw [List.length_cons, h2, List.length_cons], fun e he => ?_⟩
      rcases List.mem_cons.mp he with rfl | he
      · exact fitW_int _ _
      · exact h3 e he
    · refine ⟨.none :: ds, fun H => .cons .non (h1 H), by rw [List.length_cons, h2, List.length_cons], fun e he => ?_⟩
      rcases List.mem_cons.mp he with rfl | he
      · exact fitW_non _
      · exact h3 e he
theorem arO_flat (own : Option Int) (a : Ar) (ok : a.ok) : (arO own a).length ≤ 10 ∧ ∀ x ∈ arO own a, (∃ i, x = .int i) ∨ x = .non := by
  have hs : ∀ o : Option Int, (∃ i, shV o = .int i) ∨ shV o = .non := fun o => by
    cases o with
    | none => exact Or.inr rfl
    | some i => exact Or.inl ⟨i, rfl⟩
  rcases ok.cases with ⟨sh, r, c, x, y, rfl⟩ | ⟨sh, t, l, b, r, x, y, z, u, rfl⟩ | ⟨sh, t, b, x, y, rfl⟩ | ⟨sh, l, r, x, y, rfl⟩
  all_goals simp only [arO_cell, arO_range, arO_rows, arO_columns]
  all_goals refine ⟨by simp only [List.length_cons, List.length_nil]; omega, fun v hv => ?_⟩
  all_goals simp only [List.mem_cons, List.not_mem_nil, or_false] at hv
  all_goals rcases hv with rfl | rfl | rfl | rfl | rfl
  all_goals first
    | exact hs _
    | exact Or.inl ⟨_, rfl⟩
theorem lkA {K : PySem.W.Frag} {H : Hp} {p p' : Addr} {own : Option Int} {a : Ar} (ok : a.ok) (h1 : SqT K H p (arO own a)) (h2 : SqT K H p' (arO own a)) : Lk K 41 H (.ref p) (.ref p') := by
  obtain ⟨hl, hf⟩ := arO_flat own a ok
  obtain ⟨ds, d1, d2, d3⟩ := dp_flat (K := K) (arO own a) hf
  exact ⟨.tuple ds, .tup h1 (d1 H), .tup h2 (d1 H), fitW_tup (by omega) fun e he => (d3 e he).mono (by decide)⟩
theorem lk41 {K : PySem.W.Frag} {H : Hp} {x y : V} (h : Lk K 37 H x y) : Lk K 41 H x y := by
  obtain ⟨d, a, b, f⟩ := h
  exact ⟨d, a, b, f.mono (by decide)⟩
theorem ret_tk {K : PySem.W.Frag} {cl : List (Str × Addr)} {H H' : Hp} (hn : ∀ b, InC cl b → H' b = none) : TK K H' (ret cl H H') := fun p xs h => by
  have no : ∀ u, H' p = some u → ret cl H H' p = some u := fun u e => by
    by_cases hi : InC cl p
    · rw [hn p hi] at e
      cases e
    · rw [ret_out hi]
      exact e
  rcases h with (h | ⟨o, h⟩) | h
  · exact .inl (.inl (no _ h))
  · exact .inl (.inr ⟨o, no _ h⟩)
  · exact .inr h
theorem unt_tk {K : PySem.W.Frag} {cl : List (Str × Addr)} {fr : List Str} {ws : List (Option V)} {H : Hp} (t : Told cl fr ws H) : TK K H (unt cl H) := fun p xs h => by
  rcases h with (h | ⟨o, h⟩) | h
  · exact .inl (.inl (unt_keep t h fun φ z => by cases z))
  · exact .inl (.inr ⟨o, unt_keep t h fun φ z => by cases z⟩)
  · exact .inr h
theorem ext_tk {K : PySem.W.Frag} {H H' : Hp} (e : LamX.ExtN H H') : TK K H H' := fun p xs h => by
  rcases h with (h | ⟨o, h⟩) | h
  · exact .inl (.inl (e _ _ h fun ps z => by cases z))
  · exact .inl (.inr ⟨o, e _ _ h fun ps z => by cases z⟩)
  · exact .inr h

/-! ### spans -/
def Sn.vs (s : Sn) : List V := [.int s.lo, .int s.hi, .bl s.fl, .bl s.fh]
def OSn (K : PySem.W.Frag) (H : Hp) (r : V) : Option Sn → Prop
  | none => r = .non
  | some s => ∃ p, r = .ref p ∧ SqT K H p s.vs
theorem OSn.keep {K : PySem.W.Frag} {H H' : Hp} {r : V} : ∀ {o : Option Sn}, OSn K H r o → TK K H H' → OSn K H' r o
  | none, h, _ => h
  | some s, ⟨p, h1, h2⟩, e => ⟨p, h1, e _ _ h2⟩
theorem osn_of {K : PySem.W.Frag} {H : Hp} {p : Addr} {a b lo hi : Int} {x y : Bool} (h : H p = some (.tup [.int a, .int b, .bl x, .bl y])) (e1 : a = lo) (e2 : b = hi) : OSn K H (.ref p) (some ⟨lo, hi, x, y⟩) := by
  subst e1
  subst e2
  exact ⟨p, rfl, SqT.of h⟩
/-- a deed on spans -/
def spSpan (K : PySem.W.Frag) (α : Sn → Option Sn) : Sp := fun vs H Q _ => ∃ (p : Addr) (s : Sn), vs = [.ref p] ∧ SqT K H p s.vs ∧ ∀ (r : V) (H' : Hp), Same H H' → OSn K H' r (α s) → Q r H'
/-- an area by its kind and its spans -/
def nodA (k : Str) (sh : Option Int) (o1 o2 : Option Sn) : Option Ar :=
  if k = "rows" then o1.map fun s => ⟨"rows", sh, [s.lo, s.hi], [s.fl, s.fh]⟩
  else if k = "columns" then o2.map fun s => ⟨"columns", sh, [s.lo, s.hi], [s.fl, s.fh]⟩
  else match o1, o2 with
    | some s, some u => if k = "cell" then some ⟨"cell", sh, [s.lo, u.lo], [s.fl, u.fl]⟩ else some ⟨"range", sh, [s.lo, u.lo, s.hi, u.hi], [s.fl, u.fl, s.fh, u.fh]⟩
    | _, _ => none
/-- what with_spans makes of an area -/
def wsA (α β : Sn → Option Sn) (a : Ar) : Tr := match nodA a.k a.sh ((rowN a).bind α) ((colN a).bind β) with
  | some b => .area b
  | none => LOSTt
def alA (own : Option Int) (key : Int) (isr : Bool) (α : Sn → Option Sn) (a : Ar) : Tr := if keyO own a.sh = some key then (if isr then wsA α some a else wsA some α a) else .area a
theorem nodA_ok {k : Str} {sh : Option Int} {o1 o2 : Option Sn} {b : Ar} (h : nodA k sh o1 o2 = some b) (h1 : ∀ s, o1 = some s → s.okN 20) (h2 : ∀ s, o2 = some s → s.okN 10) : b.ok := by
  unfold nodA at h
  split at h
  · cases o1 with
    | none => cases h
    | some s =>
      cases h
      exact ⟨.inr (.inr (.inl ⟨rfl, rfl, rfl⟩)), fun u e => by cases e; exact h1 s rfl, nofun⟩
  split at h
  · cases o2 with
    | none => cases h
    | some s =>
      cases h
      exact ⟨.inr (.inr (.inr ⟨rfl, rfl, rfl⟩)), nofun, fun u e => by cases e; exact h2 s rfl⟩
  split at h
  · split at h
    · rename_i s u _
      cases h
      have a1 := h1 _ rfl
      have a2 := h2 _ rfl
      exact ⟨.inl ⟨rfl, rfl, rfl⟩, fun v e => by cases e; exact ⟨a1.1, Int.le_refl _, Int.lt_of_le_of_lt a1.2.1 a1.2.2⟩, fun v e => by cases e; exact ⟨a2.1, Int.le_refl _, Int.lt_of_le_of_lt a2.2.1 a2.2.2⟩⟩
    · cases h
      exact ⟨.inr (.inl ⟨rfl, rfl, rfl⟩), fun v e => by cases e; exact h1 _ rfl, fun v e => by cases e; exact h2 _ rfl⟩
  · cases h
/-- a deed on spans keeps them within L lines -/
def KeL (L : Int) (α : Sn → Option Sn) : Prop := ∀ s u, s.okN L → α s = some u → u.okN L
theorem KeL.some (L : Int) : KeL L some := fun s u h e => by
  cases e
  exact h
theorem KeL.bind {L : Int} {α : Sn → Option Sn} (h : KeL L α) {o : Option Sn} (ho : ∀ s, o = .some s → s.okN L) : ∀ u, o.bind α = .some u → u.okN L := fun u e => by
  cases o with
  | none => cases e
  | some s => exact h s u (ho s rfl) e
theorem wsA_fit (α β : Sn → Option Sn) (a : Ar) (ha : KeL 20 α) (hb : KeL 10 β) (ok : a.ok) : (wsA α β a).fit 1 := by
  unfold wsA
  split
  · rename_i b h
    exact nodA_ok h (ha.bind ok.2.1) (hb.bind ok.2.2)
  · exact ⟨by decide +kernel, by show 1 ≤ 4000; decide, fun e he => by rw [List.mem_singleton.mp he]; exact fitD_str _ _⟩
theorem alA_fit (own : Option Int) (key : Int) (isr : Bool) (α : Sn → Option Sn) (ha : KeL (if isr then 20 else 10) α) (a : Ar) (h : a.ok) : (alA own key isr α a).fit 1 := by
  unfold alA
  split
  · cases isr
    · exact wsA_fit _ _ _ (KeL.some _) ha h
    · exact wsA_fit _ _ _ ha (KeL.some _) h
  · exact h
theorem wsA_sz (α β : Sn → Option Sn) (a : Ar) : (wsA α β a).sz = 1 := by
  unfold wsA
  split <;> rfl
theorem alA_sz (own : Option Int) (key : Int) (isr : Bool) (α : Sn → Option Sn) (a : Ar) : (alA own key isr α a).sz = 1 := by
  unfold alA
  split
  · split
    · exact wsA_sz _ _ _
    · exact wsA_sz _ _ _
  · rfl
theorem rowV {K : PySem.W.Frag} {H : Hp} {r : V} {a : Ar} (ok : a.ok) (h : SpanV K H r (rowS a)) : OSn K H r (rowN a) := by
  rcases ok.cases with ⟨sh, r, c, x, y, rfl⟩ | ⟨sh, t, l, b, r, x, y, z, u, rfl⟩ | ⟨sh, t, b, x, y, rfl⟩ | ⟨sh, l, r, x, y, rfl⟩
  · rw [rowS_cell] at h
    exact h
  · rw [rowS_range] at h
    exact h
  · rw [rowS_rows] at h
    exact h
  · rw [rowS_columns] at h
    exact h
theorem colV {K : PySem.W.Frag} {H : Hp} {r : V} {a : Ar} (ok : a.ok) (h : SpanV K H r (colS a)) : OSn K H r (colN a) := by
  rcases ok.cases with ⟨sh, r, c, x, y, rfl⟩ | ⟨sh, t, l, b, r, x, y, z, u, rfl⟩ | ⟨sh, t, b, x, y, rfl⟩ | ⟨sh, l, r, x, y, rfl⟩
  · rw [colS_cell] at h
    exact h
  · rw [colS_range] at h
    exact h
  · rw [colS_rows] at h
    exact h
  · rw [colS_columns] at h
    exact h
theorem nodA_none {a : Ar} {α β : Sn → Option Sn} (h : (rowN a ≠ none ∧ (rowN a).bind α = none) ∨ (colN a ≠ none ∧ (colN a).bind β = none)) (ok : a.ok) : nodA a.k a.sh ((rowN a).bind α) ((colN a).bind β) = none := by
  rcases ok.cases with ⟨sh, r, c, x, y, rfl⟩ | ⟨sh, t, l, b, r, x, y, z, u, rfl⟩ | ⟨sh, t, b, x, y, rfl⟩ | ⟨sh, l, r, x, y, rfl⟩
  · rcases h with ⟨_, h⟩ | ⟨_, h⟩
    · rw [h]
      rfl
    · rw [h]
      show (match (rowN ⟨"cell", sh, [r, c], [x, y]⟩).bind α, (none : Option Sn) with
        | some s, some u => _
        | _, _ => none) = none
      cases (rowN ⟨"cell", sh, [r, c], [x, y]⟩).bind α <;> rfl
  · rcases h with ⟨_, h⟩ | ⟨_, h⟩
    · rw [h]
      rfl
    · rw [h]
      show (match (rowN ⟨"range", sh, [t, l, b, r], [x, y, z, u]⟩).bind α, (none : Option Sn) with
        | some s, some u => _
        | _, _ => none) = none
      cases (rowN ⟨"range", sh, [t, l, b, r], [x, y, z, u]⟩).bind α <;> rfl
  · rcases h with ⟨_, h⟩ | ⟨h, _⟩
    · rw [h]
      rfl
    · exact absurd rfl h
  · rcases h with ⟨h, _⟩ | ⟨_, h⟩
    · exact absurd rfl h
    · rw [h]
      rfl
theorem nodA_some {a : Ar} {α β : Sn → Option Sn} (h1 : rowN a = none ∨ (rowN a).bind α ≠ none) (h2 : colN a = none ∨ (colN a).bind β ≠ none) (ok : a.ok) : ∃ b, nodA a.k a.sh ((rowN a).bind α) ((colN a).bind β) = some b := by
  have ex : ∀ {o : Option Sn}, o ≠ none → ∃ s, o = some s := fun {o} h => by
    cases o with
    | none => exact absurd rfl h
    | some s => exact ⟨s, rfl⟩
  rcases ok.cases with ⟨sh, r, c, x, y, rfl⟩ | ⟨sh, t, l, b, r, x, y, z, u, rfl⟩ | ⟨sh, t, b, x, y, rfl⟩ | ⟨sh, l, r, x, y, rfl⟩
  · obtain ⟨s1, e1⟩ := ex (h1.resolve_left (fun h => nomatch h))
    obtain ⟨s2, e2⟩ := ex (h2.resolve_left (fun h => nomatch h))
    rw [e1, e2]
    exact ⟨_, rfl⟩
  · obtain ⟨s1, e1⟩ := ex (h1.resolve_left (fun h => nomatch h))
    obtain ⟨s2, e2⟩ := ex (h2.resolve_left (fun h => nomatch h))
    rw [e1, e2]
    exact ⟨_, rfl⟩
  · obtain ⟨s1, e1⟩ := ex (h1.resolve_left (fun h => nomatch h))
    rw [e1]
    exact ⟨_, rfl⟩
  · obtain ⟨s2, e2⟩ := ex (h2.resolve_left (fun h => nomatch h))
    rw [e2]
    exact ⟨_, rfl⟩
theorem nodA_rows {sh : Option Int} {o1 o2 : Option Sn} {b : Ar} (h : nodA "rows" sh o1 o2 = some b) : ∃ s, o1 = some s ∧ b = ⟨"rows", sh, [s.lo, s.hi], [s.fl, s.fh]⟩ := by
  cases o1 with
  | none => cases h
  | some s => exact ⟨s, rfl, (Option.some.inj h).symm⟩
theorem nodA_columns {sh : Option Int} {o1 o2 : Option Sn} {b : Ar} (h : nodA "columns" sh o1 o2 = some b) : ∃ s, o2 = some s ∧ b = ⟨"columns", sh, [s.lo, s.hi], [s.fl, s.fh]⟩ := by
  cases o2 with
  | none => cases h
  | some s => exact ⟨s, rfl, (Option.some.inj h).symm⟩
theorem nodA_cell {sh : Option Int} {o1 o2 : Option Sn} {b : Ar} (h : nodA "cell" sh o1 o2 = some b) : ∃ s u, o1 = some s ∧ o2 = some u ∧ b = ⟨"cell", sh, [s.lo, u.lo], [s.fl, u.fl]⟩ := by
  cases o1 with
  | none => cases h
  | some s =>
    cases o2 with
    | none => cases h
    | some u => exact ⟨s, u, rfl, rfl, (Option.some.inj h).symm⟩
theorem nodA_range {sh : Option Int} {o1 o2 : Option Sn} {b : Ar} (h : nodA "range" sh o1 o2 = some b) : ∃ s u, o1 = some s ∧ o2 = some u ∧ b = ⟨"range", sh, [s.lo, u.lo, s.hi, u.hi], [s.fl, u.fl, s.fh, u.fh]⟩ := by
  cases o1 with
  | none => cases h
  | some s =>
    cases o2 with
    | none => cases h
    | some u => exact ⟨s, u, rfl, rfl, (Option.some.inj h).symm⟩
/-- inserted_span -/
def insS (at_ many size : Int) (s : Sn) : Option Sn := if size ≤ (if at_ ≤ s.lo then s.lo + many else s.lo) then none else some ⟨if at_ ≤ s.lo then s.lo + many else s.lo, min (if at_ ≤ s.hi then s.hi + many else s.hi) (size - 1), s.fl, s.fh⟩
def behD (n at_ many inst : Int) : Int := if n < at_ then n else if n < at_ + many then inst else n - many
/-- deleted_span -/
def delS (at_ many : Int) (s : Sn) : Option Sn := if behD s.hi at_ many (at_ - 1) < behD s.lo at_ many at_ then none else some ⟨behD s.lo at_ many at_, behD s.hi at_ many (at_ - 1), s.fl, s.fh⟩
theorem insS_kp (at_ many L : Int) (h : 0 ≤ many) : KeL L (insS at_ many L) := fun s u ⟨h1, h2, h3⟩ e => by
  unfold insS at e
  by_cases hn : L ≤ (if at_ ≤ s.lo then s.lo + many else s.lo)
  · rw [if_pos hn] at e
    cases e
  · rw [if_neg hn] at e
    cases e
    refine ⟨?_, ?_, ?_⟩
    · show 0 ≤ (if at_ ≤ s.lo then s.lo + many else s.lo)
      split <;> omega
    · show (if at_ ≤ s.lo then s.lo + many else s.lo) ≤ min (if at_ ≤ s.hi then s.hi + many else s.hi) (L - 1)
      omega
    · show min (if at_ ≤ s.hi then s.hi + many else s.hi) (L - 1) < L
      omega
theorem delS_kp (at_ many L : Int) (h0 : 0 ≤ at_) (h : 0 ≤ many) : KeL L (delS at_ many) := fun s u ⟨h1, h2, h3⟩ e => by
  unfold delS at e
  split at e
  · cases e
  · rename_i hn
    cases e
    refine ⟨?_, ?_, ?_⟩
    · show 0 ≤ behD s.lo at_ many at_
      unfold behD
      (repeat' split) <;> omega
    · exact Int.not_lt.mp hn
    · show behD s.hi at_ many (at_ - 1) < L
      unfold behD
      (repeat' split) <;> omega
def flA (k : Str) (isr : Bool) : Nat × Nat := if k = "cell" then (if isr then (2, 2) else (3, 3)) else if k = "range" then (if isr then (2, 4) else (3, 5)) else (2, 3)
theorem cut_whole {xs : List V} {lo hi : Option Int} (h : HT.sIx xs.length 0 lo = 0 ∧ HT.sIx xs.length xs.length hi = xs.length) : cutV xs lo hi = xs := by
  unfold cutV
  rw [h.1, h.2]
  exact List.take_of_length_le (Nat.le_refl _)
theorem slA_go {K : PySem.W.Frag} {H : Hp} {a : Addr} {xs : List V} {lo hi : Option Int} {Q : VK} (h : SqT K H a xs) (q : ∀ (p : Addr) (H' : Hp), Same H H' → SqT K H' p (cutV xs lo hi) → Q (.ref p) H') : rSlA K (.ref a) lo hi H Q :=
  ⟨a, xs, rfl, h, fun w => q a H (Same.refl _) (by rw [cut_whole w]; exact h), fun _ p hp => q p _ (same_upd hp) (SqT.of upd_same)⟩
theorem slA_to {K : PySem.W.Frag} {H : Hp} {a : Addr} {xs : List V} {i : Int} {Q : VK} (h : SqT K H a xs) (h0 : 0 ≤ i) (h1 : i ≤ xs.length) (q : ∀ (p : Addr) (H' : Hp), Same H H' → SqT K H' p (xs.take i.toNat) → Q (.ref p) H') : rSlA K (.ref a) none (some i) H Q :=
  slA_go h fun p H' s g => q p H' s (by rw [← cut_take h0 h1]; exact g)
theorem slA_from {K : PySem.W.Frag} {H : Hp} {a : Addr} {xs : List V} {i : Int} {Q : VK} (h : SqT K H a xs) (h0 : 0 ≤ i) (h1 : i ≤ xs.length) (q : ∀ (p : Addr) (H' : Hp), Same H H' → SqT K H' p (xs.drop i.toNat) → Q (.ref p) H') : rSlA K (.ref a) (some i) none H Q :=
  slA_go h fun p H' s g => q p H' s (by rw [← cut_drop h0 h1]; exact g)
theorem catA_go {K : PySem.W.Frag} {H : Hp} {a b : Addr} {xs ys : List V} {Q : VK} (h : SqT K H a xs) (k : SqT K H b ys) (hl : xs.length + ys.length ≤ sizeLine) (q : ∀ (p : Addr) (H' : Hp), Same H H' → SqT K H' p (xs ++ ys) → Q (.ref p) H') : rCatA K (.ref a) (.ref b) H Q :=
  ⟨a, b, xs, ys, rfl, rfl, h, k, hl, fun e => q b H (Same.refl _) (by rw [e]; exact k), fun _ e => q a H (Same.refl _) (by rw [e, List.append_nil]; exact h), fun _ _ p hp => q p _ (same_upd hp) (SqT.of upd_same)⟩
theorem xs_len {a : Ar} (ok : a.ok) : (V.str a.k :: shV a.sh :: (a.ns.map V.int ++ a.ms.map V.bl)).length ≤ 20 := by
  have h := ok.len
  simp only [List.length_cons, List.length_append, List.length_map]
  omega
theorem len_line {n : Nat} (h : n ≤ 100) : n ≤ sizeLine := Nat.le_trans h (by decide)
theorem node_fin {a : Ar} {isr : Bool} {s u : Sn} {α : Sn → Option Sn} (ok : a.ok) (ka : KeL (if isr then 20 else 10) α) (es : (if isr then rowN a else colN a) = some s) (eu : α s = some u) (hp : s.lo = s.hi → u.lo = u.hi) (f1 : u.fl = s.fl) (f2 : u.fh = s.fh) :
    ∃ b : Ar, (if isr then wsA α some a else wsA some α a) = .area b ∧ b.ok ∧ arV b = ((V.str a.k :: shV a.sh :: (a.ns.map V.int ++ a.ms.map V.bl)).set (flA a.k isr).1 (.int u.lo)).set (flA a.k isr).2 (.int u.hi) := by
  have fit : (if isr then wsA α some a else wsA some α a).fit 1 := by
    cases isr
    · exact wsA_fit _ _ _ (KeL.some _) ka ok
    · exact wsA_fit _ _ _ ka (KeL.some _) ok
  have mk : ∀ b : Ar, (if isr then wsA α some a else wsA some α a) = .area b → arV b = ((V.str a.k :: shV a.sh :: (a.ns.map V.int ++ a.ms.map V.bl)).set (flA a.k isr).1 (.int u.lo)).set (flA a.k isr).2 (.int u.hi) → ∃ b : Ar, (if isr then wsA α some a else wsA some α a) = .area b ∧ b.ok ∧ arV b = ((V.str a.k :: shV a.sh :: (a.ns.map V.int ++ a.ms.map V.bl)).set (flA a.k isr).1 (.int u.lo)).set (flA a.k isr).2 (.int u.hi) := fun b e1 e2 => ⟨b, e1, by rw [e1] at fit; exact fit, e2⟩
  clear fit
  obtain ⟨l', h', x', y'⟩ := u
  rcases ok.cases with ⟨sh, r, c, x, y, rfl⟩ | ⟨sh, t, l, b, r, x, y, z, v, rfl⟩ | ⟨sh, t, b, x, y, rfl⟩ | ⟨sh, l, r, x, y, rfl⟩
  all_goals cases isr
  · obtain rfl : (⟨c, c, y, y⟩ : Sn) = s := Option.some.inj es
    obtain rfl : y = x' := f1.symm
    obtain rfl : y = y' := f2.symm
    obtain rfl : l' = h' := hp rfl
    refine mk ⟨"cell", sh, [r, l'], [x, y]⟩ ?_ rfl
    show wsA some α _ = _
    unfold wsA
    rw [show colN ⟨"cell", sh, [r, c], [x, y]⟩ = some ⟨c, c, y, y⟩ from rfl, show (some (⟨c, c, y, y⟩ : Sn)).bind α = α ⟨c, c, y, y⟩ from rfl, eu]
    rfl
  · obtain rfl : (⟨r, r, x, x⟩ : Sn) = s := Option.some.inj es
    obtain rfl : x = x' := f1.symm
    obtain rfl : x = y' := f2.symm
    obtain rfl : l' = h' := hp rfl
    refine mk ⟨"cell", sh, [l', c], [x, y]⟩ ?_ rfl
    show wsA α some _ = _
    unfold wsA
    rw [show rowN ⟨"cell", sh, [r, c], [x, y]⟩ = some ⟨r, r, x, x⟩ from rfl, show (some (⟨r, r, x, x⟩ : Sn)).bind α = α ⟨r, r, x, x⟩ from rfl, eu]
    rfl
  · obtain rfl : (⟨l, r, y, v⟩ : Sn) = s := Option.some.inj es
    obtain rfl : y = x' := f1.symm
    obtain rfl : v = y' := f2.symm
    refine mk ⟨"range", sh, [t, l', b, h'], [x, y, z, v]⟩ ?_ rfl
    show wsA some α _ = _
    unfold wsA
    rw [show colN ⟨"range", sh, [t, l, b, r], [x, y, z, v]⟩ = some ⟨l, r, y, v⟩ from rfl, show (some (⟨l, r, y, v⟩ : Sn)).bind α = α ⟨l, r, y, v⟩ from rfl, eu]
    rfl
  · obtain rfl : (⟨t, b, x, z⟩ : Sn) = s := Option.some.inj es
    obtain rfl : x = x' := f1.symm
    obtain rfl : z = y' := f2.symm
    refine mk ⟨"range", sh, [l', l, h', r], [x, y, z, v]⟩ ?_ rfl
    show wsA α some _ = _
    unfold wsA
    rw [show rowN ⟨"range", sh, [t, l, b, r], [x, y, z, v]⟩ = some ⟨t, b, x, z⟩ from rfl, show (some (⟨t, b, x, z⟩ : Sn)).bind α = α ⟨t, b, x, z⟩ from rfl, eu]
    rfl
  · have es : (none : Option Sn) = some _ := es
    cases es
  · obtain rfl : (⟨t, b, x, y⟩ : Sn) = s := Option.some.inj es
    obtain rfl : x = x' := f1.symm
    obtain rfl : y = y' := f2.symm
    refine mk ⟨"rows", sh, [l', h'], [x, y]⟩ ?_ rfl
    show wsA α some _ = _
    unfold wsA
    rw [show rowN ⟨"rows", sh, [t, b], [x, y]⟩ = some ⟨t, b, x, y⟩ from rfl, show (some (⟨t, b, x, y⟩ : Sn)).bind α = α ⟨t, b, x, y⟩ from rfl, eu]
    rfl
  · obtain rfl : (⟨l, r, x, y⟩ : Sn) = s := Option.some.inj es
    obtain rfl : x = x' := f1.symm
    obtain rfl : y = y' := f2.symm
    refine mk ⟨"columns", sh, [l', h'], [x, y]⟩ ?_ rfl
    show wsA some α _ = _
    unfold wsA
    rw [show colN ⟨"columns", sh, [l, r], [x, y]⟩ = some ⟨l, r, x, y⟩ from rfl, show (some (⟨l, r, x, y⟩ : Sn)).bind α = α ⟨l, r, x, y⟩ from rfl, eu]
    rfl
  · have es : (none : Option Sn) = some _ := es
    cases es
theorem set_cut (xs : List V) (i : Nat) (x : V) (h : i < xs.length) : (xs.take i ++ [x]) ++ xs.drop (i + 1) = xs.set i x := by
  rw [List.set_eq_take_append_cons_drop, if_pos h, List.append_assoc]
  rfl
theorem if_at {at_ n m l : Int} (h : (if at_ ≤ n then n + m else n) = l) : (at_ ≤ n ∧ l = n + m) ∨ (n < at_ ∧ l = n) := by
  split at h <;> omega
theorem if_beh {n a m i b : Int} (h : (if n < a then n else if n < a + m then i else n - m) = b) : (n < a ∧ b = n) ∨ (a ≤ n ∧ n < a + m ∧ b = i) ∨ (a + m ≤ n ∧ a ≤ n ∧ b = n - m) := by
  split at h
  · omega
  · split at h <;> omega
def nmK : Nm := fun l _ => if l = 76 then (Str.ofString "shifted" ++ ".<locals>.") ++ "deed" else if l = 77 then (((Str.ofString "shifted" ++ ".<locals>.") ++ "deed") ++ ".<locals>.") ++ "<lambda>" else (((Str.ofString "shifted" ++ ".<locals>.") ++ "deed") ++ ".<locals>.") ++ "<lambda>"
theorem lst_ne_codeO {c : Addr} {q : Str} {xs : List V} : HO.lst xs ≠ LamX.CodeO c q := fun z => by
  unfold LamX.CodeO at z
  cases z
/-- a deed on areas, that may make lambdas of its own -/
def spDeed (K : PySem.W.Frag) (nm : Nm) (Pi : Addr) (g : Ar → Tr) : Sp := fun vs H Q _ => ∃ (v : V) (a : Ar) (n : Nat), vs = [v] ∧ TV K H (n + 1) v (.area a) ∧ NdefX.TabN H Pi nm ∧ ∀ (r : V) (H' : Hp), ButT nm Pi H H' → NdefX.TabN H' Pi nm → TV K H' 1 r (g a) → Q r H'
def Deed (P : Program) (w : World) (K : PySem.W.Frag) (mg : Str → Option Value) (base : Heap) (f Pi : Addr) (g : Ar → Tr) (H : Hp) : Prop := NdefX.TabN H Pi nmK ∧ (∀ H2 : Hp, ButT nmK Pi H H2 → NdefX.TabN H2 Pi nmK → Cal P w K mg base 16 1 f (spDeed K nmK Pi g) H2) ∧ ∀ a : Ar, a.ok → (g a).fit 1
theorem Deed.next {P : Program} {w : World} {K : PySem.W.Frag} {mg : Str → Option Value} {base : Heap} {f Pi : Addr} {g : Ar → Tr} {H H' : Hp} (d : Deed P w K mg base f Pi g H) (x : ButT nmK Pi H H') : Deed P w K mg base f Pi g H' := ⟨x.tab d.1, fun H2 y t => d.2.1 H2 (x.trans y) t, d.2.2⟩
theorem Deed.cal {P : Program} {w : World} {K : PySem.W.Frag} {mg : Str → Option Value} {base : Heap} {f Pi : Addr} {g : Ar → Tr} {H : Hp} (d : Deed P w K mg base f Pi g H) : Cal P w K mg base 16 1 f (spDeed K nmK Pi g) H := d.2.1 H .refl d.1
theorem tabN_put {nm : Nm} {Pi D : Addr} {H1 : Hp} {xs ys : List V} (t : NdefX.TabN H1 Pi nm) (h1 : H1 D = some (.lst ys)) : NdefX.TabN (upd H1 D (.lst xs)) Pi nm := by
  obtain ⟨ps, h, h2, h3⟩ := t
  have np : Pi ≠ D := fun z => by
    rw [z, h1] at h
    cases h
  refine ⟨ps, by rw [upd_ne np]; exact h, h2, fun pos cv hc => ?_⟩
  obtain ⟨c, e1, e2⟩ := h3 pos cv hc
  refine ⟨c, e1, ?_⟩
  rw [upd_ne (fun z => by
    rw [z, h1] at e2
    exact lst_ne_codeO (Option.some.inj e2))]
  exact e2
theorem ButT.put {nm : Nm} {Pi D : Addr} {H H1 : Hp} {xs ys : List V} (x : ButT nm Pi H H1) (t : NdefX.TabN H Pi nm) (hD : H D = none) (h1 : H1 D = some (.lst ys)) : ButT nm Pi H (upd H1 D (.lst xs)) := ⟨fun b o n e => by
  rw [upd_ne (ne_of_none e hD)]
  exact x.keep b o n e, fun _ => tabN_put (x.tab t) h1⟩
theorem ButT.tk {K : PySem.W.Frag} {nm : Nm} {Pi : Addr} {H H' : Hp} (x : ButT nm Pi H H') (t : NdefX.TabN H Pi nm) : TK K H H' := ext_tk (x.extN t)

/-! ### cells and tables -/
theorem celO_ne_code {c : Addr} {q : Str} {o : Obj} {v : Option Value} (ho : o.data = .cell v) : CelO c o ≠ LamX.CodeO c q := fun z => by
  unfold CelO LamX.CodeO at z
  injection z with e
  have h1 : Heap.get? (⟨Array.replicate (c + 1) o, default⟩ : PySem.Heap) c = some o := by
    have g : (Array.replicate (c + 1) o)[c]? = some o := by
      rw [Array.getElem?_replicate, if_pos (Nat.lt_succ_self c)]
    obtain ⟨a1, a2, a3, a4⟩ := o
    obtain rfl : a3 = .cell v := ho
    unfold PySem.Heap.get?
    simp only [g]
  have z2 : ∃ (oc : Obj) (vs : Array Value) (t : Tok), Heap.get? (⟨Array.replicate (c + 1) o, default⟩ : PySem.Heap) c = some oc ∧ oc.data = .fields vs ∧ vs[1]? = some (.str q t) := Eq.mp (congrFun e (⟨Array.replicate (c + 1) o, default⟩ : PySem.Heap)) h1
  obtain ⟨oc, vs, t, g1, g2, _⟩ := z2
  rw [h1] at g1
  cases g1
  rw [ho] at g2
  cases g2
theorem celO_ne_codeT {c Pi : Addr} {q : Str} {o : Obj} {v : Option Value} (ho : o.data = .cell v) : CelO c o ≠ CodeT c q Pi := fun z => by
  unfold CelO CodeT at z
  injection z with e
  have h1 : Heap.get? (⟨Array.replicate (c + 1) o, default⟩ : PySem.Heap) c = some o := by
    have g : (Array.replicate (c + 1) o)[c]? = some o := by
      rw [Array.getElem?_replicate, if_pos (Nat.lt_succ_self c)]
    obtain ⟨a1, a2, a3, a4⟩ := o
    obtain rfl : a3 = .cell v := ho
    unfold PySem.Heap.get?
    simp only [g]
  have z2 : (∃ (oc : Obj) (vs : Array Value) (t : Tok), Heap.get? (⟨Array.replicate (c + 1) o, default⟩ : PySem.Heap) c = some oc ∧ oc.data = .fields vs ∧ vs[1]? = some (.str q t)) ∧ PySem.W.CodeHd (⟨Array.replicate (c + 1) o, default⟩ : PySem.Heap) c Pi := Eq.mp (congrFun e (⟨Array.replicate (c + 1) o, default⟩ : PySem.Heap)) h1
  obtain ⟨⟨oc, vs, t, g1, g2, _⟩, _⟩ := z2
  rw [h1] at g1
  cases g1
  rw [ho] at g2
  cases g2
theorem unt_at {cl : List (Str × Addr)} {fr : List Str} {ws : List (Option V)} {H : Hp} (t : Told cl fr ws H) {b : Addr} {x : HO} (e : H b = some x) (hx : ∀ (o : Obj) (v : Option Value), o.data = .cell v → CelO b o ≠ x) : unt cl H b = some x := by
  by_cases hi : InC cl b
  · obtain ⟨y, hy⟩ := hi
    obtain ⟨o, v, h1, h2⟩ := t.all y b hy
    rw [e] at h1
    exact absurd (Option.some.inj h1).symm (hx o v h2)
  · exact (unt_out hi).trans e
theorem tabN_unt {cl : List (Str × Addr)} {fr : List Str} {ws : List (Option V)} {H : Hp} {nm : Nm} {Pi : Addr} (t : Told cl fr ws H) (x : NdefX.TabN H Pi nm) : NdefX.TabN (unt cl H) Pi nm := by
  obtain ⟨ps, h, h2, h3⟩ := x
  refine ⟨ps, unt_at t h (fun _ _ _ => celO_ne_tbl), h2, fun pos cv hc => ?_⟩
  obtain ⟨c, e1, e2⟩ := h3 pos cv hc
  exact ⟨c, e1, unt_at t e2 fun _ _ ho => celO_ne_code ho⟩
theorem tt_unt {cl : List (Str × Addr)} {fr : List Str} {ws : List (Option V)} {H : Hp} {nm : Nm} {SP : List Addr} (t : Told cl fr ws H) (x : TT SP nm H) : TT SP nm (unt cl H) := fun P hP => by
  obtain ⟨ps, h, h2, h3⟩ := x P hP
  refine ⟨ps, unt_at t h (fun _ _ _ => celO_ne_tbl), h2, fun pos cv hc => ?_⟩
  obtain ⟨c, Pi, e1, e2, e3, e4⟩ := h3 pos cv hc
  exact ⟨c, Pi, e1, unt_at t e2 (fun _ _ ho => celO_ne_codeT ho), tabN_unt t e3, e4⟩
theorem ret_at {cl : List (Str × Addr)} {H H' : Hp} (hn : ∀ b, InC cl b → H' b = none) {b : Addr} {x : HO} (e : H' b = some x) : ret cl H H' b = some x := by
  by_cases hi : InC cl b
  · rw [hn b hi] at e
    cases e
  · exact (ret_out hi).trans e
theorem tabN_ret {cl : List (Str × Addr)} {H H' : Hp} {nm : Nm} {Pi : Addr} (hn : ∀ b, InC cl b → H' b = none) (x : NdefX.TabN H' Pi nm) : NdefX.TabN (ret cl H H') Pi nm := by
  obtain ⟨ps, h, h2, h3⟩ := x
  refine ⟨ps, ret_at hn h, h2, fun pos cv hc => ?_⟩
  obtain ⟨c, e1, e2⟩ := h3 pos cv hc
  exact ⟨c, e1, ret_at hn e2⟩
theorem but_ret {cl : List (Str × Addr)} {fr : List Str} {ws : List (Option V)} {H H' : Hp} {nm : Nm} {Pi : Addr} (t : Told cl fr ws H) (x : ButT nm Pi (unt cl H) H') (hn : ∀ b, InC cl b → H' b = none) : ButT nm Pi H (ret cl H H') := ⟨fun b o n e => by
  by_cases hi : InC cl b
  · rw [ret_in hi]
    exact e
  · rw [ret_out hi]
    exact x.keep b o n ((unt_out hi).trans e), fun q => tabN_ret hn (x.tab (tabN_unt t q))⟩
theorem told_but {cl : List (Str × Addr)} {fr : List Str} {ws : List (Option V)} {H H' : Hp} {nm : Nm} {Pi : Addr} (t : Told cl fr ws H) (x : ButT nm Pi H H') (ti : NdefX.TabN H Pi nm) : ∀ b, InC cl b → H' b = H b := fun b ⟨y, hy⟩ => by
  obtain ⟨o, v, h1, _⟩ := t.all y b hy
  rw [h1]
  exact x.ne ti h1 fun ps => celO_ne_tbl
theorem ext_unt {cl : List (Str × Addr)} {H1 H2 H3 : Hp} {nm : Nm} {Pi : Addr} (hn : ∀ b, InC cl b → H1 b = none) (he : ∀ b, ¬ InC cl b → H2 b = H1 b) (x : ButT nm Pi H2 H3) (ti : NdefX.TabN H2 Pi nm) : LamX.ExtN H1 (unt cl H3) := fun b o e n => by
  by_cases hi : InC cl b
  · rw [hn b hi] at e
    cases e
  · rw [unt_out hi]
    exact x.ne ti ((he b hi).trans e) n
theorem same_told {cl : List (Str × Addr)} {H1 H2 : Hp} (hn : ∀ b, InC cl b → H1 b = none) (he : ∀ b, ¬ InC cl b → H2 b = H1 b) : Same H1 H2 := fun b o e => by
  rw [he b (fun hi => by rw [hn b hi] at e; cases e)]
  exact e

/-! ### shifts of spans -/
def ordS (s : Sn) : Sn := if s.hi < s.lo then ⟨s.hi, s.lo, s.fh, s.fl⟩ else s
def shfS (many size : Int) (s : Sn) : Option Sn := if min (if s.fl then s.lo else s.lo + many) (if s.fh then s.hi else s.hi + many) < 0 ∨ size ≤ max (if s.fl then s.lo else s.lo + many) (if s.fh then s.hi else s.hi + many) then none else some (ordS ⟨if s.fl then s.lo else s.lo + many, if s.fh then s.hi else s.hi + many, s.fl, s.fh⟩)
theorem shf_kp (many L : Int) : KeL L (shfS many L) := fun s u _ e => by
  unfold shfS at e
  generalize (if s.fl then s.lo else s.lo + many) = l at e
  generalize (if s.fh then s.hi else s.hi + many) = h at e
  split at e
  · cases e
  · rename_i hn
    cases e
    unfold ordS
    split
    · rename_i h1
      have h1 : h < l := h1
      refine ⟨?_, ?_, ?_⟩
      · show 0 ≤ h
        omega
      · show h ≤ l
        omega
      · show l < L
        omega
    · rename_i h1
      have h1 : ¬ h < l := h1
      refine ⟨?_, ?_, ?_⟩
      · show 0 ≤ l
        omega
      · show l ≤ h
        omega
      · show h < L
        omega
/-- a span of equal marks -/
theorem shf_eq {many L : Int} {s u : Sn} (h : s.fl = s.fh) (hs : s.lo ≤ s.hi) (e : shfS many L s = some u) : u.fl = s.fl ∧ u.fh = s.fh ∧ (s.lo = s.hi → u.lo = u.hi) := by
  obtain ⟨lo, hi, fl, fh⟩ := s
  obtain rfl : fl = fh := h
  have hs : lo ≤ hi := hs
  unfold shfS at e
  cases fl
  · simp only [Bool.false_eq_true, if_false] at e
    by_cases hn : min (lo + many) (hi + many) < 0 ∨ L ≤ max (lo + many) (hi + many)
    · rw [if_pos hn] at e
      cases e
    · rw [if_neg hn] at e
      have e1 : ordS ⟨lo + many, hi + many, false, false⟩ = ⟨lo + many, hi + many, false, false⟩ := if_neg (by show ¬ hi + many < lo + many; omega)
      rw [e1] at e
      cases e
      refine ⟨rfl, rfl, fun z => ?_⟩
      have z : lo = hi := z
      show lo + many = hi + many
      omega
  · simp only [if_true] at e
    by_cases hn : min lo hi < 0 ∨ L ≤ max lo hi
    · rw [if_pos hn] at e
      cases e
    · rw [if_neg hn] at e
      have e1 : ordS ⟨lo, hi, true, true⟩ = ⟨lo, hi, true, true⟩ := if_neg (by show ¬ hi < lo; omega)
      rw [e1] at e
      cases e
      exact ⟨rfl, rfl, fun z => z⟩
theorem shf_two {d e L : Int} {s u : Sn} (h : s.fl = s.fh) (os : s.okN L) (eu : shfS d L s = some u) : shfS e L u = shfS (d + e) L s := by
  obtain ⟨lo, hi, fl, fh⟩ := s
  obtain rfl : fl = fh := h
  obtain ⟨o1, o2, o3⟩ := os
  dsimp only at o1 o2 o3
  unfold shfS at eu
  cases fl
  · simp only [Bool.false_eq_true, if_false] at eu
    by_cases hn : min (lo + d) (hi + d) < 0 ∨ L ≤ max (lo + d) (hi + d)
    · rw [if_pos hn] at eu
      cases eu
    · rw [if_neg hn] at eu
      have e1 : ordS ⟨lo + d, hi + d, false, false⟩ = ⟨lo + d, hi + d, false, false⟩ := if_neg (by show ¬ hi + d < lo + d; omega)
      rw [e1] at eu
      cases eu
      unfold shfS
      simp only [Bool.false_eq_true, if_false]
      rw [show lo + d + e = lo + (d + e) by omega, show hi + d + e = hi + (d + e) by omega]
  · simp only [if_true] at eu
    rw [if_neg (by omega)] at eu
    have e1 : ordS ⟨lo, hi, true, true⟩ = ⟨lo, hi, true, true⟩ := if_neg (by show ¬ hi < lo; omega)
    rw [e1] at eu
    cases eu
    unfold shfS
    simp only [if_true]
theorem ws_two {d e f g : Int} {a b : Ar} (ok : a.ok) (em : EqM a) (h : wsA (shfS d 20) (shfS e 10) a = .area b) : wsA (shfS f 20) (shfS g 10) b = wsA (shfS (d + f) 20) (shfS (e + g) 10) a := by
  obtain ⟨m1, m2⟩ := em
  obtain ⟨_, o1, o2⟩ := id ok
  rcases ok.cases with ⟨sh, r, c, x, y, rfl⟩ | ⟨sh, t, l, b', r, x, y, z, v, rfl⟩ | ⟨sh, t, b', x, y, rfl⟩ | ⟨sh, l, r, x, y, rfl⟩
  · have er : rowN ⟨"cell", sh, [r, c], [x, y]⟩ = some ⟨r, r, x, x⟩ := rfl
    have ec : colN ⟨"cell", sh, [r, c], [x, y]⟩ = some ⟨c, c, y, y⟩ := rfl
    have k1 := o1 _ er
    have k2 := o2 _ ec
    unfold wsA at h ⊢
    rw [er, ec] at h ⊢
    cases e1 : shfS d 20 ⟨r, r, x, x⟩ with
    | none =>
      rw [show (some (⟨r, r, x, x⟩ : Sn)).bind (shfS d 20) = shfS d 20 ⟨r, r, x, x⟩ from rfl, e1] at h
      cases h
    | some u =>
      cases e2 : shfS e 10 ⟨c, c, y, y⟩ with
      | none =>
        rw [show (some (⟨r, r, x, x⟩ : Sn)).bind (shfS d 20) = shfS d 20 ⟨r, r, x, x⟩ from rfl, e1, show (some (⟨c, c, y, y⟩ : Sn)).bind (shfS e 10) = shfS e 10 ⟨c, c, y, y⟩ from rfl, e2] at h
        cases h
      | some w =>
        rw [show (some (⟨r, r, x, x⟩ : Sn)).bind (shfS d 20) = shfS d 20 ⟨r, r, x, x⟩ from rfl, e1, show (some (⟨c, c, y, y⟩ : Sn)).bind (shfS e 10) = shfS e 10 ⟨c, c, y, y⟩ from rfl, e2] at h
        obtain ⟨ul, uh, ux, uy⟩ := u
        obtain ⟨wl, wh, wx, wy⟩ := w
        obtain ⟨f1, f2, f3⟩ := shf_eq rfl k1.2.1 e1
        obtain ⟨g1, g2, g3⟩ := shf_eq rfl k2.2.1 e2
        obtain rfl : x = ux := f1.symm
        obtain rfl : x = uy := f2.symm
        obtain rfl : ul = uh := f3 rfl
        obtain rfl : y = wx := g1.symm
        obtain rfl : y = wy := g2.symm
        obtain rfl : wl = wh := g3 rfl
        obtain rfl : (⟨"cell", sh, [ul, wl], [x, y]⟩ : Ar) = b := Tr.area.inj h
        rw [show rowN ⟨"cell", sh, [ul, wl], [x, y]⟩ = some ⟨ul, ul, x, x⟩ from rfl, show colN ⟨"cell", sh, [ul, wl], [x, y]⟩ = some ⟨wl, wl, y, y⟩ from rfl]
        show (match nodA "cell" sh (shfS f 20 ⟨ul, ul, x, x⟩) (shfS g 10 ⟨wl, wl, y, y⟩) with
          | some b => Tr.area b
          | none => LOSTt) = (match nodA "cell" sh (shfS (d + f) 20 ⟨r, r, x, x⟩) (shfS (e + g) 10 ⟨c, c, y, y⟩) with
          | some b => Tr.area b
          | none => LOSTt)
        rw [shf_two rfl k1 e1, shf_two rfl k2 e2]
  · have er : rowN ⟨"range", sh, [t, l, b', r], [x, y, z, v]⟩ = some ⟨t, b', x, z⟩ := rfl
    have ec : colN ⟨"range", sh, [t, l, b', r], [x, y, z, v]⟩ = some ⟨l, r, y, v⟩ := rfl
    have k1 := o1 _ er
    have k2 := o2 _ ec
    have n1 := m1 _ er
    have n2 := m2 _ ec
    unfold wsA at h ⊢
    rw [er, ec] at h ⊢
    cases e1 : shfS d 20 ⟨t, b', x, z⟩ with
    | none =>
      rw [show (some (⟨t, b', x, z⟩ : Sn)).bind (shfS d 20) = shfS d 20 ⟨t, b', x, z⟩ from rfl, e1] at h
      cases h
    | some u =>
      cases e2 : shfS e 10 ⟨l, r, y, v⟩ with
      | none =>
        rw [show (some (⟨t, b', x, z⟩ : Sn)).bind (shfS d 20) = shfS d 20 ⟨t, b', x, z⟩ from rfl, e1, show (some (⟨l, r, y, v⟩ : Sn)).bind (shfS e 10) = shfS e 10 ⟨l, r, y, v⟩ from rfl, e2] at h
        cases h
      | some w =>
        rw [show (some (⟨t, b', x, z⟩ : Sn)).bind (shfS d 20) = shfS d 20 ⟨t, b', x, z⟩ from rfl, e1, show (some (⟨l, r, y, v⟩ : Sn)).bind (shfS e 10) = shfS e 10 ⟨l, r, y, v⟩ from rfl, e2] at h
        obtain ⟨ul, uh, ux, uy⟩ := u
        obtain ⟨wl, wh, wx, wy⟩ := w
        obtain rfl : (⟨"range", sh, [ul, wl, uh, wh], [ux, wx, uy, wy]⟩ : Ar) = b := Tr.area.inj h
        rw [show rowN ⟨"range", sh, [ul, wl, uh, wh], [ux, wx, uy, wy]⟩ = some ⟨ul, uh, ux, uy⟩ from rfl, show colN ⟨"range", sh, [ul, wl, uh, wh], [ux, wx, uy, wy]⟩ = some ⟨wl, wh, wx, wy⟩ from rfl]
        show (match nodA "range" sh (shfS f 20 ⟨ul, uh, ux, uy⟩) (shfS g 10 ⟨wl, wh, wx, wy⟩) with
          | some b => Tr.area b
          | none => LOSTt) = (match nodA "range" sh (shfS (d + f) 20 ⟨t, b', x, z⟩) (shfS (e + g) 10 ⟨l, r, y, v⟩) with
          | some b => Tr.area b
          | none => LOSTt)
        rw [shf_two n1 k1 e1, shf_two n2 k2 e2]
  · have er : rowN ⟨"rows", sh, [t, b'], [x, y]⟩ = some ⟨t, b', x, y⟩ := rfl
    have k1 := o1 _ er
    have n1 := m1 _ er
    unfold wsA at h ⊢
    rw [er] at h ⊢
    cases e1 : shfS d 20 ⟨t, b', x, y⟩ with
    | none =>
      rw [show (some (⟨t, b', x, y⟩ : Sn)).bind (shfS d 20) = shfS d 20 ⟨t, b', x, y⟩ from rfl, e1] at h
      cases h
    | some u =>
      rw [show (some (⟨t, b', x, y⟩ : Sn)).bind (shfS d 20) = shfS d 20 ⟨t, b', x, y⟩ from rfl, e1] at h
      obtain ⟨ul, uh, ux, uy⟩ := u
      obtain rfl : (⟨"rows", sh, [ul, uh], [ux, uy]⟩ : Ar) = b := Tr.area.inj h
      show (match nodA "rows" sh (shfS f 20 ⟨ul, uh, ux, uy⟩) none with
        | some b => Tr.area b
        | none => LOSTt) = (match nodA "rows" sh (shfS (d + f) 20 ⟨t, b', x, y⟩) none with
        | some b => Tr.area b
        | none => LOSTt)
      rw [shf_two n1 k1 e1]
  · have ec : colN ⟨"columns", sh, [l, r], [x, y]⟩ = some ⟨l, r, x, y⟩ := rfl
    have k1 := o2 _ ec
    have n1 := m2 _ ec
    unfold wsA at h ⊢
    rw [ec] at h ⊢
    cases e1 : shfS e 10 ⟨l, r, x, y⟩ with
    | none =>
      rw [show (some (⟨l, r, x, y⟩ : Sn)).bind (shfS e 10) = shfS e 10 ⟨l, r, x, y⟩ from rfl, e1] at h
      cases h
    | some u =>
      rw [show (some (⟨l, r, x, y⟩ : Sn)).bind (shfS e 10) = shfS e 10 ⟨l, r, x, y⟩ from rfl, e1] at h
      obtain ⟨ul, uh, ux, uy⟩ := u
      obtain rfl : (⟨"columns", sh, [ul, uh], [ux, uy]⟩ : Ar) = b := Tr.area.inj h
      show (match nodA "columns" sh none (shfS g 10 ⟨ul, uh, ux, uy⟩) with
        | some b => Tr.area b
        | none => LOSTt) = (match nodA "columns" sh none (shfS (e + g) 10 ⟨l, r, x, y⟩) with
        | some b => Tr.area b
        | none => LOSTt)
      rw [shf_two n1 k1 e1]
/-! ### all areas kept -/
theorem ws_cases (α β : Sn → Option Sn) (a : Ar) : (∃ b, wsA α β a = .area b) ∨ wsA α β a = LOSTt := by
  unfold wsA
  split
  · exact .inl ⟨_, rfl⟩
  · exact .inr rfl
mutual
theorem refk_le (g : Ar → Tr) (hg : ∀ a, (∃ b, g a = .area b) ∨ g a = LOSTt) : ∀ t : Tr, (t.mp g).refs.length ≤ t.refs.length ∧ ((t.mp g).refs.length = t.refs.length → ∀ a ∈ t.refs, ∃ b, g a = .area b)
  | .leaf z ds => ⟨Nat.le_refl _, fun _ a h => absurd h List.not_mem_nil⟩
  | .area a => by
    rcases hg a with ⟨b, e⟩ | e
    · rw [Tr.mp, e]
      exact ⟨Nat.le_refl _, fun _ c h => by rw [List.mem_singleton.mp h]; exact ⟨b, e⟩⟩
    · rw [Tr.mp, e]
      exact ⟨Nat.zero_le _, fun h => absurd h (by show ¬ (0 : Nat) = 1; decide)⟩
  | .one z p t => refk_le g hg t
  | .two p x y => by
    have a1 := refk_le g hg x
    have a2 := refk_le g hg y
    rw [Tr.mp, Tr.refs, Tr.refs, List.length_append, List.length_append]
    exact ⟨by omega, fun h a ha => (List.mem_append.mp ha).elim (a1.2 (by omega) a) (a2.2 (by omega) a)⟩
  | .call p cs => refks_le g hg cs
  | .letk p cs t => by
    have a1 := refks_le g hg cs
    have a2 := refk_le g hg t
    rw [Tr.mp, Tr.refs, Tr.refs, List.length_append, List.length_append]
    exact ⟨by omega, fun h a ha => (List.mem_append.mp ha).elim (a1.2 (by omega) a) (a2.2 (by omega) a)⟩
  | .app t cs => by
    have a1 := refks_le g hg cs
    have a2 := refk_le g hg t
    rw [Tr.mp, Tr.refs, Tr.refs, List.length_append, List.length_append]
    exact ⟨by omega, fun h a ha => (List.mem_append.mp ha).elim (a2.2 (by omega) a) (a1.2 (by omega) a)⟩
theorem refks_le (g : Ar → Tr) (hg : ∀ a, (∃ b, g a = .area b) ∨ g a = LOSTt) : ∀ ts : List Tr, (Tr.refss (Tr.mps g ts)).length ≤ (Tr.refss ts).length ∧ ((Tr.refss (Tr.mps g ts)).length = (Tr.refss ts).length → ∀ a ∈ Tr.refss ts, ∃ b, g a = .area b)
  | [] => ⟨Nat.le_refl _, fun _ a h => absurd h List.not_mem_nil⟩
  | t :: ts => by
    have a1 := refk_le g hg t
    have a2 := refks_le g hg ts
    rw [Tr.mps, Tr.refss, Tr.refss, List.length_append, List.length_append]
    exact ⟨by omega, fun h a ha => (List.mem_append.mp ha).elim (a1.2 (by omega) a) (a2.2 (by omega) a)⟩
end
mutual
theorem mp_refs {f g : Ar → Tr} : ∀ t : Tr, (∀ a ∈ t.refs, f a = g a) → t.mp f = t.mp g
  | .leaf z ds, _ => rfl
  | .area a, h => h a (List.mem_singleton.mpr rfl)
  | .one z p t, h => by rw [Tr.mp, Tr.mp, mp_refs t h]
  | .two p x y, h => by rw [Tr.mp, Tr.mp, mp_refs x fun a ha => h a (List.mem_append.mpr (.inl ha)), mp_refs y fun a ha => h a (List.mem_append.mpr (.inr ha))]
  | .call p cs, h => by rw [Tr.mp, Tr.mp, mps_refs cs h]
  | .letk p cs t, h => by rw [Tr.mp, Tr.mp, mps_refs cs fun a ha => h a (List.mem_append.mpr (.inl ha)), mp_refs t fun a ha => h a (List.mem_append.mpr (.inr ha))]
  | .app t cs, h => by rw [Tr.mp, Tr.mp, mps_refs cs fun a ha => h a (List.mem_append.mpr (.inr ha)), mp_refs t fun a ha => h a (List.mem_append.mpr (.inl ha))]
theorem mps_refs {f g : Ar → Tr} : ∀ ts : List Tr, (∀ a ∈ Tr.refss ts, f a = g a) → Tr.mps f ts = Tr.mps g ts
  | [], _ => rfl
  | t :: ts, h => by rw [Tr.mps, Tr.mps, mp_refs t fun a ha => h a (List.mem_append.mpr (.inl ha)), mps_refs ts fun a ha => h a (List.mem_append.mpr (.inr ha))]
end
mutual
theorem refs_ok : ∀ {n : Nat} {t : Tr}, t.fit n → ∀ a ∈ t.refs, a.ok
  | 0, _, h => h.elim
  | n + 1, .leaf z ds, h => fun a ha => absurd ha List.not_mem_nil
  | n + 1, .area b, h => fun a ha => by rw [List.mem_singleton.mp ha]; exact h
  | n + 1, .one z p t, h => fun a ha => refs_ok (t := t) h.2.2 a ha
  | n + 1, .two p x y, h => fun a ha => (List.mem_append.mp ha).elim (refs_ok h.2.1 a) (refs_ok h.2.2 a)
  | n + 1, .call p cs, h => fun a ha => refss_ok (ts := cs) h.2.2 a ha
  | n + 1, .letk p cs t, h => fun a ha => (List.mem_append.mp ha).elim (refss_ok h.2.2.1 a) (refs_ok h.2.2.2 a)
  | n + 1, .app t cs, h => fun a ha => (List.mem_append.mp ha).elim (refs_ok h.1 a) (refss_ok h.2.2 a)
theorem refss_ok : ∀ {n : Nat} {ts : List Tr}, (∀ t ∈ ts, t.fit n) → ∀ a ∈ Tr.refss ts, a.ok
  | _, [], h => fun a ha => absurd ha List.not_mem_nil
  | n, t :: ts, h => fun a ha => (List.mem_append.mp ha).elim (refs_ok (h t (List.mem_cons_self ..)) a) (refss_ok (fun u hu => h u (List.mem_cons_of_mem _ hu)) a)
end
theorem shift_two {d e f g : Int} {n : Nat} {t : Tr} (ft : t.fit n) (em : ∀ a ∈ t.refs, EqM a) (hl : (t.mp (wsA (shfS d 20) (shfS e 10))).refs.length = t.refs.length) : (t.mp (wsA (shfS d 20) (shfS e 10))).mp (wsA (shfS f 20) (shfS g 10)) = t.mp (wsA (shfS (d + f) 20) (shfS (e + g) 10)) := by
  rw [mp_mp]
  refine mp_refs t fun a ha => ?_
  obtain ⟨b, eb⟩ := (refk_le _ (ws_cases _ _) t).2 hl a ha
  rw [eb]
  exact ws_two (refs_ok ft a ha) (em a ha) eb

/-! ### what a walk over two trees meets -/
def AKv : List V := [.str "cell", .str "range", .str "rows", .str "columns"]
/-- the head of a tuple: a kind of an area, or not -/
def HdB (K : PySem.W.Frag) (H : Hp) (x : V) (b : Bool) : Prop := (flatV x = true ∧ inV x AKv = b) ∨ (b = false ∧ ∃ q ys, x = .ref q ∧ SqT K H q ys)
def FlN (x : V) : Prop := (∃ i, x = .int i) ∨ (∃ z, x = .str z) ∨ (∃ b, x = .bl b) ∨ x = .non
def Fol (K : PySem.W.Frag) (g : Ar → Tr) : Nat → Hp → V → V → Prop
  | 0, _, _, _ => False
  | n + 1, H, x, y => (FlN x ∧ x = y) ∨ (∃ a, TV K H 1 x (.area a) ∧ TV K H 1 y (g a)) ∨ ∃ (p q : Addr) (xs ys : List V), x = .ref p ∧ y = .ref q ∧ SqT K H p xs ∧ SqT K H q ys ∧ (xs.length = ys.length ∧ ys.length ≤ 5000) ∧ (∀ v, xs[0]? = some v → HdB K H v false) ∧ ∀ (k : Nat) (a b : V), xs[k]? = some a → ys[k]? = some b → Fol K g n H a b
theorem Fol.succ {K : PySem.W.Frag} {g : Ar → Tr} {H : Hp} : ∀ {n : Nat} {x y : V}, Fol K g n H x y → Fol K g (n + 1) H x y
  | 0, _, _, h => h.elim
  | n + 1, x, y, h => by
    rcases h with h | h | ⟨p, q, xs, ys, e1, e2, h1, h2, h3, h4, h5⟩
    · exact .inl h
    · exact .inr (.inl h)
    · exact .inr (.inr ⟨p, q, xs, ys, e1, e2, h1, h2, h3, h4, fun k a b ea eb => (h5 k a b ea eb).succ⟩)
theorem Fol.mono {K : PySem.W.Frag} {g : Ar → Tr} {H : Hp} {n m : Nat} {x y : V} (h : Fol K g n H x y) (e : n ≤ m) : Fol K g m H x y := by
  induction e with
  | refl => exact h
  | step _ ih => exact ih.succ
theorem HdB.keep {K : PySem.W.Frag} {H H' : Hp} {x : V} {b : Bool} (h : HdB K H x b) (e : TK K H H') : HdB K H' x b := by
  rcases h with h | ⟨h, q, ys, e1, e2⟩
  · exact .inl h
  · exact .inr ⟨h, q, ys, e1, e _ _ e2⟩
theorem Fol.keep {K : PySem.W.Frag} {g : Ar → Tr} {H H' : Hp} (e : TK K H H') : ∀ {n : Nat} {x y : V}, Fol K g n H x y → Fol K g n H' x y
  | 0, _, _, h => h.elim
  | n + 1, x, y, h => by
    rcases h with h | ⟨a, h1, h2⟩ | ⟨p, q, xs, ys, e1, e2, h1, h2, h3, h4, h5⟩
    · exact .inl h
    · exact .inr (.inl ⟨a, h1.keep e, h2.keep e⟩)
    · exact .inr (.inr ⟨p, q, xs, ys, e1, e2, e _ _ h1, e _ _ h2, h3, fun v ev => (h4 v ev).keep e, fun k a b ea eb => (h5 k a b ea eb).keep e⟩)
theorem akv_str {z : Str} : inV (.str z) AKv = decide (z ∈ AKd) := by
  unfold inV AKv AKd
  simp only [List.any_cons, List.any_nil, Bool.or_false, eqV_str, List.mem_cons, List.not_mem_nil, or_false]
  rw [Bool.eq_iff_iff]
  simp only [Bool.or_eq_true, beq_iff_eq, decide_eq_true_eq]
  constructor
  · rintro (h | h | h | h)
    · exact .inl h.symm
    · exact .inr (.inl h.symm)
    · exact .inr (.inr (.inl h.symm))
    · exact .inr (.inr (.inr h.symm))
  · rintro (h | h | h | h)
    · exact .inl h.symm
    · exact .inr (.inl h.symm)
    · exact .inr (.inr (.inl h.symm))
    · exact .inr (.inr (.inr h.symm))
theorem hdB_str {K : PySem.W.Frag} {H : Hp} {z : Str} (h : z ∉ AKd) : HdB K H (.str z) false := .inl ⟨rfl, by rw [akv_str]; exact decide_eq_false h⟩
theorem ks_ak {z : Str} (h : z ∉ KS) : z ∉ AKd := fun m => h (by
  have : ∀ a ∈ AKd, a ∈ KS := by decide +kernel
  exact this z m)
theorem hdB_dat {K : PySem.W.Frag} {H : Hp} {n : Nat} {v : V} {d : PyData} (h : FitD n d) (hd : Dp K H v d) (hz : ∀ z, d = .str z → z ∉ AKd) : HdB K H v false := by
  cases n with
  | zero => exact h.elim
  | succ n =>
    rcases h with (rfl | ⟨b, rfl⟩ | ⟨i, rfl⟩ | ⟨z, rfl⟩) | ⟨ds, rfl, _, _⟩
    · cases hd
      exact .inl ⟨rfl, rfl⟩
    · cases hd
      exact .inl ⟨rfl, rfl⟩
    · cases hd
      exact .inl ⟨rfl, rfl⟩
    · cases hd
      exact hdB_str (hz z rfl)
    · obtain ⟨p, xs, rfl, hp, _⟩ := dp_tup_get hd
      exact .inr ⟨rfl, p, xs, rfl, hp⟩
theorem fol_dat {K : PySem.W.Frag} {g : Ar → Tr} {H : Hp} : ∀ {n : Nat} {x y : V} {d : PyData}, FitD n d → Dp K H x d → Dp K H y d → Fol K g n H x y
  | 0, _, _, _, h, _, _ => h.elim
  | n + 1, x, y, d, h, dx, dy => by
    rcases h with (rfl | ⟨b, rfl⟩ | ⟨i, rfl⟩ | ⟨z, rfl⟩) | ⟨ds, rfl, ⟨hl, hh⟩, hf⟩
    · cases dx
      cases dy
      exact .inl ⟨.inr (.inr (.inr rfl)), rfl⟩
    · cases dx
      cases dy
      exact .inl ⟨.inr (.inr (.inl ⟨b, rfl⟩)), rfl⟩
    · cases dx
      cases dy
      exact .inl ⟨.inl ⟨i, rfl⟩, rfl⟩
    · cases dx
      cases dy
      exact .inl ⟨.inr (.inl ⟨z, rfl⟩), rfl⟩
    · obtain ⟨p, xs, rfl, hp, ax⟩ := dp_tup_get dx
      obtain ⟨q, ys, rfl, hq, ay⟩ := dp_tup_get dy
      obtain ⟨l1, g1⟩ := dp_get ax
      obtain ⟨l2, g2⟩ := dp_get ay
      refine .inr (.inr ⟨p, q, xs, ys, rfl, rfl, hp, hq, ⟨l1.trans l2.symm, by omega⟩, fun v ev => ?_, fun k a b ea eb => ?_⟩)
      · have hk : 0 < ds.length := by
          have := (List.getElem?_eq_some_iff.mp ev).1
          omega
        have e0 : ds[0]? = some ds[0] := List.getElem?_eq_getElem hk
        refine hdB_dat (hf _ (List.getElem_mem hk)) (g1 0 v _ ev e0) fun z ez => hh z ?_
        rw [List.head?_eq_getElem?, e0, ez]
      · have hk : k < ds.length := by
          have := (List.getElem?_eq_some_iff.mp ea).1
          omega
        have e0 : ds[k]? = some ds[k] := List.getElem?_eq_getElem hk
        exact fol_dat (hf _ (List.getElem_mem hk)) (g1 k a _ ea e0) (g2 k b _ eb e0)
theorem fol_str {K : PySem.W.Frag} {g : Ar → Tr} {H : Hp} (n : Nat) (z : Str) : Fol K g (n + 1) H (.str z) (.str z) := .inl ⟨.inr (.inl ⟨z, rfl⟩), rfl⟩
theorem fol_tup {K : PySem.W.Frag} {g : Ar → Tr} {H : Hp} {n : Nat} {p q : Addr} {xs ys : List V} (hp : SqT K H p xs) (hq : SqT K H q ys) (hl : xs.length = ys.length) (hn : ys.length ≤ 5000) (hh : ∀ v, xs[0]? = some v → HdB K H v false) (h : ∀ (k : Nat) (a b : V), xs[k]? = some a → ys[k]? = some b → Fol K g n H a b) : Fol K g (n + 1) H (.ref p) (.ref q) := .inr (.inr ⟨p, q, xs, ys, rfl, rfl, hp, hq, ⟨hl, hn⟩, hh, h⟩)
theorem tvs_hd {K : PySem.W.Frag} {H : Hp} {n : Nat} {xs : List V} {ts : List Tr} (h : TVs K H n xs ts) (v : V) (e : xs[0]? = some v) : HdB K H v false := by
  obtain ⟨t, _, tv⟩ := h.at e
  cases n with
  | zero => exact tv.2.elim
  | succ n =>
    obtain ⟨p, z, ys, rfl, hp⟩ := tv.kind
    exact .inr ⟨rfl, p, _, rfl, hp⟩
theorem fol_tr {K : PySem.W.Frag} {g : Ar → Tr} {H : Hp} (hg : ∀ a : Ar, a.ok → (g a).fit 1) : ∀ {n : Nat} {t : Tr} {x y : V}, TV K H n x t → TV K H n y (t.mp g) → Fol K g (2 * n + 5) H x y
  | 0, _, _, _, h, _ => h.2.elim
  | n + 1, t, x, y, h, k => by
    have key : ∀ {ts : List Tr} {q q' : Addr} {xs ys : List V}, SqT K H q xs → SqT K H q' ys → TVs K H n xs ts → TVs K H n ys (ts.map (Tr.mp g)) → ts.length ≤ 16 → Fol K g (2 * n + 6) H (.ref q) (.ref q') := fun {ts q q' xs ys} h1 h2 t1 t2 hl => by
      have l1 := t1.len
      have l2 := t2.len
      rw [List.length_map] at l2
      refine fol_tup h1 h2 (by omega) (by omega) (tvs_hd t1) fun k a b ea eb => ?_
      obtain ⟨u, eu, tu⟩ := t1.at ea
      obtain ⟨w, ew, tw⟩ := t2.at eb
      rw [List.getElem?_map, eu] at ew
      cases ew
      exact fol_tr hg tu tw
    obtain ⟨p, rfl, ho⟩ := h.open
    cases t with
    | leaf z ds =>
      obtain ⟨xs, hp, hx, hz⟩ := ho
      have hf := h.2
      refine (fol_dat (n := 5) (d := .tuple (.str z :: ds)) ?_ h.1 k.1).mono (by omega)
      refine fitD_tup (by have := hf.2.1; rw [List.length_cons]; omega) (fun e he => ?_) (fun y ey => ?_)
      · rcases List.mem_cons.mp he with rfl | he
        · exact fitD_str _ _
        · exact hf.2.2 e he
      · rw [List.head?_cons] at ey
        have e2 : z = y := PyData.str.inj (Option.some.inj ey)
        exact e2 ▸ ks_ak hz
    | area a =>
      exact .inr (.inl ⟨a, ⟨h.1, h.2⟩, ⟨k.1, hg a h.2⟩⟩)
    | one z d t =>
      obtain ⟨y1, x1, hp, hy, tx, hz, fd⟩ := ho
      obtain ⟨p', rfl, hp', ho'⟩ : ∃ p', y = .ref p' ∧ ∃ y1' x1', SqT K H p' [.str z, y1', x1'] ∧ Dp K H y1' d ∧ TV K H n x1' (t.mp g) := by
        obtain ⟨p', e, y1', x1', h1, h2, h3, _⟩ := k.open
        exact ⟨p', e, y1', x1', h1, h2, h3⟩
      obtain ⟨x1', h1, h2, h3⟩ := ho'
      refine fol_tup hp h1 rfl (by show 3 ≤ 5000; decide) (fun v ev => ?_) fun k a b ea eb => ?_
      · cases ev
        rcases hz with rfl | rfl
        · exact hdB_str (by decide +kernel)
        · exact hdB_str (by decide +kernel)
      · rcases k with _ | _ | _ | k
        · cases ea
          cases eb
          exact fol_str _ _
        · cases ea
          cases eb
          exact (fol_dat fd hy h2).mono (by omega)
        · cases ea
          cases eb
          exact (fol_tr hg tx h3).mono (by omega)
        · cases ea
    | two d t u =>
      obtain ⟨y1, x1, x2, hp, hy, tx, ty, fd⟩ := ho
      obtain ⟨p', rfl, y1', x1', x2', h1, h2, h3, h4, _⟩ := k.open
      refine fol_tup hp h1 rfl (by show 4 ≤ 5000; decide) (fun v ev => ?_) fun k a b ea eb => ?_
      · cases ev
        exact hdB_str (by decide +kernel)
      · rcases k with _ | _ | _ | _ | k
        · cases ea
          cases eb
          exact fol_str _ _
        · cases ea
          cases eb
          exact (fol_dat fd hy h2).mono (by omega)
        · cases ea
          cases eb
          exact (fol_tr hg tx h3).mono (by omega)
        · cases ea
          cases eb
          exact (fol_tr hg ty h4).mono (by omega)
        · cases ea
    | call d cs =>
      obtain ⟨y1, q, xs, hp, hy, hq, ts, fd, hl⟩ := ho
      obtain ⟨p', rfl, y1', q', xs', h1, h2, h3, h4, _⟩ := k.open
      have h4 : TVs K H n xs' (cs.map (Tr.mp g)) := by rw [← mps_eq]; exact h4
      refine fol_tup hp h1 rfl (by show 3 ≤ 5000; decide) (fun v ev => ?_) fun k a b ea eb => ?_
      · cases ev
        exact hdB_str (by decide +kernel)
      · rcases k with _ | _ | _ | k
        · cases ea
          cases eb
          exact fol_str _ _
        · cases ea
          cases eb
          exact (fol_dat fd hy h2).mono (by omega)
        · cases ea
          cases eb
          exact (key hq h3 ts h4 hl).mono (by omega)
        · cases ea
    | letk d cs t =>
      obtain ⟨y1, q, xs, x1, hp, hy, hq, ts, tx, fd, hl⟩ := ho
      obtain ⟨p', rfl, y1', q', xs', x1', h1, h2, h3, h4, h5, _⟩ := k.open
      have h4 : TVs K H n xs' (cs.map (Tr.mp g)) := by rw [← mps_eq]; exact h4
      refine fol_tup hp h1 rfl (by show 4 ≤ 5000; decide) (fun v ev => ?_) fun k a b ea eb => ?_
      · cases ev
        exact hdB_str (by decide +kernel)
      · rcases k with _ | _ | _ | _ | k
        · cases ea
          cases eb
          exact fol_str _ _
        · cases ea
          cases eb
          exact (fol_dat fd hy h2).mono (by omega)
        · cases ea
          cases eb
          exact (key hq h3 ts h4 hl).mono (by omega)
        · cases ea
          cases eb
          exact (fol_tr hg tx h5).mono (by omega)
        · cases ea
    | app t cs =>
      obtain ⟨x1, q, xs, hp, tx, hq, ts, hl⟩ := ho
      obtain ⟨p', rfl, x1', q', xs', h1, h2, h3, h4, _⟩ := k.open
      have h4 : TVs K H n xs' (cs.map (Tr.mp g)) := by rw [← mps_eq]; exact h4
      refine fol_tup hp h1 rfl (by show 3 ≤ 5000; decide) (fun v ev => ?_) fun k a b ea eb => ?_
      · cases ev
        exact hdB_str (by decide +kernel)
      · rcases k with _ | _ | _ | k
        · cases ea
          cases eb
          exact fol_str _ _
        · cases ea
          cases eb
          exact (fol_tr hg tx h2).mono (by omega)
        · cases ea
          cases eb
          exact (key hq h3 ts h4 hl).mono (by omega)
        · cases ea

/-! ### the law's shifting, told of data -/
theorem ar_inj {a b : Ar} (ha : a.ok) (hb : b.ok) (h : a.data = b.data) : a = b := by
  have e1 : PyData.str a.k :: shD a.sh :: a.rest = PyData.str b.k :: shD b.sh :: b.rest := PyData.tuple.inj h
  have e2 : a.k = b.k := PyData.str.inj (List.cons.inj e1).1
  have e3 := (List.cons.inj (List.cons.inj e1).2).1
  have e4 : a.sh = b.sh := by
    cases h1 : a.sh <;> cases h2 : b.sh <;> rw [h1, h2] at e3 <;> cases e3 <;> rfl
  have e5 : a.rest = b.rest := (List.cons.inj (List.cons.inj e1).2).2
  have e6 : a.ns.length = b.ns.length := by
    rcases ha.1 with ⟨h1, h2, _⟩ | ⟨h1, h2, _⟩ | ⟨h1, h2, _⟩ | ⟨h1, h2, _⟩ <;> rcases hb.1 with ⟨g1, g2, _⟩ | ⟨g1, g2, _⟩ | ⟨g1, g2, _⟩ | ⟨g1, g2, _⟩ <;> first
      | exact h2.trans g2.symm
      | exact absurd (h1.symm.trans (e2.trans g1)) (by decide +kernel)
  have e7 : a.ns.map PyData.int = b.ns.map PyData.int ∧ a.ms.map PyData.bool = b.ms.map PyData.bool := List.append_inj e5 (by rw [List.length_map, List.length_map, e6])
  have i1 : ∀ {xs ys : List Int}, xs.map PyData.int = ys.map PyData.int → xs = ys := fun {xs} => by
    induction xs with
    | nil => intro ys h; cases ys with
      | nil => rfl
      | cons y ys => cases h
    | cons x xs ih => intro ys h; cases ys with
      | nil => cases h
      | cons y ys =>
        have q := List.cons.inj h
        rw [PyData.int.inj q.1, ih q.2]
  have i2 : ∀ {xs ys : List Bool}, xs.map PyData.bool = ys.map PyData.bool → xs = ys := fun {xs} => by
    induction xs with
    | nil => intro ys h; cases ys with
      | nil => rfl
      | cons y ys => cases h
    | cons x xs ih => intro ys h; cases ys with
      | nil => cases h
      | cons y ys =>
        have q := List.cons.inj h
        rw [PyData.bool.inj q.1, ih q.2]
  obtain ⟨k, sh, ns, ms⟩ := a
  obtain ⟨k', sh', ns', ms'⟩ := b
  obtain rfl : k = k' := e2
  obtain rfl : sh = sh' := e4
  obtain rfl : ns = ns' := i1 e7.1
  obtain rfl : ms = ms' := i2 e7.2
  rfl
/-- what the law's shifting may meet: data without an area, areas, and tuples of such -/
inductive Shf (g : Ar → Tr) : Nat → PyData → PyData → Prop
  | dat {n : Nat} {d : PyData} : FitD (n + 1) d → Shf g (n + 1) d d
  | area {n : Nat} {a : Ar} : a.ok → Shf g (n + 1) a.data (g a).data
  | tup {n : Nat} {ds es : List PyData} : ds.length = es.length → ds.length ≤ 5000 → hdA ds → (∀ (k : Nat) (d e : PyData), ds[k]? = some d → es[k]? = some e → Shf g n d e) → Shf g (n + 1) (.tuple ds) (.tuple es)
theorem Shf.succ {g : Ar → Tr} : ∀ {n : Nat} {d e : PyData}, Shf g n d e → Shf g (n + 1) d e := fun {n d e} h => by
  induction h with
  | dat h => exact .dat h.succ
  | area h => exact .area h
  | tup h1 h2 h3 _ ih => exact .tup h1 h2 h3 ih
theorem Shf.mono {g : Ar → Tr} {n m : Nat} {d e : PyData} (h : Shf g n d e) (k : n ≤ m) : Shf g m d e := by
  induction k with
  | refl => exact h
  | step _ ih => exact ih.succ
theorem Shf.fitW {g : Ar → Tr} (hg : ∀ a : Ar, a.ok → (g a).fit 1) {n : Nat} {d e : PyData} (h : Shf g n d e) : FitW (n + 7) d ∧ FitW (n + 7) e := by
  induction h with
  | dat h => exact ⟨h.weak.mono (by omega), h.weak.mono (by omega)⟩
  | @area n a h => exact ⟨(Tr.fit.fitW (n := 1) (t := .area a) h).mono (by omega), ((hg a h).fitW).mono (by omega)⟩
  | @tup n ds es h1 h2 h3 h4 ih =>
    refine ⟨fitW_tup h2 fun d hd => ?_, fitW_tup (by omega) fun e he => ?_⟩
    · obtain ⟨k, hk⟩ := List.getElem?_of_mem hd
      have hl := (List.getElem?_eq_some_iff.mp hk).1
      exact (ih k d _ hk (List.getElem?_eq_getElem (by omega))).1
    · obtain ⟨k, hk⟩ := List.getElem?_of_mem he
      have hl := (List.getElem?_eq_some_iff.mp hk).1
      exact (ih k _ e (List.getElem?_eq_getElem (by omega)) hk).2
theorem hdA_str {z : Str} {ds : List PyData} (h : z ∉ AKd) : hdA (.str z :: ds) := fun y e => by
  have e2 : z = y := PyData.str.inj (Option.some.inj e)
  exact e2 ▸ h
theorem shf_datas {g : Ar → Tr} {n : Nat} {ts : List Tr} (hl : ts.length ≤ 5000) (h : ∀ t ∈ ts, Shf g n t.data (t.mp g).data) : Shf g (n + 1) (.tuple (Tr.datas ts)) (.tuple (Tr.datas (Tr.mps g ts))) := by
  rw [datas_eq, datas_eq, mps_eq, List.map_map]
  refine .tup (by rw [List.length_map, List.length_map]) (by rw [List.length_map]; exact hl) ?_ fun k d e ed ee => ?_
  · refine hdA_tups fun e he => ?_
    obtain ⟨t, _, rfl⟩ := List.mem_map.mp he
    cases t <;> exact ⟨_, rfl⟩
  · rw [List.getElem?_map] at ed ee
    cases ht : ts[k]? with
    | none =>
      rw [ht] at ed
      cases ed
    | some t =>
      rw [ht] at ed ee
      cases ed
      cases ee
      exact h t (List.mem_of_getElem? ht)
theorem shf_tr {g : Ar → Tr} : ∀ {n : Nat} {t : Tr}, t.fit n → Shf g (2 * n + 5) t.data (t.mp g).data
  | 0, _, h => h.elim
  | n + 1, .leaf z ds, h => by
    refine Shf.mono (n := 5) (.dat (fitD_tup (by have := h.2.1; rw [List.length_cons]; omega) (fun e he => ?_) (hdA_str (ks_ak h.1)))) (by omega)
    rcases List.mem_cons.mp he with rfl | he
    · exact fitD_str _ _
    · exact h.2.2 e he
  | n + 1, .area a, h => .area h
  | n + 1, .one z p t, h => by
    have hz : z ∉ AKd := by
      rcases h.1 with rfl | rfl
      · decide +kernel
      · decide +kernel
    refine .tup rfl (by show 3 ≤ 5000; decide) (hdA_str hz) fun k d e ed ee => ?_
    rcases k with _ | _ | _ | k
    · cases ed
      cases ee
      exact .dat (fitD_str _ _)
    · cases ed
      cases ee
      exact Shf.mono (n := 4) (.dat h.2.1) (by omega)
    · cases ed
      cases ee
      exact (shf_tr h.2.2).mono (by omega)
    · cases ed
  | n + 1, .two p x y, h => by
    refine .tup rfl (by show 4 ≤ 5000; decide) (hdA_str (by decide +kernel)) fun k d e ed ee => ?_
    rcases k with _ | _ | _ | _ | k
    · cases ed
      cases ee
      exact .dat (fitD_str _ _)
    · cases ed
      cases ee
      exact Shf.mono (n := 4) (.dat h.1) (by omega)
    · cases ed
      cases ee
      exact (shf_tr h.2.1).mono (by omega)
    · cases ed
      cases ee
      exact (shf_tr h.2.2).mono (by omega)
    · cases ed
  | n + 1, .call p cs, h => by
    refine .tup rfl (by show 3 ≤ 5000; decide) (hdA_str (by decide +kernel)) fun k d e ed ee => ?_
    rcases k with _ | _ | _ | k
    · cases ed
      cases ee
      exact .dat (fitD_str _ _)
    · cases ed
      cases ee
      exact Shf.mono (n := 4) (.dat h.1) (by omega)
    · cases ed
      cases ee
      exact (shf_datas (by have := h.2.1; omega) fun t ht => shf_tr (h.2.2 t ht)).mono (by omega)
    · cases ed
  | n + 1, .letk p cs t, h => by
    refine .tup rfl (by show 4 ≤ 5000; decide) (hdA_str (by decide +kernel)) fun k d e ed ee => ?_
    rcases k with _ | _ | _ | _ | k
    · cases ed
      cases ee
      exact .dat (fitD_str _ _)
    · cases ed
      cases ee
      exact Shf.mono (n := 4) (.dat h.1) (by omega)
    · cases ed
      cases ee
      exact (shf_datas (by have := h.2.1; omega) fun t ht => shf_tr (h.2.2.1 t ht)).mono (by omega)
    · cases ed
      cases ee
      exact (shf_tr h.2.2.2).mono (by omega)
    · cases ed
  | n + 1, .app t cs, h => by
    refine .tup rfl (by show 3 ≤ 5000; decide) (hdA_str (by decide +kernel)) fun k d e ed ee => ?_
    rcases k with _ | _ | _ | k
    · cases ed
      cases ee
      exact .dat (fitD_str _ _)
    · cases ed
      cases ee
      exact (shf_tr h.1).mono (by omega)
    · cases ed
      cases ee
      exact (shf_datas (by have := h.2.1; omega) fun t ht => shf_tr (h.2.2 t ht)).mono (by omega)
    · cases ed

mutual
/-- all parts with their depths -/
def Tr.preD (k : Nat) : Tr → List (Tr × Nat)
  | .leaf z ds => [(.leaf z ds, k)]
  | .area a => [(.area a, k)]
  | .one z p t => (.one z p t, k) :: t.preD (k + 1)
  | .two p x y => (.two p x y, k) :: (x.preD (k + 1) ++ y.preD (k + 1))
  | .call p cs => (.call p cs, k) :: Tr.presD (k + 1) cs
  | .letk p cs t => (.letk p cs t, k) :: (Tr.presD (k + 1) cs ++ t.preD (k + 1))
  | .app t cs => (.app t cs, k) :: (t.preD (k + 1) ++ Tr.presD (k + 1) cs)
def Tr.presD (k : Nat) : List Tr → List (Tr × Nat)
  | [] => []
  | t :: ts => t.preD k ++ Tr.presD k ts
end
theorem presD_app (k : Nat) : ∀ (xs ys : List Tr), Tr.presD k (xs ++ ys) = Tr.presD k xs ++ Tr.presD k ys
  | [], ys => rfl
  | t :: ts, ys => by rw [List.cons_append, Tr.presD, Tr.presD, presD_app k ts ys, List.append_assoc]
theorem preD_kids (k : Nat) (t : Tr) : t.preD k = (t, k) :: Tr.presD (k + 1) t.kids := by
  cases t <;> simp [Tr.preD, Tr.presD, Tr.kids, presD_app]
mutual
theorem preD_fst (k : Nat) : ∀ t : Tr, (t.preD k).map Prod.fst = t.pre
  | .leaf z ds => rfl
  | .area a => rfl
  | .one z p t => by rw [Tr.preD, Tr.pre, List.map_cons, preD_fst (k + 1) t]
  | .two p x y => by rw [Tr.preD, Tr.pre, List.map_cons, List.map_append, preD_fst (k + 1) x, preD_fst (k + 1) y]
  | .call p cs => by rw [Tr.preD, Tr.pre, List.map_cons, presD_fst (k + 1) cs]
  | .letk p cs t => by rw [Tr.preD, Tr.pre, List.map_cons, List.map_append, preD_fst (k + 1) t, presD_fst (k + 1) cs]
  | .app t cs => by rw [Tr.preD, Tr.pre, List.map_cons, List.map_append, preD_fst (k + 1) t, presD_fst (k + 1) cs]
theorem presD_fst (k : Nat) : ∀ ts : List Tr, (Tr.presD k ts).map Prod.fst = Tr.pres ts
  | [] => rfl
  | t :: ts => by rw [Tr.presD, Tr.pres, List.map_append, preD_fst k t, presD_fst k ts]
end
theorem presD_mem {k : Nat} : ∀ {ts : List Tr} {p : Tr × Nat}, p ∈ Tr.presD k ts → ∃ t ∈ ts, p ∈ t.preD k
  | u :: us, p, h => by
    rw [Tr.presD] at h
    rcases List.mem_append.mp h with h | h
    · exact ⟨u, List.mem_cons_self .., h⟩
    · obtain ⟨t, h1, h2⟩ := presD_mem h
      exact ⟨t, List.mem_cons_of_mem _ h1, h2⟩
theorem presD_of {k : Nat} : ∀ {ts : List Tr} {t : Tr} {p : Tr × Nat}, t ∈ ts → p ∈ t.preD k → p ∈ Tr.presD k ts
  | u :: us, t, p, h, g => by
    rw [Tr.presD]
    rcases List.mem_cons.mp h with rfl | h
    · exact List.mem_append.mpr (.inl g)
    · exact List.mem_append.mpr (.inr (presD_of h g))
theorem deps_at : ∀ {ts : List Tr}, ts ≠ [] → ∃ t ∈ ts, t.dep = Tr.deps ts
  | [], h => absurd rfl h
  | [u], _ => ⟨u, List.mem_cons_self .., by rw [Tr.deps, Tr.deps]; omega⟩
  | u :: v :: us, _ => by
    obtain ⟨t, h1, h2⟩ := deps_at (ts := v :: us) (by simp)
    rw [Tr.deps]
    by_cases h : Tr.deps (v :: us) ≤ u.dep
    · exact ⟨u, List.mem_cons_self .., by omega⟩
    · exact ⟨t, List.mem_cons_of_mem _ h1, by omega⟩
theorem preD_bd : ∀ (n : Nat) (t : Tr) (k : Nat), t.sz ≤ n → (∀ p ∈ t.preD k, p.2 + 1 ≤ k + t.dep) ∧ ∃ p ∈ t.preD k, p.2 + 1 = k + t.dep
  | 0, t, k, h => absurd h (by have := sz_pos t; omega)
  | n + 1, t, k, h => by
    have e1 := preD_kids k t
    have e2 := dep_kids t
    have e3 := sz_kids t
    rw [e1]
    have ih : ∀ c ∈ t.kids, (∀ p ∈ c.preD (k + 1), p.2 + 1 ≤ k + 1 + c.dep) ∧ ∃ p ∈ c.preD (k + 1), p.2 + 1 = k + 1 + c.dep := fun c hc => preD_bd n c (k + 1) (by have := szs_mem hc; omega)
    refine ⟨fun p hp => ?_, ?_⟩
    · rcases List.mem_cons.mp hp with rfl | hp
      · show k + 1 ≤ _
        omega
      · obtain ⟨c, h1, h2⟩ := presD_mem hp
        have := (ih c h1).1 p h2
        have := deps_mem h1
        omega
    · by_cases hk : t.kids = []
      · refine ⟨(t, k), List.mem_cons_self .., ?_⟩
        rw [e2, hk]
        rfl
      · obtain ⟨c, h1, h2⟩ := deps_at hk
        obtain ⟨p, h3, h4⟩ := (ih c h1).2
        exact ⟨p, List.mem_cons_of_mem _ (presD_of h1 h3), by omega⟩
theorem max_preD (t : Tr) {m : Int} (h : m ∈ (t.preD 1).map fun p => (p.2 : Int)) (k : ∀ y, y ∈ ((t.preD 1).map fun p => (p.2 : Int)) → y ≤ m) : m = (t.dep : Int) := by
  obtain ⟨h1, p, h2, h3⟩ := preD_bd t.sz t 1 (Nat.le_refl _)
  obtain ⟨q, h4, rfl⟩ := List.mem_map.mp h
  have h5 := h1 q h4
  have h6 := k p.2 (List.mem_map.mpr ⟨p, h2, rfl⟩)
  omega
def preE : List (Tr × Nat) → List (Tr × Nat)
  | [] => []
  | p :: ps => p.1.preD p.2 ++ preE ps
theorem preE_app : ∀ (xs ys : List (Tr × Nat)), preE (xs ++ ys) = preE xs ++ preE ys
  | [], ys => rfl
  | t :: ts, ys => by rw [List.cons_append, preE, preE, preE_app ts ys, List.append_assoc]
theorem preE_kids (k : Nat) : ∀ ts : List Tr, preE (ts.map fun t => (t, k)) = Tr.presD k ts
  | [] => rfl
  | t :: ts => by rw [List.map_cons, preE, Tr.presD, preE_kids k ts]
theorem pres_mem : ∀ {ts : List Tr} {u : Tr}, u ∈ Tr.pres ts → ∃ t ∈ ts, u ∈ t.pre
  | v :: vs, u, h => by
    rw [Tr.pres] at h
    rcases List.mem_append.mp h with h | h
    · exact ⟨v, List.mem_cons_self .., h⟩
    · obtain ⟨t, h1, h2⟩ := pres_mem h
      exact ⟨t, List.mem_cons_of_mem _ h1, h2⟩
theorem sz_pre_n : ∀ (n : Nat) (t u : Tr), t.sz ≤ n → u ∈ t.pre → u.sz ≤ t.sz
  | 0, t, u, h, _ => absurd h (by have := sz_pos t; omega)
  | n + 1, t, u, h, hu => by
    rw [pre_kids] at hu
    rcases List.mem_cons.mp hu with rfl | hu
    · exact Nat.le_refl _
    · obtain ⟨c, h1, h2⟩ := pres_mem hu
      have h3 := szs_mem h1
      have h4 := sz_kids t
      have := sz_pre_n n c u (by omega) h2
      omega
theorem sz_pre (t u : Tr) (h : u ∈ t.pre) : u.sz ≤ t.sz := sz_pre_n t.sz t u (Nat.le_refl _) h
theorem pres_refl : ∀ t : Tr, t ∈ t.pre := fun t => by
  rw [pre_kids]
  exact List.mem_cons_self ..
/-- the next level -/
def lev (ts : List Tr) : List Tr := ts.flatMap Tr.kids
theorem lev_deps : ∀ ts : List Tr, Tr.deps (lev ts) = Tr.deps ts - 1
  | [] => rfl
  | t :: ts => by
    have ih := lev_deps ts
    unfold lev at ih ⊢
    rw [List.flatMap_cons, deps_app, ih, Tr.deps]
    have := dep_kids t
    omega
theorem lev_szs : ∀ ts : List Tr, Tr.szs (lev ts) + ts.length = Tr.szs ts
  | [] => rfl
  | t :: ts => by
    have ih := lev_szs ts
    unfold lev at ih ⊢
    rw [List.flatMap_cons, szs_app, Tr.szs, List.length_cons]
    have := sz_kids t
    omega
/-- an entry of the walk: a tree and its depth -/
def WkE (K : PySem.W.Frag) (H : Hp) (n : Nat) (x : V) (p : Tr × Nat) : Prop := ∃ e v, x = .ref e ∧ SqT K H e [v, .int (p.2 : Int)] ∧ TV K H n v p.1
theorem WkE.keep {K : PySem.W.Frag} {H H' : Hp} {n : Nat} {x : V} {p : Tr × Nat} (h : WkE K H n x p) (k : TK K H H') : WkE K H' n x p := by
  obtain ⟨e, v, h1, h2, h3⟩ := h
  exact ⟨e, v, h1, k _ _ h2, h3.keep k⟩
theorem wks_keep {K : PySem.W.Frag} {H H' : Hp} {n : Nat} {xs : List V} {ps : List (Tr × Nat)} (h : A2 (WkE K H n) xs ps) (k : TK K H H') : A2 (WkE K H' n) xs ps := h.imp fun _ _ q => q.keep k
theorem a2_last {α : Type} {R : V → α → Prop} {xs : List V} {ys : List α} (h : A2 R xs ys) (hl : 1 ≤ ys.length) : ∃ xs0 x ys0 y, xs = xs0 ++ [x] ∧ ys = ys0 ++ [y] ∧ A2 R xs0 ys0 ∧ R x y := by
  obtain ⟨xs0, x, rfl, _⟩ := list_last (xs := xs) (by rw [h.1]; exact hl)
  obtain ⟨ys0, y, rfl, _⟩ := list_last (xs := ys) hl
  have hl2 : xs0.length = ys0.length := by
    have := h.1
    rw [List.length_append, List.length_append] at this
    exact Nat.add_right_cancel this
  refine ⟨xs0, x, ys0, y, rfl, rfl, ⟨hl2, fun k a b ea eb => ?_⟩, ?_⟩
  · have k1 := (List.getElem?_eq_some_iff.mp ea).1
    have k2 := (List.getElem?_eq_some_iff.mp eb).1
    exact h.2 k a b (by rw [List.getElem?_append_left k1]; exact ea) (by rw [List.getElem?_append_left k2]; exact eb)
  · refine h.2 xs0.length x y (by rw [List.getElem?_append_right (Nat.le_refl _), Nat.sub_self]; rfl) (by rw [hl2, List.getElem?_append_right (Nat.le_refl _), Nat.sub_self]; rfl)

/-! ### the inner def of shifted -/
def nd_shifted : Stmt := match defBody sshifted with
  | d :: _ => d
  | _ => .Pass ⟨0, 0, 0, 0⟩
def dA_shifted : Arguments := match nd_shifted with
  | .FunctionDef _ p _ _ _ _ _ _ _ _ => p
  | _ => { posonlyargs := [], args := [], vararg := none, kwonlyargs := [], kw_defaults := [], kwarg := none, defaults := [] }
def dB_shifted : List Stmt := match nd_shifted with
  | .FunctionDef _ _ b _ _ _ _ _ _ _ => b
  | _ => []
def dS_shifted : Scope := match nd_shifted with
  | .FunctionDef _ _ _ _ _ _ s _ _ _ => s
  | _ => defScope sshifted
def lamE1 : Expr := match dB_shifted with
  | [.Return (some (.Call _ [_, e, _] _ _)) _] => e
  | _ => .Constant .none 0 ⟨0, 0, 0, 0⟩
def lamE2 : Expr := match dB_shifted with
  | [.Return (some (.Call _ [_, _, e] _ _)) _] => e
  | _ => .Constant .none 0 ⟨0, 0, 0, 0⟩
def lamAof (e : Expr) : Arguments := match e with
  | .Lambda p _ _ _ => p
  | _ => { posonlyargs := [], args := [], vararg := none, kwonlyargs := [], kw_defaults := [], kwarg := none, defaults := [] }
def lamBof (e : Expr) : Expr := match e with
  | .Lambda _ b _ _ => b
  | e => e
def lamSof (e : Expr) : Scope := match e with
  | .Lambda _ _ s _ => s
  | _ => defScope sshifted
def lamA1 : Arguments := lamAof lamE1
def lamB1 : Expr := lamBof lamE1
def lamS1 : Scope := lamSof lamE1
def lamA2 : Arguments := lamAof lamE2
def lamB2 : Expr := lamBof lamE2
def lamS2 : Scope := lamSof lamE2
def qD_shifted : Str := (Str.ofString "shifted" ++ ".<locals>.") ++ "deed"
def qL_shifted : Str := (((Str.ofString "shifted" ++ ".<locals>.") ++ "deed") ++ ".<locals>.") ++ "<lambda>"
def mkD_shifted (cl : List (Str × Addr)) (c' : Addr) : NdefX.NF := ⟨"deed", qD_shifted, dA_shifted, dB_shifted, dS_shifted, cl, c'⟩
def mkL1 (cl : List (Str × Addr)) (c' : Addr) : NdefX.NF := ⟨"<lambda>", qL_shifted, lamA1, [], lamS1, cl, c'⟩
def mkL2 (cl : List (Str × Addr)) (c' : Addr) : NdefX.NF := ⟨"<lambda>", qL_shifted, lamA2, [], lamS2, cl, c'⟩
theorem lamFree1 : ∀ y ∈ lamS1.names, y.2 = .free → dS_shifted.names.lookup y.1 = some .cell ∨ dS_shifted.names.lookup y.1 = some .free := by decide +kernel
theorem lamFree2 : ∀ y ∈ lamS2.names, y.2 = .free → dS_shifted.names.lookup y.1 = some .cell ∨ dS_shifted.names.lookup y.1 = some .free := by decide +kernel
theorem lamOnly1 : ∀ y ∈ lamS1.names, y.2 = .free → y.1 = ("down" : Str) := by decide +kernel
theorem lamOnly2 : ∀ y ∈ lamS2.names, y.2 = .free → y.1 = ("right" : Str) := by decide +kernel
theorem lamDeed1 : (("down" : Str), NameKind.free) ∈ lamS1.names := by decide +kernel
theorem lamDeed2 : (("right" : Str), NameKind.free) ∈ lamS2.names := by decide +kernel
theorem dFree_shifted : ∀ y ∈ dS_shifted.names, y.2 = .free → (defScope sshifted).names.lookup y.1 = some .cell ∨ (defScope sshifted).names.lookup y.1 = some .free := by decide +kernel
theorem dDeed_shifted : ∀ y ∈ (["down", "right"] : List Str), (y, NameKind.free) ∈ dS_shifted.names := by decide +kernel
theorem lamScp1 : NdefX.NScope ["span", "down"] ["span"] ["down"] lamS1 := NdefX.nscope_by (by decide +kernel)
theorem lamScp2 : NdefX.NScope ["line", "right"] ["line"] ["right"] lamS2 := NdefX.nscope_by (by decide +kernel)
theorem dScp_shifted : NdefX.NScope ["node", "down", "right"] ["node"] ["down", "right"] dS_shifted := NdefX.nscope_by (by decide +kernel)
def spLam (K : PySem.W.Frag) (L : Int) : List (Option V) → Sp := fun ws vs H Q _ => ∃ (many : Int) (p : Addr) (s : Sn), ws = [some (.int many)] ∧ vs = [.ref p] ∧ SqT K H p s.vs ∧ ∀ (r : V) (H' : Hp), Same H H' → OSn K H' r (shfS many L s) → Q r H'
def spD_shifted (K : PySem.W.Frag) : Addr → Addr → List (Option V) → Sp := fun _ Pi ws vs H Q _ => ∃ (down right : Int) (v : V) (a : Ar) (n : Nat), ws = [some (.int down), some (.int right)] ∧ vs = [v] ∧ TV K H (n + 1) v (.area a) ∧ NdefX.TabN H Pi nmK ∧ ∀ (r : V) (H' : Hp), ButT nmK Pi H H' → NdefX.TabN H' Pi nmK → TV K H' 1 r (wsA (shfS down 20) (shfS right 10) a) → Q r H'

theorem lkM {K : PySem.W.Frag} {H : Hp} {n m : Nat} {x y : V} (h : Lk K n H x y) (e : n ≤ m) : Lk K m H x y := by
  obtain ⟨d, a, b, f⟩ := h
  exact ⟨d, a, b, f.mono e⟩
theorem lk_flat {K : PySem.W.Frag} {H : Hp} {x : V} (h : FlN x) (n : Nat) : Lk K (n + 1) H x x := by
  rcases h with ⟨i, rfl⟩ | ⟨z, rfl⟩ | ⟨b, rfl⟩ | rfl
  · exact ⟨.int i, .int i, .int i, fitW_int _ _⟩
  · exact ⟨.str z, .str z, .str z, fitW_str _ _⟩
  · exact ⟨.bool b, .bl b, .bl b, fitW_bl _ _⟩
  · exact ⟨.none, .non, .non, fitW_non _⟩
theorem hdB_area {K : PySem.W.Frag} {H : Hp} {a : Ar} (ok : a.ok) : HdB K H (.str a.k) true := .inl ⟨rfl, by
  rw [akv_str]
  refine decide_eq_true ?_
  rcases ok.cases with ⟨sh, r, c, x, y, rfl⟩ | ⟨sh, t, l, b, r, x, y, z, u, rfl⟩ | ⟨sh, t, b, x, y, rfl⟩ | ⟨sh, l, r, x, y, rfl⟩
  · show ("cell" : Str) ∈ AKd
    decide +kernel
  · show ("range" : Str) ∈ AKd
    decide +kernel
  · show ("rows" : Str) ∈ AKd
    decide +kernel
  · show ("columns" : Str) ∈ AKd
    decide +kernel⟩

theorem extL {K : PySem.W.Frag} {H H' : Hp} {p : Addr} {xs : List V} (e : LamX.ExtN H H') (h : SqL K H p xs) : SqL K H' p xs := by
  rcases h with (h | ⟨o, h⟩) | h
  · exact .inl (.inl (e _ _ h fun ps z => by cases z))
  · exact .inl (.inr ⟨o, e _ _ h fun ps z => by cases z⟩)
  · exact .inr h
theorem TT.box {K : PySem.W.Frag} {SP : List Addr} {nm : Nm} {b : Addr} {c : Addr × Addr} {ns : List Int × List Int} {H H' : Hp} (t : TT SP nm H) (h : BoxS K b c ns H) (x : Bs K b c ns H H') : TT SP nm H' := fun P hP => by
  obtain ⟨⟨i1, i2, i3, i4, i5, e, _⟩, _⟩ := h
  obtain ⟨ps, h1, h2, h3⟩ := t P hP
  refine ⟨ps, x.1 _ _ (ne_of h1 e (fun z => nomatch z)) h1, h2, fun pos cv hc => ?_⟩
  obtain ⟨c0, Pi, e1, e2, ⟨qs, g1, g2, g3⟩, e4⟩ := h3 pos cv hc
  refine ⟨c0, Pi, e1, x.1 _ _ (ne_of e2 e (fun z => by unfold CodeT at z; cases z)) e2, ⟨qs, x.1 _ _ (ne_of g1 e (fun z => nomatch z)) g1, g2, fun pos2 cv2 hc2 => ?_⟩, e4⟩
  obtain ⟨c2, d1, d2⟩ := g3 pos2 cv2 hc2
  exact ⟨c2, d1, x.1 _ _ (ne_of d2 e (fun z => by unfold LamX.CodeO at z; cases z)) d2⟩

/-- what the law's own ends are -/
def OEn (K : PySem.W.Frag) (H : Hp) (r : V) : Option Sn → Prop
  | none => r = .non
  | some u => ∃ p, r = .ref p ∧ SqT K H p [.int u.lo, .bl u.fl, .int u.hi, .bl u.fh]
theorem OEn.keep {K : PySem.W.Frag} {H H' : Hp} {r : V} : ∀ {o : Option Sn}, OEn K H r o → TK K H H' → OEn K H' r o
  | none, h, _ => h
  | some u, ⟨p, h1, h2⟩, e => ⟨p, h1, e _ _ h2⟩

theorem Shf.open {g : Ar → Tr} {n : Nat} {d e : PyData} (h : Shf g (n + 1) d e) : ((d = .none ∨ (∃ b, d = .bool b) ∨ (∃ i, d = .int i) ∨ ∃ s, d = .str s) ∧ e = d) ∨ (∃ a : Ar, a.ok ∧ d = a.data ∧ e = (g a).data) ∨ ∃ ds es, d = .tuple ds ∧ e = .tuple es ∧ (ds.length = es.length ∧ ds.length ≤ 5000 ∧ hdA ds) ∧ ∀ (k : Nat) (d e : PyData), ds[k]? = some d → es[k]? = some e → Shf g n d e := by
  cases h with
  | dat h =>
    rcases h with h | ⟨ds, rfl, ⟨hl, hh⟩, hf⟩
    · exact .inl ⟨h, rfl⟩
    · refine .inr (.inr ⟨ds, ds, rfl, rfl, ⟨rfl, hl, hh⟩, fun k a b ea eb => ?_⟩)
      rw [ea] at eb
      cases eb
      have hm := hf _ (List.mem_of_getElem? ea)
      cases n with
      | zero => exact hm.elim
      | succ n => exact .dat hm
  | area h => exact .inr (.inl ⟨_, h, rfl, rfl⟩)
  | tup h1 h2 h3 h4 => exact .inr (.inr ⟨_, _, rfl, rfl, ⟨h1, h2, h3⟩, h4⟩)
theorem hdB_w {K : PySem.W.Frag} {H : Hp} {n : Nat} {v : V} {d : PyData} (h : FitW n d) (hd : Dp K H v d) (hz : ∀ z, d = .str z → z ∉ AKd) : HdB K H v false := by
  cases n with
  | zero => exact h.elim
  | succ n =>
    rcases h with (rfl | ⟨b, rfl⟩ | ⟨i, rfl⟩ | ⟨z, rfl⟩) | ⟨ds, rfl, _, _⟩
    · cases hd
      exact .inl ⟨rfl, rfl⟩
    · cases hd
      exact .inl ⟨rfl, rfl⟩
    · cases hd
      exact .inl ⟨rfl, rfl⟩
    · cases hd
      exact hdB_str (hz z rfl)
    · obtain ⟨p, xs, rfl, hp, _⟩ := dp_tup_get hd
      exact .inr ⟨rfl, p, xs, rfl, hp⟩
theorem ws_sz (α β : Sn → Option Sn) (a : Ar) : (wsA α β a).sz = 1 := by
  rcases ws_cases α β a with ⟨b, e⟩ | e
  · rw [e]; rfl
  · rw [e]; rfl
theorem ws_fit (down right : Int) (a : Ar) (ok : a.ok) : (wsA (shfS down 20) (shfS right 10) a).fit 1 := wsA_fit _ _ _ (shf_kp _ _) (shf_kp _ _) ok
/-- the head of a tree's tuple -/
theorem hd_kind {K : PySem.W.Frag} {H : Hp} {n : Nat} {v : V} {t : Tr} (h : TV K H (n + 1) v t) : ∃ p x xs, v = .ref p ∧ SqT K H p (x :: xs) ∧ HdB K H x t.isA := by
  obtain ⟨hd, hf⟩ := h
  have str : ∀ {z : Str} {ds : List PyData} {b : Bool}, Dp K H v (.tuple (.str z :: ds)) → HdB K H (.str z) b → ∃ p x xs, v = .ref p ∧ SqT K H p (x :: xs) ∧ HdB K H x b := fun {z ds b} h k => by
    obtain ⟨p, xs, rfl, hp, ax⟩ := dp_tup_get h
    cases ax with
    | cons a b =>
      cases a
      exact ⟨p, _, _, rfl, hp, k⟩
  cases t with
  | leaf z ds => exact str hd (hdB_str (ks_ak hf.1))
  | area a => exact str hd (hdB_area hf)
  | one z p t =>
    refine str hd (hdB_str ?_)
    rcases hf.1 with rfl | rfl
    · decide +kernel
    · decide +kernel
  | two p x y => exact str hd (hdB_str (by decide +kernel))
  | call p cs => exact str hd (hdB_str (by decide +kernel))
  | letk p cs t => exact str hd (hdB_str (by decide +kernel))
  | app t cs => exact str hd (hdB_str (by decide +kernel))

def Txt.SP {K : PySem.W.Frag} {mg : Str → Option Value} (T : Txt K mg) : List Addr := [T.pS]

local macro_rules | `(tactic| walk_at "look") => `(tactic| first
  | exact upd_same
  | assumption
  | (refine (same_upd (by assumption)) _ _ ?_; walk_at "look"))
local macro_rules | `(tactic| walk_at "bat") => `(tactic| first
  | assumption
  | exact Bs.bat (by assumption)
  | (refine BoxS.new ?_ (by assumption); walk_at "bat")
  | (refine BoxS.same ?_ (by assumption); walk_at "bat"))
local macro_rules | `(tactic| walk_at "bx") => `(tactic| first
  | assumption
  | exact Bs.refl (by assumption)
  | (refine Bs.new ?_ (by assumption); walk_at "bx")
  | (refine Bs.same ?_ (by assumption); walk_at "bx")
  | (refine Bs.trans ?_ (by assumption); walk_at "bx"))

local macro_rules | `(tactic| walk_at "sqt") => `(tactic| first
  | assumption
  | exact same_tk (same_upd (by assumption)) _ _ (by assumption)
  | exact same_tk (same_upd (by assumption)) _ _ (same_tk (same_upd (by assumption)) _ _ (by assumption))
  | exact same_tk (same_upd (by assumption)) _ _ (same_tk (same_upd (by assumption)) _ _ (same_tk (same_upd (by assumption)) _ _ (by assumption)))
  | exact same_tk (by assumption) _ _ (by assumption)
  | exact same_tk (same_upd (by assumption)) _ _ (same_tk (by assumption) _ _ (by assumption)))
local macro_rules | `(tactic| walk_at "tk") => `(tactic| first
  | exact same_tk (by walk_at "same"))

local macro_rules | `(tactic| walk_at "own") => `(tactic| first
  | refine ⟨_, _, _, _, _, _, rfl, (by walk_at "bat"), (by assumption), (by omega), fun (n : Int) (H1 : Hp) b1 h0 h1 => ?_⟩
  | refine ⟨_, _, _, rfl, (by walk_at "bat"), fun (p : Addr) (z : Str) (d : PyData) (H1 : Hp) b1 t1 f1 => ?_⟩
  | refine ⟨_, _, _, _, rfl, (by walk_at "bat"), fun (p : Addr) (z : Str) (d : PyData) (H1 : Hp) b1 t1 f1 => ?_⟩
  | refine ⟨_, _, _, rfl, (by walk_at "bat"), fun (z : Str) (H1 : Hp) b1 => ?_⟩
  | refine ⟨_, _, _, rfl, (by walk_at "bat"), fun (n : Int) (H1 : Hp) b1 => ?_⟩
  | refine ⟨_, _, rfl, SqT.of upd_same, rfl, ?_⟩
  | refine ⟨_, _, rfl, (by walk_at "sqt"), (fun h => absurd h.2 (show ¬ ((2 : Nat) = 4) by decide)), fun _ (p : Addr) hp => ?_⟩
  | refine ⟨_, _, rfl, (by walk_at "sqt"), rfl, ?_⟩
  | refine ⟨_, _, rfl, SqL.of upd_same, rfl, ?_⟩
  | refine ⟨_, _, rfl, (by walk_at "sqt"), Nat.le_of_ble_eq_true rfl, fun (D : Addr) hD => ?_⟩
  | refine ⟨_, _, _, _, rfl, rfl, (by walk_at "sqt"), rfl, ?_⟩
  | refine ⟨_, _, rfl, Or.inl (by walk_at "sqt"), ?_⟩
  | refine ⟨_, _, _, _, rfl, (by walk_at "bat"), (by omega), fun (z : Str) (H1 : Hp) b1 => ?_⟩
  | refine ⟨_, _, _, _, rfl, (by walk_at "bat"), (by omega), fun (p : Addr) (zs : List Str) (H1 : Hp) b1 s1 l1 => ?_⟩
  | refine ⟨_, _, _, rfl, (by walk_at "bat"), fun (z : Str) (H1 : Hp) b1 => ?_⟩
  | refine ⟨_, _, _, rfl, (by walk_at "bat"), fun (p : Addr) (d : PyData) (H1 : Hp) b1 d1 f1 => ?_⟩
  | refine ⟨_, _, _, rfl, (by walk_at "bat"), fun (p : Addr) (t : Tr) (H1 : Hp) b1 t1 z1 => ?_⟩
  | refine rIn_b true (.inr (.inl (.inl upd_same))) rfl (by decide +kernel) ?_
  | refine rIn_b false (.inr (.inl (.inl upd_same))) rfl (by decide +kernel) ?_
  | refine rIn_no (by assumption) (.inr (.inl (.inl upd_same))) rfl (by decide +kernel) ?_
  | refine iteKn (by assumption) (by decide +kernel) ?_
  | refine iteSS ?_
  | refine iteKl (by decide +kernel) ?_
  | rw [upd_upd]
  | refine ⟨_, _, _, _, rfl, (by walk_at "bat"), (by omega), fun (n : Int) (H1 : Hp) b1 h0 h1 => ?_⟩
  | refine ⟨_, _, _, rfl, (by walk_at "bat"), fun (n : Int) (H1 : Hp) b1 h0 h1 => ?_⟩
  | refine ⟨_, _, _, _, rfl, rfl, (by assumption), rfl, ?_⟩
  | refine ⟨_, _, _, _, rfl, rfl, upd_same, rfl, ?_⟩
  | refine ⟨_, _, _, _, rfl, rfl, .inl (.inl (by assumption)), rfl, ?_⟩
  | refine ⟨_, _, _, _, rfl, rfl, .inl (.inl upd_same), rfl, ?_⟩
  | refine ⟨_, _, _, _, rfl, rfl, (by assumption), (by first | assumption | rfl | exact atI_nat rfl | exact atI_at (n := 0) rfl rfl), ?_⟩
  | refine ⟨_, _, rfl, Or.inl (by assumption), ?_⟩
  | refine ⟨_, _, rfl, Or.inr (by assumption), ?_⟩
  | refine ⟨_, _, rfl, Or.inl (but_sqlS (by assumption) upd_but (by assumption)), ?_⟩
  | refine Or.inr ⟨_, rfl, ?_⟩
  | refine ⟨rfl, ?_⟩)

/-- a chain of heaps -/
local macro_rules | `(tactic| walk_at "same") => `(tactic| first
  | assumption
  | exact Same.refl _
  | exact same_upd (by assumption)
  | (refine Same.trans ?_ (same_upd (by assumption)); walk_at "same")
  | (refine Same.trans ?_ (by assumption); walk_at "same"))
/-- a step of a reading, by its shape -/
local macro_rules | `(tactic| walk_at "st") => `(tactic| first
  | walk_at "own"
  | refine ⟨_, rfl, fun n h0 h1 => ?_⟩
  | refine ⟨_, rfl, ?_⟩
  | refine ⟨_, _, rfl, rfl, (by first | exact Or.inl ⟨by decide, by decide⟩ | exact Or.inr ⟨by decide, by decide⟩ | exact Or.inl (by omega) | exact Or.inr (by omega)), fun d hd hu hn => ?_⟩
  | refine ⟨_, _, rfl, rfl, by first | exact Or.inl ⟨by decide, by decide⟩ | exact Or.inr ⟨by decide, by decide⟩ | exact Or.inl (by omega) | exact Or.inr (by omega), ?_⟩
  | refine ⟨_, _, rfl, rfl, by first | (show (0 : Int) < _; first | omega | decide | (split <;> omega)) | (show _ ≠ (0 : Int); omega), ?_⟩
  | refine ⟨_, _, rfl, rfl, ⟨by decide, by decide⟩, ?_⟩
  | refine ⟨_, _, rfl, rfl, (by show (_ ∧ _) ∧ (_ ∧ _); omega), ?_⟩
  | refine ⟨_, _, rfl, rfl, (by show _ ∧ _; first | omega | (split <;> omega)), fun d hd hu hn => ?_⟩
  | refine ⟨_, _, rfl, rfl, (by show (0 : Int) < _ ∧ _; first | omega | (split <;> omega)), ?_⟩
  | refine ⟨_, _, rfl, rfl, ?_⟩
  | refine ⟨_, _, _, rfl, rfl, ?_⟩
  | refine ⟨_, _, _, _, rfl, rfl, .inl (.inl (by assumption)), rfl, ?_⟩
  | refine Or.inl ⟨_, rfl, ?_⟩
  | refine ⟨_, _, rfl, fun n H1 s1 h0 h1 => ?_⟩
  | refine ⟨_, _, rfl, fun n h0 h1 => ?_⟩
  | refine ⟨_, _, rfl, ?_⟩
  | refine ⟨Nat.le_of_ble_eq_true rfl, fun p hp => ?_⟩
  | refine ⟨rfl, ?_⟩
  | refine ⟨lim_flat _, ?_⟩
  | refine ⟨⟨by assumption, by assumption⟩, ?_⟩
  | refine And.intro (by assumption) ?_
  | refine ⟨Or.inl ⟨_, rfl⟩, ?_⟩
  | refine And.intro (by omega) (fun H1 s1 => ?_)
  | refine And.intro (by omega) ?_
  | refine iteF ?_
  | refine iteT ?_
  | refine iteSS ?_
  | refine iteIS ?_
  | refine iteEqI (fun _ => ?_) (fun _ => ?_)
  | refine iteNeI (fun _ => ?_) (fun _ => ?_)
  | refine iteD (fun _ => ?_) (fun _ => ?_)
  | refine ite2 (fun _ => ?_) (fun _ => ?_))
local macro_rules | `(tactic| walk_at "run") => `(tactic| repeat' (walk_at "st"))

local macro_rules | `(tactic| walk_at "run2") => `(tactic| repeat' (first
  | refine Or.inl ⟨_, _, _, rfl, rfl, ?_⟩
  | refine Or.inr (Or.inl ⟨_, _, _, _, rfl, (by assumption), rfl, ?_⟩)
  | refine Or.inr (Or.inr ⟨_, _, _, _, rfl, (by assumption), rfl, ?_⟩)
  | refine ⟨_, _, rfl, (show Lk _ _ _ _ _ by assumption), ?_⟩
  | walk_at "st"))

/-! ### the promises -/
def spordered (K : PySem.W.Frag) : Sp := fun vs H Q _ => ∃ (p : Addr) (s : Sn), vs = [.ref p] ∧ SqT K H p s.vs ∧ ∀ (r : Addr) (H' : Hp), Same H H' → SqT K H' r (ordS s).vs → Q (.ref r) H'
def sprow_span (K : PySem.W.Frag) : Sp := fun vs H Q _ => ∃ (v : V) (a : Ar) (n : Nat), vs = [v] ∧ TV K H (n + 1) v (.area a) ∧ ∀ (r : V) (H' : Hp), Same H H' → SpanV K H' r (rowS a) → Q r H'
def spcolumn_span (K : PySem.W.Frag) : Sp := fun vs H Q _ => ∃ (v : V) (a : Ar) (n : Nat), vs = [v] ∧ TV K H (n + 1) v (.area a) ∧ ∀ (r : V) (H' : Hp), Same H H' → SpanV K H' r (colS a) → Q r H'
def spnode_of (K : PySem.W.Frag) : Sp := fun vs H Q _ => ∃ (k : Str) (sh : Option Int) (r1 r2 : V) (o1 o2 : Option Sn) (b : Ar), vs = [.str k, shV sh, r1, r2] ∧ OSn K H r1 o1 ∧ OSn K H r2 o2 ∧ nodA k sh o1 o2 = some b ∧ (k = "cell" ∨ k = "range" ∨ k = "rows" ∨ k = "columns") ∧ ∀ (p : Addr) (H' : Hp), Same H H' → SqT K H' p (arV b) → Q (.ref p) H'
def sparea_of (K : PySem.W.Frag) : Sp := fun vs H Q _ => ∃ (v : V) (a : Ar) (n : Nat) (own : Option Int), vs = [v, shV own] ∧ TV K H (n + 1) v (.area a) ∧ ∀ (p : Addr) (H' : Hp), Same H H' → SqT K H' p (arO own a) → Q (.ref p) H'
def spRrebuilt (P : Program) (w : World) (K : PySem.W.Frag) (mg : Str → Option Value) (base : Heap) : Nat → Sp
  | 0 => fun _ _ _ _ => False
  | n + 1 => fun vs H Q _ => ∃ (v : V) (f Pi : Addr) (g : Ar → Tr) (t : Tr), vs = [v, .ref f] ∧ TV K H n v t ∧ (Deed P w K mg base f Pi g H) ∧ ∀ (r : V) (H' : Hp), ButT nmK Pi H H' → NdefX.TabN H' Pi nmK → TV K H' n r (t.mp g) → Q r H'
def sprebuilt (P : Program) (w : World) (K : PySem.W.Frag) (mg : Str → Option Value) (base : Heap) : Sp := spRrebuilt P w K mg base 17
def spRall_rebuilt (P : Program) (w : World) (K : PySem.W.Frag) (mg : Str → Option Value) (base : Heap) (n : Nat) : Sp := fun vs H Q _ => ∃ (m : Nat) (p f Pi : Addr) (g : Ar → Tr) (xs : List V) (ts : List Tr), n = m + 1 ∧ vs = [.ref p, .ref f] ∧ SqT K H p xs ∧ TVs K H m xs ts ∧ ts.length ≤ 16 ∧ (Deed P w K mg base f Pi g H) ∧ ∀ (p' : Addr) (ys : List V) (H' : Hp), ButT nmK Pi H H' → NdefX.TabN H' Pi nmK → SqT K H' p' ys → TVs K H' m ys (ts.map (Tr.mp g)) → Q (.ref p') H'
def spwith_spans (P : Program) (w : World) (K : PySem.W.Frag) (mg : Str → Option Value) (base : Heap) : Sp := fun vs H Q _ => ∃ (v : V) (a : Ar) (n : Nat) (f g : Addr) (α β : Sn → Option Sn), vs = [v, .ref f, .ref g] ∧ TV K H (n + 1) v (.area a) ∧ (∀ H2 : Hp, Same H H2 → Cal P w K mg base 6 1 f (spSpan K α) H2) ∧ (∀ H2 : Hp, Same H H2 → Cal P w K mg base 6 1 g (spSpan K β) H2) ∧ KeL 20 α ∧ KeL 10 β ∧ ∀ (r : V) (H' : Hp), Same H H' → TV K H' 1 r (wsA α β a) → Q r H'
def spshifted (K : PySem.W.Frag) (SP : List Addr) : Sp := fun vs H Q _ => ∃ (v : V) (down right : Int) (t : Tr), vs = [v, .int down, .int right] ∧ TV K H 16 v t ∧ TT SP nmK H ∧ ∀ (r : V) (H' : Hp), LamX.ExtN H H' → TT SP nmK H' → TV K H' 16 r (t.mp (wsA (shfS down 20) (shfS right 10))) → Q r H'
def spshifted_span (K : PySem.W.Frag) : Sp := fun vs H Q _ => ∃ (p : Addr) (s : Sn) (many size : Int), vs = [.ref p, .int many, .int size] ∧ SqT K H p s.vs ∧ ∀ (r : V) (H' : Hp), Same H H' → OSn K H' r (shfS many size s) → Q r H'
def sp_law_mixed (K : PySem.W.Frag) : Sp := fun vs H Q _ => ∃ c t : Int, vs = [.int c, .int t] ∧ ∀ (n : Int), 0 ≤ n → Q (.int n) H
def sp_law_draw (K : PySem.W.Frag) : Sp := fun vs H Q _ => ∃ (b : Addr) (c : Addr × Addr) (ns : List Int × List Int) (l : Int), vs = [.ref b, .int l] ∧ BoxS K b c ns H ∧ (0 < l ∧ l < 1267650600228229401496703205376) ∧ ∀ (n : Int) (H' : Hp), Bs K b c ns H H' → 0 ≤ n → n < l → Q (.int n) H'
def sp_law_start (K : PySem.W.Frag) : Sp := fun vs H Q _ => ∃ (a : Addr) (ns : List Int), vs = [.ref a] ∧ SqL K H a (ns.map V.int) ∧ ns.length ≤ 63 ∧ ∀ (b : Addr) (c : Addr × Addr) (ms : List Int × List Int) (H' : Hp), Same H H' → BoxS K b c ms H' → Q (.ref b) H'
def sp_law_near (K : PySem.W.Frag) : Sp := fun vs H Q _ => ∃ (b : Addr) (c : Addr × Addr) (ns : List Int × List Int) (e : Addr) (z m : Int), vs = [.ref b, .ref e] ∧ BoxS K b c ns H ∧ SpanL K H e z m ∧ (1 ≤ m ∧ m ≤ 1000) ∧ ∀ (n : Int) (H' : Hp), Bs K b c ns H H' → z ≤ n → n < z + m → Q (.int n) H'
def sp_law_words (K : PySem.W.Frag) : Sp := fun vs H Q _ => vs = [] ∧ ∀ (l : Addr) (H' : Hp), Same H H' → WdL K H' l → Q (.ref l) H'
def sp_law_is_cell (K : PySem.W.Frag) : Sp := fun vs H Q _ => ∃ z : Str, vs = [.str z] ∧ (1 ≤ z.length ∧ z.length ≤ 100) ∧ ∀ (r : Bool) (H' : Hp), Same H H' → Q (.bl r) H'
def sp_law_name (K : PySem.W.Frag) : Sp := fun vs H Q _ => ∃ (b : Addr) (c : Addr × Addr) (ns : List Int × List Int) (e : Addr) (pl : Pl), vs = [.ref b, .ref e] ∧ BoxS K b c ns H ∧ PlL K H e pl ∧ ∀ (z : Str) (H' : Hp), Bs K b c ns H H' → upS z → Q (.str z) H'
def sp_law_signs (K : PySem.W.Frag) : Sp := fun vs H Q _ => vs = [] ∧ Q (.str SG) H
def sp_law_text (K : PySem.W.Frag) : Sp := fun vs H Q _ => ∃ (b : Addr) (c : Addr × Addr) (ns : List Int × List Int), vs = [.ref b] ∧ BoxS K b c ns H ∧ ∀ (z : Str) (H' : Hp), Bs K b c ns H H' → Q (.str z) H'
def sp_law_amount (K : PySem.W.Frag) : Sp := fun vs H Q _ => ∃ (b : Addr) (c : Addr × Addr) (ns : List Int × List Int), vs = [.ref b] ∧ BoxS K b c ns H ∧ ∀ (n : Int) (H' : Hp), Bs K b c ns H H' → Q (.int n) H'
def sp_law_scalar (K : PySem.W.Frag) : Sp := fun vs H Q _ => ∃ (b : Addr) (c : Addr × Addr) (ns : List Int × List Int) (sg : Bool), vs = [.ref b, .bl sg] ∧ BoxS K b c ns H ∧ ∀ (p : Addr) (z : Str) (d : PyData) (H' : Hp), Bs K b c ns H H' → TV K H' 1 (.ref p) (LF1 z d) → FitD 2 (.tuple [.str z, d]) → Q (.ref p) H'
def sp_law_array (K : PySem.W.Frag) : Sp := fun vs H Q _ => ∃ (b : Addr) (c : Addr × Addr) (ns : List Int × List Int), vs = [.ref b] ∧ BoxS K b c ns H ∧ ∀ (p : Addr) (z : Str) (d : PyData) (H' : Hp), Bs K b c ns H H' → TV K H' 1 (.ref p) (LF1 z d) → FitD 4 d → Q (.ref p) H'
def sp_law_area (K : PySem.W.Frag) : Sp := fun vs H Q _ => ∃ (b : Addr) (c : Addr × Addr) (ns : List Int × List Int) (e : Addr) (pl : Pl), vs = [.ref b, .ref e] ∧ BoxS K b c ns H ∧ PlL K H e pl ∧ ∀ (p : Addr) (t : Tr) (H' : Hp), Bs K b c ns H H' → TD K pl.md H' 2 (.ref p) t → t.sz ≤ 17 → Q (.ref p) H'
def sp_law_leaf (K : PySem.W.Frag) : Sp := fun vs H Q _ => ∃ (b : Addr) (c : Addr × Addr) (ns : List Int × List Int) (e : Addr) (pl : Pl), vs = [.ref b, .ref e] ∧ BoxS K b c ns H ∧ PlL K H e pl ∧ ∀ (p : Addr) (t : Tr) (H' : Hp), Bs K b c ns H H' → TD K pl.md H' 2 (.ref p) t → t.sz ≤ 17 → Q (.ref p) H'
def sp_law_filled (K : PySem.W.Frag) : Sp := fun vs H Q _ => ∃ (b : Addr) (c : Addr × Addr) (ns : List Int × List Int) (l : Addr) (M md : Int) (n : Nat) (xs : List V) (ts : List Tr), vs = [.ref b, .ref l, .int M] ∧ BoxS K b c ns H ∧ H l = some (.lst xs) ∧ TDs K md H (n + 1) xs ts ∧ ((ts.length : Int) ≤ M ∧ M ≤ 16) ∧ ∀ (p : Addr) (ys : List V) (us : List Tr) (H' : Hp), Bs K b c ns H H' → SqT K H' p ys → TDs K md H' (n + 1) ys us → (us.length : Int) = M → Tr.szs us ≤ Tr.szs ts + 16 → Q (.ref p) H'
def sp_law_call (K : PySem.W.Frag) : Sp := fun vs H Q _ => ∃ (b : Addr) (c : Addr × Addr) (ns : List Int × List Int) (e : Addr) (pl : Pl) (l : Addr) (n : Nat) (xs : List V) (ts : List Tr), vs = [.ref b, .ref e, .ref l] ∧ BoxS K b c ns H ∧ PlL K H e pl ∧ H l = some (.lst xs) ∧ TDs K pl.md H (n + 1) xs ts ∧ ts.length ≤ 16 ∧ ∀ (p : Addr) (t : Tr) (H' : Hp), Bs K b c ns H H' → TD K pl.md H' (n + 2) (.ref p) t → t.sz ≤ Tr.szs ts + 17 → Q (.ref p) H'
def sp_law_apply (K : PySem.W.Frag) : Sp := fun vs H Q _ => ∃ (b : Addr) (c : Addr × Addr) (ns : List Int × List Int) (pl : Pl) (l : Addr) (n : Nat) (xs : List V) (ts : List Tr), vs = [.ref b, .ref l] ∧ BoxS K b c ns H ∧ H l = some (.lst xs) ∧ TDs K pl.md H (n + 1) xs ts ∧ (1 ≤ ts.length ∧ ts.length ≤ 17) ∧ ∀ (p : Addr) (t : Tr) (H' : Hp), Bs K b c ns H H' → TD K pl.md H' (n + 2) (.ref p) t → t.sz ≤ Tr.szs ts + 17 → Q (.ref p) H'
def sp_law_let (K : PySem.W.Frag) : Sp := fun vs H Q _ => ∃ (b : Addr) (c : Addr × Addr) (ns : List Int × List Int) (e : Addr) (pl : Pl) (l : Addr) (n : Nat) (xs : List V) (ts : List Tr), vs = [.ref b, .ref e, .ref l] ∧ BoxS K b c ns H ∧ PlL K H e pl ∧ H l = some (.lst xs) ∧ TDs K pl.md H (n + 1) xs ts ∧ ts.length ≤ 8 ∧ ∀ (p : Addr) (t : Tr) (H' : Hp), Bs K b c ns H H' → TD K pl.md H' (n + 2) (.ref p) t → t.sz ≤ Tr.szs ts + 17 → Q (.ref p) H'
def sp_law_lambda (K : PySem.W.Frag) : Sp := fun vs H Q _ => ∃ (b : Addr) (c : Addr × Addr) (ns : List Int × List Int) (e : Addr) (pl : Pl) (v : V) (n : Nat) (u : Tr), vs = [.ref b, .ref e, v] ∧ BoxS K b c ns H ∧ PlL K H e pl ∧ TD K pl.md H (n + 1) v u ∧ ∀ (p : Addr) (t : Tr) (H' : Hp), Bs K b c ns H H' → TD K pl.md H' (n + 2) (.ref p) t → t.sz ≤ u.sz + 1 → Q (.ref p) H'
def sp_law_node (K : PySem.W.Frag) : Sp := fun vs H Q _ => ∃ (b : Addr) (c : Addr × Addr) (ns : List Int × List Int) (e : Addr) (pl : Pl) (l : Addr) (n : Nat) (xs : List V) (ts : List Tr), vs = [.ref b, .ref e, .ref l] ∧ BoxS K b c ns H ∧ PlL K H e pl ∧ H l = some (.lst xs) ∧ TDs K pl.md H (n + 1) xs ts ∧ (1 ≤ ts.length ∧ ts.length ≤ 17) ∧ ∀ (p : Addr) (t : Tr) (H' : Hp), Bs K b c ns H H' → TD K pl.md H' (n + 2) (.ref p) t → t.sz ≤ Tr.szs ts + 17 → Q (.ref p) H'
def sp_law_parts (K : PySem.W.Frag) : Sp := fun vs H Q _ => ∃ (v : V) (t : Tr) (n : Nat), vs = [v] ∧ TV K H (n + 1) v t ∧ ∀ (l : Addr) (xs : List V) (H' : Hp), Same H H' → H' l = some (.lst xs) → TVs K H' n xs t.kids → Q (.ref l) H'
def spR_law_size (K : PySem.W.Frag) : Nat → Sp
  | 0 => fun _ _ _ _ => False
  | n + 1 => fun vs H Q _ => ∃ (v : V) (t : Tr), vs = [v] ∧ TV K H n v t ∧ t.sz ≤ 5000 ∧ ∀ (p : Addr) (H' : Hp), Same H H' → SqT K H' p [.int (t.sz : Int), .int (t.dep : Int)] → Q (.ref p) H'
def sp_law_size (K : PySem.W.Frag) : Sp := spR_law_size K 18
def sp_law_fits (K : PySem.W.Frag) : Sp := fun vs H Q _ => ∃ (v : V) (t : Tr) (r d : Int), vs = [v, .int r, .int d] ∧ TV K H 17 v t ∧ t.sz ≤ 5000 ∧ (∀ H' : Hp, Same H H' → (t.sz : Int) ≤ r → (t.dep : Int) ≤ d → Q (.bl true) H') ∧ (∀ H' : Hp, Same H H' → Q (.bl false) H')
def sp_law_grown (K : PySem.W.Frag) : Sp := fun vs H Q _ => ∃ (b : Addr) (c : Addr × Addr) (ns : List Int × List Int) (e : Addr) (pl : Pl) (l : Addr) (k : Int) (xs : List V) (ts : List Tr), vs = [.ref b, .ref e, .ref l, .int k, .int 64, .int 16] ∧ BoxS K b c ns H ∧ PlL K H e pl ∧ H l = some (.lst xs) ∧ TDs K pl.md H 16 xs ts ∧ (∀ t ∈ ts, t.sz ≤ 64) ∧ (ts.length ≤ 200 ∧ 0 ≤ k ∧ k ≤ 17) ∧ ∀ (l' : Addr) (ys : List V) (us : List Tr) (H' : Hp), Bs K b c ns H H' → H' l' = some (.lst ys) → TDs K pl.md H' 16 ys us → (∀ t ∈ us, t.sz ≤ 64) → 1 ≤ us.length → us.length ≤ ts.length + 1 → Q (.ref l') H'
def sp_law_gathered (K : PySem.W.Frag) : Sp := fun vs H Q _ => ∃ (b : Addr) (c : Addr × Addr) (ns : List Int × List Int) (pl : Pl) (l : Addr) (xs : List V) (ts : List Tr), vs = [.ref b, .ref l, .int 64, .int 16] ∧ BoxS K b c ns H ∧ H l = some (.lst xs) ∧ TDs K pl.md H 16 xs ts ∧ (∀ t ∈ ts, t.sz ≤ 64) ∧ (1 ≤ ts.length ∧ ts.length ≤ 200) ∧ ∀ (p : Addr) (t : Tr) (H' : Hp), Bs K b c ns H H' → TD K pl.md H' 16 (.ref p) t → t.sz ≤ 64 → Q (.ref p) H'
def sp_law_tree (K : PySem.W.Frag) : Sp := fun vs H Q _ => ∃ (b : Addr) (c : Addr × Addr) (ns : List Int × List Int) (e : Addr) (pl : Pl), vs = [.ref b, .ref e, .int 64, .int 16] ∧ BoxS K b c ns H ∧ PlL K H e pl ∧ ∀ (p : Addr) (t : Tr) (H' : Hp), Bs K b c ns H H' → TD K pl.md H' 16 (.ref p) t → t.sz ≤ 64 → Q (.ref p) H'
def sp_law_walk (K : PySem.W.Frag) : Sp := fun vs H Q _ => ∃ (v : V) (t : Tr) (n : Nat), vs = [v] ∧ TV K H n v t ∧ t.sz ≤ 5000 ∧ ∀ (l : Addr) (xs : List V) (H' : Hp), Same H H' → H' l = some (.lst xs) → A2 (WkE K H' n) xs (t.preD 1) → Q (.ref l) H'
def spR_law_same (K : PySem.W.Frag) : Nat → Sp
  | 0 => fun _ _ _ _ => False
  | n + 1 => fun vs H Q _ => ∃ x y : V, vs = [x, y] ∧ Lk K (n + 1) H x y ∧ Q (.bl true) H
def sp_law_same (K : PySem.W.Frag) : Sp := spR_law_same K 41
def sp_law_is_area (K : PySem.W.Frag) : Sp := fun vs H Q _ => ∃ (p : Addr) (x : V) (xs : List V) (b : Bool), vs = [.ref p] ∧ SqT K H p (x :: xs) ∧ HdB K H x b ∧ ∀ H', Same H H' → Q (.bl b) H'
def sp_law_meant (K : PySem.W.Frag) : Sp := fun vs H Q _ => ∃ (v : V) (a : Ar) (n : Nat) (own : Option Int), vs = [v, shV own] ∧ TV K H (n + 1) v (.area a) ∧ ∀ (p : Addr) (H' : Hp), Same H H' → SqT K H' p (arO own a) → Q (.ref p) H'
def sp_law_step (K : PySem.W.Frag) : Sp := fun vs H Q _ => ∃ (b : Addr) (c : Addr × Addr) (ns : List Int × List Int) (count : Int), vs = [.ref b, .int count] ∧ BoxS K b c ns H ∧ (count = 20 ∨ count = 10) ∧ ∀ (n : Int) (H' : Hp), Bs K b c ns H H' → Q (.int n) H'
def sp_law_ends (K : PySem.W.Frag) : Sp := fun vs H Q _ => ∃ (s : Sn) (step count : Int), vs = [.int s.lo, .int s.hi, .bl s.fl, .bl s.fh, .int step, .int count] ∧ ∀ (r : V) (H' : Hp), Same H H' → OEn K H' r (shfS step count s) → Q r H'
def sp_law_moved (K : PySem.W.Frag) : Sp := fun vs H Q _ => ∃ (v : V) (a : Ar) (n : Nat) (down right : Int), vs = [v, .int down, .int right] ∧ TV K H (n + 1) v (.area a) ∧ ∀ (r : V) (H' : Hp), Same H H' → TV K H' 1 r (wsA (shfS down 20) (shfS right 10) a) → Q r H'
def spR_law_shifted (K : PySem.W.Frag) : Nat → Sp
  | 0 => fun _ _ _ _ => False
  | n + 1 => fun vs H Q _ => ∃ (x : V) (d e : PyData) (down right : Int), vs = [x, .int down, .int right] ∧ Dp K H x d ∧ Shf (wsA (shfS down 20) (shfS right 10)) (n + 1) d e ∧ ∀ (r : V) (H' : Hp), Same H H' → Dp K H' r e → Q r H'
def sp_law_shifted (K : PySem.W.Frag) : Sp := spR_law_shifted K 42
def sp_law_areas (K : PySem.W.Frag) : Sp := fun vs H Q _ => ∃ (v : V) (t : Tr) (n : Nat), vs = [v] ∧ TV K H n v t ∧ t.sz ≤ 5000 ∧ ∀ (l : Addr) (xs : List V) (H' : Hp), Same H H' → H' l = some (.lst xs) → TVs K H' n xs (t.refs.map Tr.area) → Q (.ref l) H'
def sp_law_meanings (K : PySem.W.Frag) : Sp := fun vs H Q _ => ∃ (l : Addr) (xs : List V) (as : List Ar) (n : Nat) (own : Int), vs = [.ref l, .int own] ∧ H l = some (.lst xs) ∧ TVs K H (n + 1) xs (as.map Tr.area) ∧ ∀ H' : Hp, Same H H' → Q (.bl true) H'
def splaw (K : PySem.W.Frag) (SP : List Addr) : Sp := fun vs H Q _ => ∃ (a : Addr) (ns : List Int), vs = [.ref a] ∧ SqL K H a (ns.map V.int) ∧ ns.length ≤ 63 ∧ TT SP nmK H ∧ ∀ H', Q (.bl true) H'
section
variable {P : Program} {w : World} {K : PySem.W.Frag} {mg : Str → Option Value} {base : Heap}
def gkshifted_tree_down_right {α : Type} : List α → List α := fun zs => match zs with | [z0, z1, z2] => [z0, z1, z2] | _ => zs
theorem krshifted_tree_down_right : ∀ {zs : List V} {ws : List Value}, Vals zs ws → Vals (gkshifted_tree_down_right zs) (gkshifted_tree_down_right ws) := fun {zs ws} r => by
  rcases r with _ | ⟨r0, r⟩
  · exact .nil
  rcases r with _ | ⟨r1, r⟩
  · exact (.cons r0 .nil)
  rcases r with _ | ⟨r2, r⟩
  · exact (.cons r0 (.cons r1 .nil))
  rcases r with _ | ⟨r3, r⟩
  · exact (.cons r0 (.cons r1 (.cons r2 .nil)))
  exact (.cons r0 (.cons r1 (.cons r2 (.cons r3 r))))
theorem kbshifted_tree_down_right (T : Txt K mg) : KB0 K T.dshifted Pshifted ["tree", "down", "right"] gkshifted_tree_down_right gkshifted_tree_down_right := by
  obtain ⟨oc, od, kV, doc, pm, an, cdv, ct, osl, e, lk, hcd⟩ := T.Fshifted.ex
  refine ⟨fun s ws hl => ?_, krshifted_tree_down_right⟩
  rw [e]
  match ws, hl with
  | [z0, z1, z2], _ => exact .of_eq rfl
theorem okordered (T : Txt K mg) : FnOk P w K mg base CX0 1 T.aordered T.dordered Pordered (spordered K) := by
  refine T.Fordered.ok scordered (fun vs H Q E h => ?_) (fun cdv A outer s H vs Q E hr h => ?_)
  · obtain ⟨p, s, rfl, _⟩ := h
    rfl
  · obtain ⟨p, s, rfl, hp, q⟩ := h
    refine ⟨_, (pss_cons (ps_asg (pv 0) (pg_tup (n := 4) (by rfl) (pgs_cons (pg_name (i := 1) scordered.nd rfl (by first | exact Or.inl rfl | exact Or.inr rfl)) (pgs_cons (pg_name (i := 2) scordered.nd rfl (by first | exact Or.inl rfl | exact Or.inr rfl)) (pgs_cons (pg_name (i := 3) scordered.nd rfl (by first | exact Or.inl rfl | exact Or.inr rfl)) (pgs_cons (pg_name (i := 4) scordered.nd rfl (by first | exact Or.inl rfl | exact Or.inr rfl)) pgs_nil))))))
    (pss_cons (ps_if (pt_cmpR op_gt (pv 1) (pv 2) (by first | exact nomark _ | rfl))
      (pss_one (ps_ret (pe_tup (pa_cons (pv 2) (pa_cons (pv 1) (pa_cons (pv 4) (pa_cons (pv 3) pa_nil)))))))
      pss_nil)
    (pss_one (ps_ret (pv 0))))), ?_⟩
    have hp0 := hp
    have hp : SqT K H p [.int s.lo, .int s.hi, .bl s.fl, .bl s.fh] := hp
    unfold ordS at q
    by_cases hn : s.hi < s.lo
    · rw [if_pos hn] at q
      walk_at "run"
      · exact q _ _ (same_upd (by assumption)) (SqT.of upd_same)
      · exact absurd hn (by assumption)
    · rw [if_neg hn] at q
      walk_at "run"
      · exact absurd (by assumption) hn
      · exact q _ _ (Same.refl _) hp0

theorem okrow_span (T : Txt K mg) : FnOk P w K mg base CX0 1 T.arow_span T.drow_span Prow_span (sprow_span K) := by
  refine T.Frow_span.ok scrow_span (fun vs H Q E h => ?_) (fun cdv A outer s H vs Q E hr h => ?_)
  · obtain ⟨v, a, n, rfl, _⟩ := h
    rfl
  · obtain ⟨v, a, n, rfl, tv, q⟩ := h
    refine ⟨_, (pss_cons (ps_asg (pv 0) (pg_starT (n := 3) (i := 2) (by rfl) (pgs_cons (pg_name (i := 1) scrow_span.nd rfl (by first | exact Or.inl rfl | exact Or.inr rfl)) (pgs_cons (pg_name (i := 2) scrow_span.nd rfl (by first | exact Or.inl rfl | exact Or.inr rfl)) (pgs_star (pg_name (i := 3) scrow_span.nd rfl (by first | exact Or.inl rfl | exact Or.inr rfl)) pgs_nil)))))
    (pss_cons (ps_if (pt_cmpR op_eq (pv 1) pe_str (by first | exact nomark _ | rfl))
      (pss_cons (ps_asg (pv 3) (pg_unl (n := 4) (by rfl) (pgs_cons (pg_name (i := 4) scrow_span.nd rfl (by first | exact Or.inl rfl | exact Or.inr rfl)) (pgs_cons (pg_name (i := 2) scrow_span.nd rfl (by first | exact Or.inl rfl | exact Or.inr rfl)) (pgs_cons (pg_name (i := 5) scrow_span.nd rfl (by first | exact Or.inl rfl | exact Or.inr rfl)) (pgs_cons (pg_name (i := 2) scrow_span.nd rfl (by first | exact Or.inl rfl | exact Or.inr rfl)) pgs_nil))))))
    (pss_one (ps_ret (pe_tup (pa_cons (pv 4) (pa_cons (pv 4) (pa_cons (pv 5) (pa_cons (pv 5) pa_nil))))))))
      pss_nil)
    (pss_cons (ps_if (pt_cmpR op_eq (pv 1) pe_str (by first | exact nomark _ | rfl))
      (pss_one (ps_ret (pe_tup (pa_cons (pe_ix ix_list (pv 3) pe_int (fun _ _ => rfl)) (pa_cons (pe_ix ix_list (pv 3) pe_int (fun _ _ => rfl)) (pa_cons (pe_ix ix_list (pv 3) pe_int (fun _ _ => rfl)) (pa_cons (pe_ix ix_list (pv 3) pe_int (fun _ _ => rfl)) pa_nil)))))))
      pss_nil)
    (pss_cons (ps_if (pt_cmpR op_eq (pv 1) pe_str (by first | exact nomark _ | rfl))
      (pss_one (ps_ret (pe_callTy call_tuple_of (by rfl) T.z_tuple (by decide +kernel) (pa_cons (pv 3) pa_nil))))
      pss_nil)
    (pss_one (ps_ret pe_non)))))), ?_⟩
    obtain ⟨p0, rfl, hv, ok⟩ := tv.ar
    rcases ok.cases with ⟨sh, r, c, x, y, rfl⟩ | ⟨sh, t, l, b, r, x, y, z, u, rfl⟩ | ⟨sh, t, b, x, y, rfl⟩ | ⟨sh, l, r, x, y, rfl⟩
    all_goals simp only [rowS_cell, rowS_range, rowS_rows, rowS_columns, colS_cell, colS_range, colS_rows, colS_columns] at q
    all_goals walk_at "run"
    · exact q _ _ (by walk_at "same") ⟨_, rfl, SqT.of upd_same⟩
    · exact q _ _ (by walk_at "same") ⟨_, rfl, SqT.of upd_same⟩
    · refine ⟨_, _, rfl, Or.inl ⟨SqL.of upd_same, fun p hp => ?_⟩⟩
      exact q _ _ (by walk_at "same") ⟨_, rfl, SqT.of upd_same⟩
    · exact q _ _ (by walk_at "same") rfl

theorem okcolumn_span (T : Txt K mg) : FnOk P w K mg base CX0 1 T.acolumn_span T.dcolumn_span Pcolumn_span (spcolumn_span K) := by
  refine T.Fcolumn_span.ok sccolumn_span (fun vs H Q E h => ?_) (fun cdv A outer s H vs Q E hr h => ?_)
  · obtain ⟨v, a, n, rfl, _⟩ := h
    rfl
  · obtain ⟨v, a, n, rfl, tv, q⟩ := h
    refine ⟨_, (pss_cons (ps_asg (pv 0) (pg_starT (n := 3) (i := 2) (by rfl) (pgs_cons (pg_name (i := 1) sccolumn_span.nd rfl (by first | exact Or.inl rfl | exact Or.inr rfl)) (pgs_cons (pg_name (i := 2) sccolumn_span.nd rfl (by first | exact Or.inl rfl | exact Or.inr rfl)) (pgs_star (pg_name (i := 3) sccolumn_span.nd rfl (by first | exact Or.inl rfl | exact Or.inr rfl)) pgs_nil)))))
    (pss_cons (ps_if (pt_cmpR op_eq (pv 1) pe_str (by first | exact nomark _ | rfl))
      (pss_cons (ps_asg (pv 3) (pg_unl (n := 4) (by rfl) (pgs_cons (pg_name (i := 2) sccolumn_span.nd rfl (by first | exact Or.inl rfl | exact Or.inr rfl)) (pgs_cons (pg_name (i := 4) sccolumn_span.nd rfl (by first | exact Or.inl rfl | exact Or.inr rfl)) (pgs_cons (pg_name (i := 2) sccolumn_span.nd rfl (by first | exact Or.inl rfl | exact Or.inr rfl)) (pgs_cons (pg_name (i := 5) sccolumn_span.nd rfl (by first | exact Or.inl rfl | exact Or.inr rfl)) pgs_nil))))))
    (pss_one (ps_ret (pe_tup (pa_cons (pv 4) (pa_cons (pv 4) (pa_cons (pv 5) (pa_cons (pv 5) pa_nil))))))))
      pss_nil)
    (pss_cons (ps_if (pt_cmpR op_eq (pv 1) pe_str (by first | exact nomark _ | rfl))
      (pss_one (ps_ret (pe_tup (pa_cons (pe_ix ix_list (pv 3) pe_int (fun _ _ => rfl)) (pa_cons (pe_ix ix_list (pv 3) pe_int (fun _ _ => rfl)) (pa_cons (pe_ix ix_list (pv 3) pe_int (fun _ _ => rfl)) (pa_cons (pe_ix ix_list (pv 3) pe_int (fun _ _ => rfl)) pa_nil)))))))
      pss_nil)
    (pss_cons (ps_if (pt_cmpR op_eq (pv 1) pe_str (by first | exact nomark _ | rfl))
      (pss_one (ps_ret (pe_callTy call_tuple_of (by rfl) T.z_tuple (by decide +kernel) (pa_cons (pv 3) pa_nil))))
      pss_nil)
    (pss_one (ps_ret pe_non)))))), ?_⟩
    obtain ⟨p0, rfl, hv, ok⟩ := tv.ar
    rcases ok.cases with ⟨sh, r, c, x, y, rfl⟩ | ⟨sh, t, l, b, r, x, y, z, u, rfl⟩ | ⟨sh, t, b, x, y, rfl⟩ | ⟨sh, l, r, x, y, rfl⟩
    all_goals simp only [rowS_cell, rowS_range, rowS_rows, rowS_columns, colS_cell, colS_range, colS_rows, colS_columns] at q
    all_goals walk_at "run"
    · exact q _ _ (by walk_at "same") ⟨_, rfl, SqT.of upd_same⟩
    · exact q _ _ (by walk_at "same") ⟨_, rfl, SqT.of upd_same⟩
    · exact q _ _ (by walk_at "same") rfl
    · refine ⟨_, _, rfl, Or.inl ⟨SqL.of upd_same, fun p hp => ?_⟩⟩
      exact q _ _ (by walk_at "same") ⟨_, rfl, SqT.of upd_same⟩

theorem oknode_of (T : Txt K mg) : FnOk P w K mg base CX0 1 T.anode_of T.dnode_of Pnode_of (spnode_of K) := by
  refine T.Fnode_of.ok scnode_of (fun vs H Q E h => ?_) (fun cdv A outer s H vs Q E hr h => ?_)
  · obtain ⟨k, sh, r1, r2, o1, o2, b, rfl, _⟩ := h
    rfl
  · obtain ⟨k, sh, r1, r2, o1, o2, b, rfl, h1, h2, hb, hk, q⟩ := h
    refine ⟨_, (pss_cons (ps_if (pt_cmpR op_eq (pv 0) pe_str (by first | exact nomark _ | rfl))
      (pss_one (ps_ret (pe_tup (pa_cons pe_str (pa_cons (pv 1) (StX.pa_star (pv 2) pa_nil))))))
      pss_nil)
    (pss_cons (ps_if (pt_cmpR op_eq (pv 0) pe_str (by first | exact nomark _ | rfl))
      (pss_one (ps_ret (pe_tup (pa_cons pe_str (pa_cons (pv 1) (StX.pa_star (pv 3) pa_nil))))))
      pss_nil)
    (pss_cons (ps_asg (pv 2) (pg_tup (n := 4) (by rfl) (pgs_cons (pg_name (i := 4) scnode_of.nd rfl (by first | exact Or.inl rfl | exact Or.inr rfl)) (pgs_cons (pg_name (i := 5) scnode_of.nd rfl (by first | exact Or.inl rfl | exact Or.inr rfl)) (pgs_cons (pg_name (i := 6) scnode_of.nd rfl (by first | exact Or.inl rfl | exact Or.inr rfl)) (pgs_cons (pg_name (i := 7) scnode_of.nd rfl (by first | exact Or.inl rfl | exact Or.inr rfl)) pgs_nil))))))
    (pss_cons (ps_asg (pv 3) (pg_tup (n := 4) (by rfl) (pgs_cons (pg_name (i := 8) scnode_of.nd rfl (by first | exact Or.inl rfl | exact Or.inr rfl)) (pgs_cons (pg_name (i := 9) scnode_of.nd rfl (by first | exact Or.inl rfl | exact Or.inr rfl)) (pgs_cons (pg_name (i := 10) scnode_of.nd rfl (by first | exact Or.inl rfl | exact Or.inr rfl)) (pgs_cons (pg_name (i := 11) scnode_of.nd rfl (by first | exact Or.inl rfl | exact Or.inr rfl)) pgs_nil))))))
    (pss_cons (ps_if (pt_cmpR op_eq (pv 0) pe_str (by first | exact nomark _ | rfl))
      (pss_one (ps_ret (pe_tup (pa_cons pe_str (pa_cons (pv 1) (pa_cons (pv 4) (pa_cons (pv 8) (pa_cons (pv 6) (pa_cons (pv 10) pa_nil)))))))))
      pss_nil)
    (pss_one (ps_ret (pe_tup (pa_cons pe_str (pa_cons (pv 1) (pa_cons (pv 4) (pa_cons (pv 8) (pa_cons (pv 5) (pa_cons (pv 9) (pa_cons (pv 6) (pa_cons (pv 10) (pa_cons (pv 7) (pa_cons (pv 11) pa_nil)))))))))))))))))), ?_⟩
    have key : (k = "cell" ∨ k = "range") → spnode_of K [.str k, shV sh, r1, r2] H Q E0 → True := fun _ _ => trivial
    clear key
    rcases (show (k = "cell" ∨ k = "range") ∨ k = "rows" ∨ k = "columns" by rcases hk with h | h | h | h; exact .inl (.inl h); exact .inl (.inr h); exact .inr (.inl h); exact .inr (.inr h)) with hk3 | rfl | rfl
    · have hkk : ¬ k = "rows" ∧ ¬ k = "columns" := by
        rcases hk3 with rfl | rfl
        · exact ⟨by decide +kernel, by decide +kernel⟩
        · exact ⟨by decide +kernel, by decide +kernel⟩
      obtain ⟨s, u, rfl, rfl⟩ : ∃ s u, o1 = some s ∧ o2 = some u := by
        rcases hk3 with rfl | rfl
        · obtain ⟨s, u, e1, e2, _⟩ := nodA_cell hb
          exact ⟨s, u, e1, e2⟩
        · obtain ⟨s, u, e1, e2, _⟩ := nodA_range hb
          exact ⟨s, u, e1, e2⟩
      obtain ⟨p1, rfl, g1⟩ := h1
      obtain ⟨p2, rfl, g2⟩ := h2
      have g1 : SqT K H p1 [.int s.lo, .int s.hi, .bl s.fl, .bl s.fh] := g1
      have g2 : SqT K H p2 [.int u.lo, .int u.hi, .bl u.fl, .bl u.fh] := g2
      refine seq_merge4 (C := (fun σ' H' => Hd (H' = H ∧ σ' = [some (.str k), some (shV sh), some (.ref p1), some (.ref p2), some (.int s.lo), some (.int s.hi), some (.bl s.fl), some (.bl s.fh), some (.int u.lo), some (.int u.hi), some (.bl u.fl), some (.bl u.fh)]))) ?tail ?rest
      case rest =>
        intro R tail
        walk_at "run"
        · rename_i h pp hpp
          exact absurd (V.str.inj h) hkk.1
        · rename_i h h2 pp hpp
          exact absurd (V.str.inj h2) hkk.2
        · exact tail _ _ (.mk ⟨rfl, rfl⟩)
      case tail =>
        intro σ H1 hc
        obtain ⟨rfl, rfl⟩ := hc.get
        rcases hk3 with rfl | rfl
        · obtain ⟨s', u', e1, e2, rfl⟩ := nodA_cell hb
          cases e1
          cases e2
          walk_at "run"
          exact q _ _ (by walk_at "same") (SqT.of upd_same)
        · obtain ⟨s', u', e1, e2, rfl⟩ := nodA_range hb
          cases e1
          cases e2
          walk_at "run"
          exact q _ _ (by walk_at "same") (SqT.of upd_same)
    · obtain ⟨s, rfl, rfl⟩ := nodA_rows hb
      obtain ⟨p1, rfl, g1⟩ := h1
      have g1 : SqT K H p1 [.int s.lo, .int s.hi, .bl s.fl, .bl s.fh] := g1
      refine seq_merge (C := (fun _ _ => False)) (fun _ _ h => h.elim) ?_
      intro R tail
      walk_at "run"
      exact q _ _ (by walk_at "same") (SqT.of upd_same)
    · obtain ⟨s, rfl, rfl⟩ := nodA_columns hb
      obtain ⟨p1, rfl, g1⟩ := h2
      have g1 : SqT K H p1 [.int s.lo, .int s.hi, .bl s.fl, .bl s.fh] := g1
      refine seq_merge2 (C := (fun _ _ => False)) (fun _ _ h => h.elim) ?_
      intro R tail
      walk_at "run"
      exact q _ _ (by walk_at "same") (SqT.of upd_same)

theorem okarea_of (T : Txt K mg) : FnOk P w K mg base CX0 2 T.aarea_of T.darea_of Parea_of (sparea_of K) := by
  refine T.Farea_of.ok scarea_of (fun vs H Q E h => ?_) (fun cdv A outer s H vs Q E hr h => ?_)
  · obtain ⟨v, a, n, own, rfl, _⟩ := h
    rfl
  · obtain ⟨v, a, n, own, rfl, tv, q⟩ := h
    refine ⟨_, (pss_cons (ps_set (i := 2) scarea_of.nd rfl (by first | exact Or.inl rfl | exact Or.inr rfl) (pe_ifExp (pt_cmpR op_isN (pe_ix ix_tup (pv 0) pe_int (fun _ _ => rfl)) pe_non (by first | exact nomark _ | rfl)) (pv 1) (pe_ix ix_tup (pv 0) pe_int (fun _ _ => rfl))))
    (pss_cons (ps_set (i := 3) scarea_of.nd rfl (by first | exact Or.inl rfl | exact Or.inr rfl) (pe_call (okrow_span T) (hr.mono (by decide)) (by rfl) T.grow_span T.Frow_span.kp (T.brow_span) .nil pass0 (pa_cons (pv 0) pa_nil)))
    (pss_cons (ps_set (i := 4) scarea_of.nd rfl (by first | exact Or.inl rfl | exact Or.inr rfl) (pe_call (okcolumn_span T) (hr.mono (by decide)) (by rfl) T.gcolumn_span T.Fcolumn_span.kp (T.bcolumn_span) .nil pass0 (pa_cons (pv 0) pa_nil)))
    (pss_cons (ps_asg (pe_ifExp (pt_cmpR op_isN (pv 3) pe_non (by first | exact nomark _ | rfl)) (pe_tup (pa_cons pe_int (pa_cons (pe_op op_sub (pe_glob (v := .int 20) (by rfl) T.m_ROWS ⟨_, rfl⟩) pe_int) pa_nil))) (pe_slice sl_tupA (pv 3) po_none (po_some pe_int))) (pg_tup (n := 2) (by rfl) (pgs_cons (pg_name (i := 5) scarea_of.nd rfl (by first | exact Or.inl rfl | exact Or.inr rfl)) (pgs_cons (pg_name (i := 6) scarea_of.nd rfl (by first | exact Or.inl rfl | exact Or.inr rfl)) pgs_nil))))
    (pss_cons (ps_asg (pe_ifExp (pt_cmpR op_isN (pv 4) pe_non (by first | exact nomark _ | rfl)) (pe_tup (pa_cons pe_int (pa_cons (pe_op op_sub (pe_glob (v := .int 10) (by rfl) T.m_COLUMNS ⟨_, rfl⟩) pe_int) pa_nil))) (pe_slice sl_tupA (pv 4) po_none (po_some pe_int))) (pg_tup (n := 2) (by rfl) (pgs_cons (pg_name (i := 7) scarea_of.nd rfl (by first | exact Or.inl rfl | exact Or.inr rfl)) (pgs_cons (pg_name (i := 8) scarea_of.nd rfl (by first | exact Or.inl rfl | exact Or.inr rfl)) pgs_nil))))
    (pss_one (ps_ret (pe_tup (pa_cons (pv 2) (pa_cons (pv 5) (pa_cons (pv 7) (pa_cons (pv 6) (pa_cons (pv 8) pa_nil))))))))))))), ?_⟩
    obtain ⟨p0, rfl, hv, ok⟩ := tv.ar
    have hv2 : SqT K H p0 (.str a.k :: shV a.sh :: (a.ns.map V.int ++ a.ms.map V.bl)) := hv
    refine seq_merge (C := (fun σ' H' => Hd (H' = H ∧ σ' = [some (.ref p0), some (shV own), some (shV (keyO own a.sh)), none, none, none, none, none, none]))) ?tail ?rest
    case rest =>
      intro R tail
      walk_at "run"
      · rename_i hs
        have e : keyO own a.sh = own := by rw [(dec_non _).mp hs]; rfl
        exact tail _ _ (.mk ⟨rfl, by rw [e]; first | done | rfl⟩)
      · rename_i hs
        have e : keyO own a.sh = a.sh := by
          cases e : a.sh with
          | none => exact absurd (by rw [e]; rfl) hs
          | some i => rfl
        exact tail _ _ (.mk ⟨rfl, by rw [e]; first | done | rfl⟩)
    case tail =>
      intro σ H0 hc
      obtain ⟨rfl, rfl⟩ := hc.get
      rcases ok.cases with ⟨sh, r, c, x, y, rfl⟩ | ⟨sh, t, l, b, r, x, y, z, u, rfl⟩ | ⟨sh, t, b, x, y, rfl⟩ | ⟨sh, l, r, x, y, rfl⟩
      all_goals simp only [arO_cell, arO_range, arO_rows, arO_columns] at q
      · walk_at "run"
        refine ⟨_, _, n, rfl, tv, fun r1 H1 s1 sp1 => ?_⟩
        rw [rowS_cell] at sp1
        obtain ⟨q1, rfl, hq1⟩ := sp1
        walk_at "run"
        refine ⟨_, _, n, rfl, tv.keep (same_tk s1), fun r2 H2 s2 sp2 => ?_⟩
        rw [colS_cell] at sp2
        obtain ⟨q2, rfl, hq2⟩ := sp2
        have hq3 := same_tk (K := K) s2 _ _ hq1
        walk_at "run"
        refine ⟨_, _, rfl, hq3, (fun h => absurd h.2 (show ¬ ((2 : Nat) = 4) by decide)), fun _ p3 hp3 => ?_⟩
        walk_at "run"
        refine ⟨_, _, rfl, same_tk (same_upd hp3) _ _ hq2, (fun h => absurd h.2 (show ¬ ((2 : Nat) = 4) by decide)), fun _ p4 hp4 => ?_⟩
        walk_at "run"
        exact q _ _ (by walk_at "same") (SqT.of upd_same)
      · walk_at "run"
        refine ⟨_, _, n, rfl, tv, fun r1 H1 s1 sp1 => ?_⟩
        rw [rowS_range] at sp1
        obtain ⟨q1, rfl, hq1⟩ := sp1
        walk_at "run"
        refine ⟨_, _, n, rfl, tv.keep (same_tk s1), fun r2 H2 s2 sp2 => ?_⟩
        rw [colS_range] at sp2
        obtain ⟨q2, rfl, hq2⟩ := sp2
        have hq3 := same_tk (K := K) s2 _ _ hq1
        walk_at "run"
        refine ⟨_, _, rfl, hq3, (fun h => absurd h.2 (show ¬ ((2 : Nat) = 4) by decide)), fun _ p3 hp3 => ?_⟩
        walk_at "run"
        refine ⟨_, _, rfl, same_tk (same_upd hp3) _ _ hq2, (fun h => absurd h.2 (show ¬ ((2 : Nat) = 4) by decide)), fun _ p4 hp4 => ?_⟩
        walk_at "run"
        exact q _ _ (by walk_at "same") (SqT.of upd_same)
      · walk_at "run"
        refine ⟨_, _, n, rfl, tv, fun r1 H1 s1 sp1 => ?_⟩
        rw [rowS_rows] at sp1
        obtain ⟨q1, rfl, hq1⟩ := sp1
        walk_at "run"
        refine ⟨_, _, n, rfl, tv.keep (same_tk s1), fun r2 H2 s2 sp2 => ?_⟩
        rw [colS_rows] at sp2
        obtain rfl : r2 = V.non := sp2
        have hq3 := same_tk (K := K) s2 _ _ hq1
        walk_at "run"
        refine ⟨_, _, rfl, hq3, (fun h => absurd h.2 (show ¬ ((2 : Nat) = 4) by decide)), fun _ p3 hp3 => ?_⟩
        walk_at "run"
        exact q _ _ (by walk_at "same") (SqT.of upd_same)
      · walk_at "run"
        refine ⟨_, _, n, rfl, tv, fun r1 H1 s1 sp1 => ?_⟩
        rw [rowS_columns] at sp1
        obtain rfl : r1 = V.non := sp1
        walk_at "run"
        refine ⟨_, _, n, rfl, tv.keep (same_tk s1), fun r2 H2 s2 sp2 => ?_⟩
        rw [colS_columns] at sp2
        obtain ⟨q2, rfl, hq2⟩ := sp2
        walk_at "run"
        rename_i p3 hp3
        refine ⟨_, _, rfl, same_tk (same_upd hp3) _ _ hq2, (fun h => absurd h.2 (show ¬ ((2 : Nat) = 4) by decide)), fun _ p4 hp4 => ?_⟩
        walk_at "run"
        exact q _ _ (by walk_at "same") (SqT.of upd_same)


theorem okHall_rebuilt (T : Txt K mg) (n : Nat) (F' : FnOk P w K mg base CX0 (2 * n + 17) T.arebuilt T.drebuilt Prebuilt (spRrebuilt P w K mg base n)) : FnOk P w K mg base CX0 (2 * n + 17 + 1) T.aall_rebuilt T.dall_rebuilt Pall_rebuilt (spRall_rebuilt P w K mg base n) := by
  refine T.Fall_rebuilt.ok scall_rebuilt (fun vs H Q E h => ?_) (fun cdv A outer s H vs Q E hr h => ?_)
  · obtain ⟨m, p, f, Pi, g, xs, ts, _, rfl, _⟩ := h
    rfl
  · obtain ⟨m, p, f, Pi, g, xs, ts, rfl, rfl, hp, hx, hl, hd, q⟩ := h
    refine ⟨_, (pss_one (ps_ret (pe_callTy call_tuple_of (by rfl) T.z_tuple (by decide +kernel) (pa_cons (pe_lc (own := [("tree", 2)]) (g := gName 2) (tt := tYes) rfl scall_rebuilt.nd (pi_tup (pv 0)) (blkOk_by (N := Nall_rebuilt) (sc := defScope sall_rebuilt) (by decide +kernel)) (fun _ _ _ _ _ => pg_name (i := 2) scall_rebuilt.nd rfl (Or.inl rfl)) (fun _ _ _ _ _ => pts_nil) (fun _ _ _ _ _ => (pe_call F' (hr.mono (by omega)) (by rfl) T.grebuilt T.Frebuilt.kp (T.brebuilt) .nil pass0 (pa_cons (pv 2) (pa_cons (pv 1) pa_nil))))) pa_nil)))), ?_⟩
    walk_at "run"
    first
      | intro D hD
      | refine And.intro ⟨_, hp⟩ (fun D hD => ?_)
    have lx := hx.len
    have w0 : NdefX.TabN (upd H D (.lst [])) Pi nmK := hd.1.ext (same_upd hD)
    refine lc_it (walk_tup (xs := xs)) (fun i H' => Hd (ButT nmK Pi H H' ∧ ∃ ys, H' D = some (.lst ys) ∧ TVs K H' m ys ((ts.take i).map (Tr.mp g)))) (.mk ⟨ButT.of (same_upd hD), [], upd_same, .nil⟩) (fun i H' hi hp2 => ButT.tk (K := K) hp2.get.1 hd.1 _ _ hp) (fun i z Ha Hb hi hp2 hy => ?_) (fun H' hp2 => ?_)
    · obtain ⟨s2, ys, hz2, ty⟩ := hp2.get
      obtain ⟨rfl, ez⟩ := hy
      obtain ⟨u, eu, tz⟩ := (hx.keep (ButT.tk (K := K) s2 hd.1)).at ez
      have ly := ty.len
      rw [List.length_map, List.length_take] at ly
      walk_at "run"
      refine ⟨z, f, Pi, g, u, rfl, tz, hd.next s2, fun r H1 s1 w1 t1 => ?_⟩
      have hz3 := s1.ne (s2.tab hd.1) hz2 (fun _ z => nomatch z)
      refine ⟨_, hz3, small1000 (by omega), .mk ⟨(s2.trans s1).put hd.1 hD hz3, _, upd_same, ?_⟩⟩
      rw [List.take_add_one, eu, List.map_append]
      exact ((ty.keep (ButT.tk (K := K) s1 (s2.tab hd.1))).snoc t1).keep (lst_tk hz3)
    · obtain ⟨s2, ys, hz2, ty⟩ := hp2.get
      rw [lx, List.take_length] at ty
      refine ⟨_, _, rfl, Or.inl ⟨SqL.of hz2, fun pt hpt => ?_⟩⟩
      exact q _ _ _ (s2.trans (ButT.of (same_upd hpt))) ((s2.tab hd.1).ext (same_upd hpt)) (SqT.of upd_same) (ty.keep (same_tk (same_upd hpt)))
theorem okRrebuilt (T : Txt K mg) : ∀ n : Nat, FnOk P w K mg base CX0 (2 * n + 17) T.arebuilt T.drebuilt Prebuilt (spRrebuilt P w K mg base n)
  | 0 => ⟨fun _ _ _ _ h => h.elim, fun _ _ _ _ _ _ _ _ _ _ _ _ _ h => h.elim⟩
  | n + 1 => by
    have F' := okRrebuilt T n
    have G' := okHall_rebuilt T n F'
    refine FnOk.mono (j := (2 * n + 17 + 1) + 1) ?_ (by omega)
    refine T.Frebuilt.ok screbuilt (fun vs H Q E h => ?_) (fun cdv A outer s H vs Q E hr h => ?_)
    · obtain ⟨v, f, Pi, g, t, rfl, _⟩ := h
      rfl
    · obtain ⟨v, f, Pi, g, t, rfl, tv, hd, q⟩ := h
      refine ⟨_, (pss_cons (ps_set (i := 2) screbuilt.nd rfl (by first | exact Or.inl rfl | exact Or.inr rfl) (pe_ix ix_tup (pv 0) pe_int (fun _ _ => rfl)))
    (pss_cons (ps_if (pt_cmpR op_in_seq (pv 2) (pe_glob (v := .ref T.o_AREAS) (by rfl) T.m_AREAS rfl) (by first | exact nomark _ | rfl))
      (pss_one (ps_ret ((pe_callV (E := E0) (k := 16) (n := 1) (i := 1) (sp := spDeed K nmK Pi g) (hr.mono (by omega)) rfl (Or.inl rfl) (pa_cons (pv 0) pa_nil)))))
      pss_nil)
    (pss_cons (ps_if (pt_cmpR op_in_seq (pv 2) (pe_tup (pa_cons pe_str (pa_cons pe_str pa_nil))) (by first | exact nomark _ | rfl))
      (pss_one (ps_ret (pe_tup (pa_cons (pv 2) (pa_cons (pe_ix ix_tup (pv 0) pe_int (fun _ _ => rfl)) (pa_cons (pe_call F' (hr.mono (by omega)) (by rfl) T.grebuilt T.Frebuilt.kp (T.brebuilt) .nil pass0 (pa_cons (pe_ix ix_tup (pv 0) pe_int (fun _ _ => rfl)) (pa_cons (pv 1) pa_nil))) pa_nil))))))
      pss_nil)
    (pss_cons (ps_if (pt_cmpR op_eq (pv 2) pe_str (by first | exact nomark _ | rfl))
      (pss_one (ps_ret (pe_tup (pa_cons (pv 2) (pa_cons (pe_ix ix_tup (pv 0) pe_int (fun _ _ => rfl)) (pa_cons (pe_call F' (hr.mono (by omega)) (by rfl) T.grebuilt T.Frebuilt.kp (T.brebuilt) .nil pass0 (pa_cons (pe_ix ix_tup (pv 0) pe_int (fun _ _ => rfl)) (pa_cons (pv 1) pa_nil))) (pa_cons (pe_call F' (hr.mono (by omega)) (by rfl) T.grebuilt T.Frebuilt.kp (T.brebuilt) .nil pass0 (pa_cons (pe_ix ix_tup (pv 0) pe_int (fun _ _ => rfl)) (pa_cons (pv 1) pa_nil))) pa_nil)))))))
      pss_nil)
    (pss_cons (ps_if (pt_cmpR op_eq (pv 2) pe_str (by first | exact nomark _ | rfl))
      (pss_one (ps_ret (pe_tup (pa_cons (pv 2) (pa_cons (pe_ix ix_tup (pv 0) pe_int (fun _ _ => rfl)) (pa_cons (pe_call G' (hr.mono (by omega)) (by rfl) T.gall_rebuilt T.Fall_rebuilt.kp (T.ball_rebuilt) .nil pass0 (pa_cons (pe_ix ix_tup (pv 0) pe_int (fun _ _ => rfl)) (pa_cons (pv 1) pa_nil))) pa_nil))))))
      pss_nil)
    (pss_cons (ps_if (pt_cmpR op_eq (pv 2) pe_str (by first | exact nomark _ | rfl))
      (pss_one (ps_ret (pe_tup (pa_cons (pv 2) (pa_cons (pe_ix ix_tup (pv 0) pe_int (fun _ _ => rfl)) (pa_cons (pe_call G' (hr.mono (by omega)) (by rfl) T.gall_rebuilt T.Fall_rebuilt.kp (T.ball_rebuilt) .nil pass0 (pa_cons (pe_ix ix_tup (pv 0) pe_int (fun _ _ => rfl)) (pa_cons (pv 1) pa_nil))) (pa_cons (pe_call F' (hr.mono (by omega)) (by rfl) T.grebuilt T.Frebuilt.kp (T.brebuilt) .nil pass0 (pa_cons (pe_ix ix_tup (pv 0) pe_int (fun _ _ => rfl)) (pa_cons (pv 1) pa_nil))) pa_nil)))))))
      pss_nil)
    (pss_cons (ps_if (pt_cmpR op_eq (pv 2) pe_str (by first | exact nomark _ | rfl))
      (pss_one (ps_ret (pe_tup (pa_cons (pv 2) (pa_cons (pe_call F' (hr.mono (by omega)) (by rfl) T.grebuilt T.Frebuilt.kp (T.brebuilt) .nil pass0 (pa_cons (pe_ix ix_tup (pv 0) pe_int (fun _ _ => rfl)) (pa_cons (pv 1) pa_nil))) (pa_cons (pe_call G' (hr.mono (by omega)) (by rfl) T.gall_rebuilt T.Fall_rebuilt.kp (T.ball_rebuilt) .nil pass0 (pa_cons (pe_ix ix_tup (pv 0) pe_int (fun _ _ => rfl)) (pa_cons (pv 1) pa_nil))) pa_nil))))))
      pss_nil)
    (pss_one (ps_ret (pv 0)))))))))), ?_⟩
      have hd0 := hd
      cases n with
      | zero => exact tv.2.elim
      | succ n =>
        obtain ⟨p9, rfl, ho⟩ := tv.open
        cases t with
        | leaf z ds =>
          obtain ⟨xs9, hp9, hx9, hz9⟩ := ho
          walk_at "run"
          refine ⟨T.o_AREAS, _, rfl, .inr (T.q_AREAS _), rfl, rfl, false, congrArg V.bl (inV_no hz9 (by decide +kernel)), ?_⟩
          walk_at "run"
          exact q _ _ (ButT.of (by walk_at "same")) (hd.1.ext (by walk_at "same")) (tv.keep (same_tk (by walk_at "same")))
        | area a =>
          obtain ⟨xs9, hp9, hx9, ha⟩ := ho
          rcases id ha.1 with ⟨ek, _⟩ | ⟨ek, _⟩ | ⟨ek, _⟩ | ⟨ek, _⟩
          all_goals rw [ek] at hp9
          all_goals (
            walk_at "run"
            refine ⟨T.o_AREAS, _, rfl, .inr (T.q_AREAS _), rfl, rfl, true, congrArg V.bl (by decide +kernel), ?_⟩
            walk_at "run"
            refine ⟨hd.cal, ?_⟩
            walk_at "run"
            refine ⟨hd.cal, rfl, _, a, n, rfl, tv, hd.1, fun r H9 b9 w9 hr9 => ?_⟩
            exact q r _ b9 w9 (hr9.mono (by omega)))
        | one z d t9 =>
          obtain ⟨y, x, hp9, hy9, tx9, hz9, fd⟩ := ho
          rcases id hz9 with rfl | rfl
          all_goals (
            walk_at "run"
            refine ⟨T.o_AREAS, _, rfl, .inr (T.q_AREAS _), rfl, rfl, false, congrArg V.bl (by decide +kernel), ?_⟩
            walk_at "run"
            refine ⟨_, f, Pi, g, _, rfl, tx9.keep (same_tk (by walk_at "same")), hd.next (ButT.of (by walk_at "same")), fun r1 H1 u1 w1 t1 => ?_⟩
            have b1 : ButT nmK Pi H H1 := (ButT.of (by walk_at "same")).trans u1
            have hd1 := hd.next b1
            have k1 := ButT.tk (K := K) b1 hd.1
            have hp9_1 := k1 _ _ hp9
            walk_at "run"
            refine q _ _ (b1.trans (ButT.of (by walk_at "same"))) (w1.ext (by walk_at "same")) (TV.mk_one (SqT.of upd_same) hz9 (dp_keep (fun a b h => same_tk (by walk_at "same") _ _ (k1 a b h)) fd hy9) fd (t1.keep (same_tk (by walk_at "same")))))
        | two d a b9 =>
          obtain ⟨y, x1, x2, hp9, hy9, ta, tb, fd⟩ := ho
          (
            walk_at "run"
            refine ⟨T.o_AREAS, _, rfl, .inr (T.q_AREAS _), rfl, rfl, false, congrArg V.bl (by decide +kernel), ?_⟩
            walk_at "run"
            refine ⟨_, f, Pi, g, _, rfl, ta.keep (same_tk (by walk_at "same")), hd.next (ButT.of (by walk_at "same")), fun r1 H1 u1 w1 t1 => ?_⟩
            have b1 : ButT nmK Pi H H1 := (ButT.of (by walk_at "same")).trans u1
            have hd1 := hd.next b1
            have k1 := ButT.tk (K := K) b1 hd.1
            have hp9_1 := k1 _ _ hp9
            walk_at "run"
            refine ⟨_, f, Pi, g, _, rfl, (tb.keep k1).keep (same_tk (by walk_at "same")), hd1.next (ButT.of (by walk_at "same")), fun r2 H2 u2 w2 t2 => ?_⟩
            have b2 : ButT nmK Pi H1 H2 := (ButT.of (by walk_at "same")).trans u2
            have hd2 := hd1.next b2
            have k2 := ButT.tk (K := K) b2 hd1.1
            have hp9_2 := k2 _ _ hp9_1
            walk_at "run"
            exact q _ _ ((b1.trans b2).trans (ButT.of (by walk_at "same"))) (w2.ext (by walk_at "same")) (TV.mk_two (SqT.of upd_same) (dp_keep (fun a b h => same_tk (by walk_at "same") _ _ (k2 _ _ (k1 a b h))) fd hy9) fd (t1.keep (fun a b h => same_tk (by walk_at "same") _ _ (k2 a b h))) (t2.keep (same_tk (by walk_at "same")))))
        | call d cs =>
          obtain ⟨y, q0, xs9, hp9, hy9, hq, ts, fd, hl9⟩ := ho
          (
            walk_at "run"
            refine ⟨T.o_AREAS, _, rfl, .inr (T.q_AREAS _), rfl, rfl, false, congrArg V.bl (by decide +kernel), ?_⟩
            walk_at "run"
            refine ⟨n, q0, f, Pi, g, xs9, cs, rfl, rfl, (same_tk (by walk_at "same")) _ _ hq, ts.keep (same_tk (by walk_at "same")), hl9, hd.next (ButT.of (by walk_at "same")), fun p1 ys1 H1 u1 w1 hp1 t1 => ?_⟩
            have b1 : ButT nmK Pi H H1 := (ButT.of (by walk_at "same")).trans u1
            have hd1 := hd.next b1
            have k1 := ButT.tk (K := K) b1 hd.1
            have hp9_1 := k1 _ _ hp9
            walk_at "run"
            refine q _ _ (b1.trans (ButT.of (by walk_at "same"))) (w1.ext (by walk_at "same")) ?_
            show TV K _ _ _ (.call d (Tr.mps _ cs))
            rw [mps_eq]
            exact TV.mk_call (SqT.of upd_same) (dp_keep (fun a b h => same_tk (by walk_at "same") _ _ (k1 a b h)) fd hy9) fd (same_tk (by walk_at "same") _ _ hp1) (t1.keep (same_tk (by walk_at "same"))) (by rw [List.length_map]; exact hl9))
        | letk d cs t9 =>
          obtain ⟨y, q0, xs9, x, hp9, hy9, hq, ts, tx9, fd, hl9⟩ := ho
          (
            walk_at "run"
            refine ⟨T.o_AREAS, _, rfl, .inr (T.q_AREAS _), rfl, rfl, false, congrArg V.bl (by decide +kernel), ?_⟩
            walk_at "run"
            refine ⟨n, q0, f, Pi, g, xs9, cs, rfl, rfl, (same_tk (by walk_at "same")) _ _ hq, ts.keep (same_tk (by walk_at "same")), hl9, hd.next (ButT.of (by walk_at "same")), fun p1 ys1 H1 u1 w1 hp1 t1 => ?_⟩
            have b1 : ButT nmK Pi H H1 := (ButT.of (by walk_at "same")).trans u1
            have hd1 := hd.next b1
            have k1 := ButT.tk (K := K) b1 hd.1
            have hp9_1 := k1 _ _ hp9
            walk_at "run"
            refine ⟨_, f, Pi, g, _, rfl, (tx9.keep k1).keep (same_tk (by walk_at "same")), hd1.next (ButT.of (by walk_at "same")), fun r2 H2 u2 w2 t2 => ?_⟩
            have b2 : ButT nmK Pi H1 H2 := (ButT.of (by walk_at "same")).trans u2
            have hd2 := hd1.next b2
            have k2 := ButT.tk (K := K) b2 hd1.1
            have hp9_2 := k2 _ _ hp9_1
            walk_at "run"
            refine q _ _ ((b1.trans b2).trans (ButT.of (by walk_at "same"))) (w2.ext (by walk_at "same")) ?_
            show TV K _ _ _ (.letk d (Tr.mps _ cs) _)
            rw [mps_eq]
            exact TV.mk_let (SqT.of upd_same) (dp_keep (fun a b h => same_tk (by walk_at "same") _ _ (k2 _ _ (k1 a b h))) fd hy9) fd (same_tk (by walk_at "same") _ _ (k2 _ _ hp1)) (t1.keep (fun a b h => same_tk (by walk_at "same") _ _ (k2 a b h))) (by rw [List.length_map]; exact hl9) (t2.keep (same_tk (by walk_at "same"))))
        | app t9 cs =>
          obtain ⟨x, q0, xs9, hp9, tx9, hq, ts, hl9⟩ := ho
          (
            walk_at "run"
            refine ⟨T.o_AREAS, _, rfl, .inr (T.q_AREAS _), rfl, rfl, false, congrArg V.bl (by decide +kernel), ?_⟩
            walk_at "run"
            refine ⟨_, f, Pi, g, _, rfl, tx9.keep (same_tk (by walk_at "same")), hd.next (ButT.of (by walk_at "same")), fun r1 H1 u1 w1 t1 => ?_⟩
            have b1 : ButT nmK Pi H H1 := (ButT.of (by walk_at "same")).trans u1
            have hd1 := hd.next b1
            have k1 := ButT.tk (K := K) b1 hd.1
            have hp9_1 := k1 _ _ hp9
            walk_at "run"
            refine ⟨n, q0, f, Pi, g, xs9, cs, rfl, rfl, (fun a b h => same_tk (by walk_at "same") _ _ (k1 a b h)) _ _ hq, ts.keep (fun a b h => same_tk (by walk_at "same") _ _ (k1 a b h)), hl9, hd1.next (ButT.of (by walk_at "same")), fun p2 ys2 H2 u2 w2 hp2 t2 => ?_⟩
            have b2 : ButT nmK Pi H1 H2 := (ButT.of (by walk_at "same")).trans u2
            have hd2 := hd1.next b2
            have k2 := ButT.tk (K := K) b2 hd1.1
            have hp9_2 := k2 _ _ hp9_1
            walk_at "run"
            refine q _ _ ((b1.trans b2).trans (ButT.of (by walk_at "same"))) (w2.ext (by walk_at "same")) ?_
            show TV K _ _ _ (.app _ (Tr.mps _ cs))
            rw [mps_eq]
            exact TV.mk_app (SqT.of upd_same) (t1.keep (fun a b h => same_tk (by walk_at "same") _ _ (k2 a b h))) (same_tk (by walk_at "same") _ _ hp2) (t2.keep (same_tk (by walk_at "same"))) (by rw [List.length_map]; exact hl9))
theorem okrebuilt (T : Txt K mg) : FnOk P w K mg base CX0 51 T.arebuilt T.drebuilt Prebuilt (sprebuilt P w K mg base) := okRrebuilt T 17

theorem okwith_spans (T : Txt K mg) : FnOk P w K mg base CX0 8 T.awith_spans T.dwith_spans Pwith_spans (spwith_spans P w K mg base) := by
  refine T.Fwith_spans.ok scwith_spans (fun vs H Q E h => ?_) (fun cdv A outer s H vs Q E hr h => ?_)
  · obtain ⟨v, a, n, f, g, α, β, rfl, _⟩ := h
    rfl
  · obtain ⟨v, a, n, f, g, α, β, rfl, tv, hf, hg, kα, kβ, q⟩ := h
    refine ⟨_, (pss_cons (ps_set (i := 3) scwith_spans.nd rfl (by first | exact Or.inl rfl | exact Or.inr rfl) (pe_call (okrow_span T) (hr.mono (by decide)) (by rfl) T.grow_span T.Frow_span.kp (T.brow_span) .nil pass0 (pa_cons (pv 0) pa_nil)))
    (pss_cons (ps_set (i := 4) scwith_spans.nd rfl (by first | exact Or.inl rfl | exact Or.inr rfl) (pe_call (okcolumn_span T) (hr.mono (by decide)) (by rfl) T.gcolumn_span T.Fcolumn_span.kp (T.bcolumn_span) .nil pass0 (pa_cons (pv 0) pa_nil)))
    (pss_cons (ps_set (i := 5) scwith_spans.nd rfl (by first | exact Or.inl rfl | exact Or.inr rfl) (pe_ifExp (pt_cmpR op_isN (pv 3) pe_non (by first | exact nomark _ | rfl)) pe_non ((pe_callV (E := E0) (k := 6) (n := 1) (i := 1) (sp := spSpan K α) (hr.mono (by decide)) rfl (Or.inl rfl) (pa_cons (pv 3) pa_nil)))))
    (pss_cons (ps_set (i := 6) scwith_spans.nd rfl (by first | exact Or.inl rfl | exact Or.inr rfl) (pe_ifExp (pt_cmpR op_isN (pv 4) pe_non (by first | exact nomark _ | rfl)) pe_non ((pe_callV (E := E0) (k := 6) (n := 1) (i := 2) (sp := spSpan K β) (hr.mono (by decide)) rfl (Or.inl rfl) (pa_cons (pv 4) pa_nil)))))
    (pss_cons (ps_if (PW.pt (pw_or (PW.pt (pw_and (pt_cmpR op_notN (pv 3) pe_non (by first | exact nomark _ | rfl)) (pw_and1 (pt_cmpR op_isN (pv 5) pe_non (by first | exact nomark _ | rfl))))) (pw_or1 (PW.pt (pw_and (pt_cmpR op_notN (pv 4) pe_non (by first | exact nomark _ | rfl)) (pw_and1 (pt_cmpR op_isN (pv 6) pe_non (by first | exact nomark _ | rfl))))))))
      (pss_one (ps_ret (pe_glob (v := .ref T.o_LOST) (by rfl) T.m_LOST rfl)))
      pss_nil)
    (pss_one (ps_ret (pe_call (oknode_of T) (hr.mono (by decide)) (by rfl) T.gnode_of T.Fnode_of.kp (T.bnode_of) .nil pass0 (pa_cons (pe_ix ix_tup (pv 0) pe_int (fun _ _ => rfl)) (pa_cons (pe_ix ix_tup (pv 0) pe_int (fun _ _ => rfl)) (pa_cons (pv 5) (pa_cons (pv 6) pa_nil)))))))))))), ?_⟩
    obtain ⟨p0, rfl, hv, ok⟩ := tv.ar
    refine seq_merge2 (C := (fun σ' H' => Hd (Same H H' ∧ ∃ r1 r2 : V, OSn K H' r1 (rowN a) ∧ OSn K H' r2 (colN a) ∧ σ' = [some (.ref p0), some (.ref f), some (.ref g), some r1, some r2, none, none]))) ?tail ?rest
    case rest =>
      intro R tail
      walk_at "run"
      refine ⟨_, _, n, rfl, tv, fun r1 H1 s1 sp1 => ?_⟩
      walk_at "run"
      refine ⟨_, _, n, rfl, tv.keep (same_tk s1), fun r2 H2 s2 sp2 => ?_⟩
      exact tail _ _ (.mk ⟨s1.trans s2, r1, r2, (rowV ok sp1).keep (same_tk s2), colV ok sp2, rfl⟩)
    case tail =>
    intro σ1 H1 hc1
    obtain ⟨s1, r1, r2, o1, o2, rfl⟩ := hc1.get
    refine seq_merge (C := (fun σ' H' => Hd (Same H H' ∧ ∃ r3 : V, OSn K H' r1 (rowN a) ∧ OSn K H' r2 (colN a) ∧ OSn K H' r3 ((rowN a).bind α) ∧ σ' = [some (.ref p0), some (.ref f), some (.ref g), some r1, some r2, some r3, none]))) ?tail2 ?rest2
    case rest2 =>
      intro R tail
      cases e1 : rowN a with
      | none =>
        rw [e1] at o1 tail
        obtain rfl : r1 = V.non := o1
        walk_at "run"
        exact tail _ _ (.mk ⟨s1, .non, rfl, o2, rfl, rfl⟩)
      | some s =>
        rw [e1] at o1 tail
        obtain ⟨p1, rfl, g1⟩ := o1
        walk_at "run"
        refine ⟨hf _ s1, ?_⟩
        walk_at "run"
        refine ⟨hf _ s1, rfl, p1, s, rfl, g1, fun r3 H3 s3 o3 => ?_⟩
        exact tail _ _ (.mk ⟨s1.trans s3, r3, ⟨p1, rfl, same_tk s3 _ _ g1⟩, o2.keep (same_tk s3), o3, rfl⟩)
    case tail2 =>
    intro σ2 H2 hc2
    obtain ⟨s2, r3, o1, o2, o3, rfl⟩ := hc2.get
    refine seq_merge (C := (fun σ' H' => Hd (Same H H' ∧ ∃ r4 : V, OSn K H' r1 (rowN a) ∧ OSn K H' r2 (colN a) ∧ OSn K H' r3 ((rowN a).bind α) ∧ OSn K H' r4 ((colN a).bind β) ∧ σ' = [some (.ref p0), some (.ref f), some (.ref g), some r1, some r2, some r3, some r4]))) ?tail3 ?rest3
    case rest3 =>
      intro R tail
      cases e1 : colN a with
      | none =>
        rw [e1] at o2 tail
        obtain rfl : r2 = V.non := o2
        walk_at "run"
        exact tail _ _ (.mk ⟨s2, .non, o1, rfl, o3, rfl, rfl⟩)
      | some s =>
        rw [e1] at o2 tail
        obtain ⟨p1, rfl, g1⟩ := o2
        walk_at "run"
        refine ⟨hg _ s2, ?_⟩
        walk_at "run"
        refine ⟨hg _ s2, rfl, p1, s, rfl, g1, fun r4 H3 s3 o4 => ?_⟩
        exact tail _ _ (.mk ⟨s2.trans s3, r4, o1.keep (same_tk s3), ⟨p1, rfl, same_tk s3 _ _ g1⟩, o3.keep (same_tk s3), o4, rfl⟩)
    case tail3 =>
    intro σ3 H3 hc3
    obtain ⟨s3, r4, o1, o2, o3, o4, rfl⟩ := hc3.get
    have lost : (rowN a ≠ none ∧ (rowN a).bind α = none) ∨ (colN a ≠ none ∧ (colN a).bind β = none) → wsA α β a = LOSTt := fun h => by
      unfold wsA
      rw [nodA_none h ok]
    have made : (rowN a = none ∨ (rowN a).bind α ≠ none) → (colN a = none ∨ (colN a).bind β ≠ none) → ∃ b, nodA a.k a.sh ((rowN a).bind α) ((colN a).bind β) = some b ∧ wsA α β a = .area b := fun h1 h2 => by
      obtain ⟨b, hb⟩ := nodA_some h1 h2 ok
      refine ⟨b, hb, ?_⟩
      unfold wsA
      rw [hb]
    have nz : rowN a ≠ none ∨ colN a ≠ none := by
      rcases ok.cases with ⟨sh, r, c, x, y, rfl⟩ | ⟨sh, t, l, b, r, x, y, z, u, rfl⟩ | ⟨sh, t, b, x, y, rfl⟩ | ⟨sh, l, r, x, y, rfl⟩
      · exact .inl nofun
      · exact .inl nofun
      · exact .inl nofun
      · exact .inr nofun
    have kd : a.k = "cell" ∨ a.k = "range" ∨ a.k = "rows" ∨ a.k = "columns" := by
      rcases ok.cases with ⟨sh, r, c, x, y, rfl⟩ | ⟨sh, t, l, b, r, x, y, z, u, rfl⟩ | ⟨sh, t, b, x, y, rfl⟩ | ⟨sh, l, r, x, y, rfl⟩
      · exact .inl rfl
      · exact .inr (.inl rfl)
      · exact .inr (.inr (.inl rfl))
      · exact .inr (.inr (.inr rfl))
    have kR := kα.bind ok.2.1
    have kC := kβ.bind ok.2.2
    generalize (rowN a).bind α = oα at o3 lost made kR
    generalize (colN a).bind β = oβ at o4 lost made kC
    generalize rowN a = oR at o1 lost made nz
    generalize colN a = oC at o2 lost made nz
    have hv3 := same_tk s3 _ _ hv
    have hv3 : SqT K H3 p0 (.str a.k :: shV a.sh :: (a.ns.map V.int ++ a.ms.map V.bl)) := hv3
    have o3c := o3
    have o4c := o4
    have fin : ∀ b, nodA a.k a.sh oα oβ = some b → wsA α β a = .area b → spnode_of K [.str a.k, shV a.sh, r3, r4] H3 Q E0 := fun b hb e => ⟨a.k, a.sh, r3, r4, oα, oβ, b, rfl, o3c, o4c, hb, kd, fun p H' s4 hp => by
      refine q _ _ (s3.trans s4) ?_
      rw [e]
      exact tv_area 0 b (nodA_ok hb kR kC) hp⟩
    cases oR with
    | none =>
      obtain rfl : r1 = V.non := o1
      cases oC with
      | none => exact absurd rfl (nz.elim id fun h => absurd rfl h)
      | some u =>
        obtain ⟨p2, rfl, g2⟩ := o2
        cases oβ with
        | none =>
          obtain rfl : r4 = V.non := o4
          walk_at "run"
          refine q _ _ s3 ?_
          rw [lost (.inr ⟨nofun, rfl⟩)]
          exact lostTV (T.q_LOST _)
        | some u' =>
          obtain ⟨p4, rfl, g4⟩ := o4
          obtain ⟨b, hb, eb⟩ := made (.inl rfl) (.inr nofun)
          walk_at "run"
          exact fin b hb eb
    | some s =>
      obtain ⟨p1, rfl, g1⟩ := o1
      cases oα with
      | none =>
        obtain rfl : r3 = V.non := o3
        walk_at "run"
        refine q _ _ s3 ?_
        rw [lost (.inl ⟨nofun, rfl⟩)]
        exact lostTV (T.q_LOST _)
      | some s' =>
        obtain ⟨p3, rfl, g3⟩ := o3
        cases oC with
        | none =>
          obtain rfl : r2 = V.non := o2
          obtain ⟨b, hb, eb⟩ := made (.inr nofun) (.inl rfl)
          walk_at "run"
          exact fin b hb eb
        | some u =>
          obtain ⟨p2, rfl, g2⟩ := o2
          cases oβ with
          | none =>
            obtain rfl : r4 = V.non := o4
            walk_at "run"
            refine q _ _ s3 ?_
            rw [lost (.inr ⟨nofun, rfl⟩)]
            exact lostTV (T.q_LOST _)
          | some u' =>
            obtain ⟨p4, rfl, g4⟩ := o4
            obtain ⟨b, hb, eb⟩ := made (.inr nofun) (.inr nofun)
            walk_at "run"
            exact fin b hb eb

theorem okshifted_span (T : Txt K mg) : FnOk P w K mg base CX0 2 T.ashifted_span T.dshifted_span Pshifted_span (spshifted_span K) := by
  refine T.Fshifted_span.ok scshifted_span (fun vs H Q E h => ?_) (fun cdv A outer s H vs Q E hr h => ?_)
  · obtain ⟨p, s, many, size, rfl, _⟩ := h
    rfl
  · obtain ⟨p, s, many, size, rfl, hp, q⟩ := h
    refine ⟨_, (pss_cons (ps_asg (pv 0) (pg_tup (n := 4) (by rfl) (pgs_cons (pg_name (i := 3) scshifted_span.nd rfl (by first | exact Or.inl rfl | exact Or.inr rfl)) (pgs_cons (pg_name (i := 4) scshifted_span.nd rfl (by first | exact Or.inl rfl | exact Or.inr rfl)) (pgs_cons (pg_name (i := 5) scshifted_span.nd rfl (by first | exact Or.inl rfl | exact Or.inr rfl)) (pgs_cons (pg_name (i := 6) scshifted_span.nd rfl (by first | exact Or.inl rfl | exact Or.inr rfl)) pgs_nil))))))
    (pss_cons (ps_set (i := 7) scshifted_span.nd rfl (by first | exact Or.inl rfl | exact Or.inr rfl) (pe_ifExp (pt_val (pv 5)) (pv 3) (pe_op op_add (pv 3) (pv 1))))
    (pss_cons (ps_set (i := 8) scshifted_span.nd rfl (by first | exact Or.inl rfl | exact Or.inr rfl) (pe_ifExp (pt_val (pv 6)) (pv 4) (pe_op op_add (pv 4) (pv 1))))
    (pss_cons (ps_if (PW.pt (pw_or (pt_cmpR op_lt (pe_callB (call_min2 rfl) (by rfl) T.z_min (by decide +kernel) (pa_cons (pv 7) (pa_cons (pv 8) pa_nil))) pe_int (by first | exact nomark _ | rfl)) (pw_or1 (pt_cmpR op_ge (pe_callB (call_max2 rfl) (by rfl) T.z_max (by decide +kernel) (pa_cons (pv 7) (pa_cons (pv 8) pa_nil))) (pv 2) (by first | exact nomark _ | rfl)))))
      (pss_one (ps_ret pe_non))
      pss_nil)
    (pss_one (ps_ret (pe_call (okordered T) (hr.mono (by decide)) (by rfl) T.gordered T.Fordered.kp (T.bordered) .nil pass0 (pa_cons (pe_tup (pa_cons (pv 7) (pa_cons (pv 8) (pa_cons (pv 5) (pa_cons (pv 6) pa_nil))))) pa_nil)))))))), ?_⟩
    have hp : SqT K H p [.int s.lo, .int s.hi, .bl s.fl, .bl s.fh] := hp
    refine seq_merge2 (C := (fun σ' H' => H' = H ∧ σ' = [some (.ref p), some (.int many), some (.int size), some (.int s.lo), some (.int s.hi), some (.bl s.fl), some (.bl s.fh), some (.int (if s.fl then s.lo else s.lo + many)), none])) ?tail ?rest
    case rest =>
      intro R tail
      have tail2 : ∀ x : Int, x = (if s.fl then s.lo else s.lo + many) → R [some (.ref p), some (.int many), some (.int size), some (.int s.lo), some (.int s.hi), some (.bl s.fl), some (.bl s.fh), some (.int x), none] H := fun x e => tail _ _ ⟨rfl, by rw [e]⟩
      walk_at "run"
      · exact tail2 _ (by rw [if_pos (by assumption)])
      · exact tail2 _ (by rw [if_neg (by assumption)])
    case tail =>
    rintro σ1 H1 ⟨rfl, rfl⟩
    refine seq_merge (C := (fun σ' H' => H' = H1 ∧ σ' = [some (.ref p), some (.int many), some (.int size), some (.int s.lo), some (.int s.hi), some (.bl s.fl), some (.bl s.fh), some (.int (if s.fl then s.lo else s.lo + many)), some (.int (if s.fh then s.hi else s.hi + many))])) ?tail2 ?rest2
    case rest2 =>
      intro R tail
      have tail2 : ∀ x : Int, x = (if s.fh then s.hi else s.hi + many) → R [some (.ref p), some (.int many), some (.int size), some (.int s.lo), some (.int s.hi), some (.bl s.fl), some (.bl s.fh), some (.int (if s.fl then s.lo else s.lo + many)), some (.int x)] H1 := fun x e => tail _ _ ⟨rfl, by rw [e]⟩
      walk_at "run"
      · exact tail2 _ (by rw [if_pos (by assumption)])
      · exact tail2 _ (by rw [if_neg (by assumption)])
    case tail2 =>
    rintro σ2 H2 ⟨rfl, rfl⟩
    unfold shfS at q
    generalize (if s.fl then s.lo else s.lo + many) = x at q ⊢
    generalize (if s.fh then s.hi else s.hi + many) = y at q ⊢
    by_cases hn : min x y < 0 ∨ size ≤ max x y
    · rw [if_pos hn] at q
      refine seq_merge (C := (fun _ _ => False)) (fun _ _ h => h.elim) ?_
      intro R tail
      walk_at "run"
      all_goals first
        | exact q _ _ (Same.refl _) rfl
        | (exfalso; omega)
    · rw [if_neg hn] at q
      refine seq_merge (C := (fun σ' H' => H' = H2 ∧ σ' = [some (.ref p), some (.int many), some (.int size), some (.int s.lo), some (.int s.hi), some (.bl s.fl), some (.bl s.fh), some (.int x), some (.int y)])) ?tail3 ?rest3
      case rest3 =>
        intro R tail
        walk_at "run"
        all_goals first
          | exact tail _ _ ⟨rfl, rfl⟩
          | (exfalso; omega)
      case tail3 =>
      rintro σ3 H3 ⟨rfl, rfl⟩
      walk_at "run"
      rename_i p5 hp5
      exact ⟨p5, ⟨x, y, s.fl, s.fh⟩, rfl, SqT.of upd_same, fun r H4 s4 h4 => q _ _ ((same_upd hp5).trans s4) ⟨r, rfl, h4⟩⟩

theorem okLam1 (T : Txt K mg) : CloOk P w K mg base 6 mkL1 lamB1 ["span"] ["down"] (spLam K 20) := by
  refine clo_of (scope := lamS1) (fun _ _ => rfl) (fun _ _ => rfl) (fun _ _ => rfl) lamScp1 (fun cl c' pm ctv us hl => match us, hl with | [_], _ => rfl) (fun A outer s H vs ws f c' cl Q E hr out hw hv h => ?_)
  obtain ⟨many, p, s, rfl, rfl, hp, q⟩ := h
  refine ⟨_, pe_call (E := E0) (okshifted_span T) (hr.mono (by decide)) (by rfl) T.gshifted_span T.Fshifted_span.kp (T.bshifted_span) .nil pass0 (pa_cons (pv 0) (pa_cons (pv 1) (pa_cons (pe_glob (v := .int 20) (by rfl) T.m_ROWS ⟨_, rfl⟩) pa_nil))), ?_⟩
  walk_at "run"
  exact ⟨p, s, many, 20, rfl, hp, q⟩
theorem okLam2 (T : Txt K mg) : CloOk P w K mg base 6 mkL2 lamB2 ["line"] ["right"] (spLam K 10) := by
  refine clo_of (scope := lamS2) (fun _ _ => rfl) (fun _ _ => rfl) (fun _ _ => rfl) lamScp2 (fun cl c' pm ctv us hl => match us, hl with | [_], _ => rfl) (fun A outer s H vs ws f c' cl Q E hr out hw hv h => ?_)
  obtain ⟨many, p, s, rfl, rfl, hp, q⟩ := h
  refine ⟨_, pe_call (E := E0) (okshifted_span T) (hr.mono (by decide)) (by rfl) T.gshifted_span T.Fshifted_span.kp (T.bshifted_span) .nil pass0 (pa_cons (pv 0) (pa_cons (pv 1) (pa_cons (pe_glob (v := .int 10) (by rfl) T.m_COLUMNS ⟨_, rfl⟩) pa_nil))), ?_⟩
  walk_at "run"
  exact ⟨p, s, many, 10, rfl, hp, q⟩
theorem okDeed_shifted (T : Txt K mg) [hB : TabsB mg base T.cS T.pS] : DefOk P w K mg base 10 mkD_shifted qD_shifted ["node"] ["down", "right"] (spD_shifted K) := by
  refine def_of (scope := dS_shifted) (body := dB_shifted) (fun _ _ => rfl) (fun _ _ => rfl) (fun _ _ => rfl) (fun _ _ => rfl) (fun _ _ => rfl) dScp_shifted (fun cl c' doc pm ctv us hl => match us, hl with | [_], _ => rfl) (fun A outer s H vs ws f c' Pi cl Q E hr out hc hw hv h => ?_)
  obtain ⟨down, right, v, a, n, rfl, rfl, tv, tn, q⟩ := h
  refine ⟨_, pss_one (ps_ret (pe_callC (E := E0) (cl := cl) (fr := ["down", "right"]) (js := [1, 2]) (okwith_spans T) (hr.mono (by decide)) (by rfl) T.gwith_spans T.Fwith_spans.kp (T.bwith_spans) (fun ok => NdefX.Caps.self (F := mkD_shifted cl c') dScp_shifted rfl rfl rfl) (fun ok => out) (pa_cons (pv 0) (pa_cons (pe_lamT (nm := nmK) (q := qD_shifted) (Pi := Pi) hB.e rfl rfl rfl lamFree1) (pa_cons (pe_lamT (nm := nmK) (q := qD_shifted) (Pi := Pi) hB.e rfl rfl rfl lamFree2) pa_nil))))), ?_⟩
  walk_at "run"
  intro f1 c1 H1 b1 t1 n1 g1 g2
  have hc1 := b1.ne tn hc codeT_ne
  walk_at "run"
  intro f2 c2 H2 b2 t2 n2 g3 g4
  walk_at "run"
  intro H3 n3 o3 t3
  have s23 := same_told n3 o3
  have k1 := ButT.tk (K := K) b1 tn
  have k2 := ButT.tk (K := K) b2 t1
  have g1' := b2.ne t1 g1 (fun ps z => by unfold LamO at z; cases z)
  have g2' := b2.ne t1 g2 LamX.codeO_ne
  have tA : Told (cloFrom cl lamS1.names []) ["down"] [some (.int down)] H3 := told_lam (j := 0) t3 rfl rfl lamOnly1 lamDeed1
  have tB : Told (cloFrom cl lamS2.names []) ["right"] [some (.int right)] H3 := told_lam (j := 1) t3 rfl rfl lamOnly2 lamDeed2
  refine ⟨v, a, n, f1, f2, shfS down 20, shfS right 10, rfl, tv.keep ((k1.trans k2).trans (same_tk s23)), fun H4 s4 => (cal_lam (okLam1 T) (s4 _ _ (s23 _ _ g1')) (s4 _ _ (s23 _ _ g2')) (tA.same s4)).imp fun vs Q E h => ?_, fun H4 s4 => (cal_lam (okLam2 T) (s4 _ _ (s23 _ _ g3)) (s4 _ _ (s23 _ _ g4)) (tB.same s4)).imp fun vs Q E h => ?_, shf_kp _ _, shf_kp _ _, fun r H4 s4 r4 => ⟨fun b hi => ?_, ?_⟩⟩
  · skip
    obtain ⟨p, s, e, hp, q⟩ := h
    exact ⟨down, p, s, rfl, e, unt_tk (tA.same s4) _ _ hp, fun r H5 s5 o5 hn => q r _ (ret_same s5) (o5.keep (ret_tk hn))⟩
  · skip
    obtain ⟨p, s, e, hp, q⟩ := h
    exact ⟨right, p, s, rfl, e, unt_tk (tB.same s4) _ _ hp, fun r H5 s5 o5 hn => q r _ (ret_same s5) (o5.keep (ret_tk hn))⟩
  · skip
    obtain ⟨y', hy⟩ := hi
    obtain ⟨o, v, h1, _⟩ := t3.all y' b hy
    rw [h1]
    exact s4 _ _ h1
  · have s5 := unt_same n3 o3 s4
    exact q r _ ((b1.trans b2).trans (ButT.of s5)) (t2.ext s5) (r4.keep (unt_tk (t3.same s4)))
theorem deed_shifted (T : Txt K mg) [hB : TabsB mg base T.cS T.pS] {f c' Pi : Addr} {cl : List (Str × Addr)} {down right : Int} {H2 : Hp} (f1 : H2 f = some (NdefX.FnO f (mkD_shifted cl c'))) (c1 : H2 c' = some (CodeT c' qD_shifted Pi)) (t2 : Told cl ["down", "right"] [some (.int down), some (.int right)] H2) (tn : NdefX.TabN H2 Pi nmK) : Deed P w K mg base f Pi (wsA (shfS down 20) (shfS right 10)) H2 := by
  refine ⟨tn, fun H3 b3 w3 => ?_, fun a ok => wsA_fit _ _ _ (shf_kp _ _) (shf_kp _ _) ok⟩
  have t3 := t2.keep (told_but t2 b3 tn)
  refine ((cal_def (okDeed_shifted T) (b3.ne tn f1 (fun ps z => by unfold NdefX.FnO at z; cases z)) (b3.ne tn c1 codeT_ne) t3).mono (by decide)).imp fun vs Q E h => ?_
  obtain ⟨v, a, n, e, tv, tt, q⟩ := h
  exact ⟨down, right, v, a, n, rfl, e, tv.keep (unt_tk t3), tabN_unt t3 tt, fun r H4 b4 t4 r4 hn => q r _ (but_ret t3 b4 hn) (tabN_ret hn t4) (r4.keep (ret_tk hn))⟩
theorem okshifted (T : Txt K mg) [hB : TabsB mg base T.cS T.pS] : FnOk P w K mg base CX0 52 T.ashifted T.dshifted Pshifted (spshifted K T.SP) := by
  refine Fun.okC T.Fshifted scshifted (fun vs H Q E h => ?_) (fun cdv A outer s H vs Q E hcd hr h => ?_)
  · obtain ⟨v, down, right, t, rfl, _⟩ := h
    rfl
  · obtain ⟨v, down, right, t, rfl, tv, hT, q⟩ := h
    refine ⟨_, (pss_cons (ps_ndefT (SP := T.SP) (nm := nmK) (i := 3) hB.e (hcd.symm.trans T.hcS) (List.mem_cons_self ..) rfl dFree_shifted rfl rfl rfl scshifted.nd rfl (by first | exact Or.inl rfl | exact Or.inr rfl) (by first | exact Or.inl rfl | exact Or.inr rfl))
    (pss_one (ps_ret (pe_callC (E := E0) (okrebuilt T) (hr.mono (by decide)) (by rfl) T.grebuilt T.Frebuilt.kp (T.brebuilt) (fun ok => NdefX.Caps.made (js := [1, 2]) ok dFree_shifted dDeed_shifted rfl) (fun ok => away_own ok dFree_shifted (fun y => rfl)) (pa_cons (pv 0) (pa_cons (pv 3) pa_nil)))))), ?_⟩
    walk_at "run"
    intro f c' Pi H1 e1 T1 f0 f1 c1 tn ns
    walk_at "run"
    first | intro H2 n2 o2 t2 | (rename_i H2 n2 o2; intro t2)
    have s12 := same_told n2 o2
    have tk01 := ext_tk (K := K) e1
    have tn2 := tn.ext s12
    refine ⟨v, f, Pi, _, t, rfl, tv.keep (tk01.trans (same_tk s12)), deed_shifted (base := base) T (s12 _ _ f1) (s12 _ _ c1) t2 tn2, fun r H3 b3 w3 r3 => ⟨told_but t2 b3 tn2, ?_⟩⟩
    have t3 := t2.keep (told_but t2 b3 tn2)
    exact q r _ (e1.trans (ext_unt n2 o2 b3 tn2)) (tt_unt t3 ((T1.same s12).but b3 tn2 ns)) (r3.keep (unt_tk t3))

theorem ok_law_mixed (T : Txt K mg) : FnOk P w K mg base CX0 1 T.a_law_mixed T.d_law_mixed P_law_mixed (sp_law_mixed K) := by
  refine T.F_law_mixed.ok sc_law_mixed (fun vs H Q E h => ?_) (fun cdv A outer s H vs Q E hr h => ?_)
  · obtain ⟨c, t, rfl, _⟩ := h
    rfl
  · obtain ⟨c, t, rfl, q⟩ := h
    refine ⟨_, (pss_cons (ps_set (i := 2) sc_law_mixed.nd rfl (by first | exact Or.inl rfl | exact Or.inr rfl) (pe_op op_mod (pe_callTy call_int1 (by rfl) T.z_int (by decide +kernel) (pa_cons (pe_op op_add (pe_op op_add (pe_op op_mul (pv 0) pe_int) (pe_op op_mul (pv 1) pe_int)) pe_int) pa_nil)) pe_int))
    (pss_cons (ps_set (i := 3) sc_law_mixed.nd rfl (by first | exact Or.inl rfl | exact Or.inr rfl) (pe_op op_mod (pe_callTy call_int1 (by rfl) T.z_int (by decide +kernel) (pa_cons (pe_op op_add (pe_op op_add (pe_op op_mul (pv 2) (pv 2)) (pe_op op_mul (pv 1) pe_int)) (pe_op op_fdiv (pv 2) pe_int)) pa_nil)) pe_int))
    (pss_one (ps_ret (pe_op op_mod (pe_callTy call_int1 (by rfl) T.z_int (by decide +kernel) (pa_cons (pe_op op_add (pe_op op_add (pe_op op_mul (pv 3) pe_int) (pe_op op_fdiv (pv 3) pe_int)) (pv 1)) pa_nil)) pe_int))))), ?_⟩
    walk_at "run"
    exact q _ (Int.emod_nonneg _ (by decide))

theorem ok_law_draw (T : Txt K mg) : FnOk P w K mg base CX0 2 T.a_law_draw T.d_law_draw P_law_draw (sp_law_draw K) := by
  refine T.F_law_draw.ok sc_law_draw (fun vs H Q E h => ?_) (fun cdv A outer s H vs Q E hr h => ?_)
  · obtain ⟨b, c, ns, l, rfl, _⟩ := h
    rfl
  · obtain ⟨b, c, ns, l, rfl, hb, hl, q⟩ := h
    refine ⟨_, (pss_cons (ps_asg (pe_op op_add (pe_ix ix_list (pv 0) pe_int (fun _ _ => rfl)) pe_int) (pg_sub (pv 0) pe_int set_list))
    (pss_cons (ps_set (i := 2) sc_law_draw.nd rfl (by first | exact Or.inl rfl | exact Or.inr rfl) (pe_ix ix_list (pv 0) pe_int (fun _ _ => rfl)))
    (pss_cons (ps_if (pt_cmpR op_eq (pe_callB call_len_seq (by rfl) T.z_len (by decide +kernel) (pa_cons (pv 2) pa_nil)) pe_int (by first | exact nomark _ | rfl))
      (pss_one (ps_ret (pe_op op_mod (pe_callTy call_int1 (by rfl) T.z_int (by decide +kernel) (pa_cons (pe_call (ok_law_mixed T) (hr.mono (by decide)) (by rfl) T.g_law_mixed T.F_law_mixed.kp (T.b_law_mixed) .nil pass0 (pa_cons pe_int (pa_cons (pe_ix ix_list (pv 0) pe_int (fun _ _ => rfl)) pa_nil))) pa_nil)) (pv 1))))
      pss_nil)
    (pss_cons (ps_if (PW.pt (pw_and (pt_cmpR op_eq (pe_ix ix_list (pv 0) pe_int (fun _ _ => rfl)) pe_int (by first | exact nomark _ | rfl)) (pw_and (pt_cmpR op_eq (pe_ix ix_list (pv 0) pe_int (fun _ _ => rfl)) pe_int (by first | exact nomark _ | rfl)) (pw_and1 (pt_cmpR op_lt (pe_ix ix_list (pv 0) pe_int (fun _ _ => rfl)) (pe_callB call_len_seq (by rfl) T.z_len (by decide +kernel) (pa_cons (pv 2) pa_nil)) (by first | exact nomark _ | rfl))))))
      (pss_cons (ps_set (i := 3) sc_law_draw.nd rfl (by first | exact Or.inl rfl | exact Or.inr rfl) (pe_ix ix_list (pv 2) (pe_ix ix_list (pv 0) pe_int (fun _ _ => rfl)) (fun _ _ => rfl)))
    (pss_cons (ps_asg (pe_op op_add (pe_ix ix_list (pv 0) pe_int (fun _ _ => rfl)) pe_int) (pg_sub (pv 0) pe_int set_list))
    (pss_cons (ps_if (pt_cmpR op_lt (pv 3) (pe_powc (c := 1000000000000000000) (by decide) (by decide +kernel)) (by first | exact nomark _ | rfl))
      (pss_one (ps_ret (pe_op op_mod (pe_callTy call_int1 (by rfl) T.z_int (by decide +kernel) (pa_cons (pe_call (ok_law_mixed T) (hr.mono (by decide)) (by rfl) T.g_law_mixed T.F_law_mixed.kp (T.b_law_mixed) .nil pass0 (pa_cons (pv 3) (pa_cons (pe_ix ix_list (pv 0) pe_int (fun _ _ => rfl)) pa_nil))) pa_nil)) (pv 1))))
      pss_nil)
    (pss_cons (ps_asg (pv 3) (pg_sub (pv 0) pe_int set_list))
    (pss_one (ps_asg pe_int (pg_sub (pv 0) pe_int set_list)))))))
      pss_nil)
    (pss_cons (ps_if (PW.pt (pw_or (pt_cmpR op_eq (pe_ix ix_list (pv 0) pe_int (fun _ _ => rfl)) pe_int (by first | exact nomark _ | rfl)) (pw_or1 (pt_cmpR op_eq (pe_ix ix_list (pv 0) pe_int (fun _ _ => rfl)) pe_int (by first | exact nomark _ | rfl)))))
      (pss_one (ps_ret (pe_op op_mod (pe_callTy call_int1 (by rfl) T.z_int (by decide +kernel) (pa_cons (pe_call (ok_law_mixed T) (hr.mono (by decide)) (by rfl) T.g_law_mixed T.F_law_mixed.kp (T.b_law_mixed) .nil pass0 (pa_cons (pe_ix ix_list (pe_ix ix_list (pv 0) pe_int (fun _ _ => rfl)) (pe_op op_mod (pe_callTy call_int1 (by rfl) T.z_int (by decide +kernel) (pa_cons (pe_ix ix_list (pv 0) pe_int (fun _ _ => rfl)) pa_nil)) (pe_callB call_len_seq (by rfl) T.z_len (by decide +kernel) (pa_cons (pv 2) pa_nil))) (fun _ _ => rfl)) (pa_cons (pe_ix ix_list (pv 0) pe_int (fun _ _ => rfl)) pa_nil))) pa_nil)) (pv 1))))
      pss_nil)
    (pss_cons (ps_set (i := 4) sc_law_draw.nd rfl (by first | exact Or.inl rfl | exact Or.inr rfl) (pe_op op_mod (pe_callTy call_int1 (by rfl) T.z_int (by decide +kernel) (pa_cons (pe_ix ix_list (pv 0) pe_int (fun _ _ => rfl)) pa_nil)) (pv 1)))
    (pss_cons (ps_asg (pe_op op_sub (pe_ix ix_list (pv 0) pe_int (fun _ _ => rfl)) pe_int) (pg_sub (pv 0) pe_int set_list))
    (pss_cons (ps_asg (pe_op op_mul (pe_op op_fdivB (pe_callTy call_int1 (by rfl) T.z_int (by decide +kernel) (pa_cons (pe_ix ix_list (pv 0) pe_int (fun _ _ => rfl)) pa_nil)) (pv 1)) (pe_callTy call_int1 (by rfl) T.z_int (by decide +kernel) (pa_cons (pe_cmpR op_gt (pe_ix ix_list (pv 0) pe_int (fun _ _ => rfl)) pe_int (by first | exact nomark _ | rfl)) pa_nil))) (pg_sub (pv 0) pe_int set_list))
    (pss_one (ps_ret (pv 4))))))))))), ?_⟩
    obtain ⟨⟨i1, i2, i3, i4, i5, e, g1, g2⟩, hc, hm, hn, hmn⟩ := hb
    have bx : BoxS K b c ns H := ⟨⟨i1, i2, i3, i4, i5, e, g1, g2⟩, hc, hm, hn, hmn⟩
    unfold StS at e
    have hlen : (ns.1.map V.int).length = ns.1.length := List.length_map ..
    refine seq_merge2 (C := (fun σ' H' => Hd (∃ j3 : Int, Bs K b c ns H H' ∧ H' b = some (.lst (StS c i1 i2 j3 i4 i5)) ∧ σ' = [some (.ref b), some (.int l), some (.ref c.1), none, none]))) ?tail ?rest
    case rest =>
      intro R tail
      walk_at "run"
      exact tail _ _ (.mk ⟨_, Bs.put (fun _ _ _ h => h) (BoxS.put e bx g1 g2), upd_same, rfl⟩)
    case tail =>
      intro σ H1 hc1
      obtain ⟨j3, B1, e1, rfl⟩ := hc1.get
      have hc2 : SqL K H1 c.1 (ns.1.map V.int) := B1.2.2.1
      have hm2 : SqL K H1 c.2 (ns.2.map V.int) := B1.2.2.2.1
      unfold StS at e1
      refine seq_merge2 (C := (fun σ' H' => Hd (∃ (j1 j2 j3 j5 : Int) (u3 : Option V), Bs K b c ns H H' ∧ H' b = some (.lst [.ref c.1, .int j1, .int j2, .int j3, .int i4, .int j5, .ref c.2]) ∧ 0 ≤ j1 ∧ 0 ≤ j2 ∧ ¬ ((ns.1.map V.int).length : Int) = 0 ∧ σ' = [some (.ref b), some (.int l), some (.ref c.1), u3, none]))) ?tail2 ?rest2
      case rest2 =>
        intro R tail
        walk_at "run"
        · intro n n0
          walk_at "run"
          exact q _ _ B1 (Int.emod_nonneg _ (by omega)) (Int.emod_lt_of_pos _ hl.1)
        · rename_i l0 e4 e2 e1'
          refine atI_go hc2 g1 e1' fun v hv => ?_
          obtain ⟨m, _, rfl⟩ := List.mem_map.mp hv
          clear hv
          walk_at "run"
          · intro n n0
            walk_at "run"
            exact q _ _ (Bs.put B1.1 (BoxS.put (j1 := i1 + 1) (j2 := i2) e1 B1.2 (by omega) g2)) (Int.emod_nonneg _ (by omega)) (Int.emod_lt_of_pos _ hl.1)
          · exact tail _ _ (.mk ⟨i1 + 1, m, j3, 60, _, Bs.put B1.1 (BoxS.put (j1 := i1 + 1) (j2 := m) e1 B1.2 (by omega) (by omega)), upd_same, by omega, by omega, l0, rfl⟩)
        all_goals first
          | (exact tail _ _ (.mk ⟨i1, i2, j3, i5, _, B1, e1, g1, g2, by assumption, rfl⟩))
          | trace_state
      case tail2 =>
        intro σ H2 hc3
        obtain ⟨j1, j2, j3, j5, u3, B2, e2, k1, k2, l0, rfl⟩ := hc3.get
        have hc4 : SqL K H2 c.1 (ns.1.map V.int) := B2.2.2.1
        have hm4 : SqL K H2 c.2 (ns.2.map V.int) := B2.2.2.2.1
        walk_at "run"
        · rename_i hx
          refine atI_go hm4 (Int.emod_nonneg _ l0) (by rw [show (ns.2.map V.int).length = (ns.1.map V.int).length by rw [List.length_map, List.length_map, hmn]]; exact Int.emod_lt_of_pos _ (by omega)) fun v hv => ?_
          obtain ⟨m, _, rfl⟩ := List.mem_map.mp hv
          clear hv
          walk_at "run"
          intro n n0
          walk_at "run"
          exact q _ _ B2 (Int.emod_nonneg _ (by omega)) (Int.emod_lt_of_pos _ hl.1)
        · rename_i hx hy
          refine atI_go hm4 (Int.emod_nonneg _ l0) (by rw [show (ns.2.map V.int).length = (ns.1.map V.int).length by rw [List.length_map, List.length_map, hmn]]; exact Int.emod_lt_of_pos _ (by omega)) fun v hv => ?_
          obtain ⟨m, _, rfl⟩ := List.mem_map.mp hv
          clear hv
          walk_at "run"
          intro n n0
          walk_at "run"
          exact q _ _ B2 (Int.emod_nonneg _ (by omega)) (Int.emod_lt_of_pos _ hl.1)
        · exact q _ _ (Bs.put B2.1 (BoxS.put (j1 := j1) e2 B2.2 k1 (dn k2 hl.1))) (Int.emod_nonneg _ (by omega)) (Int.emod_lt_of_pos _ hl.1)

theorem ok_law_start (T : Txt K mg) : FnOk P w K mg base CX0 3 T.a_law_start T.d_law_start P_law_start (sp_law_start K) := by
  refine T.F_law_start.ok sc_law_start (fun vs H Q E h => ?_) (fun cdv A outer s H vs Q E hr h => ?_)
  · obtain ⟨a, ns, rfl, _⟩ := h
    rfl
  · obtain ⟨a, ns, rfl, hS, hl, q⟩ := h
    refine ⟨_, (pss_cons (ps_set (i := 1) sc_law_start.nd rfl (by first | exact Or.inl rfl | exact Or.inr rfl) (pe_lst (pa_cons (pe_callTy call_list_of (by rfl) T.z_list (by decide +kernel) (pa_cons (pv 0) pa_nil)) (pa_cons pe_int (pa_cons pe_int (pa_cons pe_int (pa_cons pe_int (pa_cons pe_int (pa_cons (pe_lc (own := [("cell", 2)]) (g := gName 2) (tt := tYes) rfl sc_law_start.nd (pi_list (pv 0)) (blkOk_by (N := N_law_start) (sc := defScope s_law_start) (by decide +kernel)) (fun _ _ _ _ _ => pg_name (i := 2) sc_law_start.nd rfl (Or.inl rfl)) (fun _ _ _ _ _ => pts_nil) (fun _ _ _ _ _ => (pe_op op_mod (pe_callTy call_int1 (by rfl) T.z_int (by decide +kernel) (pa_cons (pv 2) pa_nil)) pe_int))) pa_nil)))))))))
    (pss_cons (ps_if (PW.pt (pw_or (pt_cmpR op_eq (pe_callB call_len_seq (by rfl) T.z_len (by decide +kernel) (pa_cons (pv 0) pa_nil)) pe_int (by first | exact nomark _ | rfl)) (pw_or1 (pt_cmpR op_eq (pe_op op_mod (pe_callTy call_int1 (by rfl) T.z_int (by decide +kernel) (pa_cons (pe_ix ix_list (pv 0) pe_int (fun _ _ => rfl)) pa_nil)) pe_int) pe_int (by first | exact nomark _ | rfl)))))
      (pss_one (ps_asg pe_int (pg_sub (pv 1) pe_int set_list)))
      pss_nil)
    (pss_cons (ps_expr (pe_call (ok_law_draw T) (hr.mono (by decide)) (by rfl) T.g_law_draw T.F_law_draw.kp (T.b_law_draw) .nil pass0 (pa_cons (pv 1) (pa_cons pe_int pa_nil))))
    (pss_one (ps_ret (pv 1)))))), ?_⟩
    walk_at "run"
    intro l hl1
    walk_at "run"
    refine And.intro ⟨_, Same.seq (same_upd hl1) hS⟩ (fun D hD => ?_)
    refine lc_it (walk_list (xs := ns.map V.int)) (fun i H' => Hd (Same (upd H l (.lst (ns.map V.int))) H' ∧ ∃ ms : List Int, H' D = some (.lst (ms.map V.int)) ∧ ms.length = i)) (.mk ⟨same_upd hD, [], upd_same, rfl⟩) (fun i H' hi hp => Same.seq ((same_upd hl1).trans hp.get.1) hS) (fun i z Ha Hb hi hp hy => ?_) (fun H' hp => ?_)
    · obtain ⟨s2, ms, hz, lm⟩ := hp.get
      obtain ⟨rfl, ez⟩ := hy
      rw [List.length_map] at hi
      rw [List.getElem?_map] at ez
      obtain ⟨m, em, rfl⟩ := Option.map_eq_some_iff.mp ez
      walk_at "run"
      refine ⟨_, hz, small1000 (by rw [List.length_map]; omega), .mk ⟨same_put s2 hD, ms ++ [m % 2147483647], ?_, ?_⟩⟩
      · rw [upd_same, List.map_append]
        rfl
      · rw [List.length_append, lm]
        rfl
    obtain ⟨s2, ms, hz, lm⟩ := hp.get
    rw [List.length_map] at lm
    walk_at "run"
    rename_i b hb
    have s4 : ∀ j, Same H (upd H' b (.lst (StS (l, D) 0 0 0 j 0))) := fun j => ((same_upd hl1).trans s2).trans (same_upd hb)
    have bx : ∀ j, BoxS K b (l, D) (ns, ms) (upd H' b (.lst (StS (l, D) 0 0 0 j 0))) := fun j => ⟨⟨0, 0, 0, j, 0, upd_same, by decide, by decide⟩, SqL.of ((same_upd hb) _ _ (s2 _ _ upd_same)), SqL.of ((same_upd hb) _ _ hz), hl, lm⟩
    have hb0 : H b = none := same_none ((same_upd hl1).trans s2) hb
    have fin : ∀ j H3, Bs K b (l, D) (ns, ms) (upd H' b (.lst (StS (l, D) 0 0 0 j 0))) H3 → Q (.ref b) H3 := fun j H3 b3 => q _ _ _ _ (fun a o e => b3.1 _ _ (ne_of_none e hb0) ((s4 j) _ _ e)) b3.2
    have sS : SqL K (upd H' b (.lst (StS (l, D) 0 0 0 0 0))) a (ns.map V.int) := Same.seq (s4 0) hS
    unfold StS at sS bx fin
    walk_at "run"
    · refine ⟨b, (l, D), (ns, ms), 2, rfl, bx 1, by decide, fun n H3 b3 n0 n1 => ?_⟩
      walk_at "run"
      exact fin 1 _ b3
    · rename_i h0
      refine atI_go sS (by decide) (by omega) fun v hv => ?_
      obtain ⟨y, _, rfl⟩ := List.mem_map.mp hv
      clear hv
      walk_at "run"
      · refine ⟨b, (l, D), (ns, ms), 2, rfl, bx 1, by decide, fun n H3 b3 n0 n1 => ?_⟩
        walk_at "run"
        exact fin 1 _ b3
      · refine ⟨b, (l, D), (ns, ms), 2, rfl, bx 0, by decide, fun n H3 b3 n0 n1 => ?_⟩
        walk_at "run"
        exact fin 0 _ b3

theorem ok_law_near (T : Txt K mg) : FnOk P w K mg base CX0 3 T.a_law_near T.d_law_near P_law_near (sp_law_near K) := by
  refine T.F_law_near.ok sc_law_near (fun vs H Q E h => ?_) (fun cdv A outer s H vs Q E hr h => ?_)
  · obtain ⟨b, c, ns, e, z, m, rfl, _⟩ := h
    rfl
  · obtain ⟨b, c, ns, e, z, m, rfl, hb, he, hm, q⟩ := h
    refine ⟨_, (pss_cons (ps_set (i := 2) sc_law_near.nd rfl (by first | exact Or.inl rfl | exact Or.inr rfl) (pe_call (ok_law_draw T) (hr.mono (by decide)) (by rfl) T.g_law_draw T.F_law_draw.kp (T.b_law_draw) .nil pass0 (pa_cons (pv 0) (pa_cons (pe_op op_add (pe_ix ix_list (pv 1) pe_int (fun _ _ => rfl)) (pe_callB call_len_seq (by rfl) T.z_len (by decide +kernel) (pa_cons (pe_ix ix_list (pv 1) pe_int (fun _ _ => rfl)) pa_nil))) pa_nil))))
    (pss_cons (ps_if (pt_cmpR op_lt (pv 2) (pe_ix ix_list (pv 1) pe_int (fun _ _ => rfl)) (by first | exact nomark _ | rfl))
      (pss_one (ps_ret (pe_op op_add (pe_ix ix_list (pv 1) pe_int (fun _ _ => rfl)) (pv 2))))
      pss_nil)
    (pss_one (ps_ret (pe_callB (call_max2 rfl) (by rfl) T.z_max (by decide +kernel) (pa_cons (pe_callTy call_int1 (by rfl) T.z_int (by decide +kernel) (pa_cons (pe_ix ix_list (pv 1) pe_int (fun _ _ => rfl)) pa_nil)) (pa_cons (pe_callB (call_min2 rfl) (by rfl) T.z_min (by decide +kernel) (pa_cons (pe_callTy call_int1 (by rfl) T.z_int (by decide +kernel) (pa_cons (pe_op op_sub (pe_op op_add (pe_ix ix_list (pv 1) pe_int (fun _ _ => rfl)) (pe_ix ix_list (pv 1) pe_int (fun _ _ => rfl))) pe_int) pa_nil)) (pa_cons (pe_callTy call_int1 (by rfl) T.z_int (by decide +kernel) (pa_cons (pe_ix ix_list (pe_ix ix_list (pv 1) pe_int (fun _ _ => rfl)) (pe_op op_sub (pv 2) (pe_ix ix_list (pv 1) pe_int (fun _ _ => rfl))) (fun _ _ => rfl)) pa_nil)) pa_nil))) pa_nil))))))), ?_⟩
    obtain ⟨e2, xs, he1, he2, hx⟩ := id he
    walk_at "run"
    refine ⟨_, _, rfl, Or.inl (SqL.of he2), ?_⟩
    walk_at "run"
    refine ⟨b, c, ns, _, rfl, hb, (by rw [List.length_map]; omega), fun k H1 b1 k0 k1 => ?_⟩
    rw [List.length_map] at k1
    have g1 := b1.lst hb he1 (len_noI (by show 3 ≠ 7; decide))
    have g2 := b1.lst hb he2 (ints_noI xs)
    walk_at "run"
    · exact q _ _ b1 (by omega) (by omega)
    · refine atI_go (SqL.of g2) (by omega) (by rw [List.length_map]; omega) fun v hv => ?_
      obtain ⟨y, _, rfl⟩ := List.mem_map.mp hv
      clear hv
      walk_at "run"
      exact q _ _ b1 (by (repeat' split) <;> omega) (by (repeat' split) <;> omega)

theorem ok_law_words (T : Txt K mg) : FnOk P w K mg base CX0 1 T.a_law_words T.d_law_words P_law_words (sp_law_words K) := by
  refine T.F_law_words.ok sc_law_words (fun vs H Q E h => ?_) (fun cdv A outer s H vs Q E hr h => ?_)
  · obtain ⟨rfl, _⟩ := h
    rfl
  · obtain ⟨rfl, q⟩ := h
    refine ⟨_, (pss_cons (ps_set (i := 0) sc_law_words.nd rfl (by first | exact Or.inl rfl | exact Or.inr rfl) pe_str)
    (pss_cons (ps_set (i := 0) sc_law_words.nd rfl (by first | exact Or.inl rfl | exact Or.inr rfl) (pe_op op_add_str (pv 0) pe_str))
    (pss_cons (ps_set (i := 0) sc_law_words.nd rfl (by first | exact Or.inl rfl | exact Or.inr rfl) (pe_op op_add_str (pv 0) pe_str))
    (pss_cons (ps_set (i := 0) sc_law_words.nd rfl (by first | exact Or.inl rfl | exact Or.inr rfl) (pe_op op_add_str (pv 0) pe_str))
    (pss_cons (ps_set (i := 0) sc_law_words.nd rfl (by first | exact Or.inl rfl | exact Or.inr rfl) (pe_op op_add_str (pv 0) pe_str))
    (pss_cons (ps_set (i := 0) sc_law_words.nd rfl (by first | exact Or.inl rfl | exact Or.inr rfl) (pe_op op_add_str (pv 0) pe_str))
    (pss_cons (ps_set (i := 0) sc_law_words.nd rfl (by first | exact Or.inl rfl | exact Or.inr rfl) (pe_op op_add_str (pv 0) pe_str))
    (pss_cons (ps_set (i := 0) sc_law_words.nd rfl (by first | exact Or.inl rfl | exact Or.inr rfl) (pe_op op_add_str (pv 0) pe_str))
    (pss_cons (ps_set (i := 0) sc_law_words.nd rfl (by first | exact Or.inl rfl | exact Or.inr rfl) (pe_op op_add_str (pv 0) pe_str))
    (pss_cons (ps_set (i := 0) sc_law_words.nd rfl (by first | exact Or.inl rfl | exact Or.inr rfl) (pe_op op_add_str (pv 0) pe_str))
    (pss_cons (ps_set (i := 0) sc_law_words.nd rfl (by first | exact Or.inl rfl | exact Or.inr rfl) (pe_op op_add_str (pv 0) pe_str))
    (pss_cons (ps_set (i := 1) sc_law_words.nd rfl (by first | exact Or.inl rfl | exact Or.inr rfl) (pe_bm PySem.F.plainAttrs_str PySem.F.slot_str_split PySem.F.type_str_split mt_split (pv 0) (pa_cons pe_str pa_nil)))
    (pss_one (ps_ret (pe_lc (own := [("k", 2)]) (g := gName 2) (tt := tYes) rfl sc_law_words.nd (pi_range1 (by rfl) T.z_range (pa_cons (pe_op op_fdiv (pe_callB call_len_seq (by rfl) T.z_len (by decide +kernel) (pa_cons (pv 1) pa_nil)) pe_int) pa_nil)) (blkOk_by (N := N_law_words) (sc := defScope s_law_words) (by decide +kernel)) (fun _ _ _ _ _ => pg_name (i := 2) sc_law_words.nd rfl (Or.inl rfl)) (fun _ _ _ _ _ => pts_nil) (fun _ _ _ _ _ => (pe_tup (pa_cons (pe_ix (ix_listK rfl) (pv 1) (pe_op op_mul pe_int (pv 2)) (fun _ _ => rfl)) (pa_cons (pe_callTy call_int_str (by rfl) T.z_int (by decide +kernel) (pa_cons (pe_ix (ix_listK rfl) (pv 1) (pe_op op_add (pe_op op_mul pe_int (pv 2)) pe_int) (fun _ _ => rfl)) pa_nil)) (pa_cons (pe_callTy call_int_str (by rfl) T.z_int (by decide +kernel) (pa_cons (pe_ix (ix_listK rfl) (pv 1) (pe_op op_add (pe_op op_mul pe_int (pv 2)) pe_int) (fun _ _ => rfl)) pa_nil)) pa_nil)))))))))))))))))))), ?_⟩
    iterate 10 refine ⟨_, rfl, _, _, rfl, rfl, (by (try simp only [Str.length_append]); decide +kernel), ?_⟩
    refine ⟨_, rfl, rfl, ?_⟩
    refine ⟨_, _, rfl, rfl, by decide +kernel, (by simp only [Str.length_append]; decide +kernel), fun D hD => ?_⟩
    generalize hr : Txt.split _ _ = row
    have hr2 : row = ROW := by
      rw [← hr]
      refine row_split ?_
      simp only [TL.tl_append]
      decide +kernel
    subst hr2
    clear hr
    generalize hs : List.set _ 0 _ = σ0
    have hs0 : σ0.set 1 (some (.ref D)) = [σ0.getD 0 none, some (.ref D), none] := by
      rw [← hs]
      rfl
    dsimp only [gName]
    rw [hs0]
    generalize σ0.getD 0 none = u0
    clear hs0 hs
    walk_at "run"
    refine ⟨_, _, rfl, Or.inl (SqL.of upd_same), ?_⟩
    have e9 : (((ROW.map V.str).length : Nat) : Int) / 3 = 95 := by
      rw [List.length_map, row_len]
      rfl
    have e8 : (ROW.map V.str).length = 285 := by rw [List.length_map, row_len]
    have hrow : SqL K (upd H D (.lst (ROW.map V.str))) D (ROW.map V.str) := SqL.of upd_same
    have s0 : Same H (upd H D (.lst (ROW.map V.str))) := same_upd hD
    generalize upd H D (HO.lst (ROW.map V.str)) = H0 at hrow s0 ⊢
    have hat : ∀ {j : Int} {i : Nat}, j = (i : Int) → i < 285 → atI (ROW.map V.str) j = some (.str (ROW.getD i "")) := fun ej hi => atI_at ej (row_at hi)
    generalize hR : ROW.map V.str = RV at *
    walk_at "run"
    rw [e9]
    rename_i D2 hD2
    refine lc_range (lo := 0) (n := 95) (fun i H' => Hd (Same H0 H' ∧ ∃ xs : List V, H' D2 = some (.lst xs) ∧ A2 (WdE K H') xs (WORDS.take i))) (.mk ⟨same_upd hD2, [], upd_same, .nil⟩) (fun i H' hi hp => ?_) (fun H' hp => ?_)
    · obtain ⟨s2, xs, hz, hx⟩ := hp.get
      obtain ⟨⟨w1, w2, w3, w4⟩, _⟩ := word_ok hi
      have lx := hx.len
      rw [List.length_take] at lx
      walk_at "run"
      refine ⟨_, _, _, _, rfl, rfl, Same.seq s2 hrow, hat (i := 3 * i) (by omega) (by omega), ?_⟩
      walk_at "run"
      refine ⟨_, _, _, _, rfl, rfl, Same.seq s2 hrow, hat (i := 3 * i + 1) (by omega) (by omega), ?_⟩
      refine ⟨_, _, rfl, w1, w3, ?_⟩
      walk_at "run"
      refine ⟨_, _, _, _, rfl, rfl, Same.seq s2 hrow, hat (i := 3 * i + 2) (by omega) (by omega), ?_⟩
      refine ⟨_, _, rfl, w2, w4, ?_⟩
      walk_at "run"
      rename_i pt hpt
      have hz3 := (same_upd (o := .tup [.str (wordAt i).1, .int (wordAt i).2.1, .int (wordAt i).2.2]) hpt) _ _ hz
      refine ⟨_, hz3, small1000 (by omega), .mk ⟨same_put (s2.trans (same_upd hpt)) hD2, _, upd_same, ?_⟩⟩
      rw [List.take_add_one, words_at hi]
      refine A2.snoc (A2.imp hx fun v w9 hv => ?_) ⟨pt, rfl, lst_tk hz3 _ _ (SqT.of upd_same)⟩
      obtain ⟨a9, q1, q2⟩ := hv
      exact ⟨a9, q1, lst_tk hz3 _ _ (same_tk (same_upd hpt) _ _ q2)⟩
    · obtain ⟨s2, xs, hz, hx⟩ := hp.get
      rw [show WORDS.take 95 = WORDS from by rw [← words_len, List.take_length]] at hx
      exact q _ _ (s0.trans s2) ⟨xs, hz, hx⟩

theorem ok_law_is_cell (T : Txt K mg) : FnOk P w K mg base CX0 1 T.a_law_is_cell T.d_law_is_cell P_law_is_cell (sp_law_is_cell K) := by
  refine T.F_law_is_cell.ok sc_law_is_cell (fun vs H Q E h => ?_) (fun cdv A outer s H vs Q E hr h => ?_)
  · obtain ⟨z, rfl, _⟩ := h
    rfl
  · obtain ⟨z, rfl, hz, q⟩ := h
    refine ⟨_, (pss_one (ps_ret (pe_and (pe_cmpR op_in_seq (pe_callB call_len_str (by rfl) T.z_len (by decide +kernel) (pa_cons (pv 0) pa_nil)) (pe_tup (pa_cons pe_int (pa_cons pe_int pa_nil))) (by first | exact nomark _ | rfl)) (pe_and (pe_cmpR op_in_sign (pe_ix ix_str (pv 0) pe_int (fun _ _ => rfl)) pe_str (by first | exact nomark _ | rfl)) (pe_one (pe_cmpR op_in_seq (pe_slice sl_str (pv 0) (po_some pe_int) po_none) (pe_lc (own := [("k", 1)]) (g := gName 1) (tt := tYes) rfl sc_law_is_cell.nd (pi_range2 (by rfl) T.z_range (pa_cons pe_int (pa_cons pe_int pa_nil))) (blkOk_by (N := N_law_is_cell) (sc := defScope s_law_is_cell) (by decide +kernel)) (fun _ _ _ _ _ => pg_name (i := 1) sc_law_is_cell.nd rfl (Or.inl rfl)) (fun _ _ _ _ _ => pts_nil) (fun _ _ _ _ _ => (pe_callTy call_str_int (by rfl) T.z_str (by decide +kernel) (pa_cons (pv 1) pa_nil)))) (by first | exact nomark _ | rfl))))))), ?_⟩
    have l1 : z.length ≤ sizeLine := Nat.le_of_lt (small1000 (by omega))
    walk_at "run"
    rename_i p hp0
    refine ⟨_, _, rfl, .inr (SqT.of upd_same), rfl, rfl, ?_⟩
    refine ⟨_, rfl, ite2 (fun h1 => ?_) (fun h1 => ?_)⟩
    · obtain ⟨ch, ec⟩ : ∃ ch, atI z.cps.toList 0 = some ch := str_at (Z := z) (m := z.length) (by omega) (by omega) rfl
      refine ⟨_, rfl, _, _, ch, rfl, rfl, l1, ec, ?_⟩
      walk_at "run"
      · rename_i D hD
        refine lc_range (lo := 1) (n := (21 - 1 : Int).toNat) (fun i H' => Hd (Same H H' ∧ ∃ zs : List Str, H' D = some (.lst (zs.map V.str)) ∧ zs.length = i)) (.mk ⟨(same_upd hp0).trans (same_upd hD), [], upd_same, rfl⟩) (fun i H' hi hp => ?_) (fun H' hp => ?_)
        · obtain ⟨s2, zs, hz, lz⟩ := hp.get
          walk_at "run"
          refine ⟨log_small (by omega), _, hz, small1000 (by rw [List.length_map]; omega), .mk ⟨same_put s2 (same_none (same_upd hp0) hD), zs ++ [Str.ofString (toString (1 + (i : Int)))], ?_, ?_⟩⟩
          · rw [upd_same, List.map_append]
            rfl
          · rw [List.length_append, lz]
            rfl
        · obtain ⟨s2, zs, hz, lz⟩ := hp.get
          refine ⟨_, _, rfl, .inl (SqL.of hz), rfl, flat_strs zs, ?_⟩
          exact q _ _ s2
      · exact q _ _ (by walk_at "same")
    · exact q _ _ (by walk_at "same")

theorem ok_law_name (T : Txt K mg) : FnOk P w K mg base CX0 3 T.a_law_name T.d_law_name P_law_name (sp_law_name K) := by
  refine T.F_law_name.ok sc_law_name (fun vs H Q E h => ?_) (fun cdv A outer s H vs Q E hr h => ?_)
  · obtain ⟨b, c, ns, e, pl, rfl, _⟩ := h
    rfl
  · obtain ⟨b, c, ns, e, pl, rfl, hb, hp, q⟩ := h
    refine ⟨_, (pss_cons (ps_set (i := 2) sc_law_name.nd rfl (by first | exact Or.inl rfl | exact Or.inr rfl) pe_str)
    (pss_cons (ps_set (i := 3) sc_law_name.nd rfl (by first | exact Or.inl rfl | exact Or.inr rfl) (pe_ix ix_str (pv 2) (pe_call (ok_law_draw T) (hr.mono (by decide)) (by rfl) T.g_law_draw T.F_law_draw.kp (T.b_law_draw) .nil pass0 (pa_cons (pv 0) (pa_cons pe_int pa_nil))) (fun _ _ => rfl)))
    (pss_cons (ps_for PassesOwn.never rfl (pi_range1 (by rfl) T.z_range (pa_cons (pe_call (ok_law_draw T) (hr.mono (by decide)) (by rfl) T.g_law_draw T.F_law_draw.kp (T.b_law_draw) .nil pass0 (pa_cons (pv 0) (pa_cons pe_int pa_nil))) pa_nil)) (pg_name (i := 4) sc_law_name.nd rfl (by first | exact Or.inl rfl | exact Or.inr rfl))
      (pss_one (ps_set (i := 3) sc_law_name.nd rfl (by first | exact Or.inl rfl | exact Or.inr rfl) (pe_op op_add_str (pv 3) (pe_ix ix_str (pv 2) (pe_call (ok_law_draw T) (hr.mono (by decide)) (by rfl) T.g_law_draw T.F_law_draw.kp (T.b_law_draw) .nil pass0 (pa_cons (pv 0) (pa_cons pe_int pa_nil))) (fun _ _ => rfl))))))
    (pss_cons (ps_if (PW.pt (pw_or (pt_cmpR op_in_seq (pv 3) (pe_tup (pa_cons pe_str (pa_cons pe_str (pa_cons pe_str (pa_cons pe_str pa_nil))))) (by first | exact nomark _ | rfl)) (pw_or (pt_cmpR op_in_seq (pv 3) (pe_lc (own := [("row", 5)]) (g := gName 5) (tt := tYes) rfl sc_law_name.nd (pi_list (pe_ix ix_list (pv 1) pe_int (fun _ _ => rfl))) (blkOk_by (N := N_law_name) (sc := defScope s_law_name) (by decide +kernel)) (fun _ _ _ _ _ => pg_name (i := 5) sc_law_name.nd rfl (Or.inl rfl)) (fun _ _ _ _ _ => pts_nil) (fun _ _ _ _ _ => (pe_ix (ix_tupK rfl) (pv 5) pe_int (fun _ _ => rfl)))) (by first | exact nomark _ | rfl)) (pw_or1 (pt_val (pe_call (ok_law_is_cell T) (hr.mono (by decide)) (by rfl) T.g_law_is_cell T.F_law_is_cell.kp (T.b_law_is_cell) .nil pass0 (pa_cons (pv 3) pa_nil)))))))
      (pss_one (ps_ret (pe_op op_add_str pe_str (pe_slice sl_str (pv 3) (po_some pe_int) po_none))))
      pss_nil)
    (pss_one (ps_ret (pv 3))))))), ?_⟩
    obtain ⟨ok, e0, e1, e2, e3, h0, h1, h2, h3, ⟨ws, h4, h5⟩⟩ := id hp
    walk_at "run"
    rename_i n1 H1 b1 n10 n11
    obtain ⟨ch, ec⟩ := str_at (Z := SIG) (m := 37) n10 (by omega) (by decide +kernel)
    refine ⟨_, _, ch, rfl, rfl, by decide +kernel, ec, ?_⟩
    walk_at "run"
    rename_i cnt H2 b2 c0 c1
    refine for_range (lo := 0) (n := cnt.toNat) (fun i σ H' => Hd (Bs K b c ns H H' ∧ ∃ (z : Str) (u : Option V), (z.length = i + 1 ∧ upS z) ∧ σ = [some (.ref b), some (.ref e), some (.str SIG), some (.str z), u, none])) (.mk ⟨(by walk_at "bx"), _, none, ⟨rfl, up_sig ec⟩, rfl⟩) (fun i σ H' hi hp => ?_) (fun σ H' hp => ?_)
    · obtain ⟨hb2, z, u, ⟨lz, uz⟩, rfl⟩ := hp.get
      walk_at "run"
      rename_i n3 H3 b3 m0 m1
      obtain ⟨c3, ec3⟩ := str_at (Z := SIG) (m := 37) m0 (by omega) (by decide +kernel)
      refine ⟨_, _, c3, rfl, rfl, (by decide +kernel), ec3, ?_⟩
      have l1 : Str.length ⟨#[c3]⟩ = 1 := rfl
      walk_at "run"
      refine ⟨Nat.le_of_lt (small1000 (by omega)), ?_⟩
      refine .mk ⟨(by walk_at "bx"), z ++ ⟨#[c3]⟩, _, ⟨?_, uz.app _⟩, rfl⟩
      rw [Str.length_append]
      omega
    · obtain ⟨hb2, z, u, ⟨lz, uz⟩, rfl⟩ := hp.get
      have hz2 : z.length ≤ sizeLine := Nat.le_of_lt (small1000 (by omega))
      have hc1 : (cutS z (some 1) none).length ≤ 100 := Nat.le_trans (cut_le z (some 1) none) (by omega)
      have l2 : ("Z" : Str).length = 1 := by decide +kernel
      have l3 : (Str.ofString "Z").length + (cutS z (some 1) none).length ≤ sizeLine := Nat.le_of_lt (small1000 (by have : (Str.ofString "Z").length = 1 := l2; omega))
      walk_at "run"
      rename_i p hp0
      refine ⟨_, _, rfl, .inr (SqT.of upd_same), rfl, rfl, ?_⟩
      have pl2 : PlL K (upd H' p (.tup [.str "TRUE", .str "FALSE", .str "LET", .str "LAMBDA"])) e pl := (PlL.keep ‹PlL K H e pl› hb hb2).same (same_upd hp0)
      obtain ⟨ok, e0, e1, e2, e3, h0, h1, h2, h3, ⟨ws, h4, h5⟩⟩ := id pl2
      walk_at "run"
      · exact q _ _ (by walk_at "bx") (up_Z _)
      refine And.intro ⟨_, SqL.of h4⟩ (fun D hD => ?_)
      have B2 : Bs K b c ns H (upd H' p (.tup [.str "TRUE", .str "FALSE", .str "LET", .str "LAMBDA"])) := by walk_at "bx"
      have lw := h5.len
      rw [words_len] at lw
      refine lc_it (walk_list (xs := ws)) (fun i H2 => Hd (Same (upd H' p (.tup [.str "TRUE", .str "FALSE", .str "LET", .str "LAMBDA"])) H2 ∧ ∃ zs : List Str, H2 D = some (.lst (zs.map V.str)) ∧ zs.length = i)) (.mk ⟨same_upd hD, [], upd_same, rfl⟩) (fun i H2 hi hp => SqL.of (hp.get.1 _ _ h4)) (fun i x Ha Hb hi hp hy => ?_) (fun H2 hp => ?_)
      · obtain ⟨s2, zs, hz3, lz3⟩ := hp.get
        obtain ⟨rfl, ez⟩ := hy
        obtain ⟨w9, ew, pw, rfl, hw⟩ := A2.get h5 ez
        have hw2 := same_tk (K := K) s2 _ _ hw
        walk_at "run"
        refine ⟨_, hz3, small1000 (by rw [List.length_map]; omega), .mk ⟨same_put s2 hD, zs ++ [w9.1], ?_, ?_⟩⟩
        · rw [upd_same, List.map_append]
          rfl
        · rw [List.length_append, lz3]
          rfl
      obtain ⟨s2, zs, hz3, lz3⟩ := hp.get
      refine ⟨_, _, rfl, .inl (SqL.of hz3), rfl, flat_strs zs, ?_⟩
      have B3 := B2.same s2
      walk_at "run"
      · exact q _ _ B3 (up_Z _)
      · rename_i r H4
        intro s4
        have B4 := B3.same s4
        cases r
        · walk_at "run"
          exact q _ _ B4 uz
        · walk_at "run"
          exact q _ _ B4 (up_Z _)

theorem ok_law_signs (T : Txt K mg) : FnOk P w K mg base CX0 1 T.a_law_signs T.d_law_signs P_law_signs (sp_law_signs K) := by
  refine T.F_law_signs.ok sc_law_signs (fun vs H Q E h => ?_) (fun cdv A outer s H vs Q E hr h => ?_)
  · obtain ⟨rfl, _⟩ := h
    rfl
  · obtain ⟨rfl, q⟩ := h
    refine ⟨_, (pss_cons (ps_set (i := 0) sc_law_signs.nd rfl (by first | exact Or.inl rfl | exact Or.inr rfl) pe_str)
    (pss_one (ps_ret (pe_op op_add_str (pv 0) pe_str)))), ?_⟩
    walk_at "run"
    exact ⟨by decide +kernel, q⟩

theorem ok_law_text (T : Txt K mg) : FnOk P w K mg base CX0 3 T.a_law_text T.d_law_text P_law_text (sp_law_text K) := by
  refine T.F_law_text.ok sc_law_text (fun vs H Q E h => ?_) (fun cdv A outer s H vs Q E hr h => ?_)
  · obtain ⟨b, c, ns, rfl, _⟩ := h
    rfl
  · obtain ⟨b, c, ns, rfl, hb, q⟩ := h
    refine ⟨_, (pss_cons (ps_set (i := 1) sc_law_text.nd rfl (by first | exact Or.inl rfl | exact Or.inr rfl) (pe_call0 (ok_law_signs T) (hr.mono (by decide)) (by rfl) T.g_law_signs T.F_law_signs.kp (T.b_law_signs) .nil pass0))
    (pss_cons (ps_set (i := 2) sc_law_text.nd rfl (by first | exact Or.inl rfl | exact Or.inr rfl) (pe_call (ok_law_draw T) (hr.mono (by decide)) (by rfl) T.g_law_draw T.F_law_draw.kp (T.b_law_draw) .nil pass0 (pa_cons (pv 0) (pa_cons pe_int pa_nil))))
    (pss_cons (ps_if (pt_cmpR op_eq (pe_call (ok_law_draw T) (hr.mono (by decide)) (by rfl) T.g_law_draw T.F_law_draw.kp (T.b_law_draw) .nil pass0 (pa_cons (pv 0) (pa_cons pe_int pa_nil))) pe_int (by first | exact nomark _ | rfl))
      (pss_one (ps_set (i := 2) sc_law_text.nd rfl (by first | exact Or.inl rfl | exact Or.inr rfl) (pe_call (ok_law_draw T) (hr.mono (by decide)) (by rfl) T.g_law_draw T.F_law_draw.kp (T.b_law_draw) .nil pass0 (pa_cons (pv 0) (pa_cons pe_int pa_nil)))))
      pss_nil)
    (pss_one (ps_ret (pe_bm PySem.F.plainAttrs_str PySem.F.slot_str_join PySem.F.type_str_join mt_join pe_str (pa_cons (pe_lc (own := [("k", 3)]) (g := gName 3) (tt := tYes) rfl sc_law_text.nd (pi_range1 (by rfl) T.z_range (pa_cons (pv 2) pa_nil)) (blkOk_by (N := N_law_text) (sc := defScope s_law_text) (by decide +kernel)) (fun _ _ _ _ _ => pg_name (i := 3) sc_law_text.nd rfl (Or.inl rfl)) (fun _ _ _ _ _ => pts_nil) (fun _ _ _ _ _ => (pe_ix ix_str (pv 1) (pe_call (ok_law_draw T) (hr.mono (by decide)) (by rfl) T.g_law_draw T.F_law_draw.kp (T.b_law_draw) .nil pass0 (pa_cons (pv 0) (pa_cons pe_int pa_nil))) (fun _ _ => rfl)))) pa_nil))))))), ?_⟩
    walk_at "run"
    · rename_i cnt0 Ha ba n00 n01 m9 Hb bb m90 m91 m92 cnt H1 b1 n0 n1 D hD
      have hx1 := b1.bat
      have hne := hx1.ne hD
      refine lc_range (lo := 0) (n := cnt.toNat) (fun i H' => Hd (Bs K b c ns H1 H' ∧ ∃ zs : List Str, H' D = some (.lst (zs.map V.str)) ∧ zs.length = i ∧ ∀ z ∈ zs, z.length = 1)) (.mk ⟨(by walk_at "bx"), [], upd_same, rfl, fun z h => absurd h List.not_mem_nil⟩) (fun i H' hi hp => ?_) (fun H' hp => ?_)
      · obtain ⟨hb2, zs, hz, hl, h1⟩ := hp.get
        walk_at "run"
        rename_i n2 H2 b2 m0 m1
        obtain ⟨ch, ec⟩ := str_at (Z := SG) (m := 94) m0 (by omega) (by decide +kernel)
        refine ⟨SG, _, ch, rfl, rfl, (by decide +kernel), ec, zs.map V.str, b2.1 _ _ (Ne.symm hne) hz, ?_, .mk ⟨(hb2.trans b2).more hx1 hD hne, zs ++ [⟨#[ch]⟩], ?_, ?_, ?_⟩⟩
        · rw [List.length_map]
          exact small1000 (by omega)
        · rw [List.map_append]
          exact upd_same
        · rw [List.length_append, hl]
          rfl
        · intro z hz
          rcases List.mem_append.mp hz with hz | hz
          · exact h1 z hz
          · rw [List.mem_singleton.mp hz]
            rfl
      · obtain ⟨hb2, zs, hz, hl, h1⟩ := hp.get
        refine ⟨_, D, zs, rfl, rfl, Or.inl (SqL.of hz), ones_join h1 (by omega), ?_⟩
        exact q _ _ (by walk_at "bx")
    · rename_i cnt Ha ba n0 n1 m9 H1 b1 m90 m91 m92 D hD
      have hx1 := b1.bat
      have hne := hx1.ne hD
      refine lc_range (lo := 0) (n := cnt.toNat) (fun i H' => Hd (Bs K b c ns H1 H' ∧ ∃ zs : List Str, H' D = some (.lst (zs.map V.str)) ∧ zs.length = i ∧ ∀ z ∈ zs, z.length = 1)) (.mk ⟨(by walk_at "bx"), [], upd_same, rfl, fun z h => absurd h List.not_mem_nil⟩) (fun i H' hi hp => ?_) (fun H' hp => ?_)
      · obtain ⟨hb2, zs, hz, hl, h1⟩ := hp.get
        walk_at "run"
        rename_i n2 H2 b2 m0 m1
        obtain ⟨ch, ec⟩ := str_at (Z := SG) (m := 94) m0 (by omega) (by decide +kernel)
        refine ⟨SG, _, ch, rfl, rfl, (by decide +kernel), ec, zs.map V.str, b2.1 _ _ (Ne.symm hne) hz, ?_, .mk ⟨(hb2.trans b2).more hx1 hD hne, zs ++ [⟨#[ch]⟩], ?_, ?_, ?_⟩⟩
        · rw [List.length_map]
          exact small1000 (by omega)
        · rw [List.map_append]
          exact upd_same
        · rw [List.length_append, hl]
          rfl
        · intro z hz
          rcases List.mem_append.mp hz with hz | hz
          · exact h1 z hz
          · rw [List.mem_singleton.mp hz]
            rfl
      · obtain ⟨hb2, zs, hz, hl, h1⟩ := hp.get
        refine ⟨_, D, zs, rfl, rfl, Or.inl (SqL.of hz), ones_join h1 (by omega), ?_⟩
        exact q _ _ (by walk_at "bx")

theorem ok_law_amount (T : Txt K mg) : FnOk P w K mg base CX0 3 T.a_law_amount T.d_law_amount P_law_amount (sp_law_amount K) := by
  refine T.F_law_amount.ok sc_law_amount (fun vs H Q E h => ?_) (fun cdv A outer s H vs Q E hr h => ?_)
  · obtain ⟨b, c, ns, rfl, _⟩ := h
    rfl
  · obtain ⟨b, c, ns, rfl, hb, q⟩ := h
    refine ⟨_, (pss_cons (ps_set (i := 1) sc_law_amount.nd rfl (by first | exact Or.inl rfl | exact Or.inr rfl) (pe_call (ok_law_draw T) (hr.mono (by decide)) (by rfl) T.g_law_draw T.F_law_draw.kp (T.b_law_draw) .nil pass0 (pa_cons (pv 0) (pa_cons pe_int pa_nil))))
    (pss_cons (ps_if (pt_cmpR op_eq (pv 1) pe_int (by first | exact nomark _ | rfl))
      (pss_one (ps_ret (pe_ix ix_list (pe_lst (pa_cons pe_int (pa_cons pe_int (pa_cons (pe_powc (c := 1000000) (by decide) (by decide +kernel)) (pa_cons (pe_op op_sub (pe_powc (c := 1000000000000000000000) (by decide) (by decide +kernel)) pe_int) pa_nil))))) (pe_call (ok_law_draw T) (hr.mono (by decide)) (by rfl) T.g_law_draw T.F_law_draw.kp (T.b_law_draw) .nil pass0 (pa_cons (pv 0) (pa_cons pe_int pa_nil))) (fun _ _ => rfl))))
      pss_nil)
    (pss_cons (ps_if (pt_cmpR op_eq (pv 1) pe_int (by first | exact nomark _ | rfl))
      (pss_one (ps_ret (pe_call (ok_law_draw T) (hr.mono (by decide)) (by rfl) T.g_law_draw T.F_law_draw.kp (T.b_law_draw) .nil pass0 (pa_cons (pv 0) (pa_cons (pe_powc (c := 1000000000000000000000) (by decide) (by decide +kernel)) pa_nil)))))
      pss_nil)
    (pss_one (ps_ret (pe_op op_mul (pe_powc (c := 1000000) (by decide) (by decide +kernel)) (pe_call (ok_law_draw T) (hr.mono (by decide)) (by rfl) T.g_law_draw T.F_law_draw.kp (T.b_law_draw) .nil pass0 (pa_cons (pv 0) (pa_cons pe_int pa_nil))))))))), ?_⟩
    walk_at "run"
    · rename_i p hp
      have bp := BoxS.new (o := .lst [V.int 0, .int 1, .int 1000000, .int (1000000000000000000000 - 1)]) (Bs.bat (by assumption)) hp
      refine ⟨b, c, ns, 4, rfl, bp, by decide, fun n H1 b1 h0 h1 => ?_⟩
      refine atI_go (SqL.of (b1.ints bp (ks := [0, 1, 1000000, 1000000000000000000000 - 1]) upd_same)) h0 (by show _ < (4 : Int); omega) fun v hv => ?_
      obtain ⟨y, _, rfl⟩ := List.mem_map.mp hv
      exact q _ _ (by walk_at "bx")
    · exact q _ _ (by walk_at "bx")
    · exact q _ _ (by walk_at "bx")

theorem ok_law_scalar (T : Txt K mg) : FnOk P w K mg base CX0 4 T.a_law_scalar T.d_law_scalar P_law_scalar (sp_law_scalar K) := by
  refine T.F_law_scalar.ok sc_law_scalar (fun vs H Q E h => ?_) (fun cdv A outer s H vs Q E hr h => ?_)
  · obtain ⟨b, c, ns, sg, rfl, _⟩ := h
    rfl
  · obtain ⟨b, c, ns, sg, rfl, hb, q⟩ := h
    refine ⟨_, (pss_cons (ps_set (i := 2) sc_law_scalar.nd rfl (by first | exact Or.inl rfl | exact Or.inr rfl) (pe_call (ok_law_draw T) (hr.mono (by decide)) (by rfl) T.g_law_draw T.F_law_draw.kp (T.b_law_draw) .nil pass0 (pa_cons (pv 0) (pa_cons pe_int pa_nil))))
    (pss_cons (ps_if (pt_cmpR op_eq (pv 2) pe_int (by first | exact nomark _ | rfl))
      (pss_one (ps_ret (pe_tup (pa_cons pe_str (pa_cons (pe_call (ok_law_text T) (hr.mono (by decide)) (by rfl) T.g_law_text T.F_law_text.kp (T.b_law_text) .nil pass0 (pa_cons (pv 0) pa_nil)) pa_nil)))))
      pss_nil)
    (pss_cons (ps_if (pt_cmpR op_eq (pv 2) pe_int (by first | exact nomark _ | rfl))
      (pss_one (ps_ret (pe_tup (pa_cons pe_str (pa_cons (pe_cmpR op_eq (pe_call (ok_law_draw T) (hr.mono (by decide)) (by rfl) T.g_law_draw T.F_law_draw.kp (T.b_law_draw) .nil pass0 (pa_cons (pv 0) (pa_cons pe_int pa_nil))) pe_int (by first | exact nomark _ | rfl)) pa_nil)))))
      pss_nil)
    (pss_cons (ps_if (pt_cmpR op_eq (pv 2) pe_int (by first | exact nomark _ | rfl))
      (pss_one (ps_ret (pe_tup (pa_cons pe_str (pa_cons (pe_ix ix_list (pe_lst (pa_cons pe_str (pa_cons pe_str (pa_cons pe_str (pa_cons pe_str (pa_cons pe_str (pa_cons pe_str (pa_cons pe_str (pa_cons pe_str (pa_cons pe_str pa_nil)))))))))) (pe_call (ok_law_draw T) (hr.mono (by decide)) (by rfl) T.g_law_draw T.F_law_draw.kp (T.b_law_draw) .nil pass0 (pa_cons (pv 0) (pa_cons pe_int pa_nil))) (fun _ _ => rfl)) pa_nil)))))
      pss_nil)
    (pss_cons (ps_set (i := 3) sc_law_scalar.nd rfl (by first | exact Or.inl rfl | exact Or.inr rfl) (pe_call (ok_law_amount T) (hr.mono (by decide)) (by rfl) T.g_law_amount T.F_law_amount.kp (T.b_law_amount) .nil pass0 (pa_cons (pv 0) pa_nil)))
    (pss_cons (ps_if (PW.pt (pw_and (pt_val (pv 1)) (pw_and1 (pt_cmpR op_eq (pe_call (ok_law_draw T) (hr.mono (by decide)) (by rfl) T.g_law_draw T.F_law_draw.kp (T.b_law_draw) .nil pass0 (pa_cons (pv 0) (pa_cons pe_int pa_nil))) pe_int (by first | exact nomark _ | rfl)))))
      (pss_one (ps_set (i := 3) sc_law_scalar.nd rfl (by first | exact Or.inl rfl | exact Or.inr rfl) (pe_un un_neg (pv 3))))
      pss_nil)
    (pss_one (ps_ret (pe_tup (pa_cons pe_str (pa_cons (pv 3) pa_nil))))))))))), ?_⟩
    walk_at "run"
    · exact q _ "text" _ _ (by walk_at "bx") (tv_lf1 0 (SqT.of upd_same) (by decide +kernel) (.str _) (fitD_str _ _)) (fit_pair _ (fitD_str _ _))
    · exact q _ "truth" _ _ (by walk_at "bx") (tv_lf1 0 (SqT.of upd_same) (by decide +kernel) (.bl _) (fitD_bl _ _)) (fit_pair _ (fitD_bl _ _))
    · rename_i n0 H0 b0 _ _ _ _ _ p hp
      have bp := BoxS.new (o := .lst ((["DIV", "VALUE", "REF", "NAME", "NUM", "NA", "CALC", "SIZE", "LIMIT"].map fun z : String => Str.ofString z).map V.str)) (Bs.bat b0) hp
      refine ⟨b, c, ns, 9, rfl, bp, by decide, fun n H1 b1 h0 h1 => ?_⟩
      refine atI_go (SqL.of (b1.lst bp upd_same (strs_noI (["DIV", "VALUE", "REF", "NAME", "NUM", "NA", "CALC", "SIZE", "LIMIT"].map fun z : String => Str.ofString z)))) h0 (by show _ < (9 : Int); exact h1) fun v hv => ?_
      obtain ⟨z, hz, rfl⟩ : ∃ z : Str, z ∈ (["DIV", "VALUE", "REF", "NAME", "NUM", "NA", "CALC", "SIZE", "LIMIT"].map fun z : String => Str.ofString z) ∧ V.str z = v := List.mem_map.mp hv
      clear hv
      walk_at "run"
      exact q _ "error" _ _ (by walk_at "bx") (tv_lf1 0 (SqT.of upd_same) (by decide +kernel) (.str _) (fitD_str _ _)) (fit_pair _ (fitD_str _ _))
    all_goals exact q _ "number" _ _ (by walk_at "bx") (tv_lf1 0 (SqT.of upd_same) (by decide +kernel) (.int _) (fitD_int _ _)) (fit_pair _ (fitD_int _ _))

theorem ok_law_array (T : Txt K mg) : FnOk P w K mg base CX0 5 T.a_law_array T.d_law_array P_law_array (sp_law_array K) := by
  refine T.F_law_array.ok sc_law_array (fun vs H Q E h => ?_) (fun cdv A outer s H vs Q E hr h => ?_)
  · obtain ⟨b, c, ns, rfl, _⟩ := h
    rfl
  · obtain ⟨b, c, ns, rfl, hb, q⟩ := h
    refine ⟨_, (pss_cons (ps_set (i := 1) sc_law_array.nd rfl (by first | exact Or.inl rfl | exact Or.inr rfl) (pe_op op_add pe_int (pe_call (ok_law_draw T) (hr.mono (by decide)) (by rfl) T.g_law_draw T.F_law_draw.kp (T.b_law_draw) .nil pass0 (pa_cons (pv 0) (pa_cons pe_int pa_nil)))))
    (pss_cons (ps_set (i := 2) sc_law_array.nd rfl (by first | exact Or.inl rfl | exact Or.inr rfl) (pe_op op_add pe_int (pe_call (ok_law_draw T) (hr.mono (by decide)) (by rfl) T.g_law_draw T.F_law_draw.kp (T.b_law_draw) .nil pass0 (pa_cons (pv 0) (pa_cons pe_int pa_nil)))))
    (pss_cons (ps_if (pt_cmpR op_eq (pe_call (ok_law_draw T) (hr.mono (by decide)) (by rfl) T.g_law_draw T.F_law_draw.kp (T.b_law_draw) .nil pass0 (pa_cons (pv 0) (pa_cons pe_int pa_nil))) pe_int (by first | exact nomark _ | rfl))
      (pss_cons (ps_set (i := 1) sc_law_array.nd rfl (by first | exact Or.inl rfl | exact Or.inr rfl) (pe_op op_add pe_int (pe_call (ok_law_draw T) (hr.mono (by decide)) (by rfl) T.g_law_draw T.F_law_draw.kp (T.b_law_draw) .nil pass0 (pa_cons (pv 0) (pa_cons pe_int pa_nil)))))
    (pss_one (ps_set (i := 2) sc_law_array.nd rfl (by first | exact Or.inl rfl | exact Or.inr rfl) (pe_callB (call_min2 rfl) (by rfl) T.z_min (by decide +kernel) (pa_cons (pe_callTy call_int1 (by rfl) T.z_int (by decide +kernel) (pa_cons (pe_op op_add pe_int (pe_call (ok_law_draw T) (hr.mono (by decide)) (by rfl) T.g_law_draw T.F_law_draw.kp (T.b_law_draw) .nil pass0 (pa_cons (pv 0) (pa_cons pe_int pa_nil)))) pa_nil)) (pa_cons (pe_callTy call_int1 (by rfl) T.z_int (by decide +kernel) (pa_cons (pe_op op_fdivB pe_int (pv 1)) pa_nil)) pa_nil))))))
      pss_nil)
    (pss_one (ps_ret (pe_tup (pa_cons pe_str (pa_cons (pe_callTy call_tuple_of (by rfl) T.z_tuple (by decide +kernel) (pa_cons (pe_lc (own := [("i", 4)]) (g := gName 4) (tt := tYes) rfl sc_law_array.nd (pi_range1 (by rfl) T.z_range (pa_cons (pv 1) pa_nil)) (blkOk_by (N := N_law_array) (sc := defScope s_law_array) (by decide +kernel)) (fun _ _ _ _ _ => pg_name (i := 4) sc_law_array.nd rfl (Or.inl rfl)) (fun _ _ _ _ _ => pts_nil) (fun _ _ _ _ _ => (pe_callTy (call_tuple_ofK rfl) (by rfl) T.z_tuple (by decide +kernel) (pa_cons (pe_lc (own := [("j", 3)]) (g := gName 3) (tt := tYes) rfl sc_law_array.nd (pi_range1 (by rfl) T.z_range (pa_cons (pv 2) pa_nil)) (blkOk_by (N := N_law_array) (by rfl)) (fun _ _ _ _ _ => pg_name (i := 3) sc_law_array.nd rfl (Or.inl rfl)) (fun _ _ _ _ _ => pts_nil) (fun _ _ _ _ _ => (pe_call (ok_law_scalar T) (hr.mono (by decide)) (by rfl) T.g_law_scalar T.F_law_scalar.kp (T.b_law_scalar) .nil pass0 (pa_cons (pv 0) (pa_cons pe_bl pa_nil))))) pa_nil)))) pa_nil)) pa_nil)))))))), ?_⟩
    walk_at "run"
    · rename_i h0 H1 b1 h00 h01 w0 H2 b2 w00 w01 n H3 b3 n0 n1 nx h H4 b4 h10 h11 w H5 b5 w10 w11 D hD
      obtain ⟨d1, d2, d3⟩ := div64' (x := 1 + h) (by omega) (by omega)
      have hne := (b5.bat).ne hD
      refine lc_range (lo := 0) (n := _) (fun i H' => Hd (Bs K b c ns H5 H' ∧ ∃ (xs : List V) (ds : List PyData), H' D = some (.lst xs) ∧ DpAll K H' xs ds ∧ ds.length = i ∧ ∀ e ∈ ds, FitD 3 e ∧ ∃ es, e = PyData.tuple es)) (.mk ⟨(Bs.refl b5.bat).new hD, [], [], upd_same, .nil, rfl, fun e he => absurd he List.not_mem_nil⟩) (fun i H' hi hp2 => ?_) (fun H' hp2 => ?_)
      · obtain ⟨hb2, xs, ds, hz, hd, hl, hf⟩ := hp2.get
        walk_at "run"
        rename_i D2 hD2
        have hneD := hb2.2.ne hD2
        refine lc_range (lo := 0) (n := _) (fun j H2 => Hd (Bs K b c ns H' H2 ∧ ∃ (ys : List V) (es : List PyData), H2 D2 = some (.lst ys) ∧ DpAll K H2 ys es ∧ es.length = j ∧ ∀ e ∈ es, FitD 2 e ∧ ∃ es, e = PyData.tuple es)) (.mk ⟨((Bs.refl hb2.2).new hD2), [], [], upd_same, .nil, rfl, fun e he => absurd he List.not_mem_nil⟩) (fun j H2 hj hp3 => ?_) (fun H2 hp3 => ?_)
        · obtain ⟨hb3, ys, es, hy, he, hl2, hf2⟩ := hp3.get
          walk_at "run"
          rename_i x z d H3 b3 d3 f3
          have hy3 := b3.1 _ _ (Ne.symm hneD) hy
          have ly := dpAll_len he
          refine ⟨ys, hy3, small1000 (by split at hj <;> omega), .mk ⟨(hb3.trans b3).more hb2.2 hD2 hneD, ys ++ [.ref x], es ++ [.tuple [.str z, d]], upd_same, ?_, ?_, ?_⟩⟩
          · exact dps_keep (n := 2) (lst_tk hy3) (fun e he => (List.mem_append.mp he).elim (fun z => (hf2 e z).1) (fun z => by rw [List.mem_singleton.mp z]; exact f3)) (dpAll_app (dps_keep (b3.tk hb3.2) (fun e he => (hf2 e he).1) he) (.cons d3.1 .nil))
          · rw [List.length_append, hl2]
            rfl
          · exact fun e he => (List.mem_append.mp he).elim (hf2 e) (fun z => by rw [List.mem_singleton.mp z]; exact ⟨f3, _, rfl⟩)
        · obtain ⟨hb3, ys, es, hy, he, hl2, hf2⟩ := hp3.get
          walk_at "run"
          refine ⟨_, _, rfl, Or.inl ⟨SqL.of hy, fun pt hpt => ?_⟩⟩
          have hz3 := (same_upd (o := .tup ys) hpt) _ _ (hb3.1 _ _ (Ne.symm hne) hz)
          have hd3 := dps_keep (n := 3) (same_tk (K := K) (same_upd (o := .tup ys) hpt)) (fun e he => (hf e he).1) (dps_keep (hb3.tk hb2.2) (fun e he => (hf e he).1) hd)
          have he3 := dps_keep (n := 2) (same_tk (K := K) (same_upd (o := .tup ys) hpt)) (fun e he => (hf2 e he).1) he
          have lx := dpAll_len hd
          have hnew : Dp K (upd H2 pt (.tup ys)) (.ref pt) (.tuple es) := .tup (SqT.of upd_same) he3
          have fnew : FitD 3 (.tuple es) := fitD_tup (by rw [hl2]; split <;> omega) (fun e he => (hf2 e he).1) (hdA_tups fun e he => (hf2 e he).2)
          refine ⟨_, hz3, small1000 (by omega), .mk ⟨((hb2.trans hb3).new hpt).more b5.bat hD hne, xs ++ [.ref pt], ds ++ [.tuple es], upd_same, ?_, ?_, ?_⟩⟩
          · exact dps_keep (n := 3) (lst_tk hz3) (fun e he => (List.mem_append.mp he).elim (fun z => (hf e z).1) (fun z => by rw [List.mem_singleton.mp z]; exact fnew)) (dpAll_app hd3 (.cons hnew .nil))
          · rw [List.length_append, hl]
            rfl
          · exact fun e he => (List.mem_append.mp he).elim (hf e) (fun z => by rw [List.mem_singleton.mp z]; exact ⟨fnew, _, rfl⟩)
      · obtain ⟨hb2, xs, ds, hz, hd, hl, hf⟩ := hp2.get
        walk_at "run"
        refine ⟨_, _, rfl, Or.inl ⟨SqL.of hz, fun pt hpt => ?_⟩⟩
        walk_at "run"
        rename_i pr hpr
        have tk := (same_tk (K := K) (same_upd (o := .tup xs) hpt)).trans (same_tk (K := K) (same_upd (o := .tup [.str "array", .ref pt]) hpr))
        have fnew : FitD 4 (.tuple ds) := fitD_tup (by omega) (fun e he => (hf e he).1) (hdA_tups fun e he => (hf e he).2)
        exact q _ "array" _ _ (by walk_at "bx") (tv_lf1 0 (SqT.of upd_same) (by decide +kernel) (.tup (SqT.of ((same_upd hpr) _ _ upd_same)) (dps_keep tk (fun e he => (hf e he).1) hd)) fnew) fnew
    · rename_i h0 H1 b1 h00 h01 w0 H2 b2 w00 w01 n H3 b3 n0 n1 nx D hD
      have hne := (b3.bat).ne hD
      refine lc_range (lo := 0) (n := _) (fun i H' => Hd (Bs K b c ns H3 H' ∧ ∃ (xs : List V) (ds : List PyData), H' D = some (.lst xs) ∧ DpAll K H' xs ds ∧ ds.length = i ∧ ∀ e ∈ ds, FitD 3 e ∧ ∃ es, e = PyData.tuple es)) (.mk ⟨(Bs.refl b3.bat).new hD, [], [], upd_same, .nil, rfl, fun e he => absurd he List.not_mem_nil⟩) (fun i H' hi hp2 => ?_) (fun H' hp2 => ?_)
      · obtain ⟨hb2, xs, ds, hz, hd, hl, hf⟩ := hp2.get
        walk_at "run"
        rename_i D2 hD2
        have hneD := hb2.2.ne hD2
        refine lc_range (lo := 0) (n := _) (fun j H2 => Hd (Bs K b c ns H' H2 ∧ ∃ (ys : List V) (es : List PyData), H2 D2 = some (.lst ys) ∧ DpAll K H2 ys es ∧ es.length = j ∧ ∀ e ∈ es, FitD 2 e ∧ ∃ es, e = PyData.tuple es)) (.mk ⟨((Bs.refl hb2.2).new hD2), [], [], upd_same, .nil, rfl, fun e he => absurd he List.not_mem_nil⟩) (fun j H2 hj hp3 => ?_) (fun H2 hp3 => ?_)
        · obtain ⟨hb3, ys, es, hy, he, hl2, hf2⟩ := hp3.get
          walk_at "run"
          rename_i x z d H3 b3 d3 f3
          have hy3 := b3.1 _ _ (Ne.symm hneD) hy
          have ly := dpAll_len he
          refine ⟨ys, hy3, small1000 (by omega), .mk ⟨(hb3.trans b3).more hb2.2 hD2 hneD, ys ++ [.ref x], es ++ [.tuple [.str z, d]], upd_same, ?_, ?_, ?_⟩⟩
          · exact dps_keep (n := 2) (lst_tk hy3) (fun e he => (List.mem_append.mp he).elim (fun z => (hf2 e z).1) (fun z => by rw [List.mem_singleton.mp z]; exact f3)) (dpAll_app (dps_keep (b3.tk hb3.2) (fun e he => (hf2 e he).1) he) (.cons d3.1 .nil))
          · rw [List.length_append, hl2]
            rfl
          · exact fun e he => (List.mem_append.mp he).elim (hf2 e) (fun z => by rw [List.mem_singleton.mp z]; exact ⟨f3, _, rfl⟩)
        · obtain ⟨hb3, ys, es, hy, he, hl2, hf2⟩ := hp3.get
          walk_at "run"
          refine ⟨_, _, rfl, Or.inl ⟨SqL.of hy, fun pt hpt => ?_⟩⟩
          have hz3 := (same_upd (o := .tup ys) hpt) _ _ (hb3.1 _ _ (Ne.symm hne) hz)
          have hd3 := dps_keep (n := 3) (same_tk (K := K) (same_upd (o := .tup ys) hpt)) (fun e he => (hf e he).1) (dps_keep (hb3.tk hb2.2) (fun e he => (hf e he).1) hd)
          have he3 := dps_keep (n := 2) (same_tk (K := K) (same_upd (o := .tup ys) hpt)) (fun e he => (hf2 e he).1) he
          have lx := dpAll_len hd
          have hnew : Dp K (upd H2 pt (.tup ys)) (.ref pt) (.tuple es) := .tup (SqT.of upd_same) he3
          have fnew : FitD 3 (.tuple es) := fitD_tup (by omega) (fun e he => (hf2 e he).1) (hdA_tups fun e he => (hf2 e he).2)
          refine ⟨_, hz3, small1000 (by omega), .mk ⟨((hb2.trans hb3).new hpt).more b3.bat hD hne, xs ++ [.ref pt], ds ++ [.tuple es], upd_same, ?_, ?_, ?_⟩⟩
          · exact dps_keep (n := 3) (lst_tk hz3) (fun e he => (List.mem_append.mp he).elim (fun z => (hf e z).1) (fun z => by rw [List.mem_singleton.mp z]; exact fnew)) (dpAll_app hd3 (.cons hnew .nil))
          · rw [List.length_append, hl]
            rfl
          · exact fun e he => (List.mem_append.mp he).elim (hf e) (fun z => by rw [List.mem_singleton.mp z]; exact ⟨fnew, _, rfl⟩)
      · obtain ⟨hb2, xs, ds, hz, hd, hl, hf⟩ := hp2.get
        walk_at "run"
        refine ⟨_, _, rfl, Or.inl ⟨SqL.of hz, fun pt hpt => ?_⟩⟩
        walk_at "run"
        rename_i pr hpr
        have tk := (same_tk (K := K) (same_upd (o := .tup xs) hpt)).trans (same_tk (K := K) (same_upd (o := .tup [.str "array", .ref pt]) hpr))
        have fnew : FitD 4 (.tuple ds) := fitD_tup (by omega) (fun e he => (hf e he).1) (hdA_tups fun e he => (hf e he).2)
        exact q _ "array" _ _ (by walk_at "bx") (tv_lf1 0 (SqT.of upd_same) (by decide +kernel) (.tup (SqT.of ((same_upd hpr) _ _ upd_same)) (dps_keep tk (fun e he => (hf e he).1) hd)) fnew) fnew

theorem ok_law_area (T : Txt K mg) : FnOk P w K mg base CX0 4 T.a_law_area T.d_law_area P_law_area (sp_law_area K) := by
  refine T.F_law_area.ok sc_law_area (fun vs H Q E h => ?_) (fun cdv A outer s H vs Q E hr h => ?_)
  · obtain ⟨b, c, ns, e, pl, rfl, _⟩ := h
    rfl
  · obtain ⟨b, c, ns, e, pl, rfl, hb, hp, q⟩ := h
    refine ⟨_, (pss_cons (ps_set (i := 2) sc_law_area.nd rfl (by first | exact Or.inl rfl | exact Or.inr rfl) (pe_ix ix_list (pe_ix ix_list (pv 1) pe_int (fun _ _ => rfl)) (pe_call (ok_law_draw T) (hr.mono (by decide)) (by rfl) T.g_law_draw T.F_law_draw.kp (T.b_law_draw) .nil pass0 (pa_cons (pv 0) (pa_cons (pe_callB call_len_seq (by rfl) T.z_len (by decide +kernel) (pa_cons (pe_ix ix_list (pv 1) pe_int (fun _ _ => rfl)) pa_nil)) pa_nil))) (fun _ _ => rfl)))
    (pss_cons (ps_set (i := 3) sc_law_area.nd rfl (by first | exact Or.inl rfl | exact Or.inr rfl) (pe_callB cr_sorted (by rfl) T.z_sorted (by decide +kernel) (pa_cons (pe_lst (pa_cons (pe_callTy call_int1 (by rfl) T.z_int (by decide +kernel) (pa_cons (pe_call (ok_law_near T) (hr.mono (by decide)) (by rfl) T.g_law_near T.F_law_near.kp (T.b_law_near) .nil pass0 (pa_cons (pv 0) (pa_cons (pe_ix ix_list (pv 1) pe_int (fun _ _ => rfl)) pa_nil))) pa_nil)) (pa_cons (pe_callTy call_int1 (by rfl) T.z_int (by decide +kernel) (pa_cons (pe_call (ok_law_near T) (hr.mono (by decide)) (by rfl) T.g_law_near T.F_law_near.kp (T.b_law_near) .nil pass0 (pa_cons (pv 0) (pa_cons (pe_ix ix_list (pv 1) pe_int (fun _ _ => rfl)) pa_nil))) pa_nil)) pa_nil))) pa_nil)))
    (pss_cons (ps_set (i := 4) sc_law_area.nd rfl (by first | exact Or.inl rfl | exact Or.inr rfl) (pe_callB cr_sorted (by rfl) T.z_sorted (by decide +kernel) (pa_cons (pe_lst (pa_cons (pe_callTy call_int1 (by rfl) T.z_int (by decide +kernel) (pa_cons (pe_call (ok_law_near T) (hr.mono (by decide)) (by rfl) T.g_law_near T.F_law_near.kp (T.b_law_near) .nil pass0 (pa_cons (pv 0) (pa_cons (pe_ix ix_list (pv 1) pe_int (fun _ _ => rfl)) pa_nil))) pa_nil)) (pa_cons (pe_callTy call_int1 (by rfl) T.z_int (by decide +kernel) (pa_cons (pe_call (ok_law_near T) (hr.mono (by decide)) (by rfl) T.g_law_near T.F_law_near.kp (T.b_law_near) .nil pass0 (pa_cons (pv 0) (pa_cons (pe_ix ix_list (pv 1) pe_int (fun _ _ => rfl)) pa_nil))) pa_nil)) pa_nil))) pa_nil)))
    (pss_cons (ps_setLc (i := 5) (own := [("k", 6)]) (g := gName 6) (tt := tYes) rfl sc_law_area.nd rfl rfl (sw_true rfl rfl rfl (by decide +kernel)) (pi_range1 (by rfl) T.z_range (pa_cons pe_int pa_nil)) (blkOk_by (N := N_law_area) (sc := defScope s_law_area) (by decide +kernel)) (fun _ _ _ _ _ => pg_name (i := 6) sc_law_area.nd rfl (Or.inl rfl)) (fun _ _ _ _ _ => pts_nil) (fun _ _ _ _ _ => (pe_or (pe_cmpR op_eq (pe_ix (ix_listK rfl) (pv 1) pe_int (fun _ _ => rfl)) pe_int (by first | exact nomark _ | rfl)) (pe_one (pe_and (pe_cmpR op_eq (pe_call (ok_law_draw T) (hr.mono (by decide)) (by rfl) T.g_law_draw T.F_law_draw.kp (T.b_law_draw) .nil pass0 (pa_cons (pv 0) (pa_cons pe_int pa_nil))) pe_int (by first | exact nomark _ | rfl)) (pe_one (pe_cmpR op_ne (pe_ix (ix_listK rfl) (pv 1) pe_int (fun _ _ => rfl)) pe_int (by first | exact nomark _ | rfl))))))))
    (pss_cons (ps_if (pt_cmpR op_eq (pe_ix ix_list (pv 1) pe_int (fun _ _ => rfl)) pe_int (by first | exact nomark _ | rfl))
      (pss_one (ps_set (i := 5) sc_law_area.nd rfl (by first | exact Or.inl rfl | exact Or.inr rfl) (pe_lst (pa_cons (pe_ix ix_list (pv 5) pe_int (fun _ _ => rfl)) (pa_cons (pe_ix ix_list (pv 5) pe_int (fun _ _ => rfl)) (pa_cons (pe_ix ix_list (pv 5) pe_int (fun _ _ => rfl)) (pa_cons (pe_ix ix_list (pv 5) pe_int (fun _ _ => rfl)) pa_nil)))))))
      pss_nil)
    (pss_cons (ps_set (i := 7) sc_law_area.nd rfl (by first | exact Or.inl rfl | exact Or.inr rfl) (pe_call (ok_law_draw T) (hr.mono (by decide)) (by rfl) T.g_law_draw T.F_law_draw.kp (T.b_law_draw) .nil pass0 (pa_cons (pv 0) (pa_cons pe_int pa_nil))))
    (pss_cons (ps_if (pt_cmpR op_lt (pv 7) pe_int (by first | exact nomark _ | rfl))
      (pss_one (ps_ret (pe_tup (pa_cons pe_str (pa_cons (pv 2) (pa_cons (pe_ix ix_list (pv 3) pe_int (fun _ _ => rfl)) (pa_cons (pe_ix ix_list (pv 4) pe_int (fun _ _ => rfl)) (pa_cons (pe_ix ix_list (pv 5) pe_int (fun _ _ => rfl)) (pa_cons (pe_ix ix_list (pv 5) pe_int (fun _ _ => rfl)) pa_nil)))))))))
      pss_nil)
    (pss_cons (ps_if (pt_cmpR op_lt (pv 7) pe_int (by first | exact nomark _ | rfl))
      (pss_one (ps_ret (pe_tup (pa_cons pe_str (pa_cons (pv 2) (pa_cons (pe_ix ix_list (pv 3) pe_int (fun _ _ => rfl)) (pa_cons (pe_ix ix_list (pv 4) pe_int (fun _ _ => rfl)) (pa_cons (pe_ix ix_list (pv 3) pe_int (fun _ _ => rfl)) (pa_cons (pe_ix ix_list (pv 4) pe_int (fun _ _ => rfl)) (pa_cons (pe_ix ix_list (pv 5) pe_int (fun _ _ => rfl)) (pa_cons (pe_ix ix_list (pv 5) pe_int (fun _ _ => rfl)) (pa_cons (pe_ix ix_list (pv 5) pe_int (fun _ _ => rfl)) (pa_cons (pe_ix ix_list (pv 5) pe_int (fun _ _ => rfl)) pa_nil)))))))))))))
      pss_nil)
    (pss_cons (ps_if (pt_cmpR op_eq (pv 7) pe_int (by first | exact nomark _ | rfl))
      (pss_one (ps_ret (pe_tup (pa_cons pe_str (pa_cons (pv 2) (pa_cons (pe_ix ix_list (pv 3) pe_int (fun _ _ => rfl)) (pa_cons (pe_ix ix_list (pv 3) pe_int (fun _ _ => rfl)) (pa_cons (pe_ix ix_list (pv 5) pe_int (fun _ _ => rfl)) (pa_cons (pe_ix ix_list (pv 5) pe_int (fun _ _ => rfl)) pa_nil)))))))))
      pss_nil)
    (pss_one (ps_ret (pe_tup (pa_cons pe_str (pa_cons (pv 2) (pa_cons (pe_ix ix_list (pv 4) pe_int (fun _ _ => rfl)) (pa_cons (pe_ix ix_list (pv 4) pe_int (fun _ _ => rfl)) (pa_cons (pe_ix ix_list (pv 5) pe_int (fun _ _ => rfl)) (pa_cons (pe_ix ix_list (pv 5) pe_int (fun _ _ => rfl)) pa_nil)))))))))))))))))), ?_⟩
    refine seq_merge3 (C := (fun σ' H' => Hd (Bs K b c ns H H' ∧ ∃ (sh : Option Int) (lt ll : Addr) (t bo le ri : Int), H' lt = some (.lst [.int t, .int bo]) ∧ H' ll = some (.lst [.int le, .int ri]) ∧ (0 ≤ t ∧ t ≤ bo ∧ bo ≤ 19) ∧ (0 ≤ le ∧ le ≤ ri ∧ ri ≤ 9) ∧ σ' = [some (.ref b), some (.ref e), some (shV sh), some (.ref lt), some (.ref ll), none, none, none]))) ?tail ?rest
    case rest =>
      intro R tail
      obtain ⟨⟨ok1, ok2, ok3⟩, e0, e1, e2, e3, h0, h1, h2, h3, h4⟩ := id hp
      walk_at "run"
      refine ⟨_, _, rfl, Or.inl (SqL.of h3), ?_⟩
      walk_at "run"
      refine ⟨b, c, ns, _, rfl, hb, (by rw [List.length_map]; omega), fun n H1 b1 n0 n1 => ?_⟩
      refine atI_go (SqL.of (b1.lst hb h3 (shs_noI _))) n0 n1 fun v hv => ?_
      obtain ⟨sh, _, rfl⟩ := List.mem_map.mp hv
      clear hv n0 n1
      have k0 : ∀ {H' : Hp}, Bs K b c ns H H' → H' e = some (.lst [.ref e0, .ref e1, .ref e2, .ref e3, .int pl.md]) := fun x => x.lst hb h0 (len_noI (by show 5 ≠ 7; decide))
      have k1 : ∀ {H' : Hp}, Bs K b c ns H H' → SpanL K H' e0 pl.z0 pl.m0 := fun x => h1.keep hb x
      have k2 : ∀ {H' : Hp}, Bs K b c ns H H' → SpanL K H' e1 pl.z1 pl.m1 := fun x => h2.keep hb x
      have g0 := k0 b1
      have g1 := k1 b1
      walk_at "run"
      rename_i n1 H2 b2 n10 n11
      have B2 := b1.trans b2
      have g2 := k0 B2
      have g3 := k1 B2
      clear g0 g1
      walk_at "run"
      rename_i n2 H3 b3 n20 n21 p hp3
      have B3 := B2.trans b3
      refine ⟨_, [n1, n2], rfl, SqL.of upd_same, by show 2 < 64; decide, fun ns' p2 pm so hp4 => ?_⟩
      obtain ⟨t, bo, rfl, tb, ht, hbo⟩ := two_sorted pm so
      have B4 : Bs K b c ns H (upd (upd H3 p (.lst [.int n1, .int n2])) p2 (.lst [.int t, .int bo])) := (B3.new hp3).new hp4
      have hlt : upd (upd H3 p (.lst [.int n1, .int n2])) p2 (.lst [.int t, .int bo]) p2 = some (.lst [.int t, .int bo]) := upd_same
      have tb2 : 0 ≤ t ∧ t ≤ bo ∧ bo ≤ 19 := by omega
      have g4 := k0 B4
      have g5 := k2 B4
      clear g2 g3
      walk_at "run"
      rename_i n3 H5 b5 n30 n31
      have B5 := B4.trans b5
      have g6 := k0 B5
      have g7 := k2 B5
      clear g4 g5
      walk_at "run"
      rename_i n4 H6 b6 n40 n41 p5 hp5
      have B6 := B5.trans b6
      refine ⟨_, [n3, n4], rfl, SqL.of upd_same, by show 2 < 64; decide, fun ns' p6 pm2 so2 hp6 => ?_⟩
      obtain ⟨le, ri, rfl, lr, hle, hri⟩ := two_sorted pm2 so2
      have hlt2 := (same_upd (o := .lst [.int le, .int ri]) hp6) _ _ ((same_upd (o := .lst [.int n3, .int n4]) hp5) _ _ ((b5.trans b6).ints B4.2 (ks := [t, bo]) hlt))
      exact tail _ _ (.mk ⟨(B6.new hp5).new hp6, sh, p2, p6, t, bo, le, ri, hlt2, upd_same, tb2, by omega, rfl⟩)
    case tail =>
      intro σ H2 hc
      obtain ⟨b2, sh, lt, ll, t, bo, le, ri, hlt, hll, tb, lr, rfl⟩ := hc.get
      have k0 : ∀ {H' : Hp}, Bs K b c ns H H' → ∃ e0 e1 e2 e3, H' e = some (.lst [.ref e0, .ref e1, .ref e2, .ref e3, .int pl.md]) := fun x => by
        obtain ⟨ok, e0, e1, e2, e3, h0, _⟩ := hp.keep hb x
        exact ⟨e0, e1, e2, e3, h0⟩
      refine seq_merge2 (C := (fun σ' H' => Hd (Bs K b c ns H2 H' ∧ ∃ (lm : Addr) (m0 m1 m2 m3 : Bool) (u : Option V), H' lm = some (.lst [.bl m0, .bl m1, .bl m2, .bl m3]) ∧ (pl.md = 1 ∨ pl.md = 2 → m2 = m0 ∧ m3 = m1) ∧ σ' = [some (.ref b), some (.ref e), some (shV sh), some (.ref lt), some (.ref ll), some (.ref lm), u, none]))) ?tail2 ?rest2
      case rest2 =>
        intro R tail
        walk_at "run"
        rename_i D hD
        have hne := b2.2.ne hD
        refine lc_range (lo := 0) (n := _) (fun i H' => Hd (Bs K b c ns H2 H' ∧ ∃ bs : List Bool, H' D = some (.lst (bs.map V.bl)) ∧ bs.length = i ∧ (pl.md = 1 → ∀ x ∈ bs, x = false))) (.mk ⟨(Bs.refl b2.2).new hD, [], upd_same, rfl, fun _ x h => absurd h List.not_mem_nil⟩) (fun i H' hi hp2 => ?_) (fun H' hp2 => ?_)
        · obtain ⟨hb2, bs, hz, hl, hf⟩ := hp2.get
          obtain ⟨e0, e1, e2, e3, h0⟩ := k0 (b2.trans hb2)
          have fin : ∀ (x : Bool) (H4 : Hp), Bs K b c ns H2 H4 → H4 D = some (.lst (bs.map V.bl)) → (pl.md = 1 → x = false) → ∃ acc, H4 D = some (.lst acc) ∧ acc.length < sizeLine ∧ Hd (Bs K b c ns H2 (upd H4 D (.lst (acc ++ [V.bl x]))) ∧ ∃ bs : List Bool, (upd H4 D (.lst (acc ++ [V.bl x]))) D = some (.lst (bs.map V.bl)) ∧ bs.length = i + 1 ∧ (pl.md = 1 → ∀ x ∈ bs, x = false)) := fun x H4 b4 h4 hx => by
            refine ⟨_, h4, small1000 (by rw [List.length_map]; have : i < 4 := hi; omega), .mk ⟨b4.more b2.2 hD hne, bs ++ [x], ?_, ?_, fun hm y hy => ?_⟩⟩
            · rw [upd_same, List.map_append]
              rfl
            · rw [List.length_append, hl]
              rfl
            · rcases List.mem_append.mp hy with hy | hy
              · exact hf hm y hy
              · rw [List.mem_singleton.mp hy]
                exact hx hm
          walk_at "run"
          · exact fin true _ hb2 hz (fun h => by omega)
          · rename_i n4 H4 b4 n40 n41 n42
            obtain ⟨f0, f1, f2, f3, g0⟩ := k0 (b2.trans (hb2.trans b4))
            have hz4 := b4.1 _ _ (Ne.symm hne) hz
            walk_at "run"
            exact fin _ _ (hb2.trans b4) hz4 (fun h => by rw [h]; decide)
          · rename_i n4 H4 b4 n40 n41 n42
            exact fin false _ (hb2.trans b4) (b4.1 _ _ (Ne.symm hne) hz) (fun _ => rfl)
        · obtain ⟨hb2, bs, hz, hl, hf⟩ := hp2.get
          obtain ⟨e0, e1, e2, e3, h0⟩ := k0 (b2.trans hb2)
          have hl4 : bs.length = 4 := hl
          match bs, hl4 with
          | [x0, x1, x2, x3], _ =>
            have hz9 : H' D = some (.lst [.bl x0, .bl x1, .bl x2, .bl x3]) := hz
            walk_at "run"
            · rename_i p hp
              exact tail _ _ (.mk ⟨hb2.new hp, p, x0, x1, x0, x1, _, upd_same, fun _ => ⟨rfl, rfl⟩, rfl⟩)
            · rename_i h92
              refine tail _ _ (.mk ⟨hb2, D, x0, x1, x2, x3, _, hz9, fun h => ?_, rfl⟩)
              have h1 : pl.md = 1 := by omega
              rw [hf h1 x0 (by simp), hf h1 x1 (by simp), hf h1 x2 (by simp), hf h1 x3 (by simp)]
              exact ⟨rfl, rfl⟩
      case tail2 =>
        intro σ H3 hc3
        obtain ⟨b3, lm, m0, m1, m2, m3, u, hlm, hmk, rfl⟩ := hc3.get
        have hlt3 := b3.ints b2.2 (ks := [t, bo]) hlt
        have hll3 := b3.ints b2.2 (ks := [le, ri]) hll
        have b23 := b2.trans b3
        refine seq_merge (C := (fun σ' H' => Hd (Bs K b c ns H3 H' ∧ ∃ kd : Int, σ' = [some (.ref b), some (.ref e), some (shV sh), some (.ref lt), some (.ref ll), some (.ref lm), u, some (.int kd)]))) ?tail3 ?rest3
        case rest3 =>
          intro R tail
          walk_at "run"
          exact tail _ _ (.mk ⟨by assumption, _, rfl⟩)
        case tail3 =>
        intro σ H4 hc4
        obtain ⟨b4, kd, rfl⟩ := hc4.get
        have hlt4 : H4 lt = some (.lst [.int t, .int bo]) := b4.ints b3.2 (ks := [t, bo]) hlt3
        have hll4 : H4 ll = some (.lst [.int le, .int ri]) := b4.ints b3.2 (ks := [le, ri]) hll3
        have hlm4 : H4 lm = some (.lst [.bl m0, .bl m1, .bl m2, .bl m3]) := b4.lst b3.2 hlm (bls_noI [m0, m1, m2, m3])
        have B4 := b23.trans b4
        walk_at "run"
        all_goals (rename_i p9 hp9)
        · exact q _ (.area ⟨"cell", sh, [t, le], [m0, m1]⟩) _ (B4.new hp9) ⟨tv_area 1 _ (ok_cell (by omega) (by omega)) (SqT.of upd_same), AR.area (md_cell (by omega) (by omega))⟩ (by show 1 ≤ 17; decide)
        · exact q _ (.area ⟨"range", sh, [t, le, bo, ri], [m0, m1, m2, m3]⟩) _ (B4.new hp9) ⟨tv_area 1 _ (ok_range tb lr) (SqT.of upd_same), AR.area (md_range tb lr hmk)⟩ (by show 1 ≤ 17; decide)
        · exact q _ (.area ⟨"rows", sh, [t, bo], [m0, m2]⟩) _ (B4.new hp9) ⟨tv_area 1 _ (ok_rows tb) (SqT.of upd_same), AR.area (md_rows tb fun h => (hmk h).1)⟩ (by show 1 ≤ 17; decide)
        · exact q _ (.area ⟨"columns", sh, [le, ri], [m1, m3]⟩) _ (B4.new hp9) ⟨tv_area 1 _ (ok_cols lr) (SqT.of upd_same), AR.area (md_cols lr fun h => (hmk h).2)⟩ (by show 1 ≤ 17; decide)

theorem ok_law_filled (T : Txt K mg) : FnOk P w K mg base CX0 3 T.a_law_filled T.d_law_filled P_law_filled (sp_law_filled K) := by
  refine T.F_law_filled.ok sc_law_filled (fun vs H Q E h => ?_) (fun cdv A outer s H vs Q E hr h => ?_)
  · obtain ⟨b, c, ns, l, M, md, n, xs, ts, rfl, _⟩ := h
    rfl
  · obtain ⟨b, c, ns, l, M, md, n, xs, ts, rfl, hb, hl, tv, hM, q⟩ := h
    refine ⟨_, (pss_cons (ps_set (i := 3) sc_law_filled.nd rfl (by first | exact Or.inl rfl | exact Or.inr rfl) (pe_callTy call_list_of (by rfl) T.z_list (by decide +kernel) (pa_cons (pv 1) pa_nil)))
    (pss_cons (ps_for PassesOwn.never rfl (pi_range1 (by rfl) T.z_range (pa_cons (pe_op op_sub (pv 2) (pe_callB call_len_seq (by rfl) T.z_len (by decide +kernel) (pa_cons (pv 1) pa_nil))) pa_nil)) (pg_name (i := 4) sc_law_filled.nd rfl (by first | exact Or.inl rfl | exact Or.inr rfl))
      (pss_one (ps_expr (pe_bm PySem.F.plainAttrs_list PySem.F.slot_list_insert PySem.F.type_list_insert mt_insert (pv 3) (pa_cons (pe_call (ok_law_draw T) (hr.mono (by decide)) (by rfl) T.g_law_draw T.F_law_draw.kp (T.b_law_draw) .nil pass0 (pa_cons (pv 0) (pa_cons (pe_op op_add (pe_callB call_len_seq (by rfl) T.z_len (by decide +kernel) (pa_cons (pv 3) pa_nil)) pe_int) pa_nil))) (pa_cons (pe_tup (pa_cons pe_str pa_nil)) pa_nil))))))
    (pss_one (ps_ret (pe_callTy call_tuple_of (by rfl) T.z_tuple (by decide +kernel) (pa_cons (pv 3) pa_nil)))))), ?_⟩
    have lx := tv.len
    walk_at "run"
    refine ⟨_, xs, rfl, .inl (SqL.of hl), fun D hD => ?_⟩
    have hne := hb.ne hD
    walk_at "run"
    refine ⟨_, _, rfl, Or.inl (SqL.of ((same_upd hD) _ _ hl)), ?_⟩
    walk_at "run"
    refine for_range (lo := 0) (n := (M - (xs.length : Int)).toNat) (fun i σ H' => Hd (Bs K b c ns H H' ∧ ∃ (ys : List V) (us : List Tr) (u : Option V), H' D = some (.lst ys) ∧ TDs K md H' (n + 1) ys us ∧ us.length = ts.length + i ∧ Tr.szs us ≤ Tr.szs ts + i ∧ σ = [some (.ref b), some (.ref l), some (.int M), some (.ref D), u])) (.mk ⟨(by walk_at "bx"), xs, ts, none, upd_same, tv.keep (same_tk (same_upd hD)), rfl, Nat.le_refl _, rfl⟩) (fun i σ H' hi hp => ?_) (fun σ H' hp => ?_)
    · obtain ⟨hb2, ys, us, u, hy, ty, l1, l2, rfl⟩ := hp.get
      have ly := ty.len
      walk_at "run"
      refine ⟨.inl ⟨rfl, _, SqL.of hy⟩, ?_⟩
      walk_at "run"
      refine ⟨_, _, rfl, Or.inl (SqL.of hy), ?_⟩
      walk_at "run"
      rename_i j H2 b2 j0 j1 p hp5
      have hy2 := b2.1 _ _ (Ne.symm hne) hy
      have hy3 := (same_upd (o := .tup [.str "empty"]) hp5) _ _ hy2
      have ty3 := (ty.keep (b2.tk hb2.2)).keep (same_tk (K := K) (same_upd (o := .tup [.str "empty"]) hp5))
      have tu := ((ty3.take j.toNat).app (.one (td_emp n (SqT.of upd_same)))).app (ty3.drop j.toNat)
      have hzz := szs_split us j.toNat
      refine ⟨_, _, _, _, rfl, rfl, hy3, small1000 (by omega), j0, by omega, .mk ⟨((hb2.trans b2).new hp5).more hb hD hne, _, _, _, upd_same, tu.keep (lst_tk hy3), ?_, ?_, rfl⟩⟩
      · rw [List.length_append, List.length_append, List.length_take, List.length_drop]
        show _ + 1 + _ = _
        omega
      · rw [szs_app, szs_app, szs_cons, szs_nil]
        show _ + (1 + 0) + _ ≤ _
        omega
    · obtain ⟨hb2, ys, us, u, hy, ty, l1, l2, rfl⟩ := hp.get
      walk_at "run"
      refine ⟨_, _, rfl, Or.inl ⟨SqL.of hy, fun pt hpt => ?_⟩⟩
      exact q _ ys us _ (by walk_at "bx") (SqT.of upd_same) (ty.keep (same_tk (same_upd hpt))) (by omega) (by omega)

theorem ok_law_call (T : Txt K mg) : FnOk P w K mg base CX0 4 T.a_law_call T.d_law_call P_law_call (sp_law_call K) := by
  refine T.F_law_call.ok sc_law_call (fun vs H Q E h => ?_) (fun cdv A outer s H vs Q E hr h => ?_)
  · obtain ⟨b, c, ns, e, pl, l, n, xs, ts, rfl, _⟩ := h
    rfl
  · obtain ⟨b, c, ns, e, pl, l, n, xs, ts, rfl, hb, hp, hl, tv, hn, q⟩ := h
    refine ⟨_, (pss_cons (ps_set (i := 3) sc_law_call.nd rfl (by first | exact Or.inl rfl | exact Or.inr rfl) (pe_call (ok_law_draw T) (hr.mono (by decide)) (by rfl) T.g_law_draw T.F_law_draw.kp (T.b_law_draw) .nil pass0 (pa_cons (pv 0) (pa_cons (pe_callB call_len_seq (by rfl) T.z_len (by decide +kernel) (pa_cons (pe_ix ix_list (pv 1) pe_int (fun _ _ => rfl)) pa_nil)) pa_nil))))
    (pss_cons (ps_set (i := 4) sc_law_call.nd rfl (by first | exact Or.inl rfl | exact Or.inr rfl) (pe_callB call_len_seq (by rfl) T.z_len (by decide +kernel) (pa_cons (pv 2) pa_nil)))
    (pss_cons (ps_if (pt_cmpR op_eq (pv 4) pe_int (by first | exact nomark _ | rfl))
      (pss_one (ps_set (i := 4) sc_law_call.nd rfl (by first | exact Or.inl rfl | exact Or.inr rfl) pe_int))
      pss_nil)
    (pss_cons (ps_set (i := 5) sc_law_call.nd rfl (by first | exact Or.inl rfl | exact Or.inr rfl) (pe_ix ix_list (pe_ix ix_list (pv 1) pe_int (fun _ _ => rfl)) (pv 3) (fun _ _ => rfl)))
    (pss_cons (ps_for PassesOwn.never rfl (pi_range1 (by rfl) T.z_range (pa_cons (pe_callB call_len_seq (by rfl) T.z_len (by decide +kernel) (pa_cons (pe_ix ix_list (pv 1) pe_int (fun _ _ => rfl)) pa_nil)) pa_nil)) (pg_name (i := 6) sc_law_call.nd rfl (by first | exact Or.inl rfl | exact Or.inr rfl))
      (pss_cons (ps_if (pt_cmpR op_ge (pe_ix ix_tup (pv 5) pe_int (fun _ _ => rfl)) (pv 4) (by first | exact nomark _ | rfl))
      (pss_one (ps_break))
      pss_nil)
    (pss_one (ps_set (i := 5) sc_law_call.nd rfl (by first | exact Or.inl rfl | exact Or.inr rfl) (pe_ix ix_list (pe_ix ix_list (pv 1) pe_int (fun _ _ => rfl)) (pe_op op_mod (pe_callTy call_int1 (by rfl) T.z_int (by decide +kernel) (pa_cons (pe_op op_add (pe_op op_add (pv 3) (pv 6)) pe_int) pa_nil)) (pe_callB call_len_seq (by rfl) T.z_len (by decide +kernel) (pa_cons (pe_ix ix_list (pv 1) pe_int (fun _ _ => rfl)) pa_nil))) (fun _ _ => rfl))))))
    (pss_cons (ps_set (i := 4) sc_law_call.nd rfl (by first | exact Or.inl rfl | exact Or.inr rfl) (pe_callB (call_max2 rfl) (by rfl) T.z_max (by decide +kernel) (pa_cons (pe_callTy call_int1 (by rfl) T.z_int (by decide +kernel) (pa_cons (pe_ix ix_tup (pv 5) pe_int (fun _ _ => rfl)) pa_nil)) (pa_cons (pe_callTy call_int1 (by rfl) T.z_int (by decide +kernel) (pa_cons (pv 4) pa_nil)) pa_nil))))
    (pss_cons (ps_if (pt_cmpR op_eq (pe_call (ok_law_draw T) (hr.mono (by decide)) (by rfl) T.g_law_draw T.F_law_draw.kp (T.b_law_draw) .nil pass0 (pa_cons (pv 0) (pa_cons pe_int pa_nil))) pe_int (by first | exact nomark _ | rfl))
      (pss_one (ps_set (i := 4) sc_law_call.nd rfl (by first | exact Or.inl rfl | exact Or.inr rfl) (pe_op op_add (pv 4) (pe_call (ok_law_draw T) (hr.mono (by decide)) (by rfl) T.g_law_draw T.F_law_draw.kp (T.b_law_draw) .nil pass0 (pa_cons (pv 0) (pa_cons (pe_op op_add (pe_op op_sub (pe_ix ix_tup (pv 5) pe_int (fun _ _ => rfl)) (pv 4)) pe_int) pa_nil))))))
      pss_nil)
    (pss_one (ps_ret (pe_tup (pa_cons pe_str (pa_cons (pe_ix ix_tup (pv 5) pe_int (fun _ _ => rfl)) (pa_cons (pe_call (ok_law_filled T) (hr.mono (by decide)) (by rfl) T.g_law_filled T.F_law_filled.kp (T.b_law_filled) .nil pass0 (pa_cons (pv 0) (pa_cons (pv 2) (pa_cons (pv 4) pa_nil)))) pa_nil))))))))))))), ?_⟩
    have ln := tv.len
    have k0 : ∀ {H' : Hp}, Bs K b c ns H H' → PlL K H' e pl := fun x => hp.keep hb x
    have kL : ∀ {H' : Hp}, Bs K b c ns H H' → H' l = some (.lst xs) := fun x => x.lst hb hl tv.noI
    have kT : ∀ {H' : Hp}, Bs K b c ns H H' → TDs K pl.md H' (n + 1) xs ts := fun x => tv.keep (x.tk hb)
    refine seq_merge3 (C := (fun σ' H' => Hd (Bs K b c ns H H' ∧ ∃ (st m : Int), (0 ≤ st ∧ st < 95) ∧ (1 ≤ m ∧ (ts.length : Int) ≤ m ∧ m ≤ 16) ∧ σ' = [some (.ref b), some (.ref e), some (.ref l), some (.int st), some (.int m), none, none]))) ?tail ?rest
    case rest =>
      intro R tail
      obtain ⟨ok, e0, e1, e2, e3, h0, h1, h2, h3, ⟨ws, h4, h5⟩⟩ := id hp
      have lw := h5.len
      rw [words_len] at lw
      walk_at "run"
      refine ⟨_, _, rfl, Or.inl (SqL.of h4), ?_⟩
      walk_at "run"
      rename_i st H1 b1 st0 st1
      refine ⟨_, _, rfl, Or.inl (SqL.of (kL b1)), ?_⟩
      walk_at "run"
      · exact tail _ _ (.mk ⟨b1, st, 2, by omega, by omega, rfl⟩)
      · exact tail _ _ (.mk ⟨b1, st, _, by omega, by omega, rfl⟩)
    case tail =>
    intro σ0 H1 hc0
    obtain ⟨b1, st, m, hst, hm0, rfl⟩ := hc0.get
    refine seq_merge2 (C := (fun σ' H' => Hd (H' = H1 ∧ ∃ (wa : Addr) (k : Nat) (u : Option V), k < 95 ∧ SqT K H1 wa [.str (wordAt k).1, .int (wordAt k).2.1, .int (wordAt k).2.2] ∧ m ≤ (wordAt k).2.2 ∧ σ' = [some (.ref b), some (.ref e), some (.ref l), some (.int st), some (.int m), some (.ref wa), u]))) ?tail2 ?rest2
    case rest2 =>
      intro R tail
      obtain ⟨ok, e0, e1, e2, e3, h0, h1, h2, h3, ⟨ws, h4, h5⟩⟩ := id (k0 b1)
      have lw := h5.len
      rw [words_len] at lw
      have wd : ∀ {j : Int} {k : Nat}, j = (k : Int) → k < 95 → ∃ wa, atI ws j = some (.ref wa) ∧ SqT K H1 wa [.str (wordAt k).1, .int (wordAt k).2.1, .int (wordAt k).2.2] := fun {j k} ej hk => by
        have e1 : ws[k]? = some (ws[k]'(by omega)) := List.getElem?_eq_getElem (by omega)
        obtain ⟨w9, ew, pw, ep, hw⟩ := A2.get h5 e1
        rw [words_at hk] at ew
        cases ew
        rw [ep] at e1
        exact ⟨pw, atI_at ej e1, hw⟩
      obtain ⟨k, rfl⟩ : ∃ k : Nat, st = (k : Int) := ⟨st.toNat, by omega⟩
      walk_at "run"
      obtain ⟨wa, ea, hwa⟩ := wd (j := (k : Int)) rfl (by omega)
      refine ⟨_, _, _, _, rfl, rfl, SqL.of h4, ea, ?_⟩
      walk_at "run"
      refine ⟨_, _, rfl, Or.inl (SqL.of h4), ?_⟩
      rw [lw]
      walk_at "run"
      refine for_range (lo := 0) (n := 95) (fun i σ H' => Hd (H' = H1 ∧ ∃ (wa : Addr) (u : Option V), SqT K H1 wa [.str (wordAt ((k + i) % 95)).1, .int (wordAt ((k + i) % 95)).2.1, .int (wordAt ((k + i) % 95)).2.2] ∧ (∀ q, q < i → (wordAt ((k + q) % 95)).2.2 < m) ∧ σ = [some (.ref b), some (.ref e), some (.ref l), some (.int (k : Int)), some (.int m), some (.ref wa), u])) (.mk ⟨rfl, wa, none, ?_, fun q hq => absurd hq (Nat.not_lt_zero _), rfl⟩) (fun i σ H' hi hp2 => ?_) (fun σ H' hp2 => ?_)
      · rw [show (k + 0) % 95 = k by omega]
        exact hwa
      · obtain ⟨rfl, wa, u, hwa, hlt, rfl⟩ := hp2.get
        walk_at "run"
        · rename_i hge
          exact tail _ _ (.mk ⟨rfl, wa, (k + i) % 95, _, by omega, hwa, hge, rfl⟩)
        · rename_i hge
          refine ⟨_, _, rfl, Or.inl (SqL.of h4), ?_⟩
          rw [lw]
          walk_at "run"
          obtain ⟨wa2, ea2, hwa2⟩ := wd (j := ((k : Int) + (0 + (i : Int)) + 1) % 95) (k := (k + (i + 1)) % 95) (by omega) (by omega)
          refine ⟨_, _, _, _, rfl, rfl, SqL.of h4, ea2, ?_⟩
          refine .mk ⟨rfl, wa2, _, hwa2, fun q hq => ?_, rfl⟩
          by_cases hq2 : q = i
          · rw [hq2]
            omega
          · exact hlt q (by omega)
      · obtain ⟨rfl, wa, u, hwa, hlt, rfl⟩ := hp2.get
        exfalso
        have h9 := hlt ((11 + 95 - k) % 95) (by omega)
        rw [show (k + (11 + 95 - k) % 95) % 95 = 11 by omega, words_16] at h9
        omega
    case tail2 =>
      intro σ1 H1' hc
      obtain ⟨rfl, wa, k, u, hk, hw, hm, rfl⟩ := hc.get
      obtain ⟨_, w1, w2, w3⟩ := word_ok hk
      have q1 := k0 b1
      refine seq_merge2 (C := (fun σ' H' => Hd (Bs K b c ns H1' H' ∧ ∃ (m2 : Int), ((ts.length : Int) ≤ m2 ∧ m2 ≤ 16) ∧ σ' = [some (.ref b), some (.ref e), some (.ref l), some (.int st), some (.int m2), some (.ref wa), u]))) ?tail3 ?rest3
      case rest3 =>
        intro R tail
        walk_at "run"
        · rename_i n2 H2 b2 n20 n21 n22
          have hw2 := b2.tk b1.2 _ _ hw
          walk_at "run"
          rename_i n3 H3 b3 n30 n31
          exact tail _ _ (.mk ⟨b2.trans b3, _, (by split at n31 <;> split <;> omega), rfl⟩)
        · rename_i n2 H2 b2 n20 n21 n22
          exact tail _ _ (.mk ⟨b2, _, (by split <;> omega), rfl⟩)
      case tail3 =>
      intro σ2 H2 hc2
      obtain ⟨b2, m2, hm2, rfl⟩ := hc2.get
      have B2 := b1.trans b2
      have hw2 := b2.tk b1.2 _ _ hw
      walk_at "run"
      refine ⟨b, c, ns, l, m2, pl.md, n, xs, ts, rfl, B2.2, kL B2, kT B2, hm2, fun p ys us H5 b5 hp5 ty lu zu => ?_⟩
      walk_at "run"
      rename_i pr hpr
      have hp6 := same_tk (K := K) (same_upd (o := .tup [.str "call", .str (wordAt k).1, .ref p]) hpr) _ _ hp5
      refine q _ (.call (.str (wordAt k).1) us) _ ((B2.trans b5).new hpr) (TD.mk_call (SqT.of upd_same) (.str _) (fitD_str _ _) hp6 (ty.keep (same_tk (same_upd hpr))) (by omega)) ?_
      show Tr.szs us + 1 ≤ _
      omega

theorem ok_law_let (T : Txt K mg) : FnOk P w K mg base CX0 4 T.a_law_let T.d_law_let P_law_let (sp_law_let K) := by
  refine T.F_law_let.ok sc_law_let (fun vs H Q E h => ?_) (fun cdv A outer s H vs Q E hr h => ?_)
  · obtain ⟨b, c, ns, e, pl, l, n, xs, ts, rfl, _⟩ := h
    rfl
  · obtain ⟨b, c, ns, e, pl, l, n, xs, ts, rfl, hb, hp, hl, tv, hn, q⟩ := h
    refine ⟨_, (pss_cons (ps_set (i := 3) sc_law_let.nd rfl (by first | exact Or.inl rfl | exact Or.inr rfl) (pe_callB call_len_seq (by rfl) T.z_len (by decide +kernel) (pa_cons (pv 2) pa_nil)))
    (pss_cons (ps_if (PW.pt (pw_or (pt_cmpR op_lt (pv 3) pe_int (by first | exact nomark _ | rfl)) (pw_or1 (pt_cmpR op_eq (pe_call (ok_law_draw T) (hr.mono (by decide)) (by rfl) T.g_law_draw T.F_law_draw.kp (T.b_law_draw) .nil pass0 (pa_cons (pv 0) (pa_cons pe_int pa_nil))) pe_int (by first | exact nomark _ | rfl)))))
      (pss_one (ps_set (i := 3) sc_law_let.nd rfl (by first | exact Or.inl rfl | exact Or.inr rfl) (pe_callB (call_max2 rfl) (by rfl) T.z_max (by decide +kernel) (pa_cons pe_int (pa_cons (pe_callTy call_int1 (by rfl) T.z_int (by decide +kernel) (pa_cons (pe_op op_add (pv 3) (pe_call (ok_law_draw T) (hr.mono (by decide)) (by rfl) T.g_law_draw T.F_law_draw.kp (T.b_law_draw) .nil pass0 (pa_cons (pv 0) (pa_cons (pe_op op_sub pe_int (pv 3)) pa_nil)))) pa_nil)) pa_nil)))))
      pss_nil)
    (pss_cons (ps_set (i := 4) sc_law_let.nd rfl (by first | exact Or.inl rfl | exact Or.inr rfl) (pe_call (ok_law_filled T) (hr.mono (by decide)) (by rfl) T.g_law_filled T.F_law_filled.kp (T.b_law_filled) .nil pass0 (pa_cons (pv 0) (pa_cons (pv 2) (pa_cons (pv 3) pa_nil)))))
    (pss_one (ps_ret (pe_tup (pa_cons pe_str (pa_cons (pe_callTy call_tuple_of (by rfl) T.z_tuple (by decide +kernel) (pa_cons (pe_lc (own := [("k", 5)]) (g := gName 5) (tt := tYes) rfl sc_law_let.nd (pi_range1 (by rfl) T.z_range (pa_cons (pe_op op_sub (pv 3) pe_int) pa_nil)) (blkOk_by (N := N_law_let) (sc := defScope s_law_let) (by decide +kernel)) (fun _ _ _ _ _ => pg_name (i := 5) sc_law_let.nd rfl (Or.inl rfl)) (fun _ _ _ _ _ => pts_nil) (fun _ _ _ _ _ => (pe_call (ok_law_name T) (hr.mono (by decide)) (by rfl) T.g_law_name T.F_law_name.kp (T.b_law_name) .nil pass0 (pa_cons (pv 0) (pa_cons (pv 1) pa_nil))))) pa_nil)) (pa_cons (pe_slice sl_tupA (pv 4) po_none (po_some (pe_un un_neg pe_int))) (pa_cons (pe_ix ix_tup (pv 4) (pe_un un_neg pe_int) (fun _ _ => rfl)) pa_nil)))))))))), ?_⟩
    have ln := tv.len
    have k0 : ∀ {H' : Hp}, Bs K b c ns H H' → PlL K H' e pl := fun x => hp.keep hb x
    have kL : ∀ {H' : Hp}, Bs K b c ns H H' → H' l = some (.lst xs) := fun x => x.lst hb hl tv.noI
    have kT : ∀ {H' : Hp}, Bs K b c ns H H' → TDs K pl.md H' (n + 1) xs ts := fun x => tv.keep (x.tk hb)
    refine seq_merge2 (C := (fun σ' H' => Hd (Bs K b c ns H H' ∧ ∃ (m : Int), ((ts.length : Int) ≤ m ∧ 2 ≤ m ∧ m ≤ 8) ∧ σ' = [some (.ref b), some (.ref e), some (.ref l), some (.int m), none, none]))) ?tail ?rest
    case rest =>
      intro R tail
      walk_at "run"
      refine ⟨_, _, rfl, Or.inl (SqL.of hl), ?_⟩
      walk_at "run"
      · exact tail _ _ (.mk ⟨by walk_at "bx", _, (by split <;> omega), rfl⟩)
      · exact tail _ _ (.mk ⟨by walk_at "bx", _, (by split <;> omega), rfl⟩)
      · exact tail _ _ (.mk ⟨by walk_at "bx", _, by omega, rfl⟩)
    case tail =>
      intro σ H1 hc
      obtain ⟨b1, m, hm, rfl⟩ := hc.get
      walk_at "run"
      refine ⟨b, c, ns, l, m, pl.md, n, xs, ts, rfl, b1.2, kL b1, kT b1, by omega, fun p ys us H2 b2 hp2 ty lu zu => ?_⟩
      walk_at "run"
      rename_i D hD
      have B2 := b1.trans b2
      have hneD := B2.2.ne hD
      refine lc_range (lo := 0) (n := _) (fun j H3 => Hd (Bs K b c ns H2 H3 ∧ ∃ zs : List Str, H3 D = some (.lst (zs.map V.str)) ∧ (zs.length = j ∧ ∀ z ∈ zs, upS z))) (.mk ⟨(Bs.refl B2.2).new hD, [], upd_same, rfl, fun z hz => absurd hz List.not_mem_nil⟩) (fun j H3 hj hp3 => ?_) (fun H3 hp3 => ?_)
      · obtain ⟨hb3, zs, hy, hl2, hu⟩ := hp3.get
        have q3 := k0 (B2.trans hb3)
        walk_at "run"
        refine ⟨b, c, ns, e, pl, rfl, hb3.2, q3, fun z H4 b4 uz => ?_⟩
        have hy2 := b4.1 _ _ (Ne.symm hneD) hy
        refine ⟨zs.map V.str, hy2, small1000 (by rw [List.length_map]; omega), .mk ⟨(hb3.trans b4).more B2.2 hD hneD, zs ++ [z], by rw [List.map_append]; exact upd_same, by rw [List.length_append, hl2]; rfl, fun y hy => (List.mem_append.mp hy).elim (hu y) (fun h => by rw [List.mem_singleton.mp h]; exact uz)⟩⟩
      · obtain ⟨hb3, zs, hy, hl2, hu⟩ := hp3.get
        have ly := ty.len
        obtain ⟨ys, y, us, u, rfl, rfl, wi, wl⟩ := TDs.last ty (by omega)
        have hp4 := hb3.tk B2.2 _ _ hp2
        walk_at "run"
        refine ⟨_, _, rfl, Or.inl ⟨SqL.of hy, fun pw hpw => ?_⟩⟩
        have hp5 := same_tk (K := K) (same_upd (o := .tup (zs.map V.str)) hpw) _ _ hp4
        walk_at "run"
        refine ⟨_, _, rfl, hp5, (fun h => ?_), fun _ pc hpc => ?_⟩
        · exfalso
          have h9 := h.2
          rw [sIx_m1, List.length_append] at h9
          have h8 : [y].length = 1 := rfl
          omega
        rw [cut_init]
        walk_at "run"
        refine ⟨_, _, _, _, rfl, rfl, same_tk (same_upd hpc) _ _ hp5, atI_last _ _, ?_⟩
        walk_at "run"
        rename_i pr hpr
        have s4 := ((same_upd (o := .tup (zs.map V.str)) hpw).trans (same_upd (o := .tup ys) hpc)).trans (same_upd (o := .tup [.str "let", .ref pw, .ref pc, y]) hpr)
        have tk := (hb3.tk (K := K) B2.2).trans (same_tk s4)
        have hlu : us.length + 1 = (us ++ [u]).length := by rw [List.length_append]; rfl
        refine q _ (.letk (.tuple (zs.map PyData.str)) us u) _ ((B2.trans hb3).same s4) (TD.mk_let (SqT.of upd_same) (.tup (SqT.of ((same_upd hpr) _ _ ((same_upd hpc) _ _ upd_same))) (dp_strs zs)) (fitD_strs 2 zs (by omega) hu) (SqT.of ((same_upd hpr) _ _ upd_same)) (wi.keep tk) (by omega) (wl.keep tk)) ?_
        rw [szs_app, szs_cons, szs_nil] at zu
        show Tr.szs us + u.sz + 1 ≤ _
        omega

theorem ok_law_lambda (T : Txt K mg) : FnOk P w K mg base CX0 4 T.a_law_lambda T.d_law_lambda P_law_lambda (sp_law_lambda K) := by
  refine T.F_law_lambda.ok sc_law_lambda (fun vs H Q E h => ?_) (fun cdv A outer s H vs Q E hr h => ?_)
  · obtain ⟨b, c, ns, e, pl, v, n, u, rfl, _⟩ := h
    rfl
  · obtain ⟨b, c, ns, e, pl, v, n, u, rfl, hb, hp, tv, q⟩ := h
    refine ⟨_, (pss_cons (ps_set (i := 3) sc_law_lambda.nd rfl (by first | exact Or.inl rfl | exact Or.inr rfl) (pe_lst pa_nil))
    (pss_cons (ps_for PassesOwn.never rfl (pi_range1 (by rfl) T.z_range (pa_cons (pe_call (ok_law_draw T) (hr.mono (by decide)) (by rfl) T.g_law_draw T.F_law_draw.kp (T.b_law_draw) .nil pass0 (pa_cons (pv 0) (pa_cons pe_int pa_nil))) pa_nil)) (pg_name (i := 4) sc_law_lambda.nd rfl (by first | exact Or.inl rfl | exact Or.inr rfl))
      (pss_cons (ps_set (i := 5) sc_law_lambda.nd rfl (by first | exact Or.inl rfl | exact Or.inr rfl) (pe_call (ok_law_name T) (hr.mono (by decide)) (by rfl) T.g_law_name T.F_law_name.kp (T.b_law_name) .nil pass0 (pa_cons (pv 0) (pa_cons (pv 1) pa_nil))))
    (pss_one (ps_if (pt_cmpR op_notIn_seq (pv 5) (pv 3) (by first | exact nomark _ | rfl))
      (pss_one (ps_expr (pe_bm PySem.F.plainAttrs_list PySem.F.slot_list_append PySem.F.type_list_append mt_append (pv 3) (pa_cons (pv 5) pa_nil))))
      pss_nil))))
    (pss_cons (ps_if (PW.pt (pw_and (pt_cmpR op_eq (pe_callB call_len_seq (by rfl) T.z_len (by decide +kernel) (pa_cons (pv 3) pa_nil)) pe_int (by first | exact nomark _ | rfl)) (pw_and1 (pt_cmpR op_eq (pe_ix ix_tup (pv 2) pe_int (fun _ _ => rfl)) pe_str (by first | exact nomark _ | rfl)))))
      (pss_one (ps_expr (pe_bm PySem.F.plainAttrs_list PySem.F.slot_list_append PySem.F.type_list_append mt_append (pv 3) (pa_cons (pe_call (ok_law_name T) (hr.mono (by decide)) (by rfl) T.g_law_name T.F_law_name.kp (T.b_law_name) .nil pass0 (pa_cons (pv 0) (pa_cons (pv 1) pa_nil))) pa_nil))))
      pss_nil)
    (pss_one (ps_ret (pe_tup (pa_cons pe_str (pa_cons (pe_callTy call_tuple_of (by rfl) T.z_tuple (by decide +kernel) (pa_cons (pv 3) pa_nil)) (pa_cons (pv 2) pa_nil))))))))), ?_⟩
    have k0 : ∀ {H' : Hp}, Bs K b c ns H H' → PlL K H' e pl := fun x => hp.keep hb x
    have kT : ∀ {H' : Hp}, Bs K b c ns H H' → TD K pl.md H' (n + 1) v u := fun x => tv.keep (x.tk hb)
    obtain ⟨pv, zk, xk, rfl, hkk⟩ := tv.1.kind
    walk_at "run"
    rename_i D hD
    have hne := hb.ne hD
    refine ⟨b, c, ns, 9, rfl, by walk_at "bat", by decide, fun cnt H1 b1 c0 c1 => ?_⟩
    walk_at "run"
    have B1 : Bs K b c ns H H1 := ((Bs.refl hb).new hD).trans b1
    have hD1 : H1 D = some (.lst []) := b1.1 _ _ (Ne.symm hne) upd_same
    refine for_range (lo := 0) (n := cnt.toNat) (fun i σ H' => Hd (Bs K b c ns H H' ∧ ∃ (zs : List Str) (u1 u2 : Option V), H' D = some (.lst (zs.map V.str)) ∧ (zs.length ≤ i ∧ ∀ z ∈ zs, upS z) ∧ σ = [some (.ref b), some (.ref e), some (.ref pv), some (.ref D), u1, u2])) (.mk ⟨B1, [], none, none, hD1, ⟨Nat.le_refl _, fun z hz => absurd hz List.not_mem_nil⟩, rfl⟩) (fun i σ H' hi hp => ?_) (fun σ H' hp => ?_)
    · obtain ⟨hb2, zs, u1, u2, hz, ⟨hl, hu⟩, rfl⟩ := hp.get
      have p2 := k0 hb2
      walk_at "run"
      refine ⟨b, c, ns, e, pl, rfl, hb2.2, p2, fun z H2 b2 uz => ?_⟩
      have B2 := hb2.trans b2
      have hz2 := b2.1 _ _ (Ne.symm hne) hz
      walk_at "run"
      refine ⟨_, _, rfl, .inl (SqL.of hz2), rfl, flat_strs zs, ?_⟩
      walk_at "run"
      · refine ⟨.inl ⟨rfl, _, SqL.of hz2⟩, ?_⟩
        walk_at "run"
        refine ⟨_, _, _, rfl, rfl, hz2, small1000 (by rw [List.length_map]; omega), .mk ⟨B2.more hb hD hne, zs ++ [z], _, _, ?_, ?_, rfl⟩⟩
        · rw [List.map_append]
          exact upd_same
        · rw [List.length_append]
          exact ⟨Nat.add_le_add_right hl 1, fun y hy => (List.mem_append.mp hy).elim (hu y) (fun h => by rw [List.mem_singleton.mp h]; exact uz)⟩
      · exact .mk ⟨B2, zs, _, _, hz2, ⟨by omega, hu⟩, rfl⟩
    · obtain ⟨hb2, zs, u1, u2, hz, ⟨hl, hu⟩, rfl⟩ := hp.get
      have t2 := kT hb2
      have hk2 := hb2.tk hb _ _ hkk
      have fin : ∀ (zs : List Str) (σ : L2.St) (H1 : Hp), Bs K b c ns H H1 → H1 D = some (.lst (zs.map V.str)) → zs.length ≤ 20 → (∀ z ∈ zs, upS z) → σ = [some (.ref b), some (.ref e), some (.ref pv), some (.ref D), u1, u2] → (tRet (tTup (tCons (tC (.str "lambda")) (tCons (tCB (fun xs H Q => ∃ p ys, xs = [V.ref p] ∧ ((SqL K H p ys ∧ ∀ l : Addr, H l = none → Q (.ref l) (upd H l (.tup ys))) ∨ SqT K H p ys ∧ Q (.ref p) H)) (tCons (tVar 3) tNil)) (tCons (tVar 2) tNil))))) { nx := fun x H' => Q V.non H', rt := Q } σ H1 := fun zs σ H1 B1 hz1 hl1 hu1 e => by
        subst e
        walk_at "run"
        refine ⟨_, _, rfl, Or.inl ⟨SqL.of hz1, fun pt hpt => ?_⟩⟩
        walk_at "run"
        rename_i pr hpr
        have s4 := (same_upd (o := .tup (zs.map V.str)) hpt).trans (same_upd (o := .tup [.str "lambda", .ref pt, .ref pv]) hpr)
        refine q _ (.one "lambda" (.tuple (zs.map PyData.str)) u) _ (B1.same s4) (TD.mk_one (SqT.of upd_same) (.inr rfl) (.tup (SqT.of ((same_upd hpr) _ _ upd_same)) (dp_strs zs)) (fitD_strs 2 zs (by omega) hu1) ((kT B1).keep (same_tk s4))) ?_
        show u.sz + 1 ≤ _
        omega
      walk_at "run"
      refine ⟨_, _, rfl, Or.inl (SqL.of hz), ?_⟩
      walk_at "run"
      · refine ⟨.inl ⟨rfl, _, SqL.of hz⟩, ?_⟩
        walk_at "run"
        refine ⟨b, c, ns, e, pl, rfl, hb2.2, k0 hb2, fun z H2 b2 uz => ?_⟩
        have B2 := hb2.trans b2
        have hz2 := b2.1 _ _ (Ne.symm hne) hz
        refine ⟨_, _, _, rfl, rfl, hz2, small1000 (by rw [List.length_map]; omega), ?_⟩
        refine fin (zs ++ [z]) _ _ (B2.more hb hD hne) (by rw [List.map_append]; exact upd_same) (by rw [List.length_append]; show _ + 1 ≤ 20; omega) (fun y hy => (List.mem_append.mp hy).elim (hu y) (fun h => by rw [List.mem_singleton.mp h]; exact uz)) rfl
      · refine ⟨_, _, rfl, Or.inl ⟨SqL.of hz, fun pt hpt => ?_⟩⟩
        walk_at "run"
        rename_i pr hpr
        have s4 := (same_upd (o := .tup (zs.map V.str)) hpt).trans (same_upd (o := .tup [.str "lambda", .ref pt, .ref pv]) hpr)
        refine q _ (.one "lambda" (.tuple (zs.map PyData.str)) u) _ (hb2.same s4) (TD.mk_one (SqT.of upd_same) (.inr rfl) (.tup (SqT.of ((same_upd hpr) _ _ upd_same)) (dp_strs zs)) (fitD_strs 2 zs (by omega) hu) ((kT hb2).keep (same_tk s4))) ?_
        show u.sz + 1 ≤ _
        omega
      · refine ⟨_, _, rfl, Or.inl ⟨SqL.of hz, fun pt hpt => ?_⟩⟩
        walk_at "run"
        rename_i pr hpr
        have s4 := (same_upd (o := .tup (zs.map V.str)) hpt).trans (same_upd (o := .tup [.str "lambda", .ref pt, .ref pv]) hpr)
        refine q _ (.one "lambda" (.tuple (zs.map PyData.str)) u) _ (hb2.same s4) (TD.mk_one (SqT.of upd_same) (.inr rfl) (.tup (SqT.of ((same_upd hpr) _ _ upd_same)) (dp_strs zs)) (fitD_strs 2 zs (by omega) hu) ((kT hb2).keep (same_tk s4))) ?_
        show u.sz + 1 ≤ _
        omega

theorem ok_law_leaf (T : Txt K mg) : FnOk P w K mg base CX0 6 T.a_law_leaf T.d_law_leaf P_law_leaf (sp_law_leaf K) := by
  refine T.F_law_leaf.ok sc_law_leaf (fun vs H Q E h => ?_) (fun cdv A outer s H vs Q E hr h => ?_)
  · obtain ⟨b, c, ns, e, pl, rfl, _⟩ := h
    rfl
  · obtain ⟨b, c, ns, e, pl, rfl, hb, hp, q⟩ := h
    refine ⟨_, (pss_cons (ps_set (i := 2) sc_law_leaf.nd rfl (by first | exact Or.inl rfl | exact Or.inr rfl) (pe_call (ok_law_draw T) (hr.mono (by decide)) (by rfl) T.g_law_draw T.F_law_draw.kp (T.b_law_draw) .nil pass0 (pa_cons (pv 0) (pa_cons pe_int pa_nil))))
    (pss_cons (ps_if (pt_cmpR op_lt (pv 2) pe_int (by first | exact nomark _ | rfl))
      (pss_one (ps_ret (pe_call (ok_law_area T) (hr.mono (by decide)) (by rfl) T.g_law_area T.F_law_area.kp (T.b_law_area) .nil pass0 (pa_cons (pv 0) (pa_cons (pv 1) pa_nil)))))
      pss_nil)
    (pss_cons (ps_if (pt_cmpR op_eq (pv 2) pe_int (by first | exact nomark _ | rfl))
      (pss_one (ps_ret (pe_tup (pa_cons pe_str (pa_cons (pe_call (ok_law_name T) (hr.mono (by decide)) (by rfl) T.g_law_name T.F_law_name.kp (T.b_law_name) .nil pass0 (pa_cons (pv 0) (pa_cons (pv 1) pa_nil))) pa_nil)))))
      pss_nil)
    (pss_cons (ps_if (pt_cmpR op_eq (pv 2) pe_int (by first | exact nomark _ | rfl))
      (pss_one (ps_ret (pe_call (ok_law_array T) (hr.mono (by decide)) (by rfl) T.g_law_array T.F_law_array.kp (T.b_law_array) .nil pass0 (pa_cons (pv 0) pa_nil))))
      pss_nil)
    (pss_cons (ps_if (pt_cmpR op_eq (pv 2) pe_int (by first | exact nomark _ | rfl))
      (pss_cons (ps_set (i := 3) sc_law_leaf.nd rfl (by first | exact Or.inl rfl | exact Or.inr rfl) (pe_call (ok_law_draw T) (hr.mono (by decide)) (by rfl) T.g_law_draw T.F_law_draw.kp (T.b_law_draw) .nil pass0 (pa_cons (pv 0) (pa_cons pe_int pa_nil))))
    (pss_cons (ps_if (pt_cmpR op_lt (pv 3) pe_int (by first | exact nomark _ | rfl))
      (pss_one (ps_ret (pe_tup (pa_cons pe_str (pa_cons pe_str (pa_cons (pe_tup pa_nil) pa_nil))))))
      pss_nil)
    (pss_cons (ps_if (pt_cmpR op_eq (pv 3) pe_int (by first | exact nomark _ | rfl))
      (pss_one (ps_ret (pe_call (ok_law_call T) (hr.mono (by decide)) (by rfl) T.g_law_call T.F_law_call.kp (T.b_law_call) .nil pass0 (pa_cons (pv 0) (pa_cons (pv 1) (pa_cons (pe_lst pa_nil) pa_nil))))))
      pss_nil)
    (pss_cons (ps_if (pt_cmpR op_eq (pv 3) pe_int (by first | exact nomark _ | rfl))
      (pss_one (ps_ret (pe_call (ok_law_let T) (hr.mono (by decide)) (by rfl) T.g_law_let T.F_law_let.kp (T.b_law_let) .nil pass0 (pa_cons (pv 0) (pa_cons (pv 1) (pa_cons (pe_lst pa_nil) pa_nil))))))
      pss_nil)
    (pss_one (ps_if (pt_cmpR op_eq (pv 3) pe_int (by first | exact nomark _ | rfl))
      (pss_one (ps_ret (pe_call (ok_law_lambda T) (hr.mono (by decide)) (by rfl) T.g_law_lambda T.F_law_lambda.kp (T.b_law_lambda) .nil pass0 (pa_cons (pv 0) (pa_cons (pv 1) (pa_cons (pe_tup (pa_cons pe_str pa_nil)) pa_nil))))))
      pss_nil))))))
      pss_nil)
    (pss_one (ps_ret (pe_call (ok_law_scalar T) (hr.mono (by decide)) (by rfl) T.g_law_scalar T.F_law_scalar.kp (T.b_law_scalar) .nil pass0 (pa_cons (pv 0) (pa_cons pe_bl pa_nil)))))))))), ?_⟩
    have k0 : ∀ {H' : Hp}, Bs K b c ns H H' → PlL K H' e pl := fun x => hp.keep hb x
    walk_at "run"
    · rename_i n H1 b1 _ _ _
      exact ⟨b, c, ns, e, pl, rfl, b1.2, k0 b1, fun p t H2 b2 t2 z2 => q _ t _ (b1.trans b2) t2 z2⟩
    · rename_i n H1 b1 _ _ _ _
      refine ⟨b, c, ns, e, pl, rfl, b1.2, k0 b1, fun z H2 b2 uz => ?_⟩
      walk_at "run"
      rename_i p hp9
      exact q _ (LF1 "name" (.str z)) _ ((b1.trans b2).new hp9) (td_leaf (tv_lf1 1 (SqT.of upd_same) (by decide +kernel) (.str _) (fitD_str _ _))) (by show 1 ≤ 17; decide)
    · exact q _ _ _ (by walk_at "bx") (td_leaf (TV.mono (by assumption) (by decide))) (by show 1 ≤ 17; decide)
    · rename_i p1 hp1 p2 hp2
      exact q _ (.call (.str "NA") []) _ (by walk_at "bx") (TD.mk_call (n := 1) (SqT.of upd_same) (.str _) (fitD_str _ _) (SqT.of ((same_upd hp2) _ _ upd_same)) TDs.nil (Nat.zero_le _)) (by show 1 ≤ 17; decide)
    · rename_i H1 _ _ _ _ _ p1 hp1
      have B1 : Bs K b c ns H (upd H1 p1 (.lst [])) := by walk_at "bx"
      exact ⟨b, c, ns, e, pl, p1, 0, [], [], rfl, B1.2, k0 B1, upd_same, TDs.nil, Nat.zero_le _, fun p t H2 b2 t2 z2 => q _ t _ (B1.trans b2) t2 z2⟩
    · rename_i H1 _ _ _ _ _ _ p1 hp1
      have B1 : Bs K b c ns H (upd H1 p1 (.lst [])) := by walk_at "bx"
      exact ⟨b, c, ns, e, pl, p1, 0, [], [], rfl, B1.2, k0 B1, upd_same, TDs.nil, Nat.zero_le _, fun p t H2 b2 t2 z2 => q _ t _ (B1.trans b2) t2 z2⟩
    · rename_i H1 _ _ _ _ _ _ _ p1 hp1
      have B1 : Bs K b c ns H (upd H1 p1 (.tup [.str "empty"])) := by walk_at "bx"
      exact ⟨b, c, ns, e, pl, .ref p1, 0, EMP, rfl, B1.2, k0 B1, td_emp 0 (SqT.of upd_same), fun p t H2 b2 t2 z2 => q _ t _ (B1.trans b2) t2 (Nat.le_trans z2 (by decide))⟩
    all_goals exact q _ _ _ (by walk_at "bx") (td_leaf (TV.mono (by assumption) (by decide))) (by show 1 ≤ 17; decide)

theorem ok_law_apply (T : Txt K mg) : FnOk P w K mg base CX0 4 T.a_law_apply T.d_law_apply P_law_apply (sp_law_apply K) := by
  refine T.F_law_apply.ok sc_law_apply (fun vs H Q E h => ?_) (fun cdv A outer s H vs Q E hr h => ?_)
  · obtain ⟨b, c, ns, pl, l, n, xs, ts, rfl, _⟩ := h
    rfl
  · obtain ⟨b, c, ns, pl, l, n, xs, ts, rfl, hb, hl, tv, hn, q⟩ := h
    refine ⟨_, (pss_cons (ps_set (i := 2) sc_law_apply.nd rfl (by first | exact Or.inl rfl | exact Or.inr rfl) (pe_op op_sub (pe_callB call_len_seq (by rfl) T.z_len (by decide +kernel) (pa_cons (pv 1) pa_nil)) pe_int))
    (pss_cons (ps_if (pt_cmpR op_eq (pe_call (ok_law_draw T) (hr.mono (by decide)) (by rfl) T.g_law_draw T.F_law_draw.kp (T.b_law_draw) .nil pass0 (pa_cons (pv 0) (pa_cons pe_int pa_nil))) pe_int (by first | exact nomark _ | rfl))
      (pss_one (ps_set (i := 2) sc_law_apply.nd rfl (by first | exact Or.inl rfl | exact Or.inr rfl) (pe_op op_add (pv 2) (pe_call (ok_law_draw T) (hr.mono (by decide)) (by rfl) T.g_law_draw T.F_law_draw.kp (T.b_law_draw) .nil pass0 (pa_cons (pv 0) (pa_cons (pe_op op_sub pe_int (pv 2)) pa_nil))))))
      pss_nil)
    (pss_cons (ps_if (PW.pt (pw_and (pt_cmpR op_eq (pv 2) pe_int (by first | exact nomark _ | rfl)) (pw_and1 (pt_cmpR op_eq (pe_callB call_len_seq (by rfl) T.z_len (by decide +kernel) (pa_cons (pv 1) pa_nil)) pe_int (by first | exact nomark _ | rfl)))))
      (pss_one (ps_set (i := 2) sc_law_apply.nd rfl (by first | exact Or.inl rfl | exact Or.inr rfl) pe_int))
      pss_nil)
    (pss_one (ps_ret (pe_tup (pa_cons pe_str (pa_cons (pe_ix ix_list (pv 1) pe_int (fun _ _ => rfl)) (pa_cons (pe_call (ok_law_filled T) (hr.mono (by decide)) (by rfl) T.g_law_filled T.F_law_filled.kp (T.b_law_filled) .nil pass0 (pa_cons (pv 0) (pa_cons (pe_slice sl_list (pv 1) (po_some pe_int) po_none) (pa_cons (pv 2) pa_nil)))) pa_nil))))))))), ?_⟩
    have ln := tv.len
    have kL : ∀ {H' : Hp}, Bs K b c ns H H' → H' l = some (.lst xs) := fun x => x.lst hb hl tv.noI
    have kT : ∀ {H' : Hp}, Bs K b c ns H H' → TDs K pl.md H' (n + 1) xs ts := fun x => tv.keep (x.tk hb)
    refine seq_merge3 (C := (fun σ' H' => Hd (Bs K b c ns H H' ∧ ∃ (m : Int), ((ts.length : Int) - 1 ≤ m ∧ m ≤ 16) ∧ σ' = [some (.ref b), some (.ref l), some (.int m)]))) ?tail ?rest
    case rest =>
      intro R tail
      walk_at "run"
      refine ⟨_, _, rfl, Or.inl (SqL.of hl), ?_⟩
      walk_at "run"
      · rename_i n0 H1 b1 n00 n01 n02 n2 H2 b2 n20 n21 n22
        refine ⟨_, _, rfl, Or.inl (SqL.of (kL (b1.trans b2))), ?_⟩
        walk_at "run"
        · exact tail _ _ (.mk ⟨b1.trans b2, _, by omega, rfl⟩)
        · exact tail _ _ (.mk ⟨b1.trans b2, _, by omega, rfl⟩)
      · rename_i n0 H1 b1 n00 n01 n02 n2 H2 b2 n20 n21 n22
        exact tail _ _ (.mk ⟨b1.trans b2, _, by omega, rfl⟩)
      · rename_i n0 H1 b1 n00 n01 n02 n03
        refine ⟨_, _, rfl, Or.inl (SqL.of (kL b1)), ?_⟩
        walk_at "run"
        · exact tail _ _ (.mk ⟨b1, _, by omega, rfl⟩)
        · exact tail _ _ (.mk ⟨b1, _, by omega, rfl⟩)
      · rename_i n0 H1 b1 n00 n01 n02 n03
        exact tail _ _ (.mk ⟨b1, _, by omega, rfl⟩)
    case tail =>
      intro σ H1 hc
      obtain ⟨b1, m, hm, rfl⟩ := hc.get
      obtain ⟨x0, xr, t0, tr, rfl, rfl, v0, vr⟩ := TDs.cut1 tv hn.1
      have hl1 := kL b1
      have v1 := v0.keep (b1.tk hb)
      have vr1 := vr.keep (b1.tk hb)
      walk_at "run"
      refine ⟨_, _, _, _, rfl, rfl, SqL.of hl1, atI_at (n := 0) rfl rfl, ?_⟩
      walk_at "run"
      refine ⟨_, _, rfl, SqL.of hl1, fun p hp => ?_⟩
      have ec : cutV (x0 :: xr) (some 1) none = xr := by
        rw [cut_drop (by decide) (by rw [List.length_cons]; omega)]
        rfl
      rw [ec]
      walk_at "run"
      rw [List.length_cons] at hm
      refine ⟨b, c, ns, p, m, pl.md, n, xr, tr, rfl, b1.2.new hp, upd_same, vr1.keep (same_tk (same_upd hp)), by omega, fun pt ys us H2 b2 hp2 ty lu zu => ?_⟩
      walk_at "run"
      rename_i p2 hp3
      have tk := (same_tk (K := K) (same_upd (o := .lst xr) hp)).trans (b2.tk (b1.2.new hp))
      have s2 := same_upd (o := .tup [.str "apply", x0, .ref pt]) hp3
      refine q _ (.app t0 us) _ (((b1.new hp).trans b2).new hp3) (TD.mk_app (SqT.of upd_same) ((v1.keep tk).keep (same_tk s2)) (same_tk s2 _ _ hp2) (ty.keep (same_tk s2)) (by omega)) ?_
      rw [szs_cons]
      show t0.sz + Tr.szs us + 1 ≤ _
      omega

theorem ok_law_node (T : Txt K mg) : FnOk P w K mg base CX0 5 T.a_law_node T.d_law_node P_law_node (sp_law_node K) := by
  refine T.F_law_node.ok sc_law_node (fun vs H Q E h => ?_) (fun cdv A outer s H vs Q E hr h => ?_)
  · obtain ⟨b, c, ns, e, pl, l, n, xs, ts, rfl, _⟩ := h
    rfl
  · obtain ⟨b, c, ns, e, pl, l, n, xs, ts, rfl, hb, hp, hl, tv, hn, q⟩ := h
    refine ⟨_, (pss_cons (ps_set (i := 3) sc_law_node.nd rfl (by first | exact Or.inl rfl | exact Or.inr rfl) (pe_callB call_len_seq (by rfl) T.z_len (by decide +kernel) (pa_cons (pv 2) pa_nil)))
    (pss_cons (ps_set (i := 4) sc_law_node.nd rfl (by first | exact Or.inl rfl | exact Or.inr rfl) (pe_call (ok_law_draw T) (hr.mono (by decide)) (by rfl) T.g_law_draw T.F_law_draw.kp (T.b_law_draw) .nil pass0 (pa_cons (pv 0) (pa_cons pe_int pa_nil))))
    (pss_cons (ps_if (PW.pt (pw_and (pt_cmpR op_lt (pv 4) pe_int (by first | exact nomark _ | rfl)) (pw_and1 (pt_cmpR op_eq (pv 3) pe_int (by first | exact nomark _ | rfl)))))
      (pss_one (ps_ret (pe_tup (pa_cons pe_str (pa_cons (pe_ix ix_str pe_str (pe_call (ok_law_draw T) (hr.mono (by decide)) (by rfl) T.g_law_draw T.F_law_draw.kp (T.b_law_draw) .nil pass0 (pa_cons (pv 0) (pa_cons pe_int pa_nil))) (fun _ _ => rfl)) (pa_cons (pe_ix ix_list (pv 2) pe_int (fun _ _ => rfl)) pa_nil))))))
      pss_nil)
    (pss_cons (ps_if (PW.pt (pw_and (pt_cmpR op_lt (pv 4) pe_int (by first | exact nomark _ | rfl)) (pw_and1 (pt_cmpR op_eq (pv 3) pe_int (by first | exact nomark _ | rfl)))))
      (pss_cons (ps_set (i := 5) sc_law_node.nd rfl (by first | exact Or.inl rfl | exact Or.inr rfl) (pe_lst (pa_cons pe_str (pa_cons pe_str (pa_cons pe_str (pa_cons pe_str (pa_cons pe_str (pa_cons pe_str (pa_cons pe_str (pa_cons pe_str (pa_cons pe_str (pa_cons pe_str (pa_cons pe_str (pa_cons pe_str pa_nil))))))))))))))
    (pss_one (ps_ret (pe_tup (pa_cons pe_str (pa_cons (pe_ix ix_list (pv 5) (pe_call (ok_law_draw T) (hr.mono (by decide)) (by rfl) T.g_law_draw T.F_law_draw.kp (T.b_law_draw) .nil pass0 (pa_cons (pv 0) (pa_cons pe_int pa_nil))) (fun _ _ => rfl)) (pa_cons (pe_ix ix_list (pv 2) pe_int (fun _ _ => rfl)) (pa_cons (pe_ix ix_list (pv 2) pe_int (fun _ _ => rfl)) pa_nil))))))))
      pss_nil)
    (pss_cons (ps_if (PW.pt (pw_and (pt_cmpR op_eq (pv 4) pe_int (by first | exact nomark _ | rfl)) (pw_and1 (pt_cmpR op_eq (pv 3) pe_int (by first | exact nomark _ | rfl)))))
      (pss_one (ps_ret (pe_call (ok_law_lambda T) (hr.mono (by decide)) (by rfl) T.g_law_lambda T.F_law_lambda.kp (T.b_law_lambda) .nil pass0 (pa_cons (pv 0) (pa_cons (pv 1) (pa_cons (pe_ix ix_list (pv 2) pe_int (fun _ _ => rfl)) pa_nil))))))
      pss_nil)
    (pss_cons (ps_if (PW.pt (pw_or (PW.pt (pw_and (pt_cmpR op_eq (pv 4) pe_int (by first | exact nomark _ | rfl)) (pw_and1 (pt_cmpR op_le (pv 3) pe_int (by first | exact nomark _ | rfl))))) (pw_or1 (PW.pt (pw_and (pt_cmpR op_eq (pv 4) pe_int (by first | exact nomark _ | rfl)) (pw_and1 (pt_cmpR op_eq (pv 3) pe_int (by first | exact nomark _ | rfl))))))))
      (pss_one (ps_ret (pe_call (ok_law_let T) (hr.mono (by decide)) (by rfl) T.g_law_let T.F_law_let.kp (T.b_law_let) .nil pass0 (pa_cons (pv 0) (pa_cons (pv 1) (pa_cons (pv 2) pa_nil))))))
      pss_nil)
    (pss_cons (ps_if (PW.pt (pw_or (pt_cmpR op_eq (pv 4) pe_int (by first | exact nomark _ | rfl)) (pw_or1 (pt_cmpR op_eq (pv 3) pe_int (by first | exact nomark _ | rfl)))))
      (pss_one (ps_ret (pe_call (ok_law_apply T) (hr.mono (by decide)) (by rfl) T.g_law_apply T.F_law_apply.kp (T.b_law_apply) .nil pass0 (pa_cons (pv 0) (pa_cons (pv 2) pa_nil)))))
      pss_nil)
    (pss_one (ps_ret (pe_call (ok_law_call T) (hr.mono (by decide)) (by rfl) T.g_law_call T.F_law_call.kp (T.b_law_call) .nil pass0 (pa_cons (pv 0) (pa_cons (pv 1) (pa_cons (pv 2) pa_nil))))))))))))), ?_⟩
    have ln := tv.len
    obtain ⟨hn1, hn2⟩ := hn
    have k0 : ∀ {H' : Hp}, Bs K b c ns H H' → PlL K H' e pl := fun x => hp.keep hb x
    have kL : ∀ {H' : Hp}, Bs K b c ns H H' → H' l = some (.lst xs) := fun x => x.lst hb hl tv.noI
    have kT : ∀ {H' : Hp}, Bs K b c ns H H' → TDs K pl.md H' (n + 1) xs ts := fun x => tv.keep (x.tk hb)
    refine seq_merge2 (C := (fun σ' H' => Hd (Bs K b c ns H H' ∧ ∃ (kd : Int), σ' = [some (.ref b), some (.ref e), some (.ref l), some (.int (xs.length : Int)), some (.int kd), none]))) ?tail ?rest
    case rest =>
      intro R tail
      walk_at "run"
      refine ⟨_, _, rfl, Or.inl (SqL.of hl), ?_⟩
      walk_at "run"
      exact tail _ _ (.mk ⟨by assumption, _, rfl⟩)
    case tail =>
      intro σ H1 hc
      obtain ⟨b1, kd, rfl⟩ := hc.get
      obtain ⟨x0, xr, t0, tr, rfl, rfl, v0, vr⟩ := TDs.cut1 tv hn1
      have hl1 := kL b1
      have t1 := kT b1
      have p1 := k0 b1
      have v1 := v0.keep (b1.tk hb)
      refine seq_merge (C := (fun σ' H' => Hd (H1 = H' ∧ σ' = [some (.ref b), some (.ref e), some (.ref l), some (.int ((x0 :: xr).length : Int)), some (.int kd), none]))) ?t1 ?r1
      case r1 =>
        intro R tail
        walk_at "run"
        · rename_i n1 H2 b2 g0 g1
          have B2 := b1.trans b2
          have v2 := v1.keep (b2.tk b1.2)
          have hl2 := kL B2
          obtain ⟨ch, ec⟩ := str_at (Z := "+-") (m := 2) g0 g1 (by decide +kernel)
          refine ⟨_, _, ch, rfl, rfl, by decide +kernel, ec, ?_⟩
          walk_at "run"
          refine ⟨_, _, _, _, rfl, rfl, SqL.of hl2, atI_at (n := 0) rfl rfl, ?_⟩
          walk_at "run"
          rename_i p hp9
          refine q _ (.one "sign" (.str ⟨#[ch]⟩) t0) _ (B2.new hp9) (TD.mk_one (SqT.of upd_same) (.inl rfl) (.str _) (fitD_str _ _) (v2.keep (same_tk (same_upd hp9)))) ?_
          rw [szs_cons]
          show t0.sz + 1 ≤ _
          omega
        all_goals exact tail _ _ (.mk ⟨rfl, rfl⟩)
      case t1 =>
      intro σ H9 hc1
      obtain ⟨rfl, rfl⟩ := hc1.get
      refine seq_merge (C := (fun σ' H' => Hd (H1 = H' ∧ σ' = [some (.ref b), some (.ref e), some (.ref l), some (.int ((x0 :: xr).length : Int)), some (.int kd), none]))) ?t2 ?r2
      case r2 =>
        intro R tail
        walk_at "run"
        · rename_i h2 p hp9
          have bp := b1.2.new (o := .lst (["+", "-", "*", "/", "^", "&", "=", "<>", "<", "<=", ">", ">="].map fun z : String => V.str (Str.ofString z))) hp9
          refine ⟨b, c, ns, 12, rfl, bp, by decide, fun j H2 b2 j0 j1 => ?_⟩
          have B2 := (b1.new hp9).trans b2
          have t2 := kT B2
          have hl2 := kL B2
          refine atI_go (SqL.of (b2.lst bp upd_same (strs_noI (["+", "-", "*", "/", "^", "&", "=", "<>", "<", "<=", ">", ">="].map fun z : String => Str.ofString z)))) j0 (by show j < (12 : Int); exact j1) fun v hv => ?_
          obtain ⟨z, _, rfl⟩ : ∃ z : Str, z ∈ (["+", "-", "*", "/", "^", "&", "=", "<>", "<", "<=", ">", ">="].map fun z : String => Str.ofString z) ∧ V.str z = v := List.mem_map.mp hv
          clear hv
          obtain ⟨y0, yr, u0, ur, exr, etr, w0, wr⟩ := TDs.cut1 vr (by simp only [List.length_cons] at ln h2; omega)
          subst exr etr
          have w2 := w0.keep (B2.tk hb)
          have v2 := v0.keep (B2.tk hb)
          walk_at "run"
          refine ⟨_, _, _, _, rfl, rfl, SqL.of hl2, atI_at (n := 0) rfl rfl, ?_⟩
          walk_at "run"
          refine ⟨_, _, _, _, rfl, rfl, SqL.of hl2, atI_at (n := 1) rfl rfl, ?_⟩
          walk_at "run"
          rename_i p8 hp8
          refine q _ (.two (.str z) t0 u0) _ (B2.new hp8) (TD.mk_two (SqT.of upd_same) (.str _) (fitD_str _ _) (v2.keep (same_tk (same_upd hp8))) (w2.keep (same_tk (same_upd hp8)))) ?_
          rw [szs_cons, szs_cons]
          show t0.sz + u0.sz + 1 ≤ _
          omega
        all_goals exact tail _ _ (.mk ⟨rfl, rfl⟩)
      case t2 =>
      intro σ H9 hc2
      obtain ⟨rfl, rfl⟩ := hc2.get
      refine seq_merge (C := (fun σ' H' => Hd (H1 = H' ∧ σ' = [some (.ref b), some (.ref e), some (.ref l), some (.int ((x0 :: xr).length : Int)), some (.int kd), none]))) ?t3 ?r3
      case r3 =>
        intro R tail
        walk_at "run"
        · refine ⟨_, _, _, _, rfl, rfl, SqL.of hl1, atI_at (n := 0) rfl rfl, ?_⟩
          walk_at "run"
          refine ⟨b, c, ns, e, pl, x0, n, t0, rfl, b1.2, p1, v1, fun p t H2 b2 t2 z2 => ?_⟩
          refine q _ t _ (b1.trans b2) t2 ?_
          rw [szs_cons]
          omega
        all_goals exact tail _ _ (.mk ⟨rfl, rfl⟩)
      case t3 =>
      intro σ H9 hc3
      obtain ⟨rfl, rfl⟩ := hc3.get
      have kl : ((x0 :: xr).length : Int) ≤ 8 → sp_law_let K [.ref b, .ref e, .ref l] H1 Q E := fun h8 => ⟨b, c, ns, e, pl, l, n, _, _, rfl, b1.2, p1, hl1, t1, by omega, fun p t H2 b2 t2 z2 => q _ t _ (b1.trans b2) t2 z2⟩
      refine seq_merge (C := (fun σ' H' => Hd (H1 = H' ∧ σ' = [some (.ref b), some (.ref e), some (.ref l), some (.int ((x0 :: xr).length : Int)), some (.int kd), none]))) ?t4 ?r4
      case r4 =>
        intro R tail
        walk_at "run"
        all_goals first
          | exact tail _ _ (.mk ⟨rfl, rfl⟩)
          | exact kl (by omega)
      case t4 =>
      intro σ H9 hc4
      obtain ⟨rfl, rfl⟩ := hc4.get
      refine seq_merge (C := (fun σ' H' => Hd (H1 = H' ∧ ¬ ((x0 :: xr).length : Int) = 17 ∧ σ' = [some (.ref b), some (.ref e), some (.ref l), some (.int ((x0 :: xr).length : Int)), some (.int kd), none]))) ?t5 ?r5
      case r5 =>
        intro R tail
        have ka : sp_law_apply K [.ref b, .ref l] H1 Q E := ⟨b, c, ns, pl, l, n, _, _, rfl, b1.2, hl1, t1, ⟨hn1, hn2⟩, fun p t H2 b2 t2 z2 => q _ t _ (b1.trans b2) t2 z2⟩
        walk_at "run"
        all_goals first
          | exact tail _ _ (.mk ⟨rfl, by omega, rfl⟩)
          | exact ka
      case t5 =>
      intro σ H9 hc5
      obtain ⟨rfl, h17, rfl⟩ := hc5.get
      walk_at "run"
      refine ⟨b, c, ns, e, pl, l, n, _, _, rfl, b1.2, p1, hl1, t1, by omega, fun p t H2 b2 t2 z2 => q _ t _ (b1.trans b2) t2 z2⟩

theorem ok_law_parts (T : Txt K mg) : FnOk P w K mg base CX0 1 T.a_law_parts T.d_law_parts P_law_parts (sp_law_parts K) := by
  refine T.F_law_parts.ok sc_law_parts (fun vs H Q E h => ?_) (fun cdv A outer s H vs Q E hr h => ?_)
  · obtain ⟨v, t, n, rfl, _⟩ := h
    rfl
  · obtain ⟨v, t, n, rfl, tv, q⟩ := h
    refine ⟨_, (pss_cons (ps_if (PW.pt (pw_or (pt_cmpR op_eq (pe_ix ix_tup (pv 0) pe_int (fun _ _ => rfl)) pe_str (by first | exact nomark _ | rfl)) (pw_or1 (pt_cmpR op_eq (pe_ix ix_tup (pv 0) pe_int (fun _ _ => rfl)) pe_str (by first | exact nomark _ | rfl)))))
      (pss_one (ps_ret (pe_lst (pa_cons (pe_ix ix_tup (pv 0) pe_int (fun _ _ => rfl)) pa_nil))))
      pss_nil)
    (pss_cons (ps_if (pt_cmpR op_eq (pe_ix ix_tup (pv 0) pe_int (fun _ _ => rfl)) pe_str (by first | exact nomark _ | rfl))
      (pss_one (ps_ret (pe_lst (pa_cons (pe_ix ix_tup (pv 0) pe_int (fun _ _ => rfl)) (pa_cons (pe_ix ix_tup (pv 0) pe_int (fun _ _ => rfl)) pa_nil)))))
      pss_nil)
    (pss_cons (ps_if (pt_cmpR op_eq (pe_ix ix_tup (pv 0) pe_int (fun _ _ => rfl)) pe_str (by first | exact nomark _ | rfl))
      (pss_one (ps_ret (pe_callTy call_list_of (by rfl) T.z_list (by decide +kernel) (pa_cons (pe_ix ix_tup (pv 0) pe_int (fun _ _ => rfl)) pa_nil))))
      pss_nil)
    (pss_cons (ps_if (pt_cmpR op_eq (pe_ix ix_tup (pv 0) pe_int (fun _ _ => rfl)) pe_str (by first | exact nomark _ | rfl))
      (pss_one (ps_ret (pe_op op_cat (pe_callTy call_list_of (by rfl) T.z_list (by decide +kernel) (pa_cons (pe_ix ix_tup (pv 0) pe_int (fun _ _ => rfl)) pa_nil)) (pe_lst (pa_cons (pe_ix ix_tup (pv 0) pe_int (fun _ _ => rfl)) pa_nil)))))
      pss_nil)
    (pss_cons (ps_if (pt_cmpR op_eq (pe_ix ix_tup (pv 0) pe_int (fun _ _ => rfl)) pe_str (by first | exact nomark _ | rfl))
      (pss_one (ps_ret (pe_op op_cat (pe_lst (pa_cons (pe_ix ix_tup (pv 0) pe_int (fun _ _ => rfl)) pa_nil)) (pe_callTy call_list_of (by rfl) T.z_list (by decide +kernel) (pa_cons (pe_ix ix_tup (pv 0) pe_int (fun _ _ => rfl)) pa_nil)))))
      pss_nil)
    (pss_one (ps_ret (pe_lst pa_nil)))))))), ?_⟩
    obtain ⟨p9, rfl, ho⟩ := tv.open
    cases t with
    | leaf z ds =>
      obtain ⟨xs9, hp9, hx9, hz9⟩ := ho
      walk_at "run"
      rename_i l hl
      exact q _ _ _ (same_upd hl) upd_same TVs.nil
    | area a =>
      obtain ⟨xs9, hp9, hx9, ha⟩ := ho
      rcases id ha with ⟨ek, _⟩ | ⟨ek, _⟩ | ⟨ek, _⟩ | ⟨ek, _⟩
      all_goals rw [ek] at hp9
      all_goals (
        walk_at "run"
        rename_i l hl
        exact q _ _ _ (same_upd hl) upd_same TVs.nil)
    | one z d t9 =>
      obtain ⟨y, x, hp9, hy9, tx9, hz9, fd⟩ := ho
      rcases id hz9 with rfl | rfl
      all_goals (
        walk_at "run"
        rename_i l hl
        exact q _ _ _ (same_upd hl) upd_same (.one (tx9.keep (same_tk (same_upd hl)))))
    | two d a b9 =>
      obtain ⟨y, x1, x2, hp9, hy9, t1, t2, fd⟩ := ho
      walk_at "run"
      rename_i l hl
      exact q _ _ _ (same_upd hl) upd_same ((TVs.one (t1.keep (same_tk (same_upd hl)))).app (.one (t2.keep (same_tk (same_upd hl)))))
    | call d cs =>
      obtain ⟨y, q0, xs9, hp9, hy9, hq, ts, fd, hl9⟩ := ho
      walk_at "run"
      intro l hl
      exact q _ _ _ (same_upd hl) upd_same (ts.keep (same_tk (same_upd hl)))
    | letk d cs t9 =>
      obtain ⟨y, q0, xs9, x, hp9, hy9, hq, ts, tx9, fd, hl9⟩ := ho
      have lx := ts.len
      walk_at "run"
      intro l hl
      have hp8 := same_tk (K := K) (same_upd (o := .lst xs9) hl) _ _ hp9
      walk_at "run"
      rename_i l2 hl2
      refine ⟨_, _, _, _, rfl, rfl, (same_upd hl2) _ _ upd_same, upd_same, Nat.le_of_lt (small1000 (by show xs9.length + 1 ≤ 1000; omega)), fun l3 hl3 => ?_⟩
      have s3 := ((same_upd (o := .lst xs9) hl).trans (same_upd (o := .lst [x]) hl2)).trans (same_upd (o := .lst (xs9 ++ [x])) hl3)
      exact q _ _ _ s3 upd_same ((ts.keep (same_tk s3)).app (.one (tx9.keep (same_tk s3))))
    | app t9 cs =>
      obtain ⟨x, q0, xs9, hp9, tx9, hq, ts, hl9⟩ := ho
      have lx := ts.len
      walk_at "run"
      rename_i l hl
      refine ⟨_, xs9, rfl, .inr (same_tk (same_upd hl) _ _ hq), fun l2 hl2 => ?_⟩
      refine ⟨_, _, _, _, rfl, rfl, (same_upd hl2) _ _ upd_same, upd_same, Nat.le_of_lt (small1000 (by show 1 + xs9.length ≤ 1000; omega)), fun l3 hl3 => ?_⟩
      have s3 := ((same_upd (o := .lst [x]) hl).trans (same_upd (o := .lst xs9) hl2)).trans (same_upd (o := .lst ([x] ++ xs9)) hl3)
      exact q _ _ _ s3 upd_same ((TVs.one (tx9.keep (same_tk s3))).app (ts.keep (same_tk s3)))

theorem okR_law_size (T : Txt K mg) : ∀ n : Nat, FnOk P w K mg base CX0 (n + 2) T.a_law_size T.d_law_size P_law_size (spR_law_size K n)
  | 0 => ⟨fun _ _ _ _ h => h.elim, fun _ _ _ _ _ _ _ _ _ _ _ _ _ h => h.elim⟩
  | n + 1 => by
    have F' := okR_law_size T n
    refine FnOk.mono (j := (n + 2) + 1) ?_ (by omega)
    refine T.F_law_size.ok sc_law_size (fun vs H Q E h => ?_) (fun cdv A outer s H vs Q E hr h => ?_)
    · obtain ⟨v, t, rfl, _⟩ := h
      rfl
    · obtain ⟨v, t, rfl, tv, hz, q⟩ := h
      refine ⟨_, (pss_cons (ps_setLc (i := 1) (own := [("part", 2)]) (g := gName 2) (tt := tYes) rfl sc_law_size.nd rfl rfl (sw_true rfl rfl rfl (by decide +kernel)) (pi_list (pe_call (ok_law_parts T) (hr.mono (by omega)) (by rfl) T.g_law_parts T.F_law_parts.kp (T.b_law_parts) .nil pass0 (pa_cons (pv 0) pa_nil))) (blkOk_by (N := N_law_size) (sc := defScope s_law_size) (by decide +kernel)) (fun _ _ _ _ _ => pg_name (i := 2) sc_law_size.nd rfl (Or.inl rfl)) (fun _ _ _ _ _ => pts_nil) (fun _ _ _ _ _ => (pe_call F' (hr.mono (by omega)) (by rfl) T.g_law_size T.F_law_size.kp (T.b_law_size) .nil pass0 (pa_cons (pv 2) pa_nil))))
    (pss_one (ps_ret (pe_tup (pa_cons (pe_op op_add pe_int (pe_callB (cr_sum rfl) (by rfl) T.z_sum (by decide +kernel) (pa_cons (pe_lc (own := [("part", 2)]) (g := gName 2) (tt := tYes) rfl sc_law_size.nd (pi_list (pv 1)) (blkOk_by (N := N_law_size) (sc := defScope s_law_size) (by decide +kernel)) (fun _ _ _ _ _ => pg_name (i := 2) sc_law_size.nd rfl (Or.inl rfl)) (fun _ _ _ _ _ => pts_nil) (fun _ _ _ _ _ => (pe_ix (ix_tupK rfl) (pv 2) pe_int (fun _ _ => rfl)))) pa_nil))) (pa_cons (pe_op op_add pe_int (pe_callB (cr_max rfl) (by rfl) T.z_max (by decide +kernel) (pa_cons (pe_lc (own := [("deep", 3)]) (g := gName 3) (tt := tYes) rfl sc_law_size.nd (pi_list (pe_op op_cat (pe_lst (pa_cons pe_int pa_nil)) (pe_lc (own := [("part", 2)]) (g := gName 2) (tt := tYes) rfl sc_law_size.nd (pi_list (pv 1)) (blkOk_by (N := N_law_size) (sc := defScope s_law_size) (by decide +kernel)) (fun _ _ _ _ _ => pg_name (i := 2) sc_law_size.nd rfl (Or.inl rfl)) (fun _ _ _ _ _ => pts_nil) (fun _ _ _ _ _ => (pe_ix (ix_tupK rfl) (pv 2) pe_int (fun _ _ => rfl)))))) (blkOk_by (N := N_law_size) (sc := defScope s_law_size) (by decide +kernel)) (fun _ _ _ _ _ => pg_name (i := 3) sc_law_size.nd rfl (Or.inl rfl)) (fun _ _ _ _ _ => pts_nil) (fun _ _ _ _ _ => (pe_callTy call_int1 (by rfl) T.z_int (by decide +kernel) (pa_cons (pv 3) pa_nil)))) pa_nil))) pa_nil)))))), ?_⟩
      cases n with
      | zero => exact tv.2.elim
      | succ n =>
        walk_at "run"
        refine ⟨v, t, n, rfl, tv, fun l xs H1 s1 hl tx => ?_⟩
        walk_at "run"
        have lx := tx.len
        have lk := szs_len t.kids
        have hk := sz_kids t
        refine And.intro ⟨_, SqL.of hl⟩ (fun D hD => ?_)
        refine lc_it (walk_list (xs := xs)) (fun i H' => Hd (Same H1 H' ∧ ∃ ys, H' D = some (.lst ys) ∧ A2 (SzE K H') ys (t.kids.take i))) (.mk ⟨same_upd hD, [], upd_same, .nil⟩) (fun i H' hi hp => SqL.of (hp.get.1 _ _ hl)) (fun i z Ha Hb hi hp hy => ?_) (fun H2 hp => ?_)
        · obtain ⟨s2, ys, hz2, ty⟩ := hp.get
          obtain ⟨rfl, ez⟩ := hy
          obtain ⟨u, eu, tz⟩ := (tx.keep (same_tk s2)).at ez
          have hu := szs_mem (List.mem_of_getElem? eu)
          have ly := ty.len
          rw [List.length_take] at ly
          walk_at "run"
          refine ⟨z, u, rfl, tz, by omega, fun p H3 s3 hp3 => ?_⟩
          have hz3 := s3 _ _ hz2
          refine ⟨_, hz3, small20000 (by omega), .mk ⟨same_put (s2.trans s3) hD, _, upd_same, ?_⟩⟩
          rw [List.take_add_one, eu]
          exact szl_keep (A2.snoc (szl_keep ty (same_tk s3)) (show SzE K H3 (.ref p) u from ⟨p, rfl, hp3⟩)) (lst_tk hz3)
        obtain ⟨s2, ys, hz2, ty⟩ := hp.get
        rw [lx, List.take_length] at ty
        have ly := ty.len
        walk_at "run"
        refine And.intro ⟨_, SqL.of hz2⟩ (fun D2 hD2 => ?_)
        refine lc_it (walk_list (xs := ys)) (fun i H' => Hd (Same H2 H' ∧ H' D2 = some (.lst (((t.kids.take i).map fun u => (u.sz : Int)).map V.int)))) (.mk ⟨same_upd hD2, upd_same⟩) (fun i H' hi hp => SqL.of (hp.get.1 _ _ hz2)) (fun i z Ha Hb hi hp hy => ?_) (fun H3 hp => ?_)
        · obtain ⟨s3, hz3⟩ := hp.get
          obtain ⟨rfl, ez⟩ := hy
          obtain ⟨u, eu, pz, rfl, hpz⟩ := A2.get (szl_keep ty (same_tk s3)) ez
          walk_at "run"
          refine ⟨_, hz3, small20000 (by rw [List.length_map, List.length_map, List.length_take]; omega), .mk ⟨same_put s3 hD2, ?_⟩⟩
          rw [upd_same, List.take_add_one, eu, List.map_append, List.map_append]
          rfl
        obtain ⟨s3, hz3⟩ := hp.get
        rw [ly, List.take_length] at hz3
        walk_at "run"
        refine ⟨D2, _, rfl, SqL.of hz3, ?_⟩
        rw [sum_szs]
        walk_at "run"
        rename_i z0 hz0
        have s4 := s3.trans (same_upd (o := .lst [V.int 0]) hz0)
        refine And.intro ⟨_, SqL.of (s4 _ _ hz2)⟩ (fun D3 hD3 => ?_)
        refine lc_it (walk_list (xs := ys)) (fun i H' => Hd (Same (upd H3 z0 (.lst [V.int 0])) H' ∧ H' D3 = some (.lst (((t.kids.take i).map fun u => (u.dep : Int)).map V.int)))) (.mk ⟨same_upd hD3, upd_same⟩) (fun i H' hi hp => SqL.of ((s4.trans hp.get.1) _ _ hz2)) (fun i z Ha Hb hi hp hy => ?_) (fun H5 hp => ?_)
        · obtain ⟨s5, hz5⟩ := hp.get
          obtain ⟨rfl, ez⟩ := hy
          obtain ⟨u, eu, pz, rfl, hpz⟩ := A2.get (szl_keep ty (same_tk (s4.trans s5))) ez
          walk_at "run"
          refine ⟨_, hz5, small20000 (by rw [List.length_map, List.length_map, List.length_take]; omega), .mk ⟨same_put s5 hD3, ?_⟩⟩
          rw [upd_same, List.take_add_one, eu, List.map_append, List.map_append]
          rfl
        obtain ⟨s5, hz5⟩ := hp.get
        rw [ly, List.take_length] at hz5
        refine ⟨_, _, _, _, rfl, rfl, s5 _ _ upd_same, hz5, Nat.le_of_lt (small20000 (by rw [List.length_map, List.length_map]; show 1 + _ ≤ _; omega)), fun D6 hD6 => ?_⟩
        have e6 : [V.int 0] ++ List.map V.int (t.kids.map fun u => (u.dep : Int)) = ((0 : Int) :: t.kids.map fun u => (u.dep : Int)).map V.int := rfl
        rw [e6]
        have hl6 : ((0 : Int) :: t.kids.map fun u => (u.dep : Int)).length = t.kids.length + 1 := by rw [List.length_cons, List.length_map]
        walk_at "run"
        refine And.intro ⟨_, SqL.of upd_same⟩ (fun D7 hD7 => ?_)
        refine lc_it (walk_list (xs := ((0 : Int) :: t.kids.map fun u => (u.dep : Int)).map V.int)) (fun i H' => Hd (Same (upd H5 D6 (.lst (((0 : Int) :: t.kids.map fun u => (u.dep : Int)).map V.int))) H' ∧ H' D7 = some (.lst ((((0 : Int) :: t.kids.map fun u => (u.dep : Int)).take i).map V.int)))) (.mk ⟨same_upd hD7, upd_same⟩) (fun i H' hi hp => SqL.of (hp.get.1 _ _ upd_same)) (fun i z Ha Hb hi hp hy => ?_) (fun H8 hp => ?_)
        · obtain ⟨s7, hz7⟩ := hp.get
          obtain ⟨rfl, ez⟩ := hy
          rw [List.getElem?_map] at ez
          obtain ⟨m, em, rfl⟩ := Option.map_eq_some_iff.mp ez
          walk_at "run"
          refine ⟨_, hz7, small20000 (by rw [List.length_map, List.length_take, hl6]; omega), .mk ⟨same_put s7 hD7, ?_⟩⟩
          rw [upd_same, List.take_add_one, em, List.map_append]
          rfl
        obtain ⟨s7, hz7⟩ := hp.get
        rw [List.length_map, List.take_length] at hz7
        walk_at "run"
        refine ⟨D7, _, rfl, SqL.of hz7, (by rw [hl6]; omega), fun m hm hle => ?_⟩
        have em := max_deps t.kids hm hle
        subst em
        walk_at "run"
        rename_i pr hpr
        have s9 := ((((s1.trans s2).trans s4).trans s5).trans (same_upd (o := .lst (((0 : Int) :: t.kids.map fun u => (u.dep : Int)).map V.int)) hD6)).trans (s7.trans (same_upd (o := .tup [.int (1 + (Tr.szs t.kids : Int)), .int (1 + (Tr.deps t.kids : Int))]) hpr))
        refine q _ _ s9 ?_
        have e1 : (t.sz : Int) = 1 + (Tr.szs t.kids : Int) := by rw [sz_kids]; omega
        have e2 : (t.dep : Int) = 1 + (Tr.deps t.kids : Int) := by rw [dep_kids]; omega
        rw [e1, e2]
        exact SqT.of upd_same
theorem ok_law_size (T : Txt K mg) : FnOk P w K mg base CX0 20 T.a_law_size T.d_law_size P_law_size (sp_law_size K) := okR_law_size T 18

theorem ok_law_fits (T : Txt K mg) : FnOk P w K mg base CX0 21 T.a_law_fits T.d_law_fits P_law_fits (sp_law_fits K) := by
  refine T.F_law_fits.ok sc_law_fits (fun vs H Q E h => ?_) (fun cdv A outer s H vs Q E hr h => ?_)
  · obtain ⟨v, t, r, d, rfl, _⟩ := h
    rfl
  · obtain ⟨v, t, r, d, rfl, tv, hz, qt, qf⟩ := h
    refine ⟨_, (pss_cons (ps_set (i := 3) sc_law_fits.nd rfl (by first | exact Or.inl rfl | exact Or.inr rfl) (pe_call (ok_law_size T) (hr.mono (by decide)) (by rfl) T.g_law_size T.F_law_size.kp (T.b_law_size) .nil pass0 (pa_cons (pv 0) pa_nil)))
    (pss_one (ps_ret (pe_and (pe_cmpR op_le (pe_ix ix_tup (pv 3) pe_int (fun _ _ => rfl)) (pv 1) (by first | exact nomark _ | rfl)) (pe_one (pe_cmpR op_le (pe_ix ix_tup (pv 3) pe_int (fun _ _ => rfl)) (pv 2) (by first | exact nomark _ | rfl))))))), ?_⟩
    walk_at "run"
    refine ⟨v, t, rfl, tv, hz, fun p H1 s1 hp => ?_⟩
    walk_at "run"
    · rename_i h1
      by_cases h2 : (t.dep : Int) ≤ d
      · show Q (V.bl (decide ((t.dep : Int) ≤ d))) H1
        rw [decide_eq_true h2]
        exact qt _ s1 h1 h2
      · show Q (V.bl (decide ((t.dep : Int) ≤ d))) H1
        rw [decide_eq_false h2]
        exact qf _ s1
    · exact qf _ s1

theorem ok_law_grown (T : Txt K mg) : FnOk P w K mg base CX0 22 T.a_law_grown T.d_law_grown P_law_grown (sp_law_grown K) := by
  refine T.F_law_grown.ok sc_law_grown (fun vs H Q E h => ?_) (fun cdv A outer s H vs Q E hr h => ?_)
  · obtain ⟨b, c, ns, e, pl, l, k, xs, ts, rfl, _⟩ := h
    rfl
  · obtain ⟨b, c, ns, e, pl, l, k, xs, ts, rfl, hb, hp, hl, tv, hz, hn, q⟩ := h
    refine ⟨_, (pss_cons (ps_if (PW.pt (pw_or (pt_cmpR op_eq (pv 3) pe_int (by first | exact nomark _ | rfl)) (pw_or1 (pt_cmpR op_gt (pv 3) (pe_callB call_len_seq (by rfl) T.z_len (by decide +kernel) (pa_cons (pv 2) pa_nil)) (by first | exact nomark _ | rfl)))))
      (pss_one (ps_ret (pe_op op_cat (pv 2) (pe_lst (pa_cons (pe_call (ok_law_leaf T) (hr.mono (by decide)) (by rfl) T.g_law_leaf T.F_law_leaf.kp (T.b_law_leaf) .nil pass0 (pa_cons (pv 0) (pa_cons (pv 1) pa_nil))) pa_nil)))))
      pss_nil)
    (pss_cons (ps_set (i := 6) sc_law_grown.nd rfl (by first | exact Or.inl rfl | exact Or.inr rfl) (pe_call (ok_law_node T) (hr.mono (by decide)) (by rfl) T.g_law_node T.F_law_node.kp (T.b_law_node) .nil pass0 (pa_cons (pv 0) (pa_cons (pv 1) (pa_cons (pe_slice sl_list (pv 2) (po_some (pe_op op_sub (pe_callB call_len_seq (by rfl) T.z_len (by decide +kernel) (pa_cons (pv 2) pa_nil)) (pv 3))) po_none) pa_nil)))))
    (pss_cons (ps_if (pt_not (pt_val (pe_call (ok_law_fits T) (hr.mono (by decide)) (by rfl) T.g_law_fits T.F_law_fits.kp (T.b_law_fits) .nil pass0 (pa_cons (pv 6) (pa_cons (pv 4) (pa_cons (pv 5) pa_nil))))))
      (pss_one (ps_ret (pv 2)))
      pss_nil)
    (pss_one (ps_ret (pe_op op_cat (pe_slice sl_list (pv 2) po_none (po_some (pe_op op_sub (pe_callB call_len_seq (by rfl) T.z_len (by decide +kernel) (pa_cons (pv 2) pa_nil)) (pv 3)))) (pe_lst (pa_cons (pv 6) pa_nil)))))))), ?_⟩
    have ln := tv.len
    have kL : ∀ {H' : Hp}, Bs K b c ns H H' → H' l = some (.lst xs) := fun x => x.lst hb hl tv.noI
    have kT : ∀ {H' : Hp}, Bs K b c ns H H' → TDs K pl.md H' 16 xs ts := fun x => tv.keep (x.tk hb)
    have k0 : ∀ {H' : Hp}, Bs K b c ns H H' → PlL K H' e pl := fun x => hp.keep hb x
    refine seq_merge (C := (fun σ' H' => Hd (H = H' ∧ (1 ≤ k ∧ k ≤ (xs.length : Int)) ∧ σ' = [some (.ref b), some (.ref e), some (.ref l), some (.int k), some (.int 64), some (.int 16), none]))) ?tail ?rest
    case rest =>
      intro R tail
      walk_at "run"
      · refine ⟨b, c, ns, e, pl, rfl, hb, hp, fun p t H1 b1 t1 z1 => ?_⟩
        walk_at "run"
        rename_i p2 hp2
        have hl2 := (same_upd (o := .lst [.ref p]) hp2) _ _ (kL b1)
        refine ⟨_, _, _, _, rfl, rfl, hl2, upd_same, Nat.le_of_lt (small1000 (by show xs.length + 1 ≤ 1000; omega)), fun p3 hp3 => ?_⟩
        have s3 := (same_upd (o := .lst [.ref p]) hp2).trans (same_upd (o := .lst (xs ++ [.ref p])) hp3)
        refine q _ _ (ts ++ [t]) _ (b1.same s3) upd_same (((kT b1).keep (same_tk s3)).snoc ((t1.mono (by decide)).keep (same_tk s3))) ?_ (by rw [List.length_append]; show 1 ≤ _ + 1; omega) (by rw [List.length_append]; exact Nat.le_refl _)
        intro u hu
        rcases List.mem_append.mp hu with hu | hu
        · exact hz u hu
        · rw [List.mem_singleton.mp hu]
          omega
      refine ⟨_, _, rfl, Or.inl (SqL.of hl), ?_⟩
      walk_at "run"
      · refine ⟨b, c, ns, e, pl, rfl, hb, hp, fun p t H1 b1 t1 z1 => ?_⟩
        walk_at "run"
        rename_i p2 hp2
        have hl2 := (same_upd (o := .lst [.ref p]) hp2) _ _ (kL b1)
        refine ⟨_, _, _, _, rfl, rfl, hl2, upd_same, Nat.le_of_lt (small1000 (by show xs.length + 1 ≤ 1000; omega)), fun p3 hp3 => ?_⟩
        have s3 := (same_upd (o := .lst [.ref p]) hp2).trans (same_upd (o := .lst (xs ++ [.ref p])) hp3)
        refine q _ _ (ts ++ [t]) _ (b1.same s3) upd_same (((kT b1).keep (same_tk s3)).snoc ((t1.mono (by decide)).keep (same_tk s3))) ?_ (by rw [List.length_append]; show 1 ≤ _ + 1; omega) (by rw [List.length_append]; exact Nat.le_refl _)
        intro u hu
        rcases List.mem_append.mp hu with hu | hu
        · exact hz u hu
        · rw [List.mem_singleton.mp hu]
          omega
      · exact tail _ _ (.mk ⟨rfl, by omega, rfl⟩)
    case tail =>
      intro σ H1 hc
      obtain ⟨rfl, hk, rfl⟩ := hc.get
      obtain ⟨d, hd⟩ : ∃ d : Nat, (xs.length : Int) - k = (d : Int) := ⟨((xs.length : Int) - k).toNat, by omega⟩
      have ec : cutV xs (some ((xs.length : Int) - k)) none = xs.drop d := by
        rw [hd, cut_drop (by omega) (by omega)]
        rfl
      have ec2 : cutV xs none (some ((xs.length : Int) - k)) = xs.take d := by
        rw [hd, cut_take (by omega) (by omega)]
        rfl
      have lq : ((ts.drop d).length : Int) = k := by
        rw [List.length_drop]
        omega
      have zq : Tr.szs (ts.drop d) ≤ 64 * (ts.drop d).length := szs_bound fun t ht => hz t (List.mem_of_mem_drop ht)
      walk_at "run"
      refine ⟨_, _, rfl, Or.inl (SqL.of hl), ?_⟩
      walk_at "run"
      refine ⟨_, _, rfl, SqL.of hl, fun p1 hp1 => ?_⟩
      rw [ec]
      walk_at "run"
      have B1 : Bs K b c ns H (upd H p1 (.lst (xs.drop d))) := (Bs.refl hb).new hp1
      refine ⟨b, c, ns, e, pl, p1, 15, _, _, rfl, B1.2, k0 B1, upd_same, (kT B1).drop d, by omega, fun p t H2 b2 t2 z2 => ?_⟩
      have B2 := B1.trans b2
      walk_at "run"
      refine ⟨_, t, 64, 16, rfl, t2.1, by omega, fun H3 s3 h1 h2 => ?_, fun H3 s3 => ?_⟩
      · have B3 := B2.same s3
        have t3 : TD K pl.md H3 16 (.ref p) t := ⟨⟨(t2.1.keep (same_tk s3)).1, t2.1.2.of_dep (by omega)⟩, t2.2⟩
        walk_at "run"
        refine ⟨_, _, rfl, Or.inl (SqL.of (kL B3)), ?_⟩
        walk_at "run"
        refine ⟨_, _, rfl, SqL.of (kL B3), fun p4 hp4 => ?_⟩
        rw [ec2]
        walk_at "run"
        rename_i p5 hp5
        refine ⟨_, _, _, _, rfl, rfl, (same_upd hp5) _ _ upd_same, upd_same, Nat.le_of_lt (small1000 (by rw [List.length_take]; show _ + 1 ≤ 1000; omega)), fun p6 hp6 => ?_⟩
        have s6 := ((same_upd (o := .lst (xs.take d)) hp4).trans (same_upd (o := .lst [.ref p]) hp5)).trans (same_upd (o := .lst (xs.take d ++ [.ref p])) hp6)
        refine q _ _ (ts.take d ++ [t]) _ (B3.same s6) upd_same ((((kT B3).take d).keep (same_tk s6)).snoc (t3.keep (same_tk s6))) ?_ (by rw [List.length_append]; show 1 ≤ _ + 1; omega) (by rw [List.length_append, List.length_take]; show _ + 1 ≤ _; omega)
        intro u hu
        rcases List.mem_append.mp hu with hu | hu
        · exact hz u (List.mem_of_mem_take hu)
        · rw [List.mem_singleton.mp hu]
          omega
      · have B3 := B2.same s3
        walk_at "run"
        exact q _ _ _ _ B3 (kL B3) (kT B3) hz (by omega) (by omega)

theorem ok_law_gathered (T : Txt K mg) : FnOk P w K mg base CX0 21 T.a_law_gathered T.d_law_gathered P_law_gathered (sp_law_gathered K) := by
  refine T.F_law_gathered.ok sc_law_gathered (fun vs H Q E h => ?_) (fun cdv A outer s H vs Q E hr h => ?_)
  · obtain ⟨b, c, ns, pl, l, xs, ts, rfl, _⟩ := h
    rfl
  · obtain ⟨b, c, ns, pl, l, xs, ts, rfl, hb, hl, tv, hz, hn, q⟩ := h
    refine ⟨_, (pss_cons (ps_if (pt_cmpR op_eq (pe_callB call_len_seq (by rfl) T.z_len (by decide +kernel) (pa_cons (pv 1) pa_nil)) pe_int (by first | exact nomark _ | rfl))
      (pss_one (ps_ret (pe_ix ix_list (pv 1) pe_int (fun _ _ => rfl))))
      pss_nil)
    (pss_cons (ps_set (i := 4) sc_law_gathered.nd rfl (by first | exact Or.inl rfl | exact Or.inr rfl) (pe_lst pa_nil))
    (pss_cons (ps_set (i := 5) sc_law_gathered.nd rfl (by first | exact Or.inl rfl | exact Or.inr rfl) pe_int)
    (pss_cons (ps_for PassesOwn.never rfl (pi_reversed (by rfl) T.z_reversed (pa_cons (pv 1) pa_nil)) (pg_name (i := 6) sc_law_gathered.nd rfl (by first | exact Or.inl rfl | exact Or.inr rfl))
      (pss_cons (ps_set (i := 7) sc_law_gathered.nd rfl (by first | exact Or.inl rfl | exact Or.inr rfl) (pe_call (ok_law_size T) (hr.mono (by decide)) (by rfl) T.g_law_size T.F_law_size.kp (T.b_law_size) .nil pass0 (pa_cons (pv 6) pa_nil)))
    (pss_one (ps_if (PW.pt (pw_and (pt_cmpR op_lt (pe_callB call_len_seq (by rfl) T.z_len (by decide +kernel) (pa_cons (pv 4) pa_nil)) pe_int (by first | exact nomark _ | rfl)) (pw_and (pt_cmpR op_le (pe_op op_add (pv 5) (pe_ix ix_tup (pv 7) pe_int (fun _ _ => rfl))) (pv 2) (by first | exact nomark _ | rfl)) (pw_and1 (pt_cmpR op_lt (pe_ix ix_tup (pv 7) pe_int (fun _ _ => rfl)) (pv 3) (by first | exact nomark _ | rfl))))))
      (pss_cons (ps_set (i := 4) sc_law_gathered.nd rfl (by first | exact Or.inl rfl | exact Or.inr rfl) (pe_op op_cat (pe_lst (pa_cons (pv 6) pa_nil)) (pv 4)))
    (pss_one (ps_set (i := 5) sc_law_gathered.nd rfl (by first | exact Or.inl rfl | exact Or.inr rfl) (pe_op op_add (pv 5) (pe_ix ix_tup (pv 7) pe_int (fun _ _ => rfl))))))
      pss_nil))))
    (pss_cons (ps_if (pt_cmpR op_eq (pe_callB call_len_seq (by rfl) T.z_len (by decide +kernel) (pa_cons (pv 4) pa_nil)) pe_int (by first | exact nomark _ | rfl))
      (pss_one (ps_ret (pe_ix ix_list (pv 1) (pe_op op_sub (pe_callB call_len_seq (by rfl) T.z_len (by decide +kernel) (pa_cons (pv 1) pa_nil)) pe_int) (fun _ _ => rfl))))
      pss_nil)
    (pss_one (ps_ret (pe_tup (pa_cons pe_str (pa_cons (pe_ix ix_list (pe_lst (pa_cons pe_str (pa_cons pe_str (pa_cons pe_str (pa_cons pe_str pa_nil))))) (pe_call (ok_law_draw T) (hr.mono (by decide)) (by rfl) T.g_law_draw T.F_law_draw.kp (T.b_law_draw) .nil pass0 (pa_cons (pv 0) (pa_cons pe_int pa_nil))) (fun _ _ => rfl)) (pa_cons (pe_callTy call_tuple_of (by rfl) T.z_tuple (by decide +kernel) (pa_cons (pv 4) pa_nil)) pa_nil))))))))))), ?_⟩
    have ln := tv.len
    obtain ⟨hn1, hn2⟩ := hn
    have kL : ∀ {H' : Hp}, Bs K b c ns H H' → H' l = some (.lst xs) := fun x => x.lst hb hl tv.noI
    have kT : ∀ {H' : Hp}, Bs K b c ns H H' → TDs K pl.md H' 16 xs ts := fun x => tv.keep (x.tk hb)
    have pick : ∀ {i : Nat}, i < xs.length → ∃ p t, xs[i]? = some (.ref p) ∧ ts[i]? = some t ∧ TD K pl.md H 16 (.ref p) t ∧ t.sz ≤ 64 := fun {i} hi => by
      have e1 := List.getElem?_eq_getElem hi
      obtain ⟨t, et, td⟩ := tv.at e1
      obtain ⟨p, ep⟩ := td.ref
      rw [ep] at e1 td
      exact ⟨p, t, e1, et, td, hz t (List.mem_of_getElem? et)⟩
    refine seq_merge (C := (fun σ' H' => Hd (H = H' ∧ σ' = [some (.ref b), some (.ref l), some (.int 64), some (.int 16), none, none, none, none]))) ?tail ?rest
    case rest =>
      intro R tail
      walk_at "run"
      refine ⟨_, _, rfl, Or.inl (SqL.of hl), ?_⟩
      walk_at "run"
      · obtain ⟨p, t, e1, _, td, z1⟩ := pick (i := 0) (by omega)
        refine ⟨_, _, _, _, rfl, rfl, SqL.of hl, atI_at (n := 0) rfl e1, ?_⟩
        exact q _ t _ (Bs.refl hb) td z1
      · exact tail _ _ (.mk ⟨rfl, rfl⟩)
    case tail =>
      intro σ H1 hc
      obtain ⟨rfl, rfl⟩ := hc.get
      refine seq_merge3 (C := (fun σ' H' => Hd (Same H H' ∧ ∃ (D : Addr) (ys : List V) (us : List Tr) (tot : Int) (u1 u2 : Option V), H' D = some (.lst ys) ∧ TDs K pl.md H' 15 ys us ∧ us.length ≤ 16 ∧ tot = (Tr.szs us : Int) + 1 ∧ tot ≤ 64 ∧ σ' = [some (.ref b), some (.ref l), some (.int 64), some (.int 16), some (.ref D), some (.int tot), u1, u2]))) ?tail2 ?rest2
      case rest2 =>
        intro R tail
        walk_at "run"
        rename_i D hD
        refine ⟨l, xs, rfl, SqL.of ((same_upd hD) _ _ hl), ?_⟩
        refine for_it (walk_rev (xs := xs)) (fun i σ' H' => Hd (Same H H' ∧ ∃ (D : Addr) (ys : List V) (us : List Tr) (tot : Int) (u1 u2 : Option V), H' D = some (.lst ys) ∧ TDs K pl.md H' 15 ys us ∧ us.length ≤ 16 ∧ tot = (Tr.szs us : Int) + 1 ∧ tot ≤ 64 ∧ σ' = [some (.ref b), some (.ref l), some (.int 64), some (.int 16), some (.ref D), some (.int tot), u1, u2])) (.mk ⟨same_upd hD, D, [], [], 1, none, none, upd_same, TDs.nil, Nat.zero_le _, rfl, by decide, rfl⟩) (fun i σ H' hi hp => SqL.of (hp.get.1 _ _ hl)) (fun i z σ Ha Hb hi hp hy => ?_) (fun σ H' hp => ?_)
        · obtain ⟨s2, D2, ys, us, tot, u1, u2, hD2, ty, lu, et, et2, rfl⟩ := hp.get
          obtain ⟨rfl, ez⟩ := hy
          obtain ⟨p, t, e1, _, td, z1⟩ := pick (i := xs.length - 1 - i) (by omega)
          rw [ez] at e1
          cases e1
          have td2 := td.keep (same_tk s2)
          have ly := ty.len
          walk_at "run"
          refine ⟨_, t, rfl, td2.1.mono (by decide), by omega, fun p3 H3 s3 hp3 => ?_⟩
          have s23 := s2.trans s3
          have hD3 := s3 _ _ hD2
          have ty3 := ty.keep (same_tk s3)
          have td3 := td2.keep (same_tk s3)
          walk_at "run"
          refine ⟨_, _, rfl, Or.inl (SqL.of hD3), ?_⟩
          walk_at "run"
          · rename_i h1 h2 h3 p4 hp4
            have hdep : t.dep ≤ 15 := by omega
            refine ⟨_, _, _, _, rfl, rfl, upd_same, (same_upd hp4) _ _ hD3, Nat.le_of_lt (small1000 (by show 1 + ys.length ≤ 1000; omega)), fun p5 hp5 => ?_⟩
            have s5 := (same_upd (o := .lst [.ref p]) hp4).trans (same_upd (o := .lst ([.ref p] ++ ys)) hp5)
            have t5 : TD K pl.md _ 15 (.ref p) t := ⟨⟨(td3.keep (same_tk s5)).1.1, td3.1.2.of_dep hdep⟩, td3.2⟩
            have hp6 := same_tk (K := K) s5 _ _ hp3
            walk_at "run"
            refine .mk ⟨s23.trans s5, p5, [.ref p] ++ ys, [t] ++ us, _, _, _, upd_same, (TDs.one t5).app (ty3.keep (same_tk s5)), by rw [List.length_append]; show 1 + _ ≤ 16; omega, ?_, by omega, rfl⟩
            rw [szs_app, szs_cons, szs_nil]
            omega
          all_goals exact .mk ⟨s23, D2, ys, us, tot, _, _, hD3, ty3, lu, et, et2, rfl⟩
        · exact tail _ _ hp
      case tail2 =>
        intro σ2 H2 hc2
        obtain ⟨s2, D, ys, us, tot, u1, u2, hD, ty, lu, et, et2, rfl⟩ := hc2.get
        have B2 := (Bs.refl hb).same s2
        have ly := ty.len
        walk_at "run"
        refine ⟨_, _, rfl, Or.inl (SqL.of hD), ?_⟩
        walk_at "run"
        · refine ⟨_, _, rfl, Or.inl (SqL.of (kL B2)), ?_⟩
          walk_at "run"
          obtain ⟨p, t, e1, _, td, z1⟩ := pick (i := xs.length - 1) (by omega)
          refine ⟨_, _, _, _, rfl, rfl, SqL.of (kL B2), atI_at (n := xs.length - 1) (by omega) e1, ?_⟩
          exact q _ t _ B2 (td.keep (same_tk s2)) z1
        · rename_i h1 p hp9
          have bp := B2.2.new (o := .lst (["SUM", "MAX", "COUNTA", "CONCAT"].map fun z : String => V.str (Str.ofString z))) hp9
          refine ⟨b, c, ns, 4, rfl, bp, by decide, fun j H3 b3 j0 j1 => ?_⟩
          have B3 := (B2.new hp9).trans b3
          have hD3 := b3.lst bp ((same_upd hp9) _ _ hD) ty.noI
          have ty3 := (ty.keep (same_tk (same_upd hp9))).keep (b3.tk bp)
          refine atI_go (SqL.of (b3.lst bp upd_same (strs_noI (["SUM", "MAX", "COUNTA", "CONCAT"].map fun z : String => Str.ofString z)))) j0 (by show j < (4 : Int); exact j1) fun v hv => ?_
          obtain ⟨z, _, rfl⟩ : ∃ z : Str, z ∈ (["SUM", "MAX", "COUNTA", "CONCAT"].map fun z : String => Str.ofString z) ∧ V.str z = v := List.mem_map.mp hv
          clear hv
          walk_at "run"
          refine ⟨_, _, rfl, Or.inl ⟨SqL.of hD3, fun pt hpt => ?_⟩⟩
          walk_at "run"
          rename_i p8 hp8
          have s8 := (same_upd (o := .tup ys) hpt).trans (same_upd (o := .tup [.str "call", .str z, .ref pt]) hp8)
          refine q _ (.call (.str z) us) _ (B3.same s8) (TD.mk_call (SqT.of upd_same) (.str _) (fitD_str _ _) (SqT.of ((same_upd hp8) _ _ upd_same)) (ty3.keep (same_tk s8)) lu) ?_
          show Tr.szs us + 1 ≤ 64
          omega

theorem ok_law_tree (T : Txt K mg) : FnOk P w K mg base CX0 23 T.a_law_tree T.d_law_tree P_law_tree (sp_law_tree K) := by
  refine T.F_law_tree.ok sc_law_tree (fun vs H Q E h => ?_) (fun cdv A outer s H vs Q E hr h => ?_)
  · obtain ⟨b, c, ns, e, pl, rfl, _⟩ := h
    rfl
  · obtain ⟨b, c, ns, e, pl, rfl, hb, hp, q⟩ := h
    refine ⟨_, (pss_cons (ps_set (i := 4) sc_law_tree.nd rfl (by first | exact Or.inl rfl | exact Or.inr rfl) (pe_lst pa_nil))
    (pss_cons (ps_set (i := 5) sc_law_tree.nd rfl (by first | exact Or.inl rfl | exact Or.inr rfl) (pe_lst (pa_cons pe_int (pa_cons pe_int (pa_cons pe_int (pa_cons pe_int (pa_cons pe_int (pa_cons pe_int (pa_cons pe_int (pa_cons pe_int (pa_cons pe_int (pa_cons pe_int (pa_cons pe_int (pa_cons pe_int pa_nil))))))))))))))
    (pss_cons (ps_set (i := 6) sc_law_tree.nd rfl (by first | exact Or.inl rfl | exact Or.inr rfl) (pe_call (ok_law_draw T) (hr.mono (by decide)) (by rfl) T.g_law_draw T.F_law_draw.kp (T.b_law_draw) .nil pass0 (pa_cons (pv 0) (pa_cons (pe_ix ix_list (pe_lst (pa_cons pe_int (pa_cons pe_int (pa_cons pe_int pa_nil)))) (pe_call (ok_law_draw T) (hr.mono (by decide)) (by rfl) T.g_law_draw T.F_law_draw.kp (T.b_law_draw) .nil pass0 (pa_cons (pv 0) (pa_cons pe_int pa_nil))) (fun _ _ => rfl)) pa_nil))))
    (pss_cons (ps_for PassesOwn.never rfl (pi_range1 (by rfl) T.z_range (pa_cons (pe_op op_add (pv 6) pe_int) pa_nil)) (pg_name (i := 7) sc_law_tree.nd rfl (by first | exact Or.inl rfl | exact Or.inr rfl))
      (pss_cons (ps_set (i := 8) sc_law_tree.nd rfl (by first | exact Or.inl rfl | exact Or.inr rfl) (pe_call (ok_law_draw T) (hr.mono (by decide)) (by rfl) T.g_law_draw T.F_law_draw.kp (T.b_law_draw) .nil pass0 (pa_cons (pv 0) (pa_cons pe_int pa_nil))))
    (pss_cons (ps_if (pt_cmpR op_lt (pv 8) pe_int (by first | exact nomark _ | rfl))
      (pss_one (ps_set (i := 8) sc_law_tree.nd rfl (by first | exact Or.inl rfl | exact Or.inr rfl) (pe_ix ix_list (pv 5) (pv 8) (fun _ _ => rfl))))
      (pss_one (ps_set (i := 8) sc_law_tree.nd rfl (by first | exact Or.inl rfl | exact Or.inr rfl) (pe_call (ok_law_draw T) (hr.mono (by decide)) (by rfl) T.g_law_draw T.F_law_draw.kp (T.b_law_draw) .nil pass0 (pa_cons (pv 0) (pa_cons pe_int pa_nil))))))
    (pss_one (ps_set (i := 4) sc_law_tree.nd rfl (by first | exact Or.inl rfl | exact Or.inr rfl) (pe_call (ok_law_grown T) (hr.mono (by decide)) (by rfl) T.g_law_grown T.F_law_grown.kp (T.b_law_grown) .nil pass0 (pa_cons (pv 0) (pa_cons (pv 1) (pa_cons (pv 4) (pa_cons (pv 8) (pa_cons (pv 2) (pa_cons (pv 3) pa_nil))))))))))))
    (pss_cons (ps_set (i := 9) sc_law_tree.nd rfl (by first | exact Or.inl rfl | exact Or.inr rfl) (pe_call (ok_law_gathered T) (hr.mono (by decide)) (by rfl) T.g_law_gathered T.F_law_gathered.kp (T.b_law_gathered) .nil pass0 (pa_cons (pv 0) (pa_cons (pv 4) (pa_cons (pv 2) (pa_cons (pv 3) pa_nil))))))
    (pss_cons (ps_if (pt_cmpR op_eq (pe_call (ok_law_draw T) (hr.mono (by decide)) (by rfl) T.g_law_draw T.F_law_draw.kp (T.b_law_draw) .nil pass0 (pa_cons (pv 0) (pa_cons pe_int pa_nil))) pe_int (by first | exact nomark _ | rfl))
      (pss_one (ps_for PassesOwn.never rfl (pi_range1 (by rfl) T.z_range (pa_cons (pe_call (ok_law_draw T) (hr.mono (by decide)) (by rfl) T.g_law_draw T.F_law_draw.kp (T.b_law_draw) .nil pass0 (pa_cons (pv 0) (pa_cons pe_int pa_nil))) pa_nil)) (pg_name (i := 7) sc_law_tree.nd rfl (by first | exact Or.inl rfl | exact Or.inr rfl))
      (pss_cons (ps_set (i := 10) sc_law_tree.nd rfl (by first | exact Or.inl rfl | exact Or.inr rfl) (pe_lst (pa_cons (pv 9) pa_nil)))
    (pss_cons (ps_if (pt_cmpR op_eq (pe_call (ok_law_draw T) (hr.mono (by decide)) (by rfl) T.g_law_draw T.F_law_draw.kp (T.b_law_draw) .nil pass0 (pa_cons (pv 0) (pa_cons pe_int pa_nil))) pe_int (by first | exact nomark _ | rfl))
      (pss_one (ps_expr (pe_bm PySem.F.plainAttrs_list PySem.F.slot_list_insert PySem.F.type_list_insert mt_insert (pv 10) (pa_cons (pe_call (ok_law_draw T) (hr.mono (by decide)) (by rfl) T.g_law_draw T.F_law_draw.kp (T.b_law_draw) .nil pass0 (pa_cons (pv 0) (pa_cons pe_int pa_nil))) (pa_cons (pe_call (ok_law_leaf T) (hr.mono (by decide)) (by rfl) T.g_law_leaf T.F_law_leaf.kp (T.b_law_leaf) .nil pass0 (pa_cons (pv 0) (pa_cons (pv 1) pa_nil))) pa_nil)))))
      pss_nil)
    (pss_cons (ps_set (i := 11) sc_law_tree.nd rfl (by first | exact Or.inl rfl | exact Or.inr rfl) (pe_call (ok_law_node T) (hr.mono (by decide)) (by rfl) T.g_law_node T.F_law_node.kp (T.b_law_node) .nil pass0 (pa_cons (pv 0) (pa_cons (pv 1) (pa_cons (pv 10) pa_nil)))))
    (pss_one (ps_if (pt_val (pe_call (ok_law_fits T) (hr.mono (by decide)) (by rfl) T.g_law_fits T.F_law_fits.kp (T.b_law_fits) .nil pass0 (pa_cons (pv 11) (pa_cons (pv 2) (pa_cons (pv 3) pa_nil)))))
      (pss_one (ps_set (i := 9) sc_law_tree.nd rfl (by first | exact Or.inl rfl | exact Or.inr rfl) (pv 11)))
      pss_nil)))))))
      pss_nil)
    (pss_one (ps_ret (pv 9))))))))), ?_⟩
    have k0 : ∀ {H' : Hp}, Bs K b c ns H H' → PlL K H' e pl := fun x => hp.keep hb x
    refine seq_merge3 (C := (fun σ' H' => Hd (Bs K b c ns H H' ∧ ∃ (D S : Addr) (st : Int), H' D = some (.lst []) ∧ H' S = some (.lst [.int 0, .int 0, .int 0, .int 0, .int 0, .int 1, .int 1, .int 2, .int 2, .int 2, .int 3, .int 4]) ∧ (0 ≤ st ∧ st < 90) ∧ σ' = [some (.ref b), some (.ref e), some (.int 64), some (.int 16), some (.ref D), some (.ref S), some (.int st), none, none, none, none, none]))) ?tail ?rest
    case rest =>
      intro R tail
      walk_at "run"
      rename_i D hD S hS p hp9
      have s3 := ((same_upd (o := .lst []) hD).trans (same_upd (o := .lst [.int 0, .int 0, .int 0, .int 0, .int 0, .int 1, .int 1, .int 2, .int 2, .int 2, .int 3, .int 4]) hS)).trans (same_upd (o := .lst [.int 6, .int 24, .int 90]) hp9)
      have B3 := (Bs.refl hb).same s3
      refine ⟨b, c, ns, 3, rfl, B3.2, by decide, fun n H1 b1 n0 n1 => ?_⟩
      refine atI_go (SqL.of (b1.ints B3.2 (ks := [6, 24, 90]) upd_same)) n0 (by show n < (3 : Int); exact n1) fun v hv => ?_
      obtain ⟨m, rfl, hm⟩ : ∃ m : Int, v = .int m ∧ (6 ≤ m ∧ m ≤ 90) := by
        simp only [List.map_cons, List.map_nil, List.mem_cons, List.not_mem_nil, or_false] at hv
        rcases hv with rfl | rfl | rfl <;> exact ⟨_, rfl, by decide, by decide⟩
      clear hv
      walk_at "run"
      rename_i st H2 b2 st0 st1
      have b12 := b1.trans b2
      have hD2 := b12.lst B3.2 ((same_upd hp9) _ _ ((same_upd hS) _ _ upd_same)) (len_noI (by decide))
      have hS2 := b12.lst B3.2 ((same_upd hp9) _ _ upd_same) (fst_noI (fun a h => by cases h))
      exact tail _ _ (.mk ⟨B3.trans b12, D, S, st, hD2, hS2, by omega, rfl⟩)
    case tail =>
    intro σ1 H1 hc1
    obtain ⟨b1, D, S, st, hD, hS, hst, rfl⟩ := hc1.get
    refine seq_merge (C := (fun σ' H' => Hd (Bs K b c ns H H' ∧ ∃ (D S : Addr) (ys : List V) (us : List Tr) (u1 u2 : Option V), H' D = some (.lst ys) ∧ TDs K pl.md H' 16 ys us ∧ (∀ t ∈ us, t.sz ≤ 64) ∧ (1 ≤ us.length ∧ us.length ≤ 200) ∧ σ' = [some (.ref b), some (.ref e), some (.int 64), some (.int 16), some (.ref D), some (.ref S), some (.int st), u1, u2, none, none, none]))) ?tail2 ?rest2
    case rest2 =>
      intro R tail
      walk_at "run"
      refine for_range (lo := 0) (n := (st + 1).toNat) (fun i σ' H' => Hd (Bs K b c ns H H' ∧ ∃ (D : Addr) (ys : List V) (us : List Tr) (u1 u2 : Option V), H' D = some (.lst ys) ∧ H' S = some (.lst [.int 0, .int 0, .int 0, .int 0, .int 0, .int 1, .int 1, .int 2, .int 2, .int 2, .int 3, .int 4]) ∧ TDs K pl.md H' 16 ys us ∧ (∀ t ∈ us, t.sz ≤ 64) ∧ (i = 0 ∨ 1 ≤ us.length) ∧ us.length ≤ i ∧ σ' = [some (.ref b), some (.ref e), some (.int 64), some (.int 16), some (.ref D), some (.ref S), some (.int st), u1, u2, none, none, none])) (.mk ⟨b1, D, [], [], none, none, hD, hS, TDs.nil, fun t h => absurd h List.not_mem_nil, .inl rfl, Nat.le_refl _, rfl⟩) (fun i σ H' hi hp2 => ?_) (fun σ H' hp2 => ?_)
      · obtain ⟨b2, D, ys, us, u1, u2, hD, hS, ty, hz, h1, h2, rfl⟩ := hp2.get
        have ly := ty.len
        have fin : ∀ (k : Int) (H3 : Hp), Bs K b c ns H' H3 → 0 ≤ k → k ≤ 17 → sp_law_grown K [.ref b, .ref e, .ref D, .int k, .int 64, .int 16] H3 (fun r H4 => Hd (Bs K b c ns H H4 ∧ ∃ (D : Addr) (ys : List V) (us : List Tr) (u1 u2 : Option V), H4 D = some (.lst ys) ∧ H4 S = some (.lst [.int 0, .int 0, .int 0, .int 0, .int 0, .int 1, .int 1, .int 2, .int 2, .int 2, .int 3, .int 4]) ∧ TDs K pl.md H4 16 ys us ∧ (∀ t ∈ us, t.sz ≤ 64) ∧ (i + 1 = 0 ∨ 1 ≤ us.length) ∧ us.length ≤ i + 1 ∧ [some (.ref b), some (.ref e), some (.int 64), some (.int 16), some r, some (.ref S), some (.int st), some (.int (0 + (i : Int))), some (.int k), none, none, none] = [some (.ref b), some (.ref e), some (.int 64), some (.int 16), some (.ref D), some (.ref S), some (.int st), u1, u2, none, none, none])) E := fun k H3 b3 hk0 hk1 => by
          have B3 := b2.trans b3
          refine ⟨b, c, ns, e, pl, D, k, ys, us, rfl, B3.2, k0 B3, b3.lst b2.2 hD ty.noI, ty.keep (b3.tk b2.2), hz, by omega, fun l' ys' us' H4 b4 h4 t4 z4 l41 l42 => ?_⟩
          exact .mk ⟨B3.trans b4, l', ys', us', _, _, h4, (b3.trans b4).lst b2.2 hS (fst_noI (fun a h => by cases h)), t4, z4, .inr l41, by omega, rfl⟩
        walk_at "run"
        · rename_i n3 H3 b3 n30 n31 n32
          have hS3 := b3.lst b2.2 hS (fst_noI (fun a h => by cases h))
          refine atI_go (SqL.of hS3) n30 (by show n3 < (12 : Int); omega) fun v hv => ?_
          obtain ⟨m, rfl, hm⟩ : ∃ m : Int, v = .int m ∧ (0 ≤ m ∧ m ≤ 17) := by
            simp only [List.mem_cons, List.not_mem_nil, or_false] at hv
            rcases hv with rfl | rfl | rfl | rfl | rfl | rfl | rfl | rfl | rfl | rfl | rfl | rfl <;> exact ⟨_, rfl, by decide, by decide⟩
          clear hv
          walk_at "run"
          exact fin _ _ b3 hm.1 hm.2
        · rename_i n3 H3 b3 n30 n31 n32 n4 H4 b4 n40 n41
          exact fin _ _ (b3.trans b4) n40 (by omega)
      · obtain ⟨b2, D, ys, us, u1, u2, hD, hS, ty, hz, h1, h2, rfl⟩ := hp2.get
        exact tail _ _ (.mk ⟨b2, D, S, ys, us, u1, u2, hD, ty, hz, by omega, rfl⟩)
    case tail2 =>
    intro σ2 H2 hc2
    obtain ⟨b2, D, S, ys, us, u1, u2, hD, ty, hz, hl, rfl⟩ := hc2.get
    refine seq_merge (C := (fun σ' H' => Hd (Bs K b c ns H H' ∧ ∃ (p : Addr) (t : Tr) (w1 w2 w3 w4 w5 : Option V), TD K pl.md H' 16 (.ref p) t ∧ t.sz ≤ 64 ∧ σ' = [some (.ref b), some (.ref e), some (.int 64), some (.int 16), some (.ref D), w1, w2, w3, w4, some (.ref p), none, none]))) ?tail3 ?rest3
    case rest3 =>
      intro R tail
      walk_at "run"
      refine ⟨b, c, ns, pl, D, ys, us, rfl, b2.2, hD, ty, hz, hl, fun p t H3 b3 t3 z3 => ?_⟩
      exact tail _ _ (.mk ⟨b2.trans b3, p, t, _, _, _, _, none, t3, z3, rfl⟩)
    case tail3 =>
    intro σ3 H3 hc3
    obtain ⟨b3, p, t, w1, w2, w3, w4, w5, td, z3, rfl⟩ := hc3.get
    refine seq_merge (C := (fun σ' H' => Hd (Bs K b c ns H H' ∧ ∃ (p : Addr) (t : Tr) (w3 w6 w7 : Option V), TD K pl.md H' 16 (.ref p) t ∧ t.sz ≤ 64 ∧ σ' = [some (.ref b), some (.ref e), some (.int 64), some (.int 16), some (.ref D), w1, w2, w3, w4, some (.ref p), w6, w7]))) ?tail4 ?rest4
    case rest4 =>
      intro R tail
      walk_at "run"
      · rename_i n4 H4 b4 n40 n41 n42 n5 H5 b5 n50 n51
        have B5 := b3.trans (b4.trans b5)
        refine for_range (lo := 0) (n := n5.toNat) (fun i σ' H' => Hd (Bs K b c ns H H' ∧ ∃ (p : Addr) (t : Tr) (w3 w6 w7 : Option V), TD K pl.md H' 16 (.ref p) t ∧ t.sz ≤ 64 ∧ σ' = [some (.ref b), some (.ref e), some (.int 64), some (.int 16), some (.ref D), w1, w2, w3, w4, some (.ref p), w6, w7])) (.mk ⟨B5, p, t, w3, none, none, td.keep ((b4.trans b5).tk b3.2), z3, rfl⟩) (fun i σ H' hi hp2 => ?_) (fun σ H' hp2 => tail _ _ hp2)
        obtain ⟨b6, p, t, w3, w6, w7, td, z3, rfl⟩ := hp2.get
        have fin : ∀ (l : Addr) (xs : List V) (ts : List Tr) (H5 : Hp), Bs K b c ns H H5 → H5 l = some (.lst xs) → TDs K pl.md H5 16 xs ts → (1 ≤ ts.length ∧ ts.length ≤ 2) → Tr.szs ts ≤ 100 → TD K pl.md H5 16 (.ref p) t → ∀ (w : Option V), (tSeq (tAsg (tCall (sp_law_node K) [] E0 (tCons (tVar 0) (tCons (tVar 1) (tCons (tVar 10) tNil)))) (gName 11)) (tIfS (tTest (tCall (sp_law_fits K) [] E0 (tCons (tVar 11) (tCons (tVar 2) (tCons (tVar 3) tNil))))) (tAsg (tVar 11) (gName 9)) tNext)) { nx := fun σ' H' => Hd (Bs K b c ns H H' ∧ ∃ (p : Addr) (t : Tr) (w3 w6 w7 : Option V), TD K pl.md H' 16 (.ref p) t ∧ t.sz ≤ 64 ∧ σ' = [some (.ref b), some (.ref e), some (.int 64), some (.int 16), some (.ref D), w1, w2, w3, w4, some (.ref p), w6, w7]), rt := Q } [some (.ref b), some (.ref e), some (.int 64), some (.int 16), some (.ref D), w1, w2, some (.int (0 + (i : Int))), w4, some (.ref p), some (.ref l), w] H5 := fun l xs ts H5 B5 hl tv hn hs td w => by
          walk_at "run"
          refine ⟨b, c, ns, e, pl, l, 15, xs, ts, rfl, B5.2, k0 B5, hl, tv, ⟨hn.1, by omega⟩, fun p2 t2 H6 b6 t6 z6 => ?_⟩
          have B6 := B5.trans b6
          have td6 := td.keep (b6.tk B5.2)
          walk_at "run"
          refine ⟨_, t2, 64, 16, rfl, t6.1, by omega, fun H7 s7 h1 h2 => ?_, fun H7 s7 => ?_⟩
          · walk_at "run"
            exact .mk ⟨B6.same s7, p2, t2, _, _, _, ⟨⟨(t6.1.keep (same_tk s7)).1, t6.1.2.of_dep (by omega)⟩, t6.2⟩, by omega, rfl⟩
          · walk_at "run"
            exact .mk ⟨B6.same s7, p, t, _, _, _, td6.keep (same_tk s7), z3, rfl⟩
        dsimp only [gName]
        refine seq_merge2 (C := (fun σ' H5 => Hd (Bs K b c ns H H5 ∧ ∃ (L : Addr) (xs : List V) (ts : List Tr), H5 L = some (.lst xs) ∧ TDs K pl.md H5 16 xs ts ∧ (1 ≤ ts.length ∧ ts.length ≤ 2) ∧ Tr.szs ts ≤ 100 ∧ TD K pl.md H5 16 (.ref p) t ∧ σ' = [some (.ref b), some (.ref e), some (.int 64), some (.int 16), some (.ref D), w1, w2, some (.int (0 + (i : Int))), w4, some (.ref p), some (.ref L), w7]))) ?tail9 ?rest9
        case tail9 =>
          intro σ9 H9 hc9
          obtain ⟨b9, L, xs, ts, h1, h2, h3, h4, h5, rfl⟩ := hc9.get
          exact fin L xs ts H9 b9 h1 h2 h3 h4 h5 w7
        intro R tail9
        walk_at "run"
        rename_i L hL
        have hneL := b6.2.ne hL
        have bL := (Bs.refl b6.2).new (o := .lst [.ref p]) hL
        have tdL := td.keep (same_tk (same_upd (o := .lst [.ref p]) hL))
        walk_at "run"
        · rename_i n8 H8 b8 n80 n81 n82
          have hL8 := b8.1 _ _ (Ne.symm hneL) (upd_same (o := .lst [.ref p]))
          have td8 := tdL.keep (b8.tk bL.2)
          have B8 := b6.trans (bL.trans b8)
          refine ⟨.inl ⟨rfl, _, SqL.of hL8⟩, ?_⟩
          walk_at "run"
          rename_i n9 H9 b9 n90 n91
          have B9 := B8.trans b9
          have hL9 := b9.1 _ _ (Ne.symm hneL) hL8
          have td9 := td8.keep (b9.tk b8.2)
          refine ⟨b, c, ns, e, pl, rfl, b9.2, k0 B9, fun p5 t5 H10 b10 t10 z10 => ?_⟩
          have hL10 := b10.1 _ _ (Ne.symm hneL) hL9
          have td10 := td9.keep (b10.tk b9.2)
          refine ⟨_, _, _, _, rfl, rfl, hL10, small1000 (by show 1 ≤ 1000; decide), n90, by omega, ?_⟩
          have B10 := (bL.trans b8).trans (b9.trans b10)
          have Bf : Bs K b c ns H (upd H10 L (.lst ([V.ref p].take n9.toNat ++ [.ref p5] ++ [V.ref p].drop n9.toNat))) := b6.trans ((b8.trans (b9.trans b10)).moreL b6.2 hL hneL)
          have tk := lst_tk (K := K) (zs := [V.ref p].take n9.toNat ++ [.ref p5] ++ [V.ref p].drop n9.toNat) hL10
          have one : TDs K pl.md H10 16 [.ref p] [t] := .one td10
          refine tail9 _ _ (.mk ⟨Bf, L, _, _, upd_same, (((one.take n9.toNat).app (.one (t10.mono (by decide)))).app (one.drop n9.toNat)).keep tk, ?_, ?_, td10.keep tk, rfl⟩)
          · rw [List.length_append, List.length_append, List.length_take, List.length_drop]
            show 1 ≤ _ + 1 + _ ∧ _ + 1 + _ ≤ 2
            simp only [List.length_cons, List.length_nil]
            omega
          · have hsp := szs_split [t] n9.toNat
            rw [szs_app, szs_app, szs_cons, szs_nil]
            have : Tr.szs [t] = t.sz + 0 := rfl
            omega
        · rename_i n8 H8 b8 n80 n81 n82
          have hL8 := b8.1 _ _ (Ne.symm hneL) (upd_same (o := .lst [.ref p]))
          have td8 := tdL.keep (b8.tk bL.2)
          exact tail9 _ _ (.mk ⟨b6.trans (bL.trans b8), L, _, [t], hL8, .one td8, (by show 1 ≤ 1 ∧ 1 ≤ 2; decide), by show t.sz + 0 ≤ 100; omega, td8, rfl⟩)
      · rename_i n4 H4 b4 n40 n41 n42
        exact tail _ _ (.mk ⟨b3.trans b4, p, t, w3, none, none, td.keep (b4.tk b3.2), z3, rfl⟩)
    case tail4 =>
      intro σ4 H4 hc4
      obtain ⟨b4, p, t, w3, w6, w7, td, z3, rfl⟩ := hc4.get
      walk_at "run"
      exact q _ t _ b4 td z3

theorem ok_law_walk (T : Txt K mg) : FnOk P w K mg base CX0 2 T.a_law_walk T.d_law_walk P_law_walk (sp_law_walk K) := by
  refine T.F_law_walk.ok sc_law_walk (fun vs H Q E h => ?_) (fun cdv A outer s H vs Q E hr h => ?_)
  · obtain ⟨v, t, n, rfl, _⟩ := h
    rfl
  · obtain ⟨v, t, n, rfl, tv, hz, q⟩ := h
    refine ⟨_, (pss_cons (ps_set (i := 1) sc_law_walk.nd rfl (by first | exact Or.inl rfl | exact Or.inr rfl) (pe_lst pa_nil))
    (pss_cons (ps_set (i := 2) sc_law_walk.nd rfl (by first | exact Or.inl rfl | exact Or.inr rfl) (pe_lst (pa_cons (pe_tup (pa_cons (pv 0) (pa_cons pe_int pa_nil))) pa_nil)))
    (pss_cons (ps_while PassesOwn.never (pt_cmpR op_gt (pe_callB call_len_seq (by rfl) T.z_len (by decide +kernel) (pa_cons (pv 2) pa_nil)) pe_int (by first | exact nomark _ | rfl))
      (pss_cons (ps_set (i := 3) sc_law_walk.nd rfl (by first | exact Or.inl rfl | exact Or.inr rfl) (pe_bm0 PySem.F.plainAttrs_list PySem.F.slot_list_pop PySem.F.type_list_pop mt_pop (pv 2)))
    (pss_cons (ps_expr (pe_bm PySem.F.plainAttrs_list PySem.F.slot_list_append PySem.F.type_list_append mt_append (pv 1) (pa_cons (pv 3) pa_nil)))
    (pss_one (ps_set (i := 2) sc_law_walk.nd rfl (by first | exact Or.inl rfl | exact Or.inr rfl) (pe_op op_cat (pv 2) (pe_lc (own := [("part", 4)]) (g := gName 4) (tt := tYes) rfl sc_law_walk.nd (pi_reversed (by rfl) T.z_reversed (pa_cons (pe_call (ok_law_parts T) (hr.mono (by decide)) (by rfl) T.g_law_parts T.F_law_parts.kp (T.b_law_parts) .nil pass0 (pa_cons (pe_ix ix_tup (pv 3) pe_int (fun _ _ => rfl)) pa_nil)) pa_nil)) (blkOk_by (N := N_law_walk) (sc := defScope s_law_walk) (by decide +kernel)) (fun _ _ _ _ _ => pg_name (i := 4) sc_law_walk.nd rfl (Or.inl rfl)) (fun _ _ _ _ _ => pts_nil) (fun _ _ _ _ _ => (pe_tup (pa_cons (pv 4) (pa_cons (pe_op op_add (pe_ix (ix_tupK rfl) (pv 3) pe_int (fun _ _ => rfl)) pe_int) pa_nil)))))))))))
    (pss_one (ps_ret (pv 1)))))), ?_⟩
    cases n with
    | zero => exact tv.2.elim
    | succ n =>
    refine seq_merge3 (C := (fun σ' H' => Hd (Same H H' ∧ ∃ (F : Addr) (xs : List V) (w1 w2 w3 : Option V), H' F = some (.lst xs) ∧ A2 (WkE K H' (n + 1)) xs (t.preD 1) ∧ σ' = [some v, some (.ref F), w1, w2, w3]))) ?tail ?rest
    case tail =>
      intro σ1 H1 hc1
      obtain ⟨s1, F, xs, w1, w2, w3, h1, h2, rfl⟩ := hc1.get
      walk_at "run"
      exact q _ xs _ s1 h1 h2
    intro R tail
    walk_at "run"
    rename_i F hF e0 he0 R0 hR0
    have s0 := ((same_upd (o := .lst []) hF).trans (same_upd (o := .tup [v, .int 1]) he0)).trans (same_upd (o := .lst [.ref e0]) hR0)
    have hF1 : upd (upd H F (.lst [])) e0 (.tup [v, .int 1]) F = some (.lst []) := (same_upd he0) _ _ upd_same
    have hF0 := (same_upd (o := .lst [.ref e0]) hR0) _ _ hF1
    have hpz := sz_pos t
    refine ⟨fun m σ H' => Hd (Same H H' ∧ ∃ (W : Addr) (xs ws : List V) (ds us : List (Tr × Nat)) (u1 u2 : Option V), H' F = some (.lst xs) ∧ H' W = some (.lst ws) ∧ F ≠ W ∧ H W = none ∧ A2 (WkE K H' (n + 1)) xs ds ∧ A2 (WkE K H' (n + 1)) ws us ∧ ds ++ preE us.reverse = t.preD 1 ∧ ds.length + Tr.szs (us.map Prod.fst) ≤ 5000 ∧ Tr.szs (us.map Prod.fst) = m ∧ σ = [some v, some (.ref F), some (.ref W), u1, u2]), ⟨t.sz, .mk ⟨s0, R0, [], [.ref e0], [], [(t, 1)], none, none, hF0, upd_same, ne_of_none hF1 hR0, same_none ((same_upd hF).trans (same_upd he0)) hR0, .nil, A2.one ⟨e0, v, rfl, SqT.of ((same_upd hR0) _ _ upd_same), tv.keep (same_tk s0)⟩, ?_, ?_, ?_, rfl⟩⟩, fun m σ H' hp => ?_⟩
    · show t.preD 1 ++ [] = t.preD 1
      rw [List.append_nil]
    · show 0 + (t.sz + 0) ≤ 5000
      omega
    · rfl
    obtain ⟨s1, W, xs, ws, ds, us, u1, u2, zF, zW, nFW, hW0, tx, tw, e1, e2, e3, rfl⟩ := hp.get
    have lw := tw.len
    have lx := tx.len
    have lz := szs_len (us.map Prod.fst)
    rw [List.length_map] at lz
    walk_at "run"
    refine ⟨_, _, rfl, Or.inl (SqL.of zW), ?_⟩
    walk_at "run"
    rotate_left
    · cases us with
      | nil =>
        refine tail _ _ (.mk ⟨s1, F, xs, _, _, _, zF, ?_, rfl⟩)
        rw [show t.preD 1 = ds by rw [← e1]; exact (List.append_nil ds)]
        exact tx
      | cons u0 ur =>
        exfalso
        rw [List.length_cons] at lw
        omega
    obtain ⟨ws, w1, us, u1', e4, e5, wi, wl⟩ := a2_last tw (by omega)
    obtain ⟨⟨u, k⟩, rfl⟩ : ∃ p : Tr × Nat, p = u1' := ⟨_, rfl⟩
    rw [e5] at tw e1 e2 e3 lw lz
    subst e4
    obtain ⟨ea, va, rfl, hea, tva⟩ := wl
    refine ⟨fun σ' H' => ∃ m', m' < m ∧ Hd (Same H H' ∧ ∃ (W : Addr) (xs ws : List V) (ds us : List (Tr × Nat)) (u1 u2 : Option V), H' F = some (.lst xs) ∧ H' W = some (.lst ws) ∧ F ≠ W ∧ H W = none ∧ A2 (WkE K H' (n + 1)) xs ds ∧ A2 (WkE K H' (n + 1)) ws us ∧ ds ++ preE us.reverse = t.preD 1 ∧ ds.length + Tr.szs (us.map Prod.fst) ≤ 5000 ∧ Tr.szs (us.map Prod.fst) = m' ∧ σ' = [some v, some (.ref F), some (.ref W), u1, u2]), fun σ' H' h => h, ?_⟩
    rw [List.map_append, szs_app] at e2 e3
    have ezz : Tr.szs ([(u, k)].map Prod.fst) = u.sz := by show u.sz + 0 = _; omega
    rw [ezz] at e2 e3
    have zk := sz_kids u
    have lus := szs_len (us.map Prod.fst)
    rw [List.length_map] at lus
    have lkd := szs_len u.kids
    rw [List.length_append] at lw
    have hF00 : H F = none := hF
    walk_at "run"
    refine ⟨.inl ⟨rfl, _, SqL.of zW⟩, ?_⟩
    refine ⟨_, _, .ref ea, rfl, rfl, zW, by simp, ?_⟩
    rw [List.dropLast_concat]
    walk_at "run"
    have zF2 : upd H' W (.lst ws) F = some (.lst xs) := (upd_ne nFW).trans zF
    have zW2 : upd (upd H' W (.lst ws)) F (.lst (xs ++ [.ref ea])) W = some (.lst ws) := (upd_ne (Ne.symm nFW)).trans upd_same
    have tk1 : TK K H' (upd (upd H' W (.lst ws)) F (.lst (xs ++ [.ref ea]))) := (lst_tk zW).trans (lst_tk zF2)
    refine ⟨.inl ⟨rfl, _, SqL.of zF2⟩, ?_⟩
    walk_at "run"
    refine ⟨_, _, _, rfl, rfl, zF2, small20000 (by omega), ?_⟩
    have sA : Same H (upd (upd H' W (.lst ws)) F (.lst (xs ++ [.ref ea]))) := same_put (same_put s1 hW0) hF00
    have heA := tk1 _ _ hea
    have tvA := tva.keep tk1
    walk_at "run"
    refine ⟨va, u, n, rfl, tvA, fun l ks H2 s2 hl2 tk2 => ?_⟩
    have lks := tk2.len
    walk_at "run"
    refine ⟨l, ks, rfl, SqL.of hl2, fun D hD => ?_⟩
    have zW3 := s2 _ _ zW2
    have zF3 := s2 _ _ (upd_same (a := F) (o := .lst (xs ++ [V.ref ea])) (H := upd H' W (.lst ws)))
    have heB := same_tk (K := K) s2 _ _ heA
    refine lc_it (walk_rev (xs := ks)) (fun i H3 => Hd (Same H2 H3 ∧ ∃ ys, H3 D = some (.lst ys) ∧ A2 (WkE K H3 (n + 1)) ys (((u.kids.map fun c => (c, k + 1)).reverse).take i))) (.mk ⟨same_upd hD, [], upd_same, .nil⟩) (fun i H3 hi hp => SqL.of (hp.get.1 _ _ hl2)) (fun i z Ha Hb hi hp hy => ?_) (fun H3 hp => ?_)
    · obtain ⟨s3, ys, hz3, ty⟩ := hp.get
      obtain ⟨rfl, ez⟩ := hy
      obtain ⟨c, ec, tz⟩ := (tk2.keep (same_tk s3)).at ez
      have ly := ty.len
      rw [List.length_take, List.length_reverse, List.length_map] at ly
      have heC := same_tk (K := K) s3 _ _ heB
      walk_at "run"
      rename_i ep hep
      have s4 := same_upd (o := .tup [z, .int ((k : Int) + 1)]) hep
      have hz4 := s4 _ _ hz3
      refine ⟨_, hz4, small20000 (by omega), .mk ⟨same_put (s3.trans s4) hD, _, upd_same, ?_⟩⟩
      have er : ((u.kids.map fun c => (c, k + 1)).reverse)[i]? = some (c, k + 1) := by
        rw [List.getElem?_reverse (by rw [List.length_map]; omega), List.getElem?_map, List.length_map, ← lks, ec]
        rfl
      rw [List.take_add_one, er]
      refine wks_keep (A2.snoc (wks_keep ty (same_tk s4)) ⟨ep, z, rfl, SqT.of upd_same, ?_⟩) (lst_tk hz4)
      exact (tz.mono (Nat.le_succ n)).keep (same_tk s4)
    obtain ⟨s3, ys, hz3, ty⟩ := hp.get
    rw [show ks.length = ((u.kids.map fun c => (c, k + 1)).reverse).length by rw [List.length_reverse, List.length_map]; exact lks, List.take_length] at ty
    have ly := ty.len
    rw [List.length_reverse, List.length_map] at ly
    have zW4 := s3 _ _ zW3
    refine ⟨_, _, _, _, rfl, rfl, zW4, hz3, Nat.le_of_lt (small20000 (by have := wi.len; omega)), fun W2 hW2 => ?_⟩
    have s5 := same_upd (o := .lst (ws ++ ys)) hW2
    have zF4 := s3 _ _ zF3
    have s25 := (s2.trans s3).trans s5
    have tkA := tk1.trans (same_tk (K := K) s25)
    refine ⟨Tr.szs ((us ++ (u.kids.map fun c => (c, k + 1)).reverse).map Prod.fst), ?_, .mk ⟨sA.trans s25, W2, xs ++ [.ref ea], ws ++ ys, ds ++ [(u, k)], us ++ (u.kids.map fun c => (c, k + 1)).reverse, _, _, s5 _ _ zF4, upd_same, ne_of_none zF4 hW2, same_none ((sA.trans s2).trans s3) hW2, A2.snoc (wks_keep tx tkA) ⟨ea, va, rfl, tkA _ _ hea, tva.keep tkA⟩, (wks_keep wi tkA).app (wks_keep ty (same_tk s5)), ?_, ?_, rfl, rfl⟩⟩
    · have emap : ((u.kids.map fun c => (c, k + 1)).reverse).map Prod.fst = u.kids.reverse := by
        rw [List.map_reverse, List.map_map]
        show ((u.kids.map id).reverse) = _
        rw [List.map_id]
      rw [List.map_append, szs_app, emap, szs_rev]
      omega
    · have emap : ((u.kids.map fun c => (c, k + 1)).reverse).map Prod.fst = u.kids.reverse := by
        rw [List.map_reverse, List.map_map]
        show ((u.kids.map id).reverse) = _
        rw [List.map_id]
      rw [← e1, List.reverse_append, List.reverse_append, List.reverse_reverse, preE_app, preE_kids, List.append_assoc]
      show ds ++ ((u, k) :: (Tr.presD (k + 1) u.kids ++ preE us.reverse)) = ds ++ (u.preD k ++ preE us.reverse)
      rw [preD_kids k u]
      rfl
    · have emap : ((u.kids.map fun c => (c, k + 1)).reverse).map Prod.fst = u.kids.reverse := by
        rw [List.map_reverse, List.map_map]
        show ((u.kids.map id).reverse) = _
        rw [List.map_id]
      rw [List.map_append, szs_app, emap, szs_rev, List.length_append]
      show ds.length + 1 + _ ≤ 5000
      omega

theorem okR_law_same (T : Txt K mg) : ∀ n : Nat, FnOk P w K mg base CX0 (n + 1) T.a_law_same T.d_law_same P_law_same (spR_law_same K n)
  | 0 => ⟨fun _ _ _ _ h => h.elim, fun _ _ _ _ _ _ _ _ _ _ _ _ _ h => h.elim⟩
  | n + 1 => by
    have F' := okR_law_same T n
    refine FnOk.mono (j := (n + 1) + 1) ?_ (by omega)
    refine T.F_law_same.ok sc_law_same (fun vs H Q E h => ?_) (fun cdv A outer s H vs Q E hr h => ?_)
    · obtain ⟨x, y, rfl, _⟩ := h
      rfl
    · obtain ⟨x, y, rfl, ha, q⟩ := h
      refine ⟨_, (pss_cons (ps_if (pt_val (pe_callB call_isiR (by rfl) T.z_isinstance (by decide +kernel) (pa_cons (pv 1) (pa_cons (pe_bltn (v := .ty "tuple") (by rfl) T.z_tuple (by decide +kernel) rfl) pa_nil))))
      (pss_cons (ps_if (PW.pt (pw_or (pt_not (pt_val (pe_callB call_isiR (by rfl) T.z_isinstance (by decide +kernel) (pa_cons (pv 0) (pa_cons (pe_bltn (v := .ty "tuple") (by rfl) T.z_tuple (by decide +kernel) rfl) pa_nil))))) (pw_or1 (pt_cmpR op_ne (pe_callB call_len_seq (by rfl) T.z_len (by decide +kernel) (pa_cons (pv 0) pa_nil)) (pe_callB call_len_seq (by rfl) T.z_len (by decide +kernel) (pa_cons (pv 1) pa_nil)) (by first | exact nomark _ | rfl)))))
      (pss_one (ps_ret pe_bl))
      pss_nil)
    (pss_cons (ps_for PassesOwn.never rfl (pi_range1 (by rfl) T.z_range (pa_cons (pe_callB call_len_seq (by rfl) T.z_len (by decide +kernel) (pa_cons (pv 1) pa_nil)) pa_nil)) (pg_name (i := 2) sc_law_same.nd rfl (by first | exact Or.inl rfl | exact Or.inr rfl))
      (pss_one (ps_if (pt_not (pt_val (pe_call F' (hr.mono (by omega)) (by rfl) T.g_law_same T.F_law_same.kp (T.b_law_same) .nil pass0 (pa_cons (pe_ix ix_tup (pv 0) (pv 2) (fun _ _ => rfl)) (pa_cons (pe_ix ix_tup (pv 1) (pv 2) (fun _ _ => rfl)) pa_nil)))))
      (pss_one (ps_ret pe_bl))
      pss_nil)))
    (pss_one (ps_ret pe_bl))))
      pss_nil)
    (pss_cons (ps_if (pt_cmpR op_isN (pv 1) pe_non (by first | exact nomark _ | rfl))
      (pss_one (ps_ret (pe_cmpR op_isN (pv 0) pe_non (by first | exact nomark _ | rfl))))
      pss_nil)
    (pss_cons (ps_if (pt_val (pe_callB call_isiR (by rfl) T.z_isinstance (by decide +kernel) (pa_cons (pv 1) (pa_cons (pe_bltn (v := .ty "bool") (by rfl) T.z_bool (by decide +kernel) rfl) pa_nil))))
      (pss_one (ps_ret (pe_and (pe_callB call_isiR (by rfl) T.z_isinstance (by decide +kernel) (pa_cons (pv 0) (pa_cons (pe_bltn (v := .ty "bool") (by rfl) T.z_bool (by decide +kernel) rfl) pa_nil))) (pe_one (pe_cmpR op_eq (pv 0) (pv 1) (by first | exact nomark _ | rfl))))))
      pss_nil)
    (pss_cons (ps_if (pt_val (pe_callB call_isiR (by rfl) T.z_isinstance (by decide +kernel) (pa_cons (pv 1) (pa_cons (pe_bltn (v := .ty "int") (by rfl) T.z_int (by decide +kernel) rfl) pa_nil))))
      (pss_one (ps_ret (pe_and (pe_callB call_isiR (by rfl) T.z_isinstance (by decide +kernel) (pa_cons (pv 0) (pa_cons (pe_bltn (v := .ty "int") (by rfl) T.z_int (by decide +kernel) rfl) pa_nil))) (pe_and (pe_not (pe_callB call_isiR (by rfl) T.z_isinstance (by decide +kernel) (pa_cons (pv 0) (pa_cons (pe_bltn (v := .ty "bool") (by rfl) T.z_bool (by decide +kernel) rfl) pa_nil)))) (pe_one (pe_cmpR op_eq (pv 0) (pv 1) (by first | exact nomark _ | rfl)))))))
      pss_nil)
    (pss_one (ps_ret (pe_and (pe_callB call_isiR (by rfl) T.z_isinstance (by decide +kernel) (pa_cons (pv 0) (pa_cons (pe_bltn (v := .ty "str") (by rfl) T.z_str (by decide +kernel) rfl) pa_nil))) (pe_one (pe_cmpR op_eq (pv 0) (pv 1) (by first | exact nomark _ | rfl)))))))))), ?_⟩
      obtain ⟨d, dx, dy, hf⟩ := ha
      rcases hf with hf | ⟨ds, rfl, hdl, hds⟩
      · rcases hf with rfl | ⟨z, rfl⟩ | ⟨z, rfl⟩ | ⟨z, rfl⟩
        all_goals (cases dx; cases dy)
        all_goals walk_at "run2"
        all_goals first
          | exact q
          | (rw [decide_eq_true rfl]; exact q)
      · obtain ⟨p1, xs, rfl, hx, ax⟩ := dp_tup_get dx
        obtain ⟨p2, ys, rfl, hy, ay⟩ := dp_tup_get dy
        obtain ⟨l1, g1⟩ := dp_get ax
        obtain ⟨l2, g2⟩ := dp_get ay
        walk_at "run2"
        · exfalso
          omega
        refine for_range (lo := 0) (n := (ys.length : Int).toNat) (fun i σ H' => Hd (H' = H ∧ ∃ u, σ = [some (.ref p1), some (.ref p2), u])) (.mk ⟨rfl, none, rfl⟩) (fun i σ H' hi hp => ?_) (fun σ H' hp => ?_)
        · obtain ⟨rfl, u, rfl⟩ := hp.get
          have i1 : i < ys.length := by omega
          have i2 : i < xs.length := by omega
          have i3 : i < ds.length := by omega
          have e1 : atI xs (0 + (i : Int)) = some xs[i] := atI_at (by omega) (List.getElem?_eq_getElem i2)
          have e2 : atI ys (0 + (i : Int)) = some ys[i] := atI_at (by omega) (List.getElem?_eq_getElem i1)
          have ak : Lk K n H' xs[i] ys[i] := ⟨ds[i], g1 i _ _ (List.getElem?_eq_getElem i2) (List.getElem?_eq_getElem i3), g2 i _ _ (List.getElem?_eq_getElem i1) (List.getElem?_eq_getElem i3), hds _ (List.getElem_mem i3)⟩
          cases n with
          | zero =>
            obtain ⟨_, _, _, z⟩ := ak
            exact z.elim
          | succ n =>
            walk_at "run2"
            all_goals exact .mk ⟨rfl, _, rfl⟩
        · obtain ⟨rfl, u, rfl⟩ := hp.get
          walk_at "run2"
          exact q
theorem ok_law_same (T : Txt K mg) : FnOk P w K mg base CX0 42 T.a_law_same T.d_law_same P_law_same (sp_law_same K) := okR_law_same T 41

theorem ok_law_is_area (T : Txt K mg) : FnOk P w K mg base CX0 1 T.a_law_is_area T.d_law_is_area P_law_is_area (sp_law_is_area K) := by
  refine T.F_law_is_area.ok sc_law_is_area (fun vs H Q E h => ?_) (fun cdv A outer s H vs Q E hr h => ?_)
  · obtain ⟨p, x, xs, b, rfl, _⟩ := h
    rfl
  · obtain ⟨p, x, xs, b, rfl, hp, hx, q⟩ := h
    refine ⟨_, (pss_one (ps_ret (pe_cmpR (op_inX hr.units) (pe_ix ix_tup (pv 0) pe_int (fun _ _ => rfl)) (pe_tup (pa_cons pe_str (pa_cons pe_str (pa_cons pe_str (pa_cons pe_str pa_nil))))) (by first | exact nomark _ | rfl)))), ?_⟩
    walk_at "run"
    rename_i p1 hp1
    rcases hx with ⟨fx, ix⟩ | ⟨rfl, q0, ys, rfl, hq⟩
    · refine .inl ⟨p1, AKv, rfl, .inr (SqT.of upd_same), fx, rfl, ?_⟩
      show Q (.bl (inV x AKv)) _
      rw [ix]
      exact q _ (same_upd hp1)
    · exact .inr ⟨p1, q0, ys, ["cell", "range", "rows", "columns"], rfl, same_tk (same_upd hp1) _ _ hq, rfl, SqT.of upd_same, q _ (same_upd hp1)⟩

theorem ok_law_meant (T : Txt K mg) : FnOk P w K mg base CX0 1 T.a_law_meant T.d_law_meant P_law_meant (sp_law_meant K) := by
  refine T.F_law_meant.ok sc_law_meant (fun vs H Q E h => ?_) (fun cdv A outer s H vs Q E hr h => ?_)
  · obtain ⟨v, a, n, own, rfl, _⟩ := h
    rfl
  · obtain ⟨v, a, n, own, rfl, tv, q⟩ := h
    refine ⟨_, (pss_cons (ps_set (i := 2) sc_law_meant.nd rfl (by first | exact Or.inl rfl | exact Or.inr rfl) (pe_ix ix_tup (pv 0) pe_int (fun _ _ => rfl)))
    (pss_cons (ps_if (pt_cmpR op_isN (pv 2) pe_non (by first | exact nomark _ | rfl))
      (pss_one (ps_set (i := 2) sc_law_meant.nd rfl (by first | exact Or.inl rfl | exact Or.inr rfl) (pv 1)))
      pss_nil)
    (pss_cons (ps_if (pt_cmpR op_eq (pe_ix ix_tup (pv 0) pe_int (fun _ _ => rfl)) pe_str (by first | exact nomark _ | rfl))
      (pss_one (ps_ret (pe_tup (pa_cons (pv 2) (pa_cons (pe_ix ix_tup (pv 0) pe_int (fun _ _ => rfl)) (pa_cons (pe_ix ix_tup (pv 0) pe_int (fun _ _ => rfl)) (pa_cons (pe_ix ix_tup (pv 0) pe_int (fun _ _ => rfl)) (pa_cons (pe_ix ix_tup (pv 0) pe_int (fun _ _ => rfl)) pa_nil))))))))
      pss_nil)
    (pss_cons (ps_if (pt_cmpR op_eq (pe_ix ix_tup (pv 0) pe_int (fun _ _ => rfl)) pe_str (by first | exact nomark _ | rfl))
      (pss_one (ps_ret (pe_tup (pa_cons (pv 2) (pa_cons (pe_ix ix_tup (pv 0) pe_int (fun _ _ => rfl)) (pa_cons (pe_ix ix_tup (pv 0) pe_int (fun _ _ => rfl)) (pa_cons (pe_ix ix_tup (pv 0) pe_int (fun _ _ => rfl)) (pa_cons (pe_ix ix_tup (pv 0) pe_int (fun _ _ => rfl)) pa_nil))))))))
      pss_nil)
    (pss_cons (ps_if (pt_cmpR op_eq (pe_ix ix_tup (pv 0) pe_int (fun _ _ => rfl)) pe_str (by first | exact nomark _ | rfl))
      (pss_one (ps_ret (pe_tup (pa_cons (pv 2) (pa_cons (pe_ix ix_tup (pv 0) pe_int (fun _ _ => rfl)) (pa_cons pe_int (pa_cons (pe_ix ix_tup (pv 0) pe_int (fun _ _ => rfl)) (pa_cons pe_int pa_nil))))))))
      pss_nil)
    (pss_one (ps_ret (pe_tup (pa_cons (pv 2) (pa_cons pe_int (pa_cons (pe_ix ix_tup (pv 0) pe_int (fun _ _ => rfl)) (pa_cons pe_int (pa_cons (pe_ix ix_tup (pv 0) pe_int (fun _ _ => rfl)) pa_nil))))))))))))), ?_⟩
    obtain ⟨p0, rfl, hv, ok⟩ := tv.ar
    have hv : SqT K H p0 (.str a.k :: shV a.sh :: (a.ns.map V.int ++ a.ms.map V.bl)) := hv
    refine seq_merge2 (C := (fun σ' H' => H' = H ∧ σ' = [some (.ref p0), some (shV own), some (shV (keyO own a.sh))])) ?tail ?rest
    case rest =>
      intro R tail
      cases esh : a.sh with
      | none =>
        rw [esh] at hv
        walk_at "run"
        exact tail _ _ ⟨rfl, by rw [esh]; rfl⟩
      | some o =>
        rw [esh] at hv
        walk_at "run"
        exact tail _ _ ⟨rfl, by rw [esh]; rfl⟩
    case tail =>
    rintro σ1 H1 ⟨rfl, rfl⟩
    rcases ok.cases with ⟨sh, r, c, x, y, rfl⟩ | ⟨sh, t, l, b, r, x, y, z, u, rfl⟩ | ⟨sh, t, b, x, y, rfl⟩ | ⟨sh, l, r, x, y, rfl⟩
    all_goals simp only [arO_cell, arO_range, arO_rows, arO_columns] at q
    all_goals walk_at "run"
    all_goals exact q _ _ (by walk_at "same") (SqT.of upd_same)

theorem ok_law_step (T : Txt K mg) : FnOk P w K mg base CX0 3 T.a_law_step T.d_law_step P_law_step (sp_law_step K) := by
  refine T.F_law_step.ok sc_law_step (fun vs H Q E h => ?_) (fun cdv A outer s H vs Q E hr h => ?_)
  · obtain ⟨b, c, ns, count, rfl, _⟩ := h
    rfl
  · obtain ⟨b, c, ns, count, rfl, hb, hc, q⟩ := h
    refine ⟨_, (pss_cons (ps_set (i := 2) sc_law_step.nd rfl (by first | exact Or.inl rfl | exact Or.inr rfl) (pe_call (ok_law_draw T) (hr.mono (by decide)) (by rfl) T.g_law_draw T.F_law_draw.kp (T.b_law_draw) .nil pass0 (pa_cons (pv 0) (pa_cons pe_int pa_nil))))
    (pss_cons (ps_if (pt_cmpR op_eq (pv 2) pe_int (by first | exact nomark _ | rfl))
      (pss_one (ps_ret pe_int))
      pss_nil)
    (pss_cons (ps_if (pt_cmpR op_lt (pv 2) pe_int (by first | exact nomark _ | rfl))
      (pss_one (ps_ret (pe_op op_sub (pe_call (ok_law_draw T) (hr.mono (by decide)) (by rfl) T.g_law_draw T.F_law_draw.kp (T.b_law_draw) .nil pass0 (pa_cons (pv 0) (pa_cons pe_int pa_nil))) pe_int)))
      pss_nil)
    (pss_cons (ps_if (pt_cmpR op_eq (pv 2) pe_int (by first | exact nomark _ | rfl))
      (pss_one (ps_ret (pe_op op_sub (pe_op op_sub (pe_call (ok_law_draw T) (hr.mono (by decide)) (by rfl) T.g_law_draw T.F_law_draw.kp (T.b_law_draw) .nil pass0 (pa_cons (pv 0) (pa_cons (pe_op op_add (pe_op op_mul pe_int (pv 1)) pe_int) pa_nil))) (pv 1)) pe_int)))
      pss_nil)
    (pss_cons (ps_if (pt_cmpR op_eq (pv 2) pe_int (by first | exact nomark _ | rfl))
      (pss_one (ps_ret (pe_ix ix_list (pe_lst (pa_cons (pe_op op_sub (pv 1) pe_int) (pa_cons (pe_op op_sub pe_int (pv 1)) (pa_cons (pv 1) (pa_cons (pe_un un_neg (pv 1)) pa_nil))))) (pe_call (ok_law_draw T) (hr.mono (by decide)) (by rfl) T.g_law_draw T.F_law_draw.kp (T.b_law_draw) .nil pass0 (pa_cons (pv 0) (pa_cons pe_int pa_nil))) (fun _ _ => rfl))))
      pss_nil)
    (pss_cons (ps_set (i := 3) sc_law_step.nd rfl (by first | exact Or.inl rfl | exact Or.inr rfl) (pe_op op_add (pv 1) (pe_call (ok_law_draw T) (hr.mono (by decide)) (by rfl) T.g_law_draw T.F_law_draw.kp (T.b_law_draw) .nil pass0 (pa_cons (pv 0) (pa_cons (pe_powc (c := 1000000000000000000000000000000) (by decide) (by decide +kernel)) pa_nil)))))
    (pss_cons (ps_if (pt_cmpR op_eq (pe_call (ok_law_draw T) (hr.mono (by decide)) (by rfl) T.g_law_draw T.F_law_draw.kp (T.b_law_draw) .nil pass0 (pa_cons (pv 0) (pa_cons pe_int pa_nil))) pe_int (by first | exact nomark _ | rfl))
      (pss_one (ps_ret (pe_un un_neg (pv 3))))
      pss_nil)
    (pss_one (ps_ret (pv 3)))))))))), ?_⟩
    have hc2 : count ≤ 20 ∧ 10 ≤ count := by omega
    walk_at "run"
    all_goals first
      | exact q _ _ (by walk_at "bx")
      | (rename_i p hp
         have bp := BoxS.new (o := .lst [V.int (count - 1), V.int (1 - count), V.int count, V.int (-count)]) (Bs.bat (by assumption)) hp
         refine ⟨b, c, ns, 4, rfl, bp, by decide, fun n H9 b9 h0 h1 => ?_⟩
         refine atI_go (SqL.of (b9.ints bp (ks := [count - 1, 1 - count, count, -count]) upd_same)) h0 (by show _ < (4 : Int); omega) fun v hv => ?_
         obtain ⟨y, _, rfl⟩ := List.mem_map.mp hv
         exact q _ _ (by walk_at "bx"))

theorem ok_law_ends (T : Txt K mg) : FnOk P w K mg base CX0 1 T.a_law_ends T.d_law_ends P_law_ends (sp_law_ends K) := by
  refine T.F_law_ends.ok sc_law_ends (fun vs H Q E h => ?_) (fun cdv A outer s H vs Q E hr h => ?_)
  · obtain ⟨s, step, count, rfl, _⟩ := h
    rfl
  · obtain ⟨s, step, count, rfl, q⟩ := h
    refine ⟨_, (pss_cons (ps_if (pt_not (pt_val (pv 2)))
      (pss_one (ps_set (i := 0) sc_law_ends.nd rfl (by first | exact Or.inl rfl | exact Or.inr rfl) (pe_op op_add (pv 0) (pv 4))))
      pss_nil)
    (pss_cons (ps_if (pt_not (pt_val (pv 3)))
      (pss_one (ps_set (i := 1) sc_law_ends.nd rfl (by first | exact Or.inl rfl | exact Or.inr rfl) (pe_op op_add (pv 1) (pv 4))))
      pss_nil)
    (pss_cons (ps_if (PW.pt (pw_or (pt_cmpR op_lt (pv 0) pe_int (by first | exact nomark _ | rfl)) (pw_or (pt_cmpR op_lt (pv 1) pe_int (by first | exact nomark _ | rfl)) (pw_or (pt_cmpR op_ge (pv 0) (pv 5) (by first | exact nomark _ | rfl)) (pw_or1 (pt_cmpR op_ge (pv 1) (pv 5) (by first | exact nomark _ | rfl)))))))
      (pss_one (ps_ret pe_non))
      pss_nil)
    (pss_cons (ps_if (pt_cmpR op_lt (pv 1) (pv 0) (by first | exact nomark _ | rfl))
      (pss_one (ps_ret (pe_tup (pa_cons (pv 1) (pa_cons (pv 3) (pa_cons (pv 0) (pa_cons (pv 2) pa_nil)))))))
      pss_nil)
    (pss_one (ps_ret (pe_tup (pa_cons (pv 0) (pa_cons (pv 2) (pa_cons (pv 1) (pa_cons (pv 3) pa_nil))))))))))), ?_⟩
    refine seq_merge (C := (fun σ' H' => H' = H ∧ σ' = [some (.int (if s.fl then s.lo else s.lo + step)), some (.int s.hi), some (.bl s.fl), some (.bl s.fh), some (.int step), some (.int count)])) ?tail ?rest
    case rest =>
      intro R tail
      have tail2 : ∀ x : Int, x = (if s.fl then s.lo else s.lo + step) → R [some (.int x), some (.int s.hi), some (.bl s.fl), some (.bl s.fh), some (.int step), some (.int count)] H := fun x e => tail _ _ ⟨rfl, by rw [e]⟩
      walk_at "run"
      · rename_i h
        exact tail2 _ (by rw [if_neg (fun z => by rw [z] at h; cases h)])
      · rename_i h
        exact tail2 _ (by rw [if_pos (by cases e : s.fl with | true => rfl | false => exact absurd (by rw [e]; rfl) h)])
    case tail =>
    rintro σ1 H1 ⟨rfl, rfl⟩
    refine seq_merge (C := (fun σ' H' => H' = H1 ∧ σ' = [some (.int (if s.fl then s.lo else s.lo + step)), some (.int (if s.fh then s.hi else s.hi + step)), some (.bl s.fl), some (.bl s.fh), some (.int step), some (.int count)])) ?tail2 ?rest2
    case rest2 =>
      intro R tail
      have tail2 : ∀ x : Int, x = (if s.fh then s.hi else s.hi + step) → R [some (.int (if s.fl then s.lo else s.lo + step)), some (.int x), some (.bl s.fl), some (.bl s.fh), some (.int step), some (.int count)] H1 := fun x e => tail _ _ ⟨rfl, by rw [e]⟩
      walk_at "run"
      · rename_i h
        exact tail2 _ (by rw [if_neg (fun z => by rw [z] at h; cases h)])
      · rename_i h
        exact tail2 _ (by rw [if_pos (by cases e : s.fh with | true => rfl | false => exact absurd (by rw [e]; rfl) h)])
    case tail2 =>
    rintro σ2 H2 ⟨rfl, rfl⟩
    unfold shfS at q
    generalize (if s.fl then s.lo else s.lo + step) = x at q ⊢
    generalize (if s.fh then s.hi else s.hi + step) = y at q ⊢
    by_cases hn : min x y < 0 ∨ count ≤ max x y
    · rw [if_pos hn] at q
      refine seq_merge (C := (fun _ _ => False)) (fun _ _ h => h.elim) ?_
      intro R tail
      walk_at "run"
      all_goals first
        | exact q _ _ (Same.refl _) rfl
        | (exfalso; omega)
    · rw [if_neg hn] at q
      refine seq_merge (C := (fun σ' H' => H' = H2 ∧ σ' = [some (.int x), some (.int y), some (.bl s.fl), some (.bl s.fh), some (.int step), some (.int count)])) ?tail3 ?rest3
      case rest3 =>
        intro R tail
        walk_at "run"
        all_goals first
          | exact tail _ _ ⟨rfl, rfl⟩
          | (exfalso; omega)
      case tail3 =>
      rintro σ3 H3 ⟨rfl, rfl⟩
      unfold ordS at q
      by_cases hxy : y < x
      · rw [if_pos hxy] at q
        walk_at "run"
        · exact q _ _ (same_upd (by assumption)) ⟨_, rfl, SqT.of upd_same⟩
        · exact absurd hxy (by assumption)
      · rw [if_neg hxy] at q
        walk_at "run"
        · exact absurd (by assumption) hxy
        · exact q _ _ (same_upd (by assumption)) ⟨_, rfl, SqT.of upd_same⟩

theorem ok_law_moved (T : Txt K mg) : FnOk P w K mg base CX0 2 T.a_law_moved T.d_law_moved P_law_moved (sp_law_moved K) := by
  refine T.F_law_moved.ok sc_law_moved (fun vs H Q E h => ?_) (fun cdv A outer s H vs Q E hr h => ?_)
  · obtain ⟨v, a, n, down, right, rfl, _⟩ := h
    rfl
  · obtain ⟨v, a, n, down, right, rfl, tv, q⟩ := h
    refine ⟨_, (pss_cons (ps_if (pt_cmpR op_eq (pe_ix ix_tup (pv 0) pe_int (fun _ _ => rfl)) pe_str (by first | exact nomark _ | rfl))
      (pss_cons (ps_set (i := 3) sc_law_moved.nd rfl (by first | exact Or.inl rfl | exact Or.inr rfl) (pe_call (ok_law_ends T) (hr.mono (by decide)) (by rfl) T.g_law_ends T.F_law_ends.kp (T.b_law_ends) .nil pass0 (pa_cons (pe_ix ix_tup (pv 0) pe_int (fun _ _ => rfl)) (pa_cons (pe_ix ix_tup (pv 0) pe_int (fun _ _ => rfl)) (pa_cons (pe_ix ix_tup (pv 0) pe_int (fun _ _ => rfl)) (pa_cons (pe_ix ix_tup (pv 0) pe_int (fun _ _ => rfl)) (pa_cons (pv 1) (pa_cons pe_int pa_nil))))))))
    (pss_cons (ps_set (i := 4) sc_law_moved.nd rfl (by first | exact Or.inl rfl | exact Or.inr rfl) (pe_call (ok_law_ends T) (hr.mono (by decide)) (by rfl) T.g_law_ends T.F_law_ends.kp (T.b_law_ends) .nil pass0 (pa_cons (pe_ix ix_tup (pv 0) pe_int (fun _ _ => rfl)) (pa_cons (pe_ix ix_tup (pv 0) pe_int (fun _ _ => rfl)) (pa_cons (pe_ix ix_tup (pv 0) pe_int (fun _ _ => rfl)) (pa_cons (pe_ix ix_tup (pv 0) pe_int (fun _ _ => rfl)) (pa_cons (pv 2) (pa_cons pe_int pa_nil))))))))
    (pss_cons (ps_if (PW.pt (pw_or (pt_cmpR op_isN (pv 3) pe_non (by first | exact nomark _ | rfl)) (pw_or1 (pt_cmpR op_isN (pv 4) pe_non (by first | exact nomark _ | rfl)))))
      (pss_one (ps_ret (pe_tup (pa_cons pe_str (pa_cons pe_str pa_nil)))))
      pss_nil)
    (pss_one (ps_ret (pe_tup (pa_cons pe_str (pa_cons (pe_ix ix_tup (pv 0) pe_int (fun _ _ => rfl)) (pa_cons (pe_ix ix_tup (pv 3) pe_int (fun _ _ => rfl)) (pa_cons (pe_ix ix_tup (pv 4) pe_int (fun _ _ => rfl)) (pa_cons (pe_ix ix_tup (pv 0) pe_int (fun _ _ => rfl)) (pa_cons (pe_ix ix_tup (pv 0) pe_int (fun _ _ => rfl)) pa_nil))))))))))))
      pss_nil)
    (pss_cons (ps_if (pt_cmpR op_eq (pe_ix ix_tup (pv 0) pe_int (fun _ _ => rfl)) pe_str (by first | exact nomark _ | rfl))
      (pss_cons (ps_set (i := 3) sc_law_moved.nd rfl (by first | exact Or.inl rfl | exact Or.inr rfl) (pe_call (ok_law_ends T) (hr.mono (by decide)) (by rfl) T.g_law_ends T.F_law_ends.kp (T.b_law_ends) .nil pass0 (pa_cons (pe_ix ix_tup (pv 0) pe_int (fun _ _ => rfl)) (pa_cons (pe_ix ix_tup (pv 0) pe_int (fun _ _ => rfl)) (pa_cons (pe_ix ix_tup (pv 0) pe_int (fun _ _ => rfl)) (pa_cons (pe_ix ix_tup (pv 0) pe_int (fun _ _ => rfl)) (pa_cons (pv 1) (pa_cons pe_int pa_nil))))))))
    (pss_cons (ps_set (i := 4) sc_law_moved.nd rfl (by first | exact Or.inl rfl | exact Or.inr rfl) (pe_call (ok_law_ends T) (hr.mono (by decide)) (by rfl) T.g_law_ends T.F_law_ends.kp (T.b_law_ends) .nil pass0 (pa_cons (pe_ix ix_tup (pv 0) pe_int (fun _ _ => rfl)) (pa_cons (pe_ix ix_tup (pv 0) pe_int (fun _ _ => rfl)) (pa_cons (pe_ix ix_tup (pv 0) pe_int (fun _ _ => rfl)) (pa_cons (pe_ix ix_tup (pv 0) pe_int (fun _ _ => rfl)) (pa_cons (pv 2) (pa_cons pe_int pa_nil))))))))
    (pss_cons (ps_if (PW.pt (pw_or (pt_cmpR op_isN (pv 3) pe_non (by first | exact nomark _ | rfl)) (pw_or1 (pt_cmpR op_isN (pv 4) pe_non (by first | exact nomark _ | rfl)))))
      (pss_one (ps_ret (pe_tup (pa_cons pe_str (pa_cons pe_str pa_nil)))))
      pss_nil)
    (pss_one (ps_ret (pe_tup (pa_cons pe_str (pa_cons (pe_ix ix_tup (pv 0) pe_int (fun _ _ => rfl)) (pa_cons (pe_ix ix_tup (pv 3) pe_int (fun _ _ => rfl)) (pa_cons (pe_ix ix_tup (pv 4) pe_int (fun _ _ => rfl)) (pa_cons (pe_ix ix_tup (pv 3) pe_int (fun _ _ => rfl)) (pa_cons (pe_ix ix_tup (pv 4) pe_int (fun _ _ => rfl)) (pa_cons (pe_ix ix_tup (pv 3) pe_int (fun _ _ => rfl)) (pa_cons (pe_ix ix_tup (pv 4) pe_int (fun _ _ => rfl)) (pa_cons (pe_ix ix_tup (pv 3) pe_int (fun _ _ => rfl)) (pa_cons (pe_ix ix_tup (pv 4) pe_int (fun _ _ => rfl)) pa_nil))))))))))))))))
      pss_nil)
    (pss_cons (ps_set (i := 5) sc_law_moved.nd rfl (by first | exact Or.inl rfl | exact Or.inr rfl) (pe_call (ok_law_ends T) (hr.mono (by decide)) (by rfl) T.g_law_ends T.F_law_ends.kp (T.b_law_ends) .nil pass0 (pa_cons (pe_ix ix_tup (pv 0) pe_int (fun _ _ => rfl)) (pa_cons (pe_ix ix_tup (pv 0) pe_int (fun _ _ => rfl)) (pa_cons (pe_ix ix_tup (pv 0) pe_int (fun _ _ => rfl)) (pa_cons (pe_ix ix_tup (pv 0) pe_int (fun _ _ => rfl)) (pa_cons (pv 2) (pa_cons pe_int pa_nil))))))))
    (pss_cons (ps_if (pt_cmpR op_eq (pe_ix ix_tup (pv 0) pe_int (fun _ _ => rfl)) pe_str (by first | exact nomark _ | rfl))
      (pss_one (ps_set (i := 5) sc_law_moved.nd rfl (by first | exact Or.inl rfl | exact Or.inr rfl) (pe_call (ok_law_ends T) (hr.mono (by decide)) (by rfl) T.g_law_ends T.F_law_ends.kp (T.b_law_ends) .nil pass0 (pa_cons (pe_ix ix_tup (pv 0) pe_int (fun _ _ => rfl)) (pa_cons (pe_ix ix_tup (pv 0) pe_int (fun _ _ => rfl)) (pa_cons (pe_ix ix_tup (pv 0) pe_int (fun _ _ => rfl)) (pa_cons (pe_ix ix_tup (pv 0) pe_int (fun _ _ => rfl)) (pa_cons (pv 1) (pa_cons pe_int pa_nil)))))))))
      pss_nil)
    (pss_cons (ps_if (pt_cmpR op_isN (pv 5) pe_non (by first | exact nomark _ | rfl))
      (pss_one (ps_ret (pe_tup (pa_cons pe_str (pa_cons pe_str pa_nil)))))
      pss_nil)
    (pss_one (ps_ret (pe_tup (pa_cons (pe_ix ix_tup (pv 0) pe_int (fun _ _ => rfl)) (pa_cons (pe_ix ix_tup (pv 0) pe_int (fun _ _ => rfl)) (pa_cons (pe_ix ix_tup (pv 5) pe_int (fun _ _ => rfl)) (pa_cons (pe_ix ix_tup (pv 5) pe_int (fun _ _ => rfl)) (pa_cons (pe_ix ix_tup (pv 5) pe_int (fun _ _ => rfl)) (pa_cons (pe_ix ix_tup (pv 5) pe_int (fun _ _ => rfl)) pa_nil)))))))))))))), ?_⟩
    obtain ⟨p0, rfl, hv, ok⟩ := tv.ar
    have hv : SqT K H p0 (.str a.k :: shV a.sh :: (a.ns.map V.int ++ a.ms.map V.bl)) := hv
    rcases ok.cases with ⟨sh, r, c, x, y, rfl⟩ | ⟨sh, t, l, b, r, x, y, z, u0, rfl⟩ | ⟨sh, t, b, x, y, rfl⟩ | ⟨sh, l, r, x, y, rfl⟩
    · skip
      refine seq_merge (C := (fun _ _ => False)) (fun _ _ h => h.elim) ?_
      intro R tail
      walk_at "run"
      refine ⟨⟨r, r, x, x⟩, down, 20, rfl, fun r1 H1 s1 o1 => ?_⟩
      have hv1 := same_tk (K := K) s1 _ _ hv
      walk_at "run"
      refine ⟨⟨c, c, y, y⟩, right, 10, rfl, fun r2 H2 s2 o2 => ?_⟩
      have hv2 := same_tk (K := K) s2 _ _ hv1
      have o1 := o1.keep (same_tk s2)
      have ew : wsA (shfS down 20) (shfS right 10) ⟨"cell", sh, [r, c], [x, y]⟩ = (match nodA "cell" sh (shfS down 20 ⟨r, r, x, x⟩) (shfS right 10 ⟨c, c, y, y⟩) with
        | some b => Tr.area b
        | none => LOSTt) := rfl
      rw [ew] at q
      cases e1 : shfS down 20 ⟨r, r, x, x⟩ with
      | none =>
        rw [e1] at o1 q
        obtain rfl : r1 = V.non := o1
        cases e2 : shfS right 10 ⟨c, c, y, y⟩ with
        | none =>
          rw [e2] at o2 q
          obtain rfl : r2 = V.non := o2
          walk_at "run"
          exact q _ _ (by walk_at "same") (lostTV (SqT.of upd_same))
        | some w =>
          rw [e2] at o2 q
          obtain ⟨p2, rfl, g2⟩ := o2
          walk_at "run"
          exact q _ _ (by walk_at "same") (lostTV (SqT.of upd_same))
      | some u =>
        rw [e1] at o1 q
        obtain ⟨p1, rfl, g1⟩ := o1
        cases e2 : shfS right 10 ⟨c, c, y, y⟩ with
        | none =>
          rw [e2] at o2 q
          obtain rfl : r2 = V.non := o2
          walk_at "run"
          exact q _ _ (by walk_at "same") (lostTV (SqT.of upd_same))
        | some w =>
          rw [e2] at o2 q
          obtain ⟨p2, rfl, g2⟩ := o2
          have okb := nodA_ok (show nodA "cell" sh (some u) (some w) = some ⟨"cell", sh, [u.lo, w.lo], [u.fl, w.fl]⟩ from rfl) (fun s e => by cases e; exact shf_kp _ _ _ _ (ok.2.1 _ rfl) e1) (fun s e => by cases e; exact shf_kp _ _ _ _ (ok.2.2 _ rfl) e2)
          have fx := (shf_eq (s := ⟨r, r, x, x⟩) rfl (Int.le_refl _) e1).1
          have fy := (shf_eq (s := ⟨c, c, y, y⟩) rfl (Int.le_refl _) e2).1
          walk_at "run"
          refine q _ _ (by walk_at "same") (tv_area 0 ⟨"cell", sh, [u.lo, w.lo], [u.fl, w.fl]⟩ okb ?_)
          rw [fx, fy]
          exact SqT.of upd_same
    · skip
      refine seq_merge2 (C := (fun _ _ => False)) (fun _ _ h => h.elim) ?_
      intro R tail
      walk_at "run"
      refine ⟨⟨t, b, x, z⟩, down, 20, rfl, fun r1 H1 s1 o1 => ?_⟩
      have hv1 := same_tk (K := K) s1 _ _ hv
      walk_at "run"
      refine ⟨⟨l, r, y, u0⟩, right, 10, rfl, fun r2 H2 s2 o2 => ?_⟩
      have hv2 := same_tk (K := K) s2 _ _ hv1
      have o1 := o1.keep (same_tk s2)
      have ew : wsA (shfS down 20) (shfS right 10) ⟨"range", sh, [t, l, b, r], [x, y, z, u0]⟩ = (match nodA "range" sh (shfS down 20 ⟨t, b, x, z⟩) (shfS right 10 ⟨l, r, y, u0⟩) with
        | some b => Tr.area b
        | none => LOSTt) := rfl
      rw [ew] at q
      cases e1 : shfS down 20 ⟨t, b, x, z⟩ with
      | none =>
        rw [e1] at o1 q
        obtain rfl : r1 = V.non := o1
        cases e2 : shfS right 10 ⟨l, r, y, u0⟩ with
        | none =>
          rw [e2] at o2 q
          obtain rfl : r2 = V.non := o2
          walk_at "run"
          exact q _ _ (by walk_at "same") (lostTV (SqT.of upd_same))
        | some w =>
          rw [e2] at o2 q
          obtain ⟨p2, rfl, g2⟩ := o2
          walk_at "run"
          exact q _ _ (by walk_at "same") (lostTV (SqT.of upd_same))
      | some u =>
        rw [e1] at o1 q
        obtain ⟨p1, rfl, g1⟩ := o1
        cases e2 : shfS right 10 ⟨l, r, y, u0⟩ with
        | none =>
          rw [e2] at o2 q
          obtain rfl : r2 = V.non := o2
          walk_at "run"
          exact q _ _ (by walk_at "same") (lostTV (SqT.of upd_same))
        | some w =>
          rw [e2] at o2 q
          obtain ⟨p2, rfl, g2⟩ := o2
          have okb := nodA_ok (show nodA "range" sh (some u) (some w) = some ⟨"range", sh, [u.lo, w.lo, u.hi, w.hi], [u.fl, w.fl, u.fh, w.fh]⟩ from rfl) (fun s e => by cases e; exact shf_kp _ _ _ _ (ok.2.1 _ rfl) e1) (fun s e => by cases e; exact shf_kp _ _ _ _ (ok.2.2 _ rfl) e2)
          walk_at "run"
          refine q _ _ (by walk_at "same") (tv_area 0 ⟨"range", sh, [u.lo, w.lo, u.hi, w.hi], [u.fl, w.fl, u.fh, w.fh]⟩ okb ?_)
          exact SqT.of upd_same
    · walk_at "run"
      refine ⟨⟨t, b, x, y⟩, right, 10, rfl, fun r1 H1 s1 o1 => ?_⟩
      have hv1 := same_tk (K := K) s1 _ _ hv
      walk_at "run"
      refine ⟨⟨t, b, x, y⟩, down, 20, rfl, fun r2 H2 s2 o2 => ?_⟩
      have hv2 := same_tk (K := K) s2 _ _ hv1
      have ew : wsA (shfS down 20) (shfS right 10) ⟨"rows", sh, [t, b], [x, y]⟩ = (match nodA "rows" sh (shfS down 20 ⟨t, b, x, y⟩) none with
        | some b => Tr.area b
        | none => LOSTt) := rfl
      rw [ew] at q
      cases e1 : shfS down 20 ⟨t, b, x, y⟩ with
      | none =>
        rw [e1] at o2 q
        obtain rfl : r2 = V.non := o2
        walk_at "run"
        exact q _ _ (by walk_at "same") (lostTV (SqT.of upd_same))
      | some u =>
        rw [e1] at o2 q
        obtain ⟨p2, rfl, g2⟩ := o2
        have okb := nodA_ok (show nodA "rows" sh (some u) none = some ⟨"rows", sh, [u.lo, u.hi], [u.fl, u.fh]⟩ from rfl) (fun s e => by cases e; exact shf_kp _ _ _ _ (ok.2.1 _ rfl) e1) nofun
        walk_at "run"
        exact q _ _ (by walk_at "same") (tv_area 0 ⟨"rows", sh, [u.lo, u.hi], [u.fl, u.fh]⟩ okb (SqT.of upd_same))
    · walk_at "run"
      refine ⟨⟨l, r, x, y⟩, right, 10, rfl, fun r2 H2 s2 o2 => ?_⟩
      have hv2 := same_tk (K := K) s2 _ _ hv
      have ew : wsA (shfS down 20) (shfS right 10) ⟨"columns", sh, [l, r], [x, y]⟩ = (match nodA "columns" sh none (shfS right 10 ⟨l, r, x, y⟩) with
        | some b => Tr.area b
        | none => LOSTt) := rfl
      rw [ew] at q
      cases e1 : shfS right 10 ⟨l, r, x, y⟩ with
      | none =>
        rw [e1] at o2 q
        obtain rfl : r2 = V.non := o2
        walk_at "run"
        exact q _ _ (by walk_at "same") (lostTV (SqT.of upd_same))
      | some u =>
        rw [e1] at o2 q
        obtain ⟨p2, rfl, g2⟩ := o2
        have okb := nodA_ok (show nodA "columns" sh none (some u) = some ⟨"columns", sh, [u.lo, u.hi], [u.fl, u.fh]⟩ from rfl) nofun (fun s e => by cases e; exact shf_kp _ _ _ _ (ok.2.2 _ rfl) e1)
        walk_at "run"
        exact q _ _ (by walk_at "same") (tv_area 0 ⟨"columns", sh, [u.lo, u.hi], [u.fl, u.fh]⟩ okb (SqT.of upd_same))

theorem okR_law_shifted (T : Txt K mg) : ∀ n : Nat, FnOk P w K mg base CX0 (n + 3) T.a_law_shifted T.d_law_shifted P_law_shifted (spR_law_shifted K n)
  | 0 => ⟨fun _ _ _ _ h => h.elim, fun _ _ _ _ _ _ _ _ _ _ _ _ _ h => h.elim⟩
  | n + 1 => by
    have F' := okR_law_shifted T n
    refine FnOk.mono (j := (n + 3) + 1) ?_ (by omega)
    refine T.F_law_shifted.ok sc_law_shifted (fun vs H Q E h => ?_) (fun cdv A outer s H vs Q E hr h => ?_)
    · obtain ⟨x, d, e, down, right, rfl, _⟩ := h
      rfl
    · obtain ⟨x, d, e, down, right, rfl, hd, hs, q⟩ := h
      refine ⟨_, (pss_cons (ps_if (pt_not (pt_val (pe_callB call_isiR (by rfl) T.z_isinstance (by decide +kernel) (pa_cons (pv 0) (pa_cons (pe_bltn (v := .ty "tuple") (by rfl) T.z_tuple (by decide +kernel) rfl) pa_nil)))))
      (pss_one (ps_ret (pv 0)))
      pss_nil)
    (pss_cons (ps_if (PW.pt (pw_and (pt_cmpR op_gt (pe_callB call_len_seq (by rfl) T.z_len (by decide +kernel) (pa_cons (pv 0) pa_nil)) pe_int (by first | exact nomark _ | rfl)) (pw_and1 (pt_val (pe_call (ok_law_is_area T) (hr.mono (by omega)) (by rfl) T.g_law_is_area T.F_law_is_area.kp (T.b_law_is_area) .nil pass0 (pa_cons (pv 0) pa_nil))))))
      (pss_one (ps_ret (pe_call (ok_law_moved T) (hr.mono (by omega)) (by rfl) T.g_law_moved T.F_law_moved.kp (T.b_law_moved) .nil pass0 (pa_cons (pv 0) (pa_cons (pv 1) (pa_cons (pv 2) pa_nil))))))
      pss_nil)
    (pss_one (ps_ret (pe_callTy call_tuple_of (by rfl) T.z_tuple (by decide +kernel) (pa_cons (pe_lc (own := [("part", 3)]) (g := gName 3) (tt := tYes) rfl sc_law_shifted.nd (pi_tup (pv 0)) (blkOk_by (N := N_law_shifted) (sc := defScope s_law_shifted) (by decide +kernel)) (fun _ _ _ _ _ => pg_name (i := 3) sc_law_shifted.nd rfl (Or.inl rfl)) (fun _ _ _ _ _ => pts_nil) (fun _ _ _ _ _ => (pe_call F' (hr.mono (by omega)) (by rfl) T.g_law_shifted T.F_law_shifted.kp (T.b_law_shifted) .nil pass0 (pa_cons (pv 3) (pa_cons (pv 1) (pa_cons (pv 2) pa_nil)))))) pa_nil)))))), ?_⟩
      rcases hs.open with ⟨hf, rfl⟩ | ⟨a, ok, rfl, rfl⟩ | ⟨ds, es, rfl, rfl, ⟨hl, hb, hh⟩, hc⟩
      · rcases hf with rfl | ⟨z, rfl⟩ | ⟨z, rfl⟩ | ⟨z, rfl⟩
        all_goals cases hd
        all_goals walk_at "run2"
        · exact q _ _ (Same.refl _) .non
        · exact q _ _ (Same.refl _) (.bl _)
        · exact q _ _ (Same.refl _) (.int _)
        · exact q _ _ (Same.refl _) (.str _)
      · have tv : TV K H (0 + 1) x (.area a) := ⟨hd, ok⟩
        obtain ⟨p, rfl, hp, _⟩ := tv.ar
        have hp : SqT K H p (.str a.k :: shV a.sh :: (a.ns.map V.int ++ a.ms.map V.bl)) := hp
        walk_at "run2"
        · refine ⟨p, _, _, true, rfl, hp, hdB_area ok, fun H1 s1 => ?_⟩
          walk_at "run2"
          refine ⟨.ref p, a, 0, down, right, rfl, tv.keep (same_tk s1), fun r H2 s2 t2 => ?_⟩
          exact q r H2 (s1.trans s2) t2.1
        · rename_i h
          exact absurd (show (0 : Int) < ((shV a.sh :: (a.ns.map V.int ++ a.ms.map V.bl)).length + 1 : Nat) by omega) h
      · obtain ⟨p, xs, rfl, hp, ax⟩ := dp_tup_get hd
        obtain ⟨lx, gx⟩ := dp_get ax
        have hdf : ∀ v, xs[0]? = some v → HdB K H v false := fun v ev => by
          have hk : 0 < ds.length := by
            have := (List.getElem?_eq_some_iff.mp ev).1
            omega
          have e0 : ds[0]? = some ds[0] := List.getElem?_eq_getElem hk
          have e1 : es[0]? = some es[0] := List.getElem?_eq_getElem (by omega)
          refine hdB_w ((hc 0 _ _ e0 e1).fitW (ws_fit down right)).1 (gx 0 v _ ev e0) fun z ez => hh z ?_
          rw [List.head?_eq_getElem?, e0, ez]
        have fe : ∀ e ∈ es, FitW (n + 7) e := fun e he => by
          obtain ⟨k, hk⟩ := List.getElem?_of_mem he
          have hn := (List.getElem?_eq_some_iff.mp hk).1
          exact ((hc k _ e (List.getElem?_eq_getElem (by omega)) hk).fitW (ws_fit down right)).2
        walk_at "run2"
        · cases xs with
          | nil =>
            rename_i h
            exact absurd h (by decide)
          | cons x0 xs =>
            refine ⟨p, x0, xs, false, rfl, hp, hdf x0 rfl, fun H1 s1 => ?_⟩
            walk_at "run2"
            have hp1 := same_tk (K := K) s1 _ _ hp
            first
              | intro D hD
              | refine And.intro ⟨_, hp1⟩ (fun D hD => ?_)
            refine lc_it (walk_tup (xs := x0 :: xs)) (fun i H' => Hd (Same H1 H' ∧ ∃ ys, H' D = some (.lst ys) ∧ DpAll K H' ys (es.take i))) (.mk ⟨same_upd hD, [], upd_same, .nil⟩) (fun i H' hi hp2 => same_tk hp2.get.1 _ _ hp1) (fun i z Ha Hb hi hp2 hy => ?_) (fun H' hp2 => ?_)
            · obtain ⟨s2, ys, hz2, ty⟩ := hp2.get
              obtain ⟨rfl, ez⟩ := hy
              have i1 : i < ds.length := by omega
              have e0 : ds[i]? = some ds[i] := List.getElem?_eq_getElem i1
              have e1 : es[i]? = some es[i] := List.getElem?_eq_getElem (by omega)
              have sc := hc i _ _ e0 e1
              have dz := dpW_keep (same_tk (K := K) (s1.trans s2)) (sc.fitW (ws_fit down right)).1 (gx i z _ ez e0)
              have ly := (dp_get ty).1
              rw [List.length_take] at ly
              cases n with
              | zero => cases sc
              | succ n =>
                walk_at "run2"
                refine ⟨z, _, _, down, right, rfl, dz, sc, fun r H3 s3 d3 => ?_⟩
                have hz3 := s3 _ _ hz2
                refine ⟨_, hz3, small20000 (by omega), .mk ⟨same_put (s2.trans s3) hD, _, upd_same, ?_⟩⟩
                have g1 : ∀ d ∈ es.take i, FitW (n + 1 + 7) d := fun d hd => fe d (List.mem_of_mem_take hd)
                have g2 : ∀ d ∈ es.take i ++ [es[i]], FitW (n + 1 + 7) d := fun d hd => (List.mem_append.mp hd).elim (g1 d) fun h => by
                  rw [List.mem_singleton.mp h]
                  exact fe _ (List.getElem_mem _)
                rw [List.take_add_one, e1]
                exact dpsW_keep (lst_tk hz3) g2 (dpAll_app (dpsW_keep (same_tk s3) g1 ty) (.cons d3 .nil))
            · obtain ⟨s2, ys, hz2, ty⟩ := hp2.get
              rw [lx, hl, List.take_length] at ty
              try walk_at "run2"
              refine ⟨_, _, rfl, Or.inl ⟨SqL.of hz2, fun pt hpt => ?_⟩⟩
              have s3 := same_upd (o := .tup ys) hpt
              exact q _ _ ((s1.trans s2).trans s3) (.tup (SqT.of upd_same) (dpsW_keep (same_tk s3) fe ty))
        · have hp1 := hp
          have s1 := Same.refl H
          first
            | intro D hD
            | refine And.intro ⟨_, hp1⟩ (fun D hD => ?_)
          refine lc_it (walk_tup (xs := xs)) (fun i H' => Hd (Same H H' ∧ ∃ ys, H' D = some (.lst ys) ∧ DpAll K H' ys (es.take i))) (.mk ⟨same_upd hD, [], upd_same, .nil⟩) (fun i H' hi hp2 => same_tk hp2.get.1 _ _ hp1) (fun i z Ha Hb hi hp2 hy => ?_) (fun H' hp2 => ?_)
          · obtain ⟨s2, ys, hz2, ty⟩ := hp2.get
            obtain ⟨rfl, ez⟩ := hy
            have i1 : i < ds.length := by omega
            have e0 : ds[i]? = some ds[i] := List.getElem?_eq_getElem i1
            have e1 : es[i]? = some es[i] := List.getElem?_eq_getElem (by omega)
            have sc := hc i _ _ e0 e1
            have dz := dpW_keep (same_tk (K := K) (s1.trans s2)) (sc.fitW (ws_fit down right)).1 (gx i z _ ez e0)
            have ly := (dp_get ty).1
            rw [List.length_take] at ly
            cases n with
            | zero => cases sc
            | succ n =>
              walk_at "run2"
              refine ⟨z, _, _, down, right, rfl, dz, sc, fun r H3 s3 d3 => ?_⟩
              have hz3 := s3 _ _ hz2
              refine ⟨_, hz3, small20000 (by omega), .mk ⟨same_put (s2.trans s3) hD, _, upd_same, ?_⟩⟩
              have g1 : ∀ d ∈ es.take i, FitW (n + 1 + 7) d := fun d hd => fe d (List.mem_of_mem_take hd)
              have g2 : ∀ d ∈ es.take i ++ [es[i]], FitW (n + 1 + 7) d := fun d hd => (List.mem_append.mp hd).elim (g1 d) fun h => by
                rw [List.mem_singleton.mp h]
                exact fe _ (List.getElem_mem _)
              rw [List.take_add_one, e1]
              exact dpsW_keep (lst_tk hz3) g2 (dpAll_app (dpsW_keep (same_tk s3) g1 ty) (.cons d3 .nil))
          · obtain ⟨s2, ys, hz2, ty⟩ := hp2.get
            rw [lx, hl, List.take_length] at ty
            try walk_at "run2"
            refine ⟨_, _, rfl, Or.inl ⟨SqL.of hz2, fun pt hpt => ?_⟩⟩
            have s3 := same_upd (o := .tup ys) hpt
            exact q _ _ ((s1.trans s2).trans s3) (.tup (SqT.of upd_same) (dpsW_keep (same_tk s3) fe ty))
theorem ok_law_shifted (T : Txt K mg) : FnOk P w K mg base CX0 45 T.a_law_shifted T.d_law_shifted P_law_shifted (sp_law_shifted K) := okR_law_shifted T 42

theorem ok_law_areas (T : Txt K mg) : FnOk P w K mg base CX0 3 T.a_law_areas T.d_law_areas P_law_areas (sp_law_areas K) := by
  refine T.F_law_areas.ok sc_law_areas (fun vs H Q E h => ?_) (fun cdv A outer s H vs Q E hr h => ?_)
  · obtain ⟨v, t, n, rfl, _⟩ := h
    rfl
  · obtain ⟨v, t, n, rfl, tv, hz, q⟩ := h
    refine ⟨_, (pss_one (ps_ret (pe_lc (own := [("node", 1)]) (g := gName 1) rfl sc_law_areas.nd (pi_list (pe_call (ok_law_walk T) (hr.mono (by decide)) (by rfl) T.g_law_walk T.F_law_walk.kp (T.b_law_walk) .nil pass0 (pa_cons (pv 0) pa_nil))) (blkOk_by (N := N_law_areas) (sc := defScope s_law_areas) (by decide +kernel)) (fun _ _ _ _ _ => pg_name (i := 1) sc_law_areas.nd rfl (Or.inl rfl)) (fun _ _ _ _ _ => (pts_one (pt_val (pe_call (ok_law_is_area T) (hr.mono (by decide)) (by rfl) T.g_law_is_area T.F_law_is_area.kp (T.b_law_is_area) .nil pass0 (pa_cons (pe_ix (ix_tupK rfl) (pv 1) pe_int (fun _ _ => rfl)) pa_nil))))) (fun _ _ _ _ _ => (pe_ix (ix_tupK rfl) (pv 1) pe_int (fun _ _ => rfl)))))), ?_⟩
    walk_at "run"
    refine ⟨v, t, n, rfl, tv, hz, fun W xs H1 s1 hW tx => ?_⟩
    have lx := tx.len
    have lp : (t.preD 1).length = t.sz := by rw [← pre_len, ← preD_fst 1, List.length_map]
    walk_at "run"
    refine And.intro ⟨_, SqL.of hW⟩ (fun D hD => ?_)
    refine lc_it (walk_list (xs := xs)) (fun i H' => Hd (Same H1 H' ∧ ∃ ys, H' D = some (.lst ys) ∧ ys.length ≤ i ∧ TVs K H' n ys ((t.pre.take i).filter Tr.isA))) (.mk ⟨same_upd hD, [], upd_same, Nat.le_refl _, .nil⟩) (fun i H' hi hp => SqL.of (hp.get.1 _ _ hW)) (fun i z Ha Hb hi hp hy => ?_) (fun H' hp => ?_)
    · obtain ⟨s2, ys, hz2, ly, ty⟩ := hp.get
      obtain ⟨rfl, ez⟩ := hy
      obtain ⟨⟨u, k⟩, eu0, ea, va, rfl, hea, tz⟩ := A2.get (wks_keep tx (same_tk s2)) ez
      dsimp only at hea tz
      have eu : t.pre[i]? = some u := by rw [← preD_fst 1, List.getElem?_map, eu0]; rfl
      cases n with
      | zero => exact tz.2.elim
      | succ n =>
      obtain ⟨p9, x9, xs9, rfl, hp9, hk9⟩ := hd_kind tz
      walk_at "run"
      refine ⟨p9, x9, xs9, u.isA, rfl, hp9, hk9, fun H3 s3 => ?_⟩
      have fin : ∀ e, u.isA = e → Hd (Same H1 H3 ∧ H3 D = some (.lst ys)) := fun e _ => .mk ⟨s2.trans s3, s3 _ _ hz2⟩
      have ty3 := ty.keep (same_tk (K := K) s3)
      have hea3 := same_tk (K := K) s3 _ _ hea
      cases hA : u.isA with
      | true =>
        walk_at "run"
        have hz3 := s3 _ _ hz2
        refine ⟨ys, hz3, small20000 (by omega), .mk ⟨same_put (s2.trans s3) hD, _, upd_same, by rw [List.length_append]; exact Nat.add_le_add_right ly 1, ?_⟩⟩
        rw [List.take_add_one, eu, List.filter_append]
        have e : (Option.toList (some u)).filter Tr.isA = [u] := by simp [hA]
        rw [e]
        exact (ty3.snoc (tz.keep (same_tk s3))).keep (lst_tk hz3)
      | false =>
        walk_at "run"
        exact .mk ⟨s2.trans s3, ys, s3 _ _ hz2, by omega, by rw [List.take_add_one, eu, List.filter_append]; simp [hA]; exact ty3⟩
    · obtain ⟨s2, ys, hz2, ly, ty⟩ := hp.get
      rw [lx, lp, ← pre_len, List.take_length, pre_refs] at ty
      walk_at "run"
      exact q _ _ _ (s1.trans s2) hz2 ty

theorem ok_law_meanings (T : Txt K mg) : FnOk P w K mg base CX0 43 T.a_law_meanings T.d_law_meanings P_law_meanings (sp_law_meanings K) := by
  refine T.F_law_meanings.ok sc_law_meanings (fun vs H Q E h => ?_) (fun cdv A outer s H vs Q E hr h => ?_)
  · obtain ⟨l, xs, as, n, own, rfl, _⟩ := h
    rfl
  · obtain ⟨l, xs, as, n, own, rfl, hl, tv, q⟩ := h
    refine ⟨_, (pss_cons (ps_for PassesOwn.never rfl (pi_list (pv 0)) (pg_name (i := 2) sc_law_meanings.nd rfl (by first | exact Or.inl rfl | exact Or.inr rfl))
      (pss_one (ps_if (pt_not (pt_val (pe_call (ok_law_same T) (hr.mono (by decide)) (by rfl) T.g_law_same T.F_law_same.kp (T.b_law_same) .nil pass0 (pa_cons (pe_call (okarea_of T) (hr.mono (by decide)) (by rfl) T.garea_of T.Farea_of.kp (T.barea_of) .nil pass0 (pa_cons (pv 2) (pa_cons (pv 1) pa_nil))) (pa_cons (pe_call (ok_law_meant T) (hr.mono (by decide)) (by rfl) T.g_law_meant T.F_law_meant.kp (T.b_law_meant) .nil pass0 (pa_cons (pv 2) (pa_cons (pv 1) pa_nil))) pa_nil)))))
      (pss_one (ps_ret pe_bl))
      pss_nil)))
    (pss_one (ps_ret pe_bl))), ?_⟩
    walk_at "run"
    have sq := SqL.of (K := K) hl
    refine And.intro ⟨_, sq⟩ (for_it (walk_list (xs := xs)) (fun i σ H' => Hd (Same H H' ∧ ∃ u : Option V, σ = [some (.ref l), some (.int own), u])) (.mk ⟨Same.refl _, none, rfl⟩) (fun i σ H' hi hp => Same.seq hp.get.1 sq) (fun i z σ H2 H3 hi hp hy => ?_) (fun σ H2 hp => ?_))
    · obtain ⟨s2, u, rfl⟩ := hp.get
      obtain ⟨rfl, ez⟩ := hy
      obtain ⟨t, et, tz⟩ := tv.at ez
      rw [List.getElem?_map] at et
      obtain ⟨a, _, rfl⟩ := Option.map_eq_some_iff.mp et
      have tz2 := tz.keep (same_tk (K := K) s2)
      have ok : a.ok := tz.2
      walk_at "run"
      refine ⟨z, a, n, some own, rfl, tz2, fun p1 H4 s4 h4 => ?_⟩
      walk_at "run"
      refine ⟨z, a, n, some own, rfl, tz2.keep (same_tk s4), fun p2 H5 s5 h5 => ?_⟩
      walk_at "run"
      first
        | refine ⟨lkA ok (same_tk s5 _ _ h4) h5, ?_⟩
        | refine ⟨_, _, rfl, lkA ok (same_tk s5 _ _ h4) h5, ?_⟩
      walk_at "run"
      exact .mk ⟨(s2.trans s4).trans s5, _, rfl⟩
    · obtain ⟨s2, u, rfl⟩ := hp.get
      walk_at "run"
      exact q _ s2

theorem oklaw (T : Txt K mg) [hB : TabsB mg base T.cS T.pS] : FnOk P w K mg base CX0 53 T.alaw T.dlaw Plaw (splaw K T.SP) := by
  refine T.Flaw.ok sclaw (fun vs H Q E h => ?_) (fun cdv A outer s H vs Q E hr h => ?_)
  · obtain ⟨a, ns, rfl, _⟩ := h
    rfl
  · obtain ⟨a, ns, rfl, hS, hl, hT, q⟩ := h
    refine ⟨_, (pss_cons (ps_set (i := 1) sclaw.nd rfl (by first | exact Or.inl rfl | exact Or.inr rfl) (pe_call (ok_law_start T) (hr.mono (by decide)) (by rfl) T.g_law_start T.F_law_start.kp (T.b_law_start) .nil pass0 (pa_cons (pv 0) pa_nil)))
    (pss_cons (ps_set (i := 2) sclaw.nd rfl (by first | exact Or.inl rfl | exact Or.inr rfl) (pe_lst (pa_cons pe_int (pa_cons pe_int (pa_cons (pe_lst (pa_cons pe_int (pa_cons pe_int (pa_cons pe_int (pa_cons pe_int pa_nil))))) pa_nil)))))
    (pss_cons (ps_set (i := 3) sclaw.nd rfl (by first | exact Or.inl rfl | exact Or.inr rfl) (pe_lst (pa_cons pe_int (pa_cons pe_int (pa_cons (pe_lst (pa_cons pe_int (pa_cons pe_int (pa_cons pe_int (pa_cons pe_int pa_nil))))) pa_nil)))))
    (pss_cons (ps_if (pt_cmpR op_eq (pe_call (ok_law_draw T) (hr.mono (by decide)) (by rfl) T.g_law_draw T.F_law_draw.kp (T.b_law_draw) .nil pass0 (pa_cons (pv 1) (pa_cons pe_int pa_nil))) pe_int (by first | exact nomark _ | rfl))
      (pss_cons (ps_set (i := 2) sclaw.nd rfl (by first | exact Or.inl rfl | exact Or.inr rfl) (pe_lst (pa_cons pe_int (pa_cons pe_int (pa_cons (pe_lst (pa_cons pe_int (pa_cons pe_int pa_nil))) pa_nil)))))
    (pss_one (ps_set (i := 3) sclaw.nd rfl (by first | exact Or.inl rfl | exact Or.inr rfl) (pe_lst (pa_cons pe_int (pa_cons pe_int (pa_cons (pe_lst (pa_cons pe_int (pa_cons pe_int pa_nil))) pa_nil)))))))
      pss_nil)
    (pss_cons (ps_set (i := 4) sclaw.nd rfl (by first | exact Or.inl rfl | exact Or.inr rfl) (pe_call (ok_law_draw T) (hr.mono (by decide)) (by rfl) T.g_law_draw T.F_law_draw.kp (T.b_law_draw) .nil pass0 (pa_cons (pv 1) (pa_cons pe_int pa_nil))))
    (pss_cons (ps_set (i := 5) sclaw.nd rfl (by first | exact Or.inl rfl | exact Or.inr rfl) (pe_lst (pa_cons pe_non (pa_cons pe_non (pa_cons (pv 4) (pa_cons (pe_op op_add pe_int (pe_call (ok_law_draw T) (hr.mono (by decide)) (by rfl) T.g_law_draw T.F_law_draw.kp (T.b_law_draw) .nil pass0 (pa_cons (pv 1) (pa_cons pe_int pa_nil)))) pa_nil))))))
    (pss_cons (ps_set (i := 6) sclaw.nd rfl (by first | exact Or.inl rfl | exact Or.inr rfl) (pe_lst (pa_cons (pv 2) (pa_cons (pv 3) (pa_cons (pv 5) (pa_cons (pe_call0 (ok_law_words T) (hr.mono (by decide)) (by rfl) T.g_law_words T.F_law_words.kp (T.b_law_words) .nil pass0) (pa_cons (pe_call (ok_law_draw T) (hr.mono (by decide)) (by rfl) T.g_law_draw T.F_law_draw.kp (T.b_law_draw) .nil pass0 (pa_cons (pv 1) (pa_cons pe_int pa_nil))) pa_nil)))))))
    (pss_cons (ps_setLc (i := 7) (own := [("k", 8)]) (g := gName 8) (tt := tYes) rfl sclaw.nd rfl rfl (sw_true rfl rfl rfl (by decide +kernel)) (pi_range1 (by rfl) T.z_range (pa_cons pe_int pa_nil)) (blkOk_by (N := Nlaw) (sc := defScope slaw) (by decide +kernel)) (fun _ _ _ _ _ => pg_name (i := 8) sclaw.nd rfl (Or.inl rfl)) (fun _ _ _ _ _ => pts_nil) (fun _ _ _ _ _ => (pe_call (ok_law_step T) (hr.mono (by decide)) (by rfl) T.g_law_step T.F_law_step.kp (T.b_law_step) .nil pass0 (pa_cons (pv 1) (pa_cons (pe_ix (ix_listK rfl) (pe_lst (pa_cons pe_int (pa_cons pe_int pa_nil))) (pe_op op_mod (pv 8) pe_int) (fun _ _ => rfl)) pa_nil)))))
    (pss_cons (ps_set (i := 9) sclaw.nd rfl (by first | exact Or.inl rfl | exact Or.inr rfl) (pe_call (ok_law_tree T) (hr.mono (by decide)) (by rfl) T.g_law_tree T.F_law_tree.kp (T.b_law_tree) .nil pass0 (pa_cons (pv 1) (pa_cons (pv 6) (pa_cons pe_int (pa_cons pe_int pa_nil))))))
    (pss_cons (ps_set (i := 10) sclaw.nd rfl (by first | exact Or.inl rfl | exact Or.inr rfl) (pe_call (ok_law_shifted T) (hr.mono (by decide)) (by rfl) T.g_law_shifted T.F_law_shifted.kp (T.b_law_shifted) .nil pass0 (pa_cons (pv 9) (pa_cons (pe_ix ix_list (pv 7) pe_int (fun _ _ => rfl)) (pa_cons (pe_ix ix_list (pv 7) pe_int (fun _ _ => rfl)) pa_nil)))))
    (pss_cons (ps_if (pt_not (pt_val (pe_call (ok_law_same T) (hr.mono (by decide)) (by rfl) T.g_law_same T.F_law_same.kp (T.b_law_same) .nil pass0 (pa_cons (pe_call (okshifted (base := base) T) (hr.mono (by decide)) (by rfl) T.gshifted T.Fshifted.kp (T.bshifted) .nil pass0 (pa_cons (pv 9) (pa_cons (pe_ix ix_list (pv 7) pe_int (fun _ _ => rfl)) (pa_cons (pe_ix ix_list (pv 7) pe_int (fun _ _ => rfl)) pa_nil)))) (pa_cons (pv 10) pa_nil)))))
      (pss_one (ps_ret pe_bl))
      pss_nil)
    (pss_cons (ps_set (i := 11) sclaw.nd rfl (by first | exact Or.inl rfl | exact Or.inr rfl) (pe_call (okshifted (base := base) T) (hr.mono (by decide)) (by rfl) T.gshifted T.Fshifted.kp (T.bshifted) .nil pass0 (pa_cons (pv 10) (pa_cons (pe_ix ix_list (pv 7) pe_int (fun _ _ => rfl)) (pa_cons (pe_ix ix_list (pv 7) pe_int (fun _ _ => rfl)) pa_nil)))))
    (pss_cons (ps_if (pt_not (pt_val (pe_call (ok_law_same T) (hr.mono (by decide)) (by rfl) T.g_law_same T.F_law_same.kp (T.b_law_same) .nil pass0 (pa_cons (pv 11) (pa_cons (pe_call (ok_law_shifted T) (hr.mono (by decide)) (by rfl) T.g_law_shifted T.F_law_shifted.kp (T.b_law_shifted) .nil pass0 (pa_cons (pv 10) (pa_cons (pe_ix ix_list (pv 7) pe_int (fun _ _ => rfl)) (pa_cons (pe_ix ix_list (pv 7) pe_int (fun _ _ => rfl)) pa_nil)))) pa_nil)))))
      (pss_one (ps_ret pe_bl))
      pss_nil)
    (pss_cons (ps_set (i := 12) sclaw.nd rfl (by first | exact Or.inl rfl | exact Or.inr rfl) (pe_call (ok_law_shifted T) (hr.mono (by decide)) (by rfl) T.g_law_shifted T.F_law_shifted.kp (T.b_law_shifted) .nil pass0 (pa_cons (pv 9) (pa_cons (pe_op op_add (pe_ix ix_list (pv 7) pe_int (fun _ _ => rfl)) (pe_ix ix_list (pv 7) pe_int (fun _ _ => rfl))) (pa_cons (pe_op op_add (pe_ix ix_list (pv 7) pe_int (fun _ _ => rfl)) (pe_ix ix_list (pv 7) pe_int (fun _ _ => rfl))) pa_nil)))))
    (pss_cons (ps_if (pt_not (pt_val (pe_call (ok_law_same T) (hr.mono (by decide)) (by rfl) T.g_law_same T.F_law_same.kp (T.b_law_same) .nil pass0 (pa_cons (pe_call (okshifted (base := base) T) (hr.mono (by decide)) (by rfl) T.gshifted T.Fshifted.kp (T.bshifted) .nil pass0 (pa_cons (pv 9) (pa_cons (pe_op op_add (pe_ix ix_list (pv 7) pe_int (fun _ _ => rfl)) (pe_ix ix_list (pv 7) pe_int (fun _ _ => rfl))) (pa_cons (pe_op op_add (pe_ix ix_list (pv 7) pe_int (fun _ _ => rfl)) (pe_ix ix_list (pv 7) pe_int (fun _ _ => rfl))) pa_nil)))) (pa_cons (pv 12) pa_nil)))))
      (pss_one (ps_ret pe_bl))
      pss_nil)
    (pss_cons (ps_if (PW.pt (pw_and (pt_cmpR op_gt (pe_ix ix_list (pv 6) pe_int (fun _ _ => rfl)) pe_int (by first | exact nomark _ | rfl)) (pw_and (pt_cmpR op_eq (pe_callB call_len_seq (by rfl) T.z_len (by decide +kernel) (pa_cons (pe_call (ok_law_areas T) (hr.mono (by decide)) (by rfl) T.g_law_areas T.F_law_areas.kp (T.b_law_areas) .nil pass0 (pa_cons (pv 9) pa_nil)) pa_nil)) (pe_callB call_len_seq (by rfl) T.z_len (by decide +kernel) (pa_cons (pe_call (ok_law_areas T) (hr.mono (by decide)) (by rfl) T.g_law_areas T.F_law_areas.kp (T.b_law_areas) .nil pass0 (pa_cons (pv 10) pa_nil)) pa_nil)) (by first | exact nomark _ | rfl)) (pw_and1 (pt_not (pt_val (pe_call (ok_law_same T) (hr.mono (by decide)) (by rfl) T.g_law_same T.F_law_same.kp (T.b_law_same) .nil pass0 (pa_cons (pv 11) (pa_cons (pv 12) pa_nil)))))))))
      (pss_one (ps_ret pe_bl))
      pss_nil)
    (pss_cons (ps_if (pt_not (pt_val (pe_call (ok_law_same T) (hr.mono (by decide)) (by rfl) T.g_law_same T.F_law_same.kp (T.b_law_same) .nil pass0 (pa_cons (pe_callK0 (okshifted (base := base) T) (hr.mono (by decide)) (by rfl) T.gshifted T.Fshifted.kp (kbshifted_tree_down_right T) pass0 (pk_cons (pv 9) (pk_cons (pe_ix ix_list (pv 7) pe_int (fun _ _ => rfl)) (pk_cons (pe_ix ix_list (pv 7) pe_int (fun _ _ => rfl)) pk_nil)))) (pa_cons (pv 10) pa_nil)))))
      (pss_one (ps_ret pe_bl))
      pss_nil)
    (pss_one (ps_ret (pe_and (pe_call (ok_law_meanings T) (hr.mono (by decide)) (by rfl) T.g_law_meanings T.F_law_meanings.kp (T.b_law_meanings) .nil pass0 (pa_cons (pe_call (ok_law_areas T) (hr.mono (by decide)) (by rfl) T.g_law_areas T.F_law_areas.kp (T.b_law_areas) .nil pass0 (pa_cons (pv 9) pa_nil)) (pa_cons (pv 4) pa_nil))) (pe_one (pe_call (ok_law_meanings T) (hr.mono (by decide)) (by rfl) T.g_law_meanings T.F_law_meanings.kp (T.b_law_meanings) .nil pass0 (pa_cons (pe_call (ok_law_areas T) (hr.mono (by decide)) (by rfl) T.g_law_areas T.F_law_areas.kp (T.b_law_areas) .nil pass0 (pa_cons (pv 10) pa_nil)) (pa_cons (pv 4) pa_nil)))))))))))))))))))))))), ?_⟩
    refine seq_merge4 (C := (fun σ' H' => Hd (∃ (b : Addr) (c : Addr × Addr) (ms : List Int × List Int) (e0 e1 : Addr) (z0 m0 z1 m1 : Int), BoxS K b c ms H' ∧ TT T.SP nmK H' ∧ SpanL K H' e0 z0 m0 ∧ SpanL K H' e1 z1 m1 ∧ (0 ≤ z0 ∧ 1 ≤ m0 ∧ z0 + m0 ≤ 20) ∧ (0 ≤ z1 ∧ 1 ≤ m1 ∧ z1 + m1 ≤ 10) ∧ σ' = [some (.ref a), some (.ref b), some (.ref e0), some (.ref e1), none, none, none, none, none, none, none, none, none]))) ?tail ?rest
    case rest =>
      intro R tail
      walk_at "run"
      refine ⟨a, ns, rfl, hS, hl, fun b c ms H1 s1 bx1 => ?_⟩
      have T1 := hT.same s1
      walk_at "run"
      rename_i p1 hp1 p2 hp2 p3 hp3 p4 hp4
      have sA := (same_upd (o := .lst [V.int 0, V.int 19, V.int 18, V.int 1]) hp1).trans (same_upd (o := .lst [V.int 0, V.int 20, V.ref p1]) hp2)
      have sB := (same_upd (o := .lst [V.int 0, V.int 9, V.int 8, V.int 1]) hp3).trans (same_upd (o := .lst [V.int 0, V.int 10, V.ref p3]) hp4)
      have q1 := sB _ _ ((same_upd (o := .lst [V.int 0, V.int 20, V.ref p1]) hp2) _ _ (upd_same (o := .lst [V.int 0, V.int 19, V.int 18, V.int 1]) (a := p1) (H := H1)))
      have q2 := sB _ _ (upd_same (o := .lst [V.int 0, V.int 20, V.ref p1]) (a := p2))
      have q3 := (same_upd (o := .lst [V.int 0, V.int 10, V.ref p3]) hp4) _ _ (upd_same (o := .lst [V.int 0, V.int 9, V.int 8, V.int 1]) (a := p3))
      have q4 := upd_same (o := .lst [V.int 0, V.int 10, V.ref p3]) (a := p4) (H := (upd (upd (upd H1 p1 (.lst [V.int 0, V.int 19, V.int 18, V.int 1])) p2 (.lst [V.int 0, V.int 20, V.ref p1])) p3 (.lst [V.int 0, V.int 9, V.int 8, V.int 1])))
      have s2 := sA.trans sB
      generalize (upd (upd (upd (upd H1 p1 (.lst [V.int 0, V.int 19, V.int 18, V.int 1])) p2 (.lst [V.int 0, V.int 20, V.ref p1])) p3 (.lst [V.int 0, V.int 9, V.int 8, V.int 1])) p4 (.lst [V.int 0, V.int 10, V.ref p3])) = H2 at q1 q2 q3 q4 s2 ⊢
      have bx2 := bx1.same s2
      have T2 := T1.same s2
      refine ⟨b, c, ms, 2, rfl, bx2, by decide, fun n3 H3 b3 n30 n31 => ?_⟩
      have T3 := T2.box bx2 b3
      have q1 := b3.lst bx2 q1 (len_noI (by show 4 ≠ 7; decide))
      have q2 := b3.lst bx2 q2 (len_noI (by show 3 ≠ 7; decide))
      have q3 := b3.lst bx2 q3 (len_noI (by show 4 ≠ 7; decide))
      have q4 := b3.lst bx2 q4 (len_noI (by show 3 ≠ 7; decide))
      walk_at "run"
      · rename_i h1 r1 hr1 r2 hr2 r3 hr3 r4 hr4
        have sC := (same_upd (o := .lst [V.int 7, V.int 12]) hr1).trans (same_upd (o := .lst [V.int 7, V.int 6, V.ref r1]) hr2)
        have sD := (same_upd (o := .lst [V.int 3, V.int 6]) hr3).trans (same_upd (o := .lst [V.int 3, V.int 4, V.ref r3]) hr4)
        have sE := sC.trans sD
        exact tail _ _ (.mk ⟨b, c, ms, r2, r4, 7, 6, 3, 4, b3.2.same sE, T3.same sE, ⟨r1, [7, 12], sD _ _ upd_same, sD _ _ ((same_upd hr2) _ _ upd_same), by decide⟩, ⟨r3, [3, 6], upd_same, (same_upd hr4) _ _ upd_same, by decide⟩, by decide, by decide, rfl⟩)
      · exact tail _ _ (.mk ⟨b, c, ms, p2, p4, 0, 20, 0, 10, b3.2, T3, ⟨p1, [0, 19, 18, 1], q2, q1, by decide⟩, ⟨p3, [0, 9, 8, 1], q4, q3, by decide⟩, by decide, by decide, rfl⟩)
    case tail =>
    intro σ1 H1 hc1
    obtain ⟨b, c, ms, e0, e1, z0, m0, z1, m1, bx1, T1, sp0, sp1, o0, o1, rfl⟩ := hc1.get
    refine seq_merge3 (C := (fun σ' H' => Hd (∃ (own : Int) (l e : Addr) (ks : List (Option Int)) (md : Int), (0 ≤ md ∧ md < 3) ∧ Bs K b c ms H1 H' ∧ PlL K H' e ⟨z0, m0, z1, m1, ks, md⟩ ∧ σ' = [some (.ref a), some (.ref b), some (.ref e0), some (.ref e1), some (.int own), some (.ref l), some (.ref e), none, none, none, none, none, none]))) ?tail2 ?rest2
    case rest2 =>
      intro R tail
      walk_at "run"
      intro l0 H7 s7 wd
      rename_i n1 H3 b3 n10 n11 n2 H4 b4 n20 n21 p5 hp5
      have B4 := ((b3.trans b4).new (o := .lst [V.non, V.non, V.int n1, V.int (1000 + n2)]) hp5).same s7
      have q5 := s7 _ _ (upd_same (a := p5) (H := H4) (o := .lst [V.non, V.non, V.int n1, V.int (1000 + n2)]))
      have bx4 := B4.2
      walk_at "run"
      rename_i n8 H8 b8 n80 n81 p9 hp9
      have B8 := B4.trans b8
      have q8 : H8 p5 = some (.lst ([none, none, some n1, some (1000 + n2)].map shV)) := b8.lst B4.2 q5 (len_noI (by show 4 ≠ 7; decide))
      have wd8 := wd.keep B4.2 b8
      have z0' := sp0.keep bx1 B8
      have z1' := sp1.keep bx1 B8
      have s9 := same_upd (o := .lst [V.ref e0, V.ref e1, V.ref p5, V.ref l0, V.int n8]) hp9
      exact tail _ _ (.mk ⟨n1, p5, p9, _, n8, ⟨n80, n81⟩, B8.same s9, ⟨⟨o0, o1, by show 1 ≤ 4 ∧ 4 ≤ 50; decide⟩, e0, e1, p5, l0, upd_same, z0'.same s9, z1'.same s9, s9 _ _ q8, wd8.same s9⟩, rfl⟩)
    case tail2 =>
    clear sp0 sp1
    intro σ2 H2 hc2
    obtain ⟨own, l, e, ks, md, hmd, b2, hpl, rfl⟩ := hc2.get
    have T2 := T1.box bx1 b2
    have bx2 := b2.2
    refine seq_merge (C := (fun σ' H' => Hd (∃ (D : Addr) (n0 n1 n2 n3 : Int) (u8 : Option V), Bs K b c ms H2 H' ∧ H' D = some (.lst ([n0, n1, n2, n3].map V.int)) ∧ σ' = [some (.ref a), some (.ref b), some (.ref e0), some (.ref e1), some (.int own), some (.ref l), some (.ref e), some (.ref D), u8, none, none, none, none]))) ?tail3 ?rest3
    case rest3 =>
      intro R tail
      walk_at "run"
      rename_i D hD
      have hneD := bx2.ne hD
      refine lc_range (lo := 0) (n := _) (fun i H' => Hd (Bs K b c ms H2 H' ∧ ∃ ys : List Int, H' D = some (.lst (ys.map V.int)) ∧ ys.length = i)) (.mk ⟨(Bs.refl bx2).new hD, [], upd_same, rfl⟩) (fun i H' hi hp2 => ?_) (fun H' hp2 => ?_)
      · obtain ⟨b3, ys, hy, ly⟩ := hp2.get
        walk_at "run"
        rename_i p4 hp4
        have b4 := b3.new (o := .lst [V.int 20, V.int 10]) hp4
        have hy4 := (same_upd (o := .lst [V.int 20, V.int 10]) hp4) _ _ hy
        refine atI_go (SqL.of upd_same) (by show 0 ≤ (_ : Int) % 2; omega) (by show (_ : Int) % 2 < (2 : Int); omega) fun v hv => ?_
        obtain ⟨cn, rfl, hcn⟩ : ∃ cn : Int, v = .int cn ∧ (cn = 20 ∨ cn = 10) := by
          rcases List.mem_cons.mp hv with rfl | hv
          · exact ⟨20, rfl, .inl rfl⟩
          · rw [List.mem_singleton.mp hv]
            exact ⟨10, rfl, .inr rfl⟩
        clear hv
        refine ⟨b, c, ms, cn, rfl, b4.2, hcn, fun n5 H5 b5 => ?_⟩
        have hy5 := b5.ints b4.2 hy4
        refine ⟨_, hy5, small1000 (by rw [List.length_map]; have : i < 4 := hi; omega), .mk ⟨(b4.trans b5).more bx2 hD hneD, ys ++ [n5], ?_, by rw [List.length_append, ly]; rfl⟩⟩
        rw [List.map_append]
        exact upd_same
      · obtain ⟨b3, ys, hy, ly⟩ := hp2.get
        have ly : ys.length = 4 := ly
        match ys, ly with
        | [n0, n1, n2, n3], _ =>
          walk_at "run"
          exact tail _ _ (.mk ⟨D, n0, n1, n2, n3, _, b3, hy, rfl⟩)
    case tail3 =>
    clear hc1 hc2
    intro σ3 H3 hc3
    obtain ⟨D, n0, n1, n2, n3, u8, b3, hD, rfl⟩ := hc3.get
    have T3 := T2.box bx2 b3
    have bx3 := b3.2
    have hpl3 := hpl.keep bx2 b3
    refine seq_merge (C := (fun σ' H' => Hd (∃ (v : V) (t : Tr) (x0 x1 x2 x3 : Addr), TT T.SP nmK H' ∧ TV K H' 16 v t ∧ H' e = some (.lst [.ref x0, .ref x1, .ref x2, .ref x3, .int md]) ∧ H' D = some (.lst [.int n0, .int n1, .int n2, .int n3]) ∧ AR md t ∧ t.sz ≤ 64 ∧ σ' = [some (.ref a), some (.ref b), some (.ref e0), some (.ref e1), some (.int own), some (.ref l), some (.ref e), some (.ref D), u8, some v, none, none, none]))) ?tail4 ?rest4
    case rest4 =>
      intro R tail
      walk_at "run"
      refine ⟨b, c, ms, e, _, rfl, bx3, hpl3, fun p t H4 b4 td z4 => ?_⟩
      obtain ⟨_, x0, x1, x2, x3, he, _⟩ := hpl3.keep bx3 b4
      exact tail _ _ (.mk ⟨_, t, x0, x1, x2, x3, T3.box bx3 b4, td.1, he, b4.ints bx3 (ks := [n0, n1, n2, n3]) hD, td.2, z4, rfl⟩)
    case tail4 =>
    clear hc3 T1 T2 T3 bx1 bx2 bx3 hD hpl hpl3 b2 b3 hS hT
    intro σ4 H4 hc4
    obtain ⟨v, t, x0, x1, x2, x3, T4, tv, he, hD, hAR, hz, rfl⟩ := hc4.get
    clear hc4
    refine seq_merge2 (C := (fun σ' H' => Hd (∃ (v1 : V), TT T.SP nmK H' ∧ TV K H' 16 v t ∧ H' e = some (.lst [.ref x0, .ref x1, .ref x2, .ref x3, .int md]) ∧ H' D = some (.lst [.int n0, .int n1, .int n2, .int n3]) ∧ TV K H' 16 v1 (t.mp (wsA (shfS n0 20) (shfS n1 10))) ∧ σ' = [some (.ref a), some (.ref b), some (.ref e0), some (.ref e1), some (.int own), some (.ref l), some (.ref e), some (.ref D), u8, some v, some v1, none, none]))) ?tail5 ?rest5
    case rest5 =>
      intro R tail
      walk_at "run"
      refine ⟨v, _, _, n0, n1, rfl, tv.1, (shf_tr tv.2).mono (by decide), fun r1 H5 s5 d5 => ?_⟩
      have t5 : TV K H5 16 r1 (t.mp (wsA (shfS n0 20) (shfS n1 10))) := ⟨d5, Tr.fit.mp _ (ws_fit _ _) tv.2⟩
      have hD5 := s5 _ _ hD
      have he5 := s5 _ _ he
      have T5 := T4.same s5
      have tv5 := tv.keep (same_tk (K := K) s5)
      walk_at "run"
      refine ⟨v, n0, n1, t, rfl, tv5, T5, fun r6 H6 e6 T6 u6 => ?_⟩
      have t6 := t5.keep (ext_tk (K := K) e6)
      walk_at "run"
      first
        | refine ⟨_, _, rfl, lkM (u6.lk t6) (by decide), ?_⟩
        | refine ⟨lkM (u6.lk t6) (by decide), ?_⟩
      walk_at "run"
      exact tail _ _ (.mk ⟨r1, T6, tv5.keep (ext_tk e6), e6 _ _ he5 (fun ps z => nomatch z), e6 _ _ hD5 (fun ps z => nomatch z), t6, rfl⟩)
    case tail5 =>
    intro σ5 H5 hc5
    obtain ⟨v1, T5, tv, he, hD, t1, rfl⟩ := hc5.get
    clear hc5 T4
    refine seq_merge2 (C := (fun σ' H' => Hd (∃ (v2 : V), TT T.SP nmK H' ∧ TV K H' 16 v t ∧ H' e = some (.lst [.ref x0, .ref x1, .ref x2, .ref x3, .int md]) ∧ H' D = some (.lst [.int n0, .int n1, .int n2, .int n3]) ∧ TV K H' 16 v1 (t.mp (wsA (shfS n0 20) (shfS n1 10))) ∧ TV K H' 16 v2 ((t.mp (wsA (shfS n0 20) (shfS n1 10))).mp (wsA (shfS n2 20) (shfS n3 10))) ∧ σ' = [some (.ref a), some (.ref b), some (.ref e0), some (.ref e1), some (.int own), some (.ref l), some (.ref e), some (.ref D), u8, some v, some v1, some v2, none]))) ?tail6 ?rest6
    case rest6 =>
      intro R tail
      walk_at "run"
      refine ⟨v1, n2, n3, _, rfl, t1, T5, fun r6 H6 e6 T6 u6 => ?_⟩
      have k6 := ext_tk (K := K) e6
      have hD6 := e6 _ _ hD (fun ps z => nomatch z)
      have he6 := e6 _ _ he (fun ps z => nomatch z)
      have t6 := t1.keep k6
      walk_at "run"
      refine ⟨v1, _, _, n2, n3, rfl, t6.1, (shf_tr t6.2).mono (by decide), fun r7 H7 s7 d7 => ?_⟩
      have t7 : TV K H7 16 r7 ((t.mp (wsA (shfS n0 20) (shfS n1 10))).mp (wsA (shfS n2 20) (shfS n3 10))) := ⟨d7, Tr.fit.mp _ (ws_fit _ _) t6.2⟩
      have u7 := u6.keep (same_tk (K := K) s7)
      walk_at "run"
      first
        | refine ⟨_, _, rfl, lkM (u7.lk t7) (by decide), ?_⟩
        | refine ⟨lkM (u7.lk t7) (by decide), ?_⟩
      walk_at "run"
      exact tail _ _ (.mk ⟨r6, T6.same s7, (tv.keep k6).keep (same_tk s7), s7 _ _ he6, s7 _ _ hD6, t6.keep (same_tk s7), u7, rfl⟩)
    case tail6 =>
    intro σ6 H6 hc6
    obtain ⟨v2, T6, tv, he, hD, t1, t2, rfl⟩ := hc6.get
    clear hc6 T5
    refine seq_merge2 (C := (fun σ' H' => Hd (∃ (v3 : V), TT T.SP nmK H' ∧ TV K H' 16 v t ∧ H' e = some (.lst [.ref x0, .ref x1, .ref x2, .ref x3, .int md]) ∧ H' D = some (.lst [.int n0, .int n1, .int n2, .int n3]) ∧ TV K H' 16 v1 (t.mp (wsA (shfS n0 20) (shfS n1 10))) ∧ TV K H' 16 v2 ((t.mp (wsA (shfS n0 20) (shfS n1 10))).mp (wsA (shfS n2 20) (shfS n3 10))) ∧ TV K H' 16 v3 (t.mp (wsA (shfS (n0 + n2) 20) (shfS (n1 + n3) 10))) ∧ σ' = [some (.ref a), some (.ref b), some (.ref e0), some (.ref e1), some (.int own), some (.ref l), some (.ref e), some (.ref D), u8, some v, some v1, some v2, some v3]))) ?tail7 ?rest7
    case rest7 =>
      intro R tail
      walk_at "run"
      refine ⟨v, _, _, n0 + n2, n1 + n3, rfl, tv.1, (shf_tr tv.2).mono (by decide), fun r7 H7 s7 d7 => ?_⟩
      have t7 : TV K H7 16 r7 (t.mp (wsA (shfS (n0 + n2) 20) (shfS (n1 + n3) 10))) := ⟨d7, Tr.fit.mp _ (ws_fit _ _) tv.2⟩
      have k7 := same_tk (K := K) s7
      have hD7 := s7 _ _ hD
      have he7 := s7 _ _ he
      have tv7 := tv.keep k7
      walk_at "run"
      refine ⟨v, n0 + n2, n1 + n3, t, rfl, tv7, T6.same s7, fun r8 H8 e8 T8 u8' => ?_⟩
      have k8 := ext_tk (K := K) e8
      have t8 := t7.keep k8
      walk_at "run"
      first
        | refine ⟨_, _, rfl, lkM (u8'.lk t8) (by decide), ?_⟩
        | refine ⟨lkM (u8'.lk t8) (by decide), ?_⟩
      walk_at "run"
      exact tail _ _ (.mk ⟨r7, T8, tv7.keep k8, e8 _ _ he7 (fun ps z => nomatch z), e8 _ _ hD7 (fun ps z => nomatch z), (t1.keep k7).keep k8, (t2.keep k7).keep k8, t8, rfl⟩)
    case tail7 =>
    intro σ7 H7 hc7
    obtain ⟨v3, T7, tv, he, hD, t1, t2, t3, rfl⟩ := hc7.get
    clear hc7 T6
    have z1 : (t.mp (wsA (shfS n0 20) (shfS n1 10))).sz ≤ 5000 := by
      rw [mp_sz _ (ws_sz _ _)]
      omega
    refine seq_merge (C := (fun σ' H' => Hd (TT T.SP nmK H' ∧ TV K H' 16 v t ∧ H' e = some (.lst [.ref x0, .ref x1, .ref x2, .ref x3, .int md]) ∧ H' D = some (.lst [.int n0, .int n1, .int n2, .int n3]) ∧ TV K H' 16 v1 (t.mp (wsA (shfS n0 20) (shfS n1 10))) ∧ σ' = [some (.ref a), some (.ref b), some (.ref e0), some (.ref e1), some (.int own), some (.ref l), some (.ref e), some (.ref D), u8, some v, some v1, some v2, some v3]))) ?tail8 ?rest8
    case rest8 =>
      intro R tail
      walk_at "run"
      · rename_i hm0
        refine ⟨v, t, 16, rfl, tv, by omega, fun l1 xs1 H8 s8 hl1 k1 => ?_⟩
        have kk8 := same_tk (K := K) s8
        walk_at "run"
        refine ⟨_, _, rfl, .inl (SqL.of hl1), ?_⟩
        walk_at "run"
        refine ⟨v1, _, 16, rfl, t1.keep kk8, z1, fun l2 xs2 H9 s9 hl2 k2 => ?_⟩
        have kk9 := kk8.trans (same_tk (K := K) s9)
        have fin := tail _ _ (.mk ⟨T7.same (s8.trans s9), tv.keep kk9, s9 _ _ (s8 _ _ he), s9 _ _ (s8 _ _ hD), t1.keep kk9, rfl⟩)
        walk_at "run"
        refine ⟨_, _, rfl, .inl (SqL.of hl2), ?_⟩
        walk_at "run"
        · rename_i hlen
          have l1 := k1.len
          have l2 := k2.len
          rw [List.length_map] at l1 l2
          have e2 := shift_two (f := n2) (g := n3) tv.2 (fun a ha => hAR a ha (by omega)) (show (t.mp (wsA (shfS n0 20) (shfS n1 10))).refs.length = t.refs.length by omega)
          have t2' := t2.keep kk9
          rw [e2] at t2'
          first
            | refine ⟨_, _, rfl, lkM (t2'.lk (t3.keep kk9)) (by decide), ?_⟩
            | refine ⟨lkM (t2'.lk (t3.keep kk9)) (by decide), ?_⟩
          walk_at "run"
          exact fin
        · exact fin
      · exact tail _ _ (.mk ⟨T7, tv, he, hD, t1, rfl⟩)
    case tail8 =>
    intro σ8 H8 hc8
    obtain ⟨T8, tv, he, hD, t1, rfl⟩ := hc8.get
    clear hc8 T7
    refine seq_merge (C := (fun σ' H' => Hd (TV K H' 16 v t ∧ TV K H' 16 v1 (t.mp (wsA (shfS n0 20) (shfS n1 10))) ∧ σ' = [some (.ref a), some (.ref b), some (.ref e0), some (.ref e1), some (.int own), some (.ref l), some (.ref e), some (.ref D), u8, some v, some v1, some v2, some v3]))) ?tail9 ?rest9
    case rest9 =>
      intro R tail
      walk_at "run"
      refine ⟨v, n0, n1, t, rfl, tv, T8, fun r9 H9 e9 T9 u9 => ?_⟩
      have t9 := t1.keep (ext_tk (K := K) e9)
      walk_at "run"
      first
        | refine ⟨_, _, rfl, lkM (u9.lk t9) (by decide), ?_⟩
        | refine ⟨lkM (u9.lk t9) (by decide), ?_⟩
      walk_at "run"
      exact tail _ _ (.mk ⟨tv.keep (ext_tk e9), t9, rfl⟩)
    case tail9 =>
    intro σ9 H9 hc9
    obtain ⟨tv, t1, rfl⟩ := hc9.get
    clear hc9 T8
    walk_at "run"
    refine ⟨v, t, 16, rfl, tv, by omega, fun l1 xs1 H8 s8 hl1 k1 => ?_⟩
    have t8 := t1.keep (same_tk (K := K) s8)
    walk_at "run"
    refine ⟨l1, xs1, _, 15, own, rfl, hl1, k1, fun H9 s9 => ?_⟩
    have t9 := t8.keep (same_tk (K := K) s9)
    walk_at "run"
    refine ⟨v1, _, 16, rfl, t9, z1, fun l2 xs2 H10 s10 hl2 k2 => ?_⟩
    walk_at "run"
    refine ⟨l2, xs2, _, 15, own, rfl, hl2, k2, fun H11 s11 => ?_⟩
    exact q _

end
def tabK (K : PySem.W.Frag) (c : Addr) : Addr := match K.lookup c with
  | some ⟨_, _, .fields vs, _⟩ => (match vs.getD 11 .none with
    | .ref P => P
    | _ => 0)
  | _ => 0
/-! ### the top -/
theorem all_mk {l : PySem.W.OpenLaw} {w : World} {K : PySem.W.Frag} {h : Heap} {mg : Str → Option Value} {fa : Addr} (X : K.In h) (G : h.Ns mainGlobals mg) (hfa : mg "law" = some (.ref fa))
    {od0 an0 : Option Addr} {sl0 : Array (Option Value)} {oc0 kV0 dc0 pm0 cd0 ct0 : Value} {f0 : Addr}
    (a0 : PySem.W.nsIn K mainGlobals "ordered" = some (some (.ref f0))) (l0 : K.lookup f0 = some ⟨oc0, od0, .func (PySem.W.fnOf "ordered" "ordered" (defArgs sordered) (defBody sordered) (defScope sordered) .none kV0 dc0 pm0 an0 cd0 ct0), sl0⟩) (c0 : PySem.W.codeIn K cd0 "ordered" = true) (k0 : PySem.W.keepIn K (.ref f0) = true)
    {od1 an1 : Option Addr} {sl1 : Array (Option Value)} {oc1 kV1 dc1 pm1 cd1 ct1 : Value} {f1 : Addr}
    (a1 : PySem.W.nsIn K mainGlobals "row_span" = some (some (.ref f1))) (l1 : K.lookup f1 = some ⟨oc1, od1, .func (PySem.W.fnOf "row_span" "row_span" (defArgs srow_span) (defBody srow_span) (defScope srow_span) .none kV1 dc1 pm1 an1 cd1 ct1), sl1⟩) (c1 : PySem.W.codeIn K cd1 "row_span" = true) (k1 : PySem.W.keepIn K (.ref f1) = true)
    {od2 an2 : Option Addr} {sl2 : Array (Option Value)} {oc2 kV2 dc2 pm2 cd2 ct2 : Value} {f2 : Addr}
    (a2 : PySem.W.nsIn K mainGlobals "column_span" = some (some (.ref f2))) (l2 : K.lookup f2 = some ⟨oc2, od2, .func (PySem.W.fnOf "column_span" "column_span" (defArgs scolumn_span) (defBody scolumn_span) (defScope scolumn_span) .none kV2 dc2 pm2 an2 cd2 ct2), sl2⟩) (c2 : PySem.W.codeIn K cd2 "column_span" = true) (k2 : PySem.W.keepIn K (.ref f2) = true)
    {od3 an3 : Option Addr} {sl3 : Array (Option Value)} {oc3 kV3 dc3 pm3 cd3 ct3 : Value} {f3 : Addr}
    (a3 : PySem.W.nsIn K mainGlobals "node_of" = some (some (.ref f3))) (l3 : K.lookup f3 = some ⟨oc3, od3, .func (PySem.W.fnOf "node_of" "node_of" (defArgs snode_of) (defBody snode_of) (defScope snode_of) .none kV3 dc3 pm3 an3 cd3 ct3), sl3⟩) (c3 : PySem.W.codeIn K cd3 "node_of" = true) (k3 : PySem.W.keepIn K (.ref f3) = true)
    {od4 an4 : Option Addr} {sl4 : Array (Option Value)} {oc4 kV4 dc4 pm4 cd4 ct4 : Value} {f4 : Addr}
    (a4 : PySem.W.nsIn K mainGlobals "area_of" = some (some (.ref f4))) (l4 : K.lookup f4 = some ⟨oc4, od4, .func (PySem.W.fnOf "area_of" "area_of" (defArgs sarea_of) (defBody sarea_of) (defScope sarea_of) .none kV4 dc4 pm4 an4 cd4 ct4), sl4⟩) (c4 : PySem.W.codeIn K cd4 "area_of" = true) (k4 : PySem.W.keepIn K (.ref f4) = true)
    {od5 an5 : Option Addr} {sl5 : Array (Option Value)} {oc5 kV5 dc5 pm5 cd5 ct5 : Value} {f5 : Addr}
    (a5 : PySem.W.nsIn K mainGlobals "rebuilt" = some (some (.ref f5))) (l5 : K.lookup f5 = some ⟨oc5, od5, .func (PySem.W.fnOf "rebuilt" "rebuilt" (defArgs srebuilt) (defBody srebuilt) (defScope srebuilt) .none kV5 dc5 pm5 an5 cd5 ct5), sl5⟩) (c5 : PySem.W.codeIn K cd5 "rebuilt" = true) (k5 : PySem.W.keepIn K (.ref f5) = true)
    {od6 an6 : Option Addr} {sl6 : Array (Option Value)} {oc6 kV6 dc6 pm6 cd6 ct6 : Value} {f6 : Addr}
    (a6 : PySem.W.nsIn K mainGlobals "all_rebuilt" = some (some (.ref f6))) (l6 : K.lookup f6 = some ⟨oc6, od6, .func (PySem.W.fnOf "all_rebuilt" "all_rebuilt" (defArgs sall_rebuilt) (defBody sall_rebuilt) (defScope sall_rebuilt) .none kV6 dc6 pm6 an6 cd6 ct6), sl6⟩) (c6 : PySem.W.codeIn K cd6 "all_rebuilt" = true) (k6 : PySem.W.keepIn K (.ref f6) = true)
    {od7 an7 : Option Addr} {sl7 : Array (Option Value)} {oc7 kV7 dc7 pm7 cd7 ct7 : Value} {f7 : Addr}
    (a7 : PySem.W.nsIn K mainGlobals "with_spans" = some (some (.ref f7))) (l7 : K.lookup f7 = some ⟨oc7, od7, .func (PySem.W.fnOf "with_spans" "with_spans" (defArgs swith_spans) (defBody swith_spans) (defScope swith_spans) .none kV7 dc7 pm7 an7 cd7 ct7), sl7⟩) (c7 : PySem.W.codeIn K cd7 "with_spans" = true) (k7 : PySem.W.keepIn K (.ref f7) = true)
    {od8 an8 : Option Addr} {sl8 : Array (Option Value)} {oc8 kV8 dc8 pm8 cd8 ct8 : Value} {f8 : Addr}
    (a8 : PySem.W.nsIn K mainGlobals "shifted" = some (some (.ref f8))) (l8 : K.lookup f8 = some ⟨oc8, od8, .func (PySem.W.fnOf "shifted" "shifted" (defArgs sshifted) (defBody sshifted) (defScope sshifted) .none kV8 dc8 pm8 an8 cd8 ct8), sl8⟩) (c8 : PySem.W.codeIn K cd8 "shifted" = true) (k8 : PySem.W.keepIn K (.ref f8) = true)
    {od9 an9 : Option Addr} {sl9 : Array (Option Value)} {oc9 kV9 dc9 pm9 cd9 ct9 : Value} {f9 : Addr}
    (a9 : PySem.W.nsIn K mainGlobals "shifted_span" = some (some (.ref f9))) (l9 : K.lookup f9 = some ⟨oc9, od9, .func (PySem.W.fnOf "shifted_span" "shifted_span" (defArgs sshifted_span) (defBody sshifted_span) (defScope sshifted_span) .none kV9 dc9 pm9 an9 cd9 ct9), sl9⟩) (c9 : PySem.W.codeIn K cd9 "shifted_span" = true) (k9 : PySem.W.keepIn K (.ref f9) = true)
    {od10 an10 : Option Addr} {sl10 : Array (Option Value)} {oc10 kV10 dc10 pm10 cd10 ct10 : Value} {f10 : Addr}
    (a10 : PySem.W.nsIn K mainGlobals "_law_mixed" = some (some (.ref f10))) (l10 : K.lookup f10 = some ⟨oc10, od10, .func (PySem.W.fnOf "_law_mixed" "_law_mixed" (defArgs s_law_mixed) (defBody s_law_mixed) (defScope s_law_mixed) .none kV10 dc10 pm10 an10 cd10 ct10), sl10⟩) (c10 : PySem.W.codeIn K cd10 "_law_mixed" = true) (k10 : PySem.W.keepIn K (.ref f10) = true)
    {od11 an11 : Option Addr} {sl11 : Array (Option Value)} {oc11 kV11 dc11 pm11 cd11 ct11 : Value} {f11 : Addr}
    (a11 : PySem.W.nsIn K mainGlobals "_law_draw" = some (some (.ref f11))) (l11 : K.lookup f11 = some ⟨oc11, od11, .func (PySem.W.fnOf "_law_draw" "_law_draw" (defArgs s_law_draw) (defBody s_law_draw) (defScope s_law_draw) .none kV11 dc11 pm11 an11 cd11 ct11), sl11⟩) (c11 : PySem.W.codeIn K cd11 "_law_draw" = true) (k11 : PySem.W.keepIn K (.ref f11) = true)
    {od12 an12 : Option Addr} {sl12 : Array (Option Value)} {oc12 kV12 dc12 pm12 cd12 ct12 : Value} {f12 : Addr}
    (a12 : PySem.W.nsIn K mainGlobals "_law_start" = some (some (.ref f12))) (l12 : K.lookup f12 = some ⟨oc12, od12, .func (PySem.W.fnOf "_law_start" "_law_start" (defArgs s_law_start) (defBody s_law_start) (defScope s_law_start) .none kV12 dc12 pm12 an12 cd12 ct12), sl12⟩) (c12 : PySem.W.codeIn K cd12 "_law_start" = true) (k12 : PySem.W.keepIn K (.ref f12) = true)
    {od13 an13 : Option Addr} {sl13 : Array (Option Value)} {oc13 kV13 dc13 pm13 cd13 ct13 : Value} {f13 : Addr}
    (a13 : PySem.W.nsIn K mainGlobals "_law_near" = some (some (.ref f13))) (l13 : K.lookup f13 = some ⟨oc13, od13, .func (PySem.W.fnOf "_law_near" "_law_near" (defArgs s_law_near) (defBody s_law_near) (defScope s_law_near) .none kV13 dc13 pm13 an13 cd13 ct13), sl13⟩) (c13 : PySem.W.codeIn K cd13 "_law_near" = true) (k13 : PySem.W.keepIn K (.ref f13) = true)
    {od14 an14 : Option Addr} {sl14 : Array (Option Value)} {oc14 kV14 dc14 pm14 cd14 ct14 : Value} {f14 : Addr}
    (a14 : PySem.W.nsIn K mainGlobals "_law_words" = some (some (.ref f14))) (l14 : K.lookup f14 = some ⟨oc14, od14, .func (PySem.W.fnOf "_law_words" "_law_words" (defArgs s_law_words) (defBody s_law_words) (defScope s_law_words) .none kV14 dc14 pm14 an14 cd14 ct14), sl14⟩) (c14 : PySem.W.codeIn K cd14 "_law_words" = true) (k14 : PySem.W.keepIn K (.ref f14) = true)
    {od15 an15 : Option Addr} {sl15 : Array (Option Value)} {oc15 kV15 dc15 pm15 cd15 ct15 : Value} {f15 : Addr}
    (a15 : PySem.W.nsIn K mainGlobals "_law_is_cell" = some (some (.ref f15))) (l15 : K.lookup f15 = some ⟨oc15, od15, .func (PySem.W.fnOf "_law_is_cell" "_law_is_cell" (defArgs s_law_is_cell) (defBody s_law_is_cell) (defScope s_law_is_cell) .none kV15 dc15 pm15 an15 cd15 ct15), sl15⟩) (c15 : PySem.W.codeIn K cd15 "_law_is_cell" = true) (k15 : PySem.W.keepIn K (.ref f15) = true)
    {od16 an16 : Option Addr} {sl16 : Array (Option Value)} {oc16 kV16 dc16 pm16 cd16 ct16 : Value} {f16 : Addr}
    (a16 : PySem.W.nsIn K mainGlobals "_law_name" = some (some (.ref f16))) (l16 : K.lookup f16 = some ⟨oc16, od16, .func (PySem.W.fnOf "_law_name" "_law_name" (defArgs s_law_name) (defBody s_law_name) (defScope s_law_name) .none kV16 dc16 pm16 an16 cd16 ct16), sl16⟩) (c16 : PySem.W.codeIn K cd16 "_law_name" = true) (k16 : PySem.W.keepIn K (.ref f16) = true)
    {od17 an17 : Option Addr} {sl17 : Array (Option Value)} {oc17 kV17 dc17 pm17 cd17 ct17 : Value} {f17 : Addr}
    (a17 : PySem.W.nsIn K mainGlobals "_law_signs" = some (some (.ref f17))) (l17 : K.lookup f17 = some ⟨oc17, od17, .func (PySem.W.fnOf "_law_signs" "_law_signs" (defArgs s_law_signs) (defBody s_law_signs) (defScope s_law_signs) .none kV17 dc17 pm17 an17 cd17 ct17), sl17⟩) (c17 : PySem.W.codeIn K cd17 "_law_signs" = true) (k17 : PySem.W.keepIn K (.ref f17) = true)
    {od18 an18 : Option Addr} {sl18 : Array (Option Value)} {oc18 kV18 dc18 pm18 cd18 ct18 : Value} {f18 : Addr}
    (a18 : PySem.W.nsIn K mainGlobals "_law_text" = some (some (.ref f18))) (l18 : K.lookup f18 = some ⟨oc18, od18, .func (PySem.W.fnOf "_law_text" "_law_text" (defArgs s_law_text) (defBody s_law_text) (defScope s_law_text) .none kV18 dc18 pm18 an18 cd18 ct18), sl18⟩) (c18 : PySem.W.codeIn K cd18 "_law_text" = true) (k18 : PySem.W.keepIn K (.ref f18) = true)
    {od19 an19 : Option Addr} {sl19 : Array (Option Value)} {oc19 kV19 dc19 pm19 cd19 ct19 : Value} {f19 : Addr}
    (a19 : PySem.W.nsIn K mainGlobals "_law_amount" = some (some (.ref f19))) (l19 : K.lookup f19 = some ⟨oc19, od19, .func (PySem.W.fnOf "_law_amount" "_law_amount" (defArgs s_law_amount) (defBody s_law_amount) (defScope s_law_amount) .none kV19 dc19 pm19 an19 cd19 ct19), sl19⟩) (c19 : PySem.W.codeIn K cd19 "_law_amount" = true) (k19 : PySem.W.keepIn K (.ref f19) = true)
    {od20 an20 : Option Addr} {sl20 : Array (Option Value)} {oc20 kV20 dc20 pm20 cd20 ct20 : Value} {f20 : Addr}
    (a20 : PySem.W.nsIn K mainGlobals "_law_scalar" = some (some (.ref f20))) (l20 : K.lookup f20 = some ⟨oc20, od20, .func (PySem.W.fnOf "_law_scalar" "_law_scalar" (defArgs s_law_scalar) (defBody s_law_scalar) (defScope s_law_scalar) .none kV20 dc20 pm20 an20 cd20 ct20), sl20⟩) (c20 : PySem.W.codeIn K cd20 "_law_scalar" = true) (k20 : PySem.W.keepIn K (.ref f20) = true)
    {od21 an21 : Option Addr} {sl21 : Array (Option Value)} {oc21 kV21 dc21 pm21 cd21 ct21 : Value} {f21 : Addr}
    (a21 : PySem.W.nsIn K mainGlobals "_law_array" = some (some (.ref f21))) (l21 : K.lookup f21 = some ⟨oc21, od21, .func (PySem.W.fnOf "_law_array" "_law_array" (defArgs s_law_array) (defBody s_law_array) (defScope s_law_array) .none kV21 dc21 pm21 an21 cd21 ct21), sl21⟩) (c21 : PySem.W.codeIn K cd21 "_law_array" = true) (k21 : PySem.W.keepIn K (.ref f21) = true)
    {od22 an22 : Option Addr} {sl22 : Array (Option Value)} {oc22 kV22 dc22 pm22 cd22 ct22 : Value} {f22 : Addr}
    (a22 : PySem.W.nsIn K mainGlobals "_law_area" = some (some (.ref f22))) (l22 : K.lookup f22 = some ⟨oc22, od22, .func (PySem.W.fnOf "_law_area" "_law_area" (defArgs s_law_area) (defBody s_law_area) (defScope s_law_area) .none kV22 dc22 pm22 an22 cd22 ct22), sl22⟩) (c22 : PySem.W.codeIn K cd22 "_law_area" = true) (k22 : PySem.W.keepIn K (.ref f22) = true)
    {od23 an23 : Option Addr} {sl23 : Array (Option Value)} {oc23 kV23 dc23 pm23 cd23 ct23 : Value} {f23 : Addr}
    (a23 : PySem.W.nsIn K mainGlobals "_law_leaf" = some (some (.ref f23))) (l23 : K.lookup f23 = some ⟨oc23, od23, .func (PySem.W.fnOf "_law_leaf" "_law_leaf" (defArgs s_law_leaf) (defBody s_law_leaf) (defScope s_law_leaf) .none kV23 dc23 pm23 an23 cd23 ct23), sl23⟩) (c23 : PySem.W.codeIn K cd23 "_law_leaf" = true) (k23 : PySem.W.keepIn K (.ref f23) = true)
    {od24 an24 : Option Addr} {sl24 : Array (Option Value)} {oc24 kV24 dc24 pm24 cd24 ct24 : Value} {f24 : Addr}
    (a24 : PySem.W.nsIn K mainGlobals "_law_filled" = some (some (.ref f24))) (l24 : K.lookup f24 = some ⟨oc24, od24, .func (PySem.W.fnOf "_law_filled" "_law_filled" (defArgs s_law_filled) (defBody s_law_filled) (defScope s_law_filled) .none kV24 dc24 pm24 an24 cd24 ct24), sl24⟩) (c24 : PySem.W.codeIn K cd24 "_law_filled" = true) (k24 : PySem.W.keepIn K (.ref f24) = true)
    {od25 an25 : Option Addr} {sl25 : Array (Option Value)} {oc25 kV25 dc25 pm25 cd25 ct25 : Value} {f25 : Addr}
    (a25 : PySem.W.nsIn K mainGlobals "_law_call" = some (some (.ref f25))) (l25 : K.lookup f25 = some ⟨oc25, od25, .func (PySem.W.fnOf "_law_call" "_law_call" (defArgs s_law_call) (defBody s_law_call) (defScope s_law_call) .none kV25 dc25 pm25 an25 cd25 ct25), sl25⟩) (c25 : PySem.W.codeIn K cd25 "_law_call" = true) (k25 : PySem.W.keepIn K (.ref f25) = true)
    {od26 an26 : Option Addr} {sl26 : Array (Option Value)} {oc26 kV26 dc26 pm26 cd26 ct26 : Value} {f26 : Addr}
    (a26 : PySem.W.nsIn K mainGlobals "_law_apply" = some (some (.ref f26))) (l26 : K.lookup f26 = some ⟨oc26, od26, .func (PySem.W.fnOf "_law_apply" "_law_apply" (defArgs s_law_apply) (defBody s_law_apply) (defScope s_law_apply) .none kV26 dc26 pm26 an26 cd26 ct26), sl26⟩) (c26 : PySem.W.codeIn K cd26 "_law_apply" = true) (k26 : PySem.W.keepIn K (.ref f26) = true)
    {od27 an27 : Option Addr} {sl27 : Array (Option Value)} {oc27 kV27 dc27 pm27 cd27 ct27 : Value} {f27 : Addr}
    (a27 : PySem.W.nsIn K mainGlobals "_law_let" = some (some (.ref f27))) (l27 : K.lookup f27 = some ⟨oc27, od27, .func (PySem.W.fnOf "_law_let" "_law_let" (defArgs s_law_let) (defBody s_law_let) (defScope s_law_let) .none kV27 dc27 pm27 an27 cd27 ct27), sl27⟩) (c27 : PySem.W.codeIn K cd27 "_law_let" = true) (k27 : PySem.W.keepIn K (.ref f27) = true)
    {od28 an28 : Option Addr} {sl28 : Array (Option Value)} {oc28 kV28 dc28 pm28 cd28 ct28 : Value} {f28 : Addr}
    (a28 : PySem.W.nsIn K mainGlobals "_law_lambda" = some (some (.ref f28))) (l28 : K.lookup f28 = some ⟨oc28, od28, .func (PySem.W.fnOf "_law_lambda" "_law_lambda" (defArgs s_law_lambda) (defBody s_law_lambda) (defScope s_law_lambda) .none kV28 dc28 pm28 an28 cd28 ct28), sl28⟩) (c28 : PySem.W.codeIn K cd28 "_law_lambda" = true) (k28 : PySem.W.keepIn K (.ref f28) = true)
    {od29 an29 : Option Addr} {sl29 : Array (Option Value)} {oc29 kV29 dc29 pm29 cd29 ct29 : Value} {f29 : Addr}
    (a29 : PySem.W.nsIn K mainGlobals "_law_node" = some (some (.ref f29))) (l29 : K.lookup f29 = some ⟨oc29, od29, .func (PySem.W.fnOf "_law_node" "_law_node" (defArgs s_law_node) (defBody s_law_node) (defScope s_law_node) .none kV29 dc29 pm29 an29 cd29 ct29), sl29⟩) (c29 : PySem.W.codeIn K cd29 "_law_node" = true) (k29 : PySem.W.keepIn K (.ref f29) = true)
    {od30 an30 : Option Addr} {sl30 : Array (Option Value)} {oc30 kV30 dc30 pm30 cd30 ct30 : Value} {f30 : Addr}
    (a30 : PySem.W.nsIn K mainGlobals "_law_parts" = some (some (.ref f30))) (l30 : K.lookup f30 = some ⟨oc30, od30, .func (PySem.W.fnOf "_law_parts" "_law_parts" (defArgs s_law_parts) (defBody s_law_parts) (defScope s_law_parts) .none kV30 dc30 pm30 an30 cd30 ct30), sl30⟩) (c30 : PySem.W.codeIn K cd30 "_law_parts" = true) (k30 : PySem.W.keepIn K (.ref f30) = true)
    {od31 an31 : Option Addr} {sl31 : Array (Option Value)} {oc31 kV31 dc31 pm31 cd31 ct31 : Value} {f31 : Addr}
    (a31 : PySem.W.nsIn K mainGlobals "_law_size" = some (some (.ref f31))) (l31 : K.lookup f31 = some ⟨oc31, od31, .func (PySem.W.fnOf "_law_size" "_law_size" (defArgs s_law_size) (defBody s_law_size) (defScope s_law_size) .none kV31 dc31 pm31 an31 cd31 ct31), sl31⟩) (c31 : PySem.W.codeIn K cd31 "_law_size" = true) (k31 : PySem.W.keepIn K (.ref f31) = true)
    {od32 an32 : Option Addr} {sl32 : Array (Option Value)} {oc32 kV32 dc32 pm32 cd32 ct32 : Value} {f32 : Addr}
    (a32 : PySem.W.nsIn K mainGlobals "_law_fits" = some (some (.ref f32))) (l32 : K.lookup f32 = some ⟨oc32, od32, .func (PySem.W.fnOf "_law_fits" "_law_fits" (defArgs s_law_fits) (defBody s_law_fits) (defScope s_law_fits) .none kV32 dc32 pm32 an32 cd32 ct32), sl32⟩) (c32 : PySem.W.codeIn K cd32 "_law_fits" = true) (k32 : PySem.W.keepIn K (.ref f32) = true)
    {od33 an33 : Option Addr} {sl33 : Array (Option Value)} {oc33 kV33 dc33 pm33 cd33 ct33 : Value} {f33 : Addr}
    (a33 : PySem.W.nsIn K mainGlobals "_law_grown" = some (some (.ref f33))) (l33 : K.lookup f33 = some ⟨oc33, od33, .func (PySem.W.fnOf "_law_grown" "_law_grown" (defArgs s_law_grown) (defBody s_law_grown) (defScope s_law_grown) .none kV33 dc33 pm33 an33 cd33 ct33), sl33⟩) (c33 : PySem.W.codeIn K cd33 "_law_grown" = true) (k33 : PySem.W.keepIn K (.ref f33) = true)
    {od34 an34 : Option Addr} {sl34 : Array (Option Value)} {oc34 kV34 dc34 pm34 cd34 ct34 : Value} {f34 : Addr}
    (a34 : PySem.W.nsIn K mainGlobals "_law_gathered" = some (some (.ref f34))) (l34 : K.lookup f34 = some ⟨oc34, od34, .func (PySem.W.fnOf "_law_gathered" "_law_gathered" (defArgs s_law_gathered) (defBody s_law_gathered) (defScope s_law_gathered) .none kV34 dc34 pm34 an34 cd34 ct34), sl34⟩) (c34 : PySem.W.codeIn K cd34 "_law_gathered" = true) (k34 : PySem.W.keepIn K (.ref f34) = true)
    {od35 an35 : Option Addr} {sl35 : Array (Option Value)} {oc35 kV35 dc35 pm35 cd35 ct35 : Value} {f35 : Addr}
    (a35 : PySem.W.nsIn K mainGlobals "_law_tree" = some (some (.ref f35))) (l35 : K.lookup f35 = some ⟨oc35, od35, .func (PySem.W.fnOf "_law_tree" "_law_tree" (defArgs s_law_tree) (defBody s_law_tree) (defScope s_law_tree) .none kV35 dc35 pm35 an35 cd35 ct35), sl35⟩) (c35 : PySem.W.codeIn K cd35 "_law_tree" = true) (k35 : PySem.W.keepIn K (.ref f35) = true)
    {od36 an36 : Option Addr} {sl36 : Array (Option Value)} {oc36 kV36 dc36 pm36 cd36 ct36 : Value} {f36 : Addr}
    (a36 : PySem.W.nsIn K mainGlobals "_law_walk" = some (some (.ref f36))) (l36 : K.lookup f36 = some ⟨oc36, od36, .func (PySem.W.fnOf "_law_walk" "_law_walk" (defArgs s_law_walk) (defBody s_law_walk) (defScope s_law_walk) .none kV36 dc36 pm36 an36 cd36 ct36), sl36⟩) (c36 : PySem.W.codeIn K cd36 "_law_walk" = true) (k36 : PySem.W.keepIn K (.ref f36) = true)
    {od37 an37 : Option Addr} {sl37 : Array (Option Value)} {oc37 kV37 dc37 pm37 cd37 ct37 : Value} {f37 : Addr}
    (a37 : PySem.W.nsIn K mainGlobals "_law_same" = some (some (.ref f37))) (l37 : K.lookup f37 = some ⟨oc37, od37, .func (PySem.W.fnOf "_law_same" "_law_same" (defArgs s_law_same) (defBody s_law_same) (defScope s_law_same) .none kV37 dc37 pm37 an37 cd37 ct37), sl37⟩) (c37 : PySem.W.codeIn K cd37 "_law_same" = true) (k37 : PySem.W.keepIn K (.ref f37) = true)
    {od38 an38 : Option Addr} {sl38 : Array (Option Value)} {oc38 kV38 dc38 pm38 cd38 ct38 : Value} {f38 : Addr}
    (a38 : PySem.W.nsIn K mainGlobals "_law_is_area" = some (some (.ref f38))) (l38 : K.lookup f38 = some ⟨oc38, od38, .func (PySem.W.fnOf "_law_is_area" "_law_is_area" (defArgs s_law_is_area) (defBody s_law_is_area) (defScope s_law_is_area) .none kV38 dc38 pm38 an38 cd38 ct38), sl38⟩) (c38 : PySem.W.codeIn K cd38 "_law_is_area" = true) (k38 : PySem.W.keepIn K (.ref f38) = true)
    {od39 an39 : Option Addr} {sl39 : Array (Option Value)} {oc39 kV39 dc39 pm39 cd39 ct39 : Value} {f39 : Addr}
    (a39 : PySem.W.nsIn K mainGlobals "_law_meant" = some (some (.ref f39))) (l39 : K.lookup f39 = some ⟨oc39, od39, .func (PySem.W.fnOf "_law_meant" "_law_meant" (defArgs s_law_meant) (defBody s_law_meant) (defScope s_law_meant) .none kV39 dc39 pm39 an39 cd39 ct39), sl39⟩) (c39 : PySem.W.codeIn K cd39 "_law_meant" = true) (k39 : PySem.W.keepIn K (.ref f39) = true)
    {od40 an40 : Option Addr} {sl40 : Array (Option Value)} {oc40 kV40 dc40 pm40 cd40 ct40 : Value} {f40 : Addr}
    (a40 : PySem.W.nsIn K mainGlobals "_law_step" = some (some (.ref f40))) (l40 : K.lookup f40 = some ⟨oc40, od40, .func (PySem.W.fnOf "_law_step" "_law_step" (defArgs s_law_step) (defBody s_law_step) (defScope s_law_step) .none kV40 dc40 pm40 an40 cd40 ct40), sl40⟩) (c40 : PySem.W.codeIn K cd40 "_law_step" = true) (k40 : PySem.W.keepIn K (.ref f40) = true)
    {od41 an41 : Option Addr} {sl41 : Array (Option Value)} {oc41 kV41 dc41 pm41 cd41 ct41 : Value} {f41 : Addr}
    (a41 : PySem.W.nsIn K mainGlobals "_law_ends" = some (some (.ref f41))) (l41 : K.lookup f41 = some ⟨oc41, od41, .func (PySem.W.fnOf "_law_ends" "_law_ends" (defArgs s_law_ends) (defBody s_law_ends) (defScope s_law_ends) .none kV41 dc41 pm41 an41 cd41 ct41), sl41⟩) (c41 : PySem.W.codeIn K cd41 "_law_ends" = true) (k41 : PySem.W.keepIn K (.ref f41) = true)
    {od42 an42 : Option Addr} {sl42 : Array (Option Value)} {oc42 kV42 dc42 pm42 cd42 ct42 : Value} {f42 : Addr}
    (a42 : PySem.W.nsIn K mainGlobals "_law_moved" = some (some (.ref f42))) (l42 : K.lookup f42 = some ⟨oc42, od42, .func (PySem.W.fnOf "_law_moved" "_law_moved" (defArgs s_law_moved) (defBody s_law_moved) (defScope s_law_moved) .none kV42 dc42 pm42 an42 cd42 ct42), sl42⟩) (c42 : PySem.W.codeIn K cd42 "_law_moved" = true) (k42 : PySem.W.keepIn K (.ref f42) = true)
    {od43 an43 : Option Addr} {sl43 : Array (Option Value)} {oc43 kV43 dc43 pm43 cd43 ct43 : Value} {f43 : Addr}
    (a43 : PySem.W.nsIn K mainGlobals "_law_shifted" = some (some (.ref f43))) (l43 : K.lookup f43 = some ⟨oc43, od43, .func (PySem.W.fnOf "_law_shifted" "_law_shifted" (defArgs s_law_shifted) (defBody s_law_shifted) (defScope s_law_shifted) .none kV43 dc43 pm43 an43 cd43 ct43), sl43⟩) (c43 : PySem.W.codeIn K cd43 "_law_shifted" = true) (k43 : PySem.W.keepIn K (.ref f43) = true)
    {od44 an44 : Option Addr} {sl44 : Array (Option Value)} {oc44 kV44 dc44 pm44 cd44 ct44 : Value} {f44 : Addr}
    (a44 : PySem.W.nsIn K mainGlobals "_law_areas" = some (some (.ref f44))) (l44 : K.lookup f44 = some ⟨oc44, od44, .func (PySem.W.fnOf "_law_areas" "_law_areas" (defArgs s_law_areas) (defBody s_law_areas) (defScope s_law_areas) .none kV44 dc44 pm44 an44 cd44 ct44), sl44⟩) (c44 : PySem.W.codeIn K cd44 "_law_areas" = true) (k44 : PySem.W.keepIn K (.ref f44) = true)
    {od45 an45 : Option Addr} {sl45 : Array (Option Value)} {oc45 kV45 dc45 pm45 cd45 ct45 : Value} {f45 : Addr}
    (a45 : PySem.W.nsIn K mainGlobals "_law_meanings" = some (some (.ref f45))) (l45 : K.lookup f45 = some ⟨oc45, od45, .func (PySem.W.fnOf "_law_meanings" "_law_meanings" (defArgs s_law_meanings) (defBody s_law_meanings) (defScope s_law_meanings) .none kV45 dc45 pm45 an45 cd45 ct45), sl45⟩) (c45 : PySem.W.codeIn K cd45 "_law_meanings" = true) (k45 : PySem.W.keepIn K (.ref f45) = true)
    {od46 an46 : Option Addr} {sl46 : Array (Option Value)} {oc46 kV46 dc46 pm46 cd46 ct46 : Value} {f46 : Addr}
    (a46 : PySem.W.nsIn K mainGlobals "law" = some (some (.ref f46))) (l46 : K.lookup f46 = some ⟨oc46, od46, .func (PySem.W.fnOf "law" "law" (defArgs slaw) (defBody slaw) (defScope slaw) .none kV46 dc46 pm46 an46 cd46 ct46), sl46⟩) (c46 : PySem.W.codeIn K cd46 "law" = true) (k46 : PySem.W.keepIn K (.ref f46) = true)
    {t_ROWS : Tok} (v_ROWS : PySem.W.nsIn K mainGlobals "ROWS" = some (some (.int 20 t_ROWS)))
    {t_COLUMNS : Tok} (v_COLUMNS : PySem.W.nsIn K mainGlobals "COLUMNS" = some (some (.int 10 t_COLUMNS)))
    {o_AREAS : Addr} {od_AREAS : Option Addr} {n_AREAS : Nat} {sl_AREAS : Array (Option Value)} {t0_AREAS t1_AREAS t2_AREAS t3_AREAS : Tok} (v_AREAS : PySem.W.nsIn K mainGlobals "AREAS" = some (some (.ref o_AREAS))) (u_AREAS : K.lookup o_AREAS = some ⟨.type "tuple", od_AREAS, .seq #[.str "cell" t0_AREAS, .str "range" t1_AREAS, .str "rows" t2_AREAS, .str "columns" t3_AREAS] n_AREAS, sl_AREAS⟩)
    {o_LOST : Addr} {od_LOST : Option Addr} {n_LOST : Nat} {sl_LOST : Array (Option Value)} {t0_LOST t1_LOST : Tok} (v_LOST : PySem.W.nsIn K mainGlobals "LOST" = some (some (.ref o_LOST))) (u_LOST : K.lookup o_LOST = some ⟨.type "tuple", od_LOST, .seq #[.str "error" t0_LOST, .str "REF" t1_LOST] n_LOST, sl_LOST⟩)
    (z_bool : PySem.W.nsIn K mainGlobals "bool" = some none)
    (z_int : PySem.W.nsIn K mainGlobals "int" = some none)
    (z_isinstance : PySem.W.nsIn K mainGlobals "isinstance" = some none)
    (z_len : PySem.W.nsIn K mainGlobals "len" = some none)
    (z_list : PySem.W.nsIn K mainGlobals "list" = some none)
    (z_max : PySem.W.nsIn K mainGlobals "max" = some none)
    (z_min : PySem.W.nsIn K mainGlobals "min" = some none)
    (z_range : PySem.W.nsIn K mainGlobals "range" = some none)
    (z_reversed : PySem.W.nsIn K mainGlobals "reversed" = some none)
    (z_sorted : PySem.W.nsIn K mainGlobals "sorted" = some none)
    (z_str : PySem.W.nsIn K mainGlobals "str" = some none)
    (z_sum : PySem.W.nsIn K mainGlobals "sum" = some none)
    (z_tuple : PySem.W.nsIn K mainGlobals "tuple" = some none)
    {ccS : Addr} (ecS : cd8 = .ref ccS) (hdS : PySem.W.codeHdIn K ccS (tabK K ccS) = true) (hnS : K.lookup (tabK K ccS) = none) (heS : h.get? (tabK K ccS) = some { cls := .none, data := .fields #[] }) :
    LamX.LawAtS l w K CX0 53 63 "script" mg fa h := by
  have e := hfa.symm.trans (PySem.W.mg_of X G a46)
  cases e
  have F0 := fun_mk (st := sordered) l0 c0 k0
  have b0 := F0.binds (ps := Pordered) fun _ _ _ _ _ _ us hl => match us, hl with | [_], _ => rfl
  have F1 := fun_mk (st := srow_span) l1 c1 k1
  have b1 := F1.binds (ps := Prow_span) fun _ _ _ _ _ _ us hl => match us, hl with | [_], _ => rfl
  have F2 := fun_mk (st := scolumn_span) l2 c2 k2
  have b2 := F2.binds (ps := Pcolumn_span) fun _ _ _ _ _ _ us hl => match us, hl with | [_], _ => rfl
  have F3 := fun_mk (st := snode_of) l3 c3 k3
  have b3 := F3.binds (ps := Pnode_of) fun _ _ _ _ _ _ us hl => match us, hl with | [_, _, _, _], _ => rfl
  have F4 := fun_mk (st := sarea_of) l4 c4 k4
  have b4 := F4.binds (ps := Parea_of) fun _ _ _ _ _ _ us hl => match us, hl with | [_, _], _ => rfl
  have F5 := fun_mk (st := srebuilt) l5 c5 k5
  have b5 := F5.binds (ps := Prebuilt) fun _ _ _ _ _ _ us hl => match us, hl with | [_, _], _ => rfl
  have F6 := fun_mk (st := sall_rebuilt) l6 c6 k6
  have b6 := F6.binds (ps := Pall_rebuilt) fun _ _ _ _ _ _ us hl => match us, hl with | [_, _], _ => rfl
  have F7 := fun_mk (st := swith_spans) l7 c7 k7
  have b7 := F7.binds (ps := Pwith_spans) fun _ _ _ _ _ _ us hl => match us, hl with | [_, _, _], _ => rfl
  have F8 := fun_mk (st := sshifted) l8 c8 k8
  have b8 := F8.binds (ps := Pshifted) fun _ _ _ _ _ _ us hl => match us, hl with | [_, _, _], _ => rfl
  have F9 := fun_mk (st := sshifted_span) l9 c9 k9
  have b9 := F9.binds (ps := Pshifted_span) fun _ _ _ _ _ _ us hl => match us, hl with | [_, _, _], _ => rfl
  have F10 := fun_mk (st := s_law_mixed) l10 c10 k10
  have b10 := F10.binds (ps := P_law_mixed) fun _ _ _ _ _ _ us hl => match us, hl with | [_, _], _ => rfl
  have F11 := fun_mk (st := s_law_draw) l11 c11 k11
  have b11 := F11.binds (ps := P_law_draw) fun _ _ _ _ _ _ us hl => match us, hl with | [_, _], _ => rfl
  have F12 := fun_mk (st := s_law_start) l12 c12 k12
  have b12 := F12.binds (ps := P_law_start) fun _ _ _ _ _ _ us hl => match us, hl with | [_], _ => rfl
  have F13 := fun_mk (st := s_law_near) l13 c13 k13
  have b13 := F13.binds (ps := P_law_near) fun _ _ _ _ _ _ us hl => match us, hl with | [_, _], _ => rfl
  have F14 := fun_mk (st := s_law_words) l14 c14 k14
  have b14 := F14.binds (ps := P_law_words) fun _ _ _ _ _ _ us hl => match us, hl with | [], _ => rfl
  have F15 := fun_mk (st := s_law_is_cell) l15 c15 k15
  have b15 := F15.binds (ps := P_law_is_cell) fun _ _ _ _ _ _ us hl => match us, hl with | [_], _ => rfl
  have F16 := fun_mk (st := s_law_name) l16 c16 k16
  have b16 := F16.binds (ps := P_law_name) fun _ _ _ _ _ _ us hl => match us, hl with | [_, _], _ => rfl
  have F17 := fun_mk (st := s_law_signs) l17 c17 k17
  have b17 := F17.binds (ps := P_law_signs) fun _ _ _ _ _ _ us hl => match us, hl with | [], _ => rfl
  have F18 := fun_mk (st := s_law_text) l18 c18 k18
  have b18 := F18.binds (ps := P_law_text) fun _ _ _ _ _ _ us hl => match us, hl with | [_], _ => rfl
  have F19 := fun_mk (st := s_law_amount) l19 c19 k19
  have b19 := F19.binds (ps := P_law_amount) fun _ _ _ _ _ _ us hl => match us, hl with | [_], _ => rfl
  have F20 := fun_mk (st := s_law_scalar) l20 c20 k20
  have b20 := F20.binds (ps := P_law_scalar) fun _ _ _ _ _ _ us hl => match us, hl with | [_, _], _ => rfl
  have F21 := fun_mk (st := s_law_array) l21 c21 k21
  have b21 := F21.binds (ps := P_law_array) fun _ _ _ _ _ _ us hl => match us, hl with | [_], _ => rfl
  have F22 := fun_mk (st := s_law_area) l22 c22 k22
  have b22 := F22.binds (ps := P_law_area) fun _ _ _ _ _ _ us hl => match us, hl with | [_, _], _ => rfl
  have F23 := fun_mk (st := s_law_leaf) l23 c23 k23
  have b23 := F23.binds (ps := P_law_leaf) fun _ _ _ _ _ _ us hl => match us, hl with | [_, _], _ => rfl
  have F24 := fun_mk (st := s_law_filled) l24 c24 k24
  have b24 := F24.binds (ps := P_law_filled) fun _ _ _ _ _ _ us hl => match us, hl with | [_, _, _], _ => rfl
  have F25 := fun_mk (st := s_law_call) l25 c25 k25
  have b25 := F25.binds (ps := P_law_call) fun _ _ _ _ _ _ us hl => match us, hl with | [_, _, _], _ => rfl
  have F26 := fun_mk (st := s_law_apply) l26 c26 k26
  have b26 := F26.binds (ps := P_law_apply) fun _ _ _ _ _ _ us hl => match us, hl with | [_, _], _ => rfl
  have F27 := fun_mk (st := s_law_let) l27 c27 k27
  have b27 := F27.binds (ps := P_law_let) fun _ _ _ _ _ _ us hl => match us, hl with | [_, _, _], _ => rfl
  have F28 := fun_mk (st := s_law_lambda) l28 c28 k28
  have b28 := F28.binds (ps := P_law_lambda) fun _ _ _ _ _ _ us hl => match us, hl with | [_, _, _], _ => rfl
  have F29 := fun_mk (st := s_law_node) l29 c29 k29
  have b29 := F29.binds (ps := P_law_node) fun _ _ _ _ _ _ us hl => match us, hl with | [_, _, _], _ => rfl
  have F30 := fun_mk (st := s_law_parts) l30 c30 k30
  have b30 := F30.binds (ps := P_law_parts) fun _ _ _ _ _ _ us hl => match us, hl with | [_], _ => rfl
  have F31 := fun_mk (st := s_law_size) l31 c31 k31
  have b31 := F31.binds (ps := P_law_size) fun _ _ _ _ _ _ us hl => match us, hl with | [_], _ => rfl
  have F32 := fun_mk (st := s_law_fits) l32 c32 k32
  have b32 := F32.binds (ps := P_law_fits) fun _ _ _ _ _ _ us hl => match us, hl with | [_, _, _], _ => rfl
  have F33 := fun_mk (st := s_law_grown) l33 c33 k33
  have b33 := F33.binds (ps := P_law_grown) fun _ _ _ _ _ _ us hl => match us, hl with | [_, _, _, _, _, _], _ => rfl
  have F34 := fun_mk (st := s_law_gathered) l34 c34 k34
  have b34 := F34.binds (ps := P_law_gathered) fun _ _ _ _ _ _ us hl => match us, hl with | [_, _, _, _], _ => rfl
  have F35 := fun_mk (st := s_law_tree) l35 c35 k35
  have b35 := F35.binds (ps := P_law_tree) fun _ _ _ _ _ _ us hl => match us, hl with | [_, _, _, _], _ => rfl
  have F36 := fun_mk (st := s_law_walk) l36 c36 k36
  have b36 := F36.binds (ps := P_law_walk) fun _ _ _ _ _ _ us hl => match us, hl with | [_], _ => rfl
  have F37 := fun_mk (st := s_law_same) l37 c37 k37
  have b37 := F37.binds (ps := P_law_same) fun _ _ _ _ _ _ us hl => match us, hl with | [_, _], _ => rfl
  have F38 := fun_mk (st := s_law_is_area) l38 c38 k38
  have b38 := F38.binds (ps := P_law_is_area) fun _ _ _ _ _ _ us hl => match us, hl with | [_], _ => rfl
  have F39 := fun_mk (st := s_law_meant) l39 c39 k39
  have b39 := F39.binds (ps := P_law_meant) fun _ _ _ _ _ _ us hl => match us, hl with | [_, _], _ => rfl
  have F40 := fun_mk (st := s_law_step) l40 c40 k40
  have b40 := F40.binds (ps := P_law_step) fun _ _ _ _ _ _ us hl => match us, hl with | [_, _], _ => rfl
  have F41 := fun_mk (st := s_law_ends) l41 c41 k41
  have b41 := F41.binds (ps := P_law_ends) fun _ _ _ _ _ _ us hl => match us, hl with | [_, _, _, _, _, _], _ => rfl
  have F42 := fun_mk (st := s_law_moved) l42 c42 k42
  have b42 := F42.binds (ps := P_law_moved) fun _ _ _ _ _ _ us hl => match us, hl with | [_, _, _], _ => rfl
  have F43 := fun_mk (st := s_law_shifted) l43 c43 k43
  have b43 := F43.binds (ps := P_law_shifted) fun _ _ _ _ _ _ us hl => match us, hl with | [_, _, _], _ => rfl
  have F44 := fun_mk (st := s_law_areas) l44 c44 k44
  have b44 := F44.binds (ps := P_law_areas) fun _ _ _ _ _ _ us hl => match us, hl with | [_], _ => rfl
  have F45 := fun_mk (st := s_law_meanings) l45 c45 k45
  have b45 := F45.binds (ps := P_law_meanings) fun _ _ _ _ _ _ us hl => match us, hl with | [_, _], _ => rfl
  have F46 := fun_mk (st := slaw) l46 c46 k46
  have b46 := F46.binds (ps := Plaw) fun _ _ _ _ _ _ us hl => match us, hl with | [_], _ => rfl
  let T : Txt K mg := { aordered := f0, dordered := _, Fordered := F0, gordered := PySem.W.mg_of X G a0, bordered := b0, arow_span := f1, drow_span := _, Frow_span := F1, grow_span := PySem.W.mg_of X G a1, brow_span := b1, acolumn_span := f2, dcolumn_span := _, Fcolumn_span := F2, gcolumn_span := PySem.W.mg_of X G a2, bcolumn_span := b2, anode_of := f3, dnode_of := _, Fnode_of := F3, gnode_of := PySem.W.mg_of X G a3, bnode_of := b3, aarea_of := f4, darea_of := _, Farea_of := F4, garea_of := PySem.W.mg_of X G a4, barea_of := b4, arebuilt := f5, drebuilt := _, Frebuilt := F5, grebuilt := PySem.W.mg_of X G a5, brebuilt := b5, aall_rebuilt := f6, dall_rebuilt := _, Fall_rebuilt := F6, gall_rebuilt := PySem.W.mg_of X G a6, ball_rebuilt := b6, awith_spans := f7, dwith_spans := _, Fwith_spans := F7, gwith_spans := PySem.W.mg_of X G a7, bwith_spans := b7, ashifted := f8, dshifted := _, Fshifted := F8, gshifted := PySem.W.mg_of X G a8, bshifted := b8, ashifted_span := f9, dshifted_span := _, Fshifted_span := F9, gshifted_span := PySem.W.mg_of X G a9, bshifted_span := b9, a_law_mixed := f10, d_law_mixed := _, F_law_mixed := F10, g_law_mixed := PySem.W.mg_of X G a10, b_law_mixed := b10, a_law_draw := f11, d_law_draw := _, F_law_draw := F11, g_law_draw := PySem.W.mg_of X G a11, b_law_draw := b11, a_law_start := f12, d_law_start := _, F_law_start := F12, g_law_start := PySem.W.mg_of X G a12, b_law_start := b12, a_law_near := f13, d_law_near := _, F_law_near := F13, g_law_near := PySem.W.mg_of X G a13, b_law_near := b13, a_law_words := f14, d_law_words := _, F_law_words := F14, g_law_words := PySem.W.mg_of X G a14, b_law_words := b14, a_law_is_cell := f15, d_law_is_cell := _, F_law_is_cell := F15, g_law_is_cell := PySem.W.mg_of X G a15, b_law_is_cell := b15, a_law_name := f16, d_law_name := _, F_law_name := F16, g_law_name := PySem.W.mg_of X G a16, b_law_name := b16, a_law_signs := f17, d_law_signs := _, F_law_signs := F17, g_law_signs := PySem.W.mg_of X G a17, b_law_signs := b17, a_law_text := f18, d_law_text := _, F_law_text := F18, g_law_text := PySem.W.mg_of X G a18, b_law_text := b18, a_law_amount := f19, d_law_amount := _, F_law_amount := F19, g_law_amount := PySem.W.mg_of X G a19, b_law_amount := b19, a_law_scalar := f20, d_law_scalar := _, F_law_scalar := F20, g_law_scalar := PySem.W.mg_of X G a20, b_law_scalar := b20, a_law_array := f21, d_law_array := _, F_law_array := F21, g_law_array := PySem.W.mg_of X G a21, b_law_array := b21, a_law_area := f22, d_law_area := _, F_law_area := F22, g_law_area := PySem.W.mg_of X G a22, b_law_area := b22, a_law_leaf := f23, d_law_leaf := _, F_law_leaf := F23, g_law_leaf := PySem.W.mg_of X G a23, b_law_leaf := b23, a_law_filled := f24, d_law_filled := _, F_law_filled := F24, g_law_filled := PySem.W.mg_of X G a24, b_law_filled := b24, a_law_call := f25, d_law_call := _, F_law_call := F25, g_law_call := PySem.W.mg_of X G a25, b_law_call := b25, a_law_apply := f26, d_law_apply := _, F_law_apply := F26, g_law_apply := PySem.W.mg_of X G a26, b_law_apply := b26, a_law_let := f27, d_law_let := _, F_law_let := F27, g_law_let := PySem.W.mg_of X G a27, b_law_let := b27, a_law_lambda := f28, d_law_lambda := _, F_law_lambda := F28, g_law_lambda := PySem.W.mg_of X G a28, b_law_lambda := b28, a_law_node := f29, d_law_node := _, F_law_node := F29, g_law_node := PySem.W.mg_of X G a29, b_law_node := b29, a_law_parts := f30, d_law_parts := _, F_law_parts := F30, g_law_parts := PySem.W.mg_of X G a30, b_law_parts := b30, a_law_size := f31, d_law_size := _, F_law_size := F31, g_law_size := PySem.W.mg_of X G a31, b_law_size := b31, a_law_fits := f32, d_law_fits := _, F_law_fits := F32, g_law_fits := PySem.W.mg_of X G a32, b_law_fits := b32, a_law_grown := f33, d_law_grown := _, F_law_grown := F33, g_law_grown := PySem.W.mg_of X G a33, b_law_grown := b33, a_law_gathered := f34, d_law_gathered := _, F_law_gathered := F34, g_law_gathered := PySem.W.mg_of X G a34, b_law_gathered := b34, a_law_tree := f35, d_law_tree := _, F_law_tree := F35, g_law_tree := PySem.W.mg_of X G a35, b_law_tree := b35, a_law_walk := f36, d_law_walk := _, F_law_walk := F36, g_law_walk := PySem.W.mg_of X G a36, b_law_walk := b36, a_law_same := f37, d_law_same := _, F_law_same := F37, g_law_same := PySem.W.mg_of X G a37, b_law_same := b37, a_law_is_area := f38, d_law_is_area := _, F_law_is_area := F38, g_law_is_area := PySem.W.mg_of X G a38, b_law_is_area := b38, a_law_meant := f39, d_law_meant := _, F_law_meant := F39, g_law_meant := PySem.W.mg_of X G a39, b_law_meant := b39, a_law_step := f40, d_law_step := _, F_law_step := F40, g_law_step := PySem.W.mg_of X G a40, b_law_step := b40, a_law_ends := f41, d_law_ends := _, F_law_ends := F41, g_law_ends := PySem.W.mg_of X G a41, b_law_ends := b41, a_law_moved := f42, d_law_moved := _, F_law_moved := F42, g_law_moved := PySem.W.mg_of X G a42, b_law_moved := b42, a_law_shifted := f43, d_law_shifted := _, F_law_shifted := F43, g_law_shifted := PySem.W.mg_of X G a43, b_law_shifted := b43, a_law_areas := f44, d_law_areas := _, F_law_areas := F44, g_law_areas := PySem.W.mg_of X G a44, b_law_areas := b44, a_law_meanings := f45, d_law_meanings := _, F_law_meanings := F45, g_law_meanings := PySem.W.mg_of X G a45, b_law_meanings := b45, alaw := fa, dlaw := _, Flaw := F46, glaw := PySem.W.mg_of X G a46, blaw := b46, t_ROWS := t_ROWS, m_ROWS := PySem.W.mg_of X G v_ROWS, t_COLUMNS := t_COLUMNS, m_COLUMNS := PySem.W.mg_of X G v_COLUMNS, o_AREAS := o_AREAS, m_AREAS := PySem.W.mg_of X G v_AREAS, q_AREAS := fun _ => .inr ⟨_, _, _, u_AREAS, rfl, rfl, (show 4 ≤ sizeLine by decide), (.cons ⟨_, rfl⟩ (.cons ⟨_, rfl⟩ (.cons ⟨_, rfl⟩ (.cons ⟨_, rfl⟩ .nil))))⟩, o_LOST := o_LOST, m_LOST := PySem.W.mg_of X G v_LOST, q_LOST := fun _ => .inr ⟨_, _, _, u_LOST, rfl, rfl, (show 2 ≤ sizeLine by decide), (.cons ⟨_, rfl⟩ (.cons ⟨_, rfl⟩ .nil))⟩, z_bool := PySem.W.mg_none_of X G z_bool, z_int := PySem.W.mg_none_of X G z_int, z_isinstance := PySem.W.mg_none_of X G z_isinstance, z_len := PySem.W.mg_none_of X G z_len, z_list := PySem.W.mg_none_of X G z_list, z_max := PySem.W.mg_none_of X G z_max, z_min := PySem.W.mg_none_of X G z_min, z_range := PySem.W.mg_none_of X G z_range, z_reversed := PySem.W.mg_none_of X G z_reversed, z_sorted := PySem.W.mg_none_of X G z_sorted, z_str := PySem.W.mg_none_of X G z_str, z_sum := PySem.W.mg_none_of X G z_sum, z_tuple := PySem.W.mg_none_of X G z_tuple, cS := ccS, pS := tabK K ccS, hcS := ecS }
  refine ⟨T.dlaw, [(ccS, tabK K ccS)], splaw K T.SP, fun p hp => ?e1, fun p hp => ?e2, fun p hp => ?e3, fun s v => .of_eq rfl, fun H a ns hl hb hT hS => ⟨a, ns, rfl, hS, hl, fun p hp => ?e4, fun _ => rfl⟩, fun base KB gB TB => ?e5⟩
  case e1 =>
    obtain rfl := List.mem_singleton.mp hp
    exact heS
  case e2 =>
    obtain rfl := List.mem_singleton.mp hp
    exact hnS
  case e3 =>
    obtain rfl := List.mem_singleton.mp hp
    exact PySem.W.codeHd_of_K X hdS
  case e4 =>
    obtain rfl := List.mem_singleton.mp hp
    exact TabT.nil (hT (ccS, tabK K ccS) (List.mem_cons_self ..))
  case e5 =>
    haveI : TabsB mg base T.cS T.pS := ⟨TB _ (List.mem_cons_self ..)⟩
    exact oklaw (base := base) T

end Mysheetworks_k17_shifts_composed
open PySem PySem.W PyProof.Rows
set_option maxHeartbeats 0 in
theorem PySem.Challenge.cw_sheetworks_k17_shifts_composed_holds : PySem.Challenge.rw_sheetworks_k17_shifts_composed.Holds := by
  w_on; o_law; k_head; (case hw => w_witness2)
  k_fill
  refine LamX.walk_ofTs (l := PySem.Challenge.rw_sheetworks_k17_shifts_composed) (n := 63) (k := 53) (x := "script") (CX := fun _ => L2.CX0) rfl (by decide) rfl ⟨rfl, by decide, by decide⟩ (fun w h Y => PySem.W.km_in_of Y) ?F (fun _ _ _ _ _ h => h)
  case F =>
    intro w mg fa h Y KX G hmg
    refine' Mysheetworks_k17_shifts_composed.all_mk KX G hmg ?a0 ?l0 ?c0 ?k0 ?a1 ?l1 ?c1 ?k1 ?a2 ?l2 ?c2 ?k2 ?a3 ?l3 ?c3 ?k3 ?a4 ?l4 ?c4 ?k4 ?a5 ?l5 ?c5 ?k5 ?a6 ?l6 ?c6 ?k6 ?a7 ?l7 ?c7 ?k7 ?a8 ?l8 ?c8 ?k8 ?a9 ?l9 ?c9 ?k9 ?a10 ?l10 ?c10 ?k10 ?a11 ?l11 ?c11 ?k11 ?a12 ?l12 ?c12 ?k12 ?a13 ?l13 ?c13 ?k13 ?a14 ?l14 ?c14 ?k14 ?a15 ?l15 ?c15 ?k15 ?a16 ?l16 ?c16 ?k16 ?a17 ?l17 ?c17 ?k17 ?a18 ?l18 ?c18 ?k18 ?a19 ?l19 ?c19 ?k19 ?a20 ?l20 ?c20 ?k20 ?a21 ?l21 ?c21 ?k21 ?a22 ?l22 ?c22 ?k22 ?a23 ?l23 ?c23 ?k23 ?a24 ?l24 ?c24 ?k24 ?a25 ?l25 ?c25 ?k25 ?a26 ?l26 ?c26 ?k26 ?a27 ?l27 ?c27 ?k27 ?a28 ?l28 ?c28 ?k28 ?a29 ?l29 ?c29 ?k29 ?a30 ?l30 ?c30 ?k30 ?a31 ?l31 ?c31 ?k31 ?a32 ?l32 ?c32 ?k32 ?a33 ?l33 ?c33 ?k33 ?a34 ?l34 ?c34 ?k34 ?a35 ?l35 ?c35 ?k35 ?a36 ?l36 ?c36 ?k36 ?a37 ?l37 ?c37 ?k37 ?a38 ?l38 ?c38 ?k38 ?a39 ?l39 ?c39 ?k39 ?a40 ?l40 ?c40 ?k40 ?a41 ?l41 ?c41 ?k41 ?a42 ?l42 ?c42 ?k42 ?a43 ?l43 ?c43 ?k43 ?a44 ?l44 ?c44 ?k44 ?a45 ?l45 ?c45 ?k45 ?a46 ?l46 ?c46 ?k46 ?v_ROWS ?v_COLUMNS ?v_AREAS ?u_AREAS ?v_LOST ?u_LOST ?z_bool ?z_int ?z_isinstance ?z_len ?z_list ?z_max ?z_min ?z_range ?z_reversed ?z_sorted ?z_str ?z_sum ?z_tuple ?ecS ?hdS ?hnS ?heS
    (case a0 => k_is); (case l0 => k_is); (case c0 => k_is); (case k0 => k_is); (case a1 => k_is); (case l1 => k_is); (case c1 => k_is); (case k1 => k_is); (case a2 => k_is); (case l2 => k_is); (case c2 => k_is); (case k2 => k_is); (case a3 => k_is); (case l3 => k_is); (case c3 => k_is); (case k3 => k_is); (case a4 => k_is); (case l4 => k_is); (case c4 => k_is); (case k4 => k_is); (case a5 => k_is); (case l5 => k_is); (case c5 => k_is); (case k5 => k_is); (case a6 => k_is); (case l6 => k_is); (case c6 => k_is); (case k6 => k_is); (case a7 => k_is); (case l7 => k_is); (case c7 => k_is); (case k7 => k_is); (case a8 => k_is); (case l8 => k_is); (case c8 => k_is); (case k8 => k_is); (case a9 => k_is); (case l9 => k_is); (case c9 => k_is); (case k9 => k_is); (case a10 => k_is); (case l10 => k_is); (case c10 => k_is); (case k10 => k_is); (case a11 => k_is); (case l11 => k_is); (case c11 => k_is); (case k11 => k_is); (case a12 => k_is); (case l12 => k_is); (case c12 => k_is); (case k12 => k_is); (case a13 => k_is); (case l13 => k_is); (case c13 => k_is); (case k13 => k_is); (case a14 => k_is); (case l14 => k_is); (case c14 => k_is); (case k14 => k_is); (case a15 => k_is); (case l15 => k_is); (case c15 => k_is); (case k15 => k_is); (case a16 => k_is); (case l16 => k_is); (case c16 => k_is); (case k16 => k_is); (case a17 => k_is); (case l17 => k_is); (case c17 => k_is); (case k17 => k_is); (case a18 => k_is); (case l18 => k_is); (case c18 => k_is); (case k18 => k_is); (case a19 => k_is); (case l19 => k_is); (case c19 => k_is); (case k19 => k_is); (case a20 => k_is); (case l20 => k_is); (case c20 => k_is); (case k20 => k_is); (case a21 => k_is); (case l21 => k_is); (case c21 => k_is); (case k21 => k_is); (case a22 => k_is); (case l22 => k_is); (case c22 => k_is); (case k22 => k_is); (case a23 => k_is); (case l23 => k_is); (case c23 => k_is); (case k23 => k_is); (case a24 => k_is); (case l24 => k_is); (case c24 => k_is); (case k24 => k_is); (case a25 => k_is); (case l25 => k_is); (case c25 => k_is); (case k25 => k_is); (case a26 => k_is); (case l26 => k_is); (case c26 => k_is); (case k26 => k_is); (case a27 => k_is); (case l27 => k_is); (case c27 => k_is); (case k27 => k_is); (case a28 => k_is); (case l28 => k_is); (case c28 => k_is); (case k28 => k_is); (case a29 => k_is); (case l29 => k_is); (case c29 => k_is); (case k29 => k_is); (case a30 => k_is); (case l30 => k_is); (case c30 => k_is); (case k30 => k_is); (case a31 => k_is); (case l31 => k_is); (case c31 => k_is); (case k31 => k_is); (case a32 => k_is); (case l32 => k_is); (case c32 => k_is); (case k32 => k_is); (case a33 => k_is); (case l33 => k_is); (case c33 => k_is); (case k33 => k_is); (case a34 => k_is); (case l34 => k_is); (case c34 => k_is); (case k34 => k_is); (case a35 => k_is); (case l35 => k_is); (case c35 => k_is); (case k35 => k_is); (case a36 => k_is); (case l36 => k_is); (case c36 => k_is); (case k36 => k_is); (case a37 => k_is); (case l37 => k_is); (case c37 => k_is); (case k37 => k_is); (case a38 => k_is); (case l38 => k_is); (case c38 => k_is); (case k38 => k_is); (case a39 => k_is); (case l39 => k_is); (case c39 => k_is); (case k39 => k_is); (case a40 => k_is); (case l40 => k_is); (case c40 => k_is); (case k40 => k_is); (case a41 => k_is); (case l41 => k_is); (case c41 => k_is); (case k41 => k_is); (case a42 => k_is); (case l42 => k_is); (case c42 => k_is); (case k42 => k_is); (case a43 => k_is); (case l43 => k_is); (case c43 => k_is); (case k43 => k_is); (case a44 => k_is); (case l44 => k_is); (case c44 => k_is); (case k44 => k_is); (case a45 => k_is); (case l45 => k_is); (case c45 => k_is); (case k45 => k_is); (case a46 => k_is); (case l46 => k_is); (case c46 => k_is); (case k46 => k_is); (case v_ROWS => k_is); (case v_COLUMNS => k_is); (case v_AREAS => k_is); (case u_AREAS => k_is); (case v_LOST => k_is); (case u_LOST => k_is); (case z_bool => k_is); (case z_int => k_is); (case z_isinstance => k_is); (case z_len => k_is); (case z_list => k_is); (case z_max => k_is); (case z_min => k_is); (case z_range => k_is); (case z_reversed => k_is); (case z_sorted => k_is); (case z_str => k_is); (case z_sum => k_is); (case z_tuple => k_is); (case ecS => exact rfl); (case hdS => kernel_rfl); (case hnS => kernel_rfl); (case heS => exact PySem.W.km_tabs_of Y _ (List.mem_cons.mpr (.inl (by kernel_rfl))))

