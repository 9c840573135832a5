import PyProof.Rows.All
import Wide.All
import OpenK.AllK
import Wide.FinOn
import HandS.ForMost
import HandS.Gcd
import Flt.RightSqrt
import KE.KMathG
import HandS.IsInst
import HandS.Wide
import HandS.WideBits
import HandS.StrMore
import HandS.FStr
import HandS.EndBits
import HandS.Codes
import HandS.Walk
import HandS.Strs
import PyProof.Rows.StrPadFill
import HandS.Exc
import HandS.ExcInit
import HandS.ExcField
import HandS.ExcOwn
import HandS.ExcValue
import HandS.ExcIs
import HandS.TryMany
import HandS.WordsExc
import HandS.ExcCtx
import HandS.HotCalls
import KE.KExcInit
import KE.KExcIs
import KE.KExcLine
import HandS.RaiseMore
import HandS.Iter
import HandS.ReplaceLit
import HandS.CallLocal
import HandS.More
import HandS.Dict
import PySem.Challenge.RW_sheetworks_k10_tokens_put_together
set_option Elab.async false
set_option linter.all false
set_option maxRecDepth 100000
set_option maxHeartbeats 8000000
namespace Mysheetworks_k10_tokens_put_together
open PySem PySem.Spec PyProof.Rows L2
def topS (i : Nat) : Stmt := PySem.Challenge.pw_sheetworks_k10_tokens_put_together.main.body.getD i (.Pass ⟨0, 0, 0, 0⟩)
def clsS (i j : Nat) : Stmt := match topS i with
  | .ClassDef _ _ _ b .. => b.getD j (.Pass ⟨0, 0, 0, 0⟩)
  | s => s
abbrev sFault_init : Stmt := clsS 2 0
abbrev NFault_init : List Str := ["self", "at"]
abbrev PFault_init : List Str := ["self", "at"]
theorem scFault_init : FnScope NFault_init PFault_init (defScope sFault_init) := ⟨rfl, rfl, rfl, by decide +kernel, rfl, by decide +kernel, by decide +kernel⟩
abbrev shalf_even : Stmt := topS 7
abbrev Nhalf_even : List Str := ["a", "b", "below", "rest"]
abbrev Phalf_even : List Str := ["a", "b"]
theorem schalf_even : FnScope Nhalf_even Phalf_even (defScope shalf_even) := ⟨rfl, rfl, rfl, by decide +kernel, rfl, by decide +kernel, by decide +kernel⟩
abbrev sfitting : Stmt := topS 8
abbrev Nfitting : List Str := ["m"]
abbrev Pfitting : List Str := ["m"]
theorem scfitting : FnScope Nfitting Pfitting (defScope sfitting) := ⟨rfl, rfl, rfl, by decide +kernel, rfl, by decide +kernel, by decide +kernel⟩
abbrev sread_amount : Stmt := topS 9
abbrev Nread_amount : List Str := ["text", "unsigned", "is_below", "ahead", "point", "behind", "exact", "size"]
abbrev Pread_amount : List Str := ["text"]
theorem scread_amount : FnScope Nread_amount Pread_amount (defScope sread_amount) := ⟨rfl, rfl, rfl, by decide +kernel, rfl, by decide +kernel, by decide +kernel⟩
abbrev sare_figures : Stmt := topS 10
abbrev Nare_figures : List Str := ["text", "most"]
abbrev Pare_figures : List Str := ["text", "most"]
theorem scare_figures : FnScope Nare_figures Pare_figures (defScope sare_figures) := ⟨rfl, rfl, rfl, by decide +kernel, rfl, by decide +kernel, by decide +kernel⟩
abbrev scapital : Stmt := topS 12
abbrev Ncapital : List Str := ["text", "sign"]
abbrev Pcapital : List Str := ["text"]
theorem sccapital : FnScope Ncapital Pcapital (defScope scapital) := ⟨rfl, rfl, rfl, by decide +kernel, rfl, by decide +kernel, by decide +kernel⟩
abbrev sis_figure : Stmt := topS 13
abbrev Nis_figure : List Str := ["sign"]
abbrev Pis_figure : List Str := ["sign"]
theorem scis_figure : FnScope Nis_figure Pis_figure (defScope sis_figure) := ⟨rfl, rfl, rfl, by decide +kernel, rfl, by decide +kernel, by decide +kernel⟩
abbrev sis_letter : Stmt := topS 14
abbrev Nis_letter : List Str := ["sign"]
abbrev Pis_letter : List Str := ["sign"]
theorem scis_letter : FnScope Nis_letter Pis_letter (defScope sis_letter) := ⟨rfl, rfl, rfl, by decide +kernel, rfl, by decide +kernel, by decide +kernel⟩
abbrev sblanks_end : Stmt := topS 22
abbrev Nblanks_end : List Str := ["text", "at", "end"]
abbrev Pblanks_end : List Str := ["text", "at"]
theorem scblanks_end : FnScope Nblanks_end Pblanks_end (defScope sblanks_end) := ⟨rfl, rfl, rfl, by decide +kernel, rfl, by decide +kernel, by decide +kernel⟩
abbrev sfigures_end : Stmt := topS 23
abbrev Nfigures_end : List Str := ["upper", "at", "end"]
abbrev Pfigures_end : List Str := ["upper", "at"]
theorem scfigures_end : FnScope Nfigures_end Pfigures_end (defScope sfigures_end) := ⟨rfl, rfl, rfl, by decide +kernel, rfl, by decide +kernel, by decide +kernel⟩
abbrev smark_end : Stmt := topS 24
abbrev Nmark_end : List Str := ["upper", "at"]
abbrev Pmark_end : List Str := ["upper", "at"]
theorem scmark_end : FnScope Nmark_end Pmark_end (defScope smark_end) := ⟨rfl, rfl, rfl, by decide +kernel, rfl, by decide +kernel, by decide +kernel⟩
abbrev srow_end : Stmt := topS 25
abbrev Nrow_end : List Str := ["upper", "at", "first", "end", "figures"]
abbrev Prow_end : List Str := ["upper", "at"]
theorem scrow_end : FnScope Nrow_end Prow_end (defScope srow_end) := ⟨rfl, rfl, rfl, by decide +kernel, rfl, by decide +kernel, by decide +kernel⟩
abbrev scolumn_end : Stmt := topS 26
abbrev Ncolumn_end : List Str := ["upper", "at", "first"]
abbrev Pcolumn_end : List Str := ["upper", "at"]
theorem sccolumn_end : FnScope Ncolumn_end Pcolumn_end (defScope scolumn_end) := ⟨rfl, rfl, rfl, by decide +kernel, rfl, by decide +kernel, by decide +kernel⟩
abbrev spair_end : Stmt := topS 27
abbrev Npair_end : List Str := ["part_end", "upper", "at", "middle"]
abbrev Ppair_end : List Str := ["part_end", "upper", "at"]
theorem scpair_end : FnScope Npair_end Ppair_end (defScope spair_end) := ⟨rfl, rfl, rfl, by decide +kernel, rfl, by decide +kernel, by decide +kernel⟩
abbrev smakes_word : Stmt := topS 28
abbrev Nmakes_word : List Str := ["sign"]
abbrev Pmakes_word : List Str := ["sign"]
theorem scmakes_word : FnScope Nmakes_word Pmakes_word (defScope smakes_word) := ⟨rfl, rfl, rfl, by decide +kernel, rfl, by decide +kernel, by decide +kernel⟩
abbrev serror_end : Stmt := topS 29
abbrev Nerror_end : List Str := ["upper", "at", "word", "error"]
abbrev Perror_end : List Str := ["upper", "at"]
theorem scerror_end : FnScope Nerror_end Perror_end (defScope serror_end) := ⟨rfl, rfl, rfl, by decide +kernel, rfl, by decide +kernel, by decide +kernel⟩
abbrev srows_end : Stmt := topS 30
abbrev Nrows_end : List Str := ["upper", "at"]
abbrev Prows_end : List Str := ["upper", "at"]
theorem scrows_end : FnScope Nrows_end Prows_end (defScope srows_end) := ⟨rfl, rfl, rfl, by decide +kernel, rfl, by decide +kernel, by decide +kernel⟩
abbrev snumber_end : Stmt := topS 31
abbrev Nnumber_end : List Str := ["upper", "at", "end"]
abbrev Pnumber_end : List Str := ["upper", "at"]
theorem scnumber_end : FnScope Nnumber_end Pnumber_end (defScope snumber_end) := ⟨rfl, rfl, rfl, by decide +kernel, rfl, by decide +kernel, by decide +kernel⟩
abbrev scell_end : Stmt := topS 32
abbrev Ncell_end : List Str := ["upper", "at", "letter_end", "end"]
abbrev Pcell_end : List Str := ["upper", "at"]
theorem sccell_end : FnScope Ncell_end Pcell_end (defScope scell_end) := ⟨rfl, rfl, rfl, by decide +kernel, rfl, by decide +kernel, by decide +kernel⟩
abbrev scolumns_end : Stmt := topS 33
abbrev Ncolumns_end : List Str := ["upper", "at", "end"]
abbrev Pcolumns_end : List Str := ["upper", "at"]
theorem sccolumns_end : FnScope Ncolumns_end Pcolumns_end (defScope scolumns_end) := ⟨rfl, rfl, rfl, by decide +kernel, rfl, by decide +kernel, by decide +kernel⟩
abbrev sgoes_on_word : Stmt := topS 34
abbrev Ngoes_on_word : List Str := ["sign"]
abbrev Pgoes_on_word : List Str := ["sign"]
theorem scgoes_on_word : FnScope Ngoes_on_word Pgoes_on_word (defScope sgoes_on_word) := ⟨rfl, rfl, rfl, by decide +kernel, rfl, by decide +kernel, by decide +kernel⟩
abbrev sword_end : Stmt := topS 35
abbrev Nword_end : List Str := ["upper", "at", "end"]
abbrev Pword_end : List Str := ["upper", "at"]
theorem scword_end : FnScope Nword_end Pword_end (defScope sword_end) := ⟨rfl, rfl, rfl, by decide +kernel, rfl, by decide +kernel, by decide +kernel⟩
abbrev ssign_end : Stmt := topS 36
abbrev Nsign_end : List Str := ["upper", "at", "sign"]
abbrev Psign_end : List Str := ["upper", "at"]
theorem scsign_end : FnScope Nsign_end Psign_end (defScope ssign_end) := ⟨rfl, rfl, rfl, by decide +kernel, rfl, by decide +kernel, by decide +kernel⟩
abbrev stext_token : Stmt := topS 38
abbrev Ntext_token : List Str := ["text", "at", "close", "what"]
abbrev Ptext_token : List Str := ["text", "at"]
theorem sctext_token : FnScope Ntext_token Ptext_token (defScope stext_token) := ⟨rfl, rfl, rfl, by decide +kernel, rfl, by decide +kernel, by decide +kernel⟩
abbrev sis_at_fault : Stmt := topS 39
abbrev Nis_at_fault : List Str := ["kind", "what"]
abbrev Pis_at_fault : List Str := ["kind", "what"]
theorem scis_at_fault : FnScope Nis_at_fault Pis_at_fault (defScope sis_at_fault) := ⟨rfl, rfl, rfl, by decide +kernel, rfl, by decide +kernel, by decide +kernel⟩
abbrev stoken_at : Stmt := topS 40
abbrev Ntoken_at : List Str := ["text", "upper", "at", "kind", "kind_end", "end", "what"]
abbrev Ptoken_at : List Str := ["text", "upper", "at"]
theorem sctoken_at : FnScope Ntoken_at Ptoken_at (defScope stoken_at) := ⟨rfl, rfl, rfl, by decide +kernel, rfl, by decide +kernel, by decide +kernel⟩
abbrev stokens : Stmt := topS 41
abbrev Ntokens : List Str := ["text", "upper", "found", "at", "token"]
abbrev Ptokens : List Str := ["text"]
theorem sctokens : FnScope Ntokens Ptokens (defScope stokens) := ⟨rfl, rfl, rfl, by decide +kernel, rfl, by decide +kernel, by decide +kernel⟩
abbrev s_law_mixed : Stmt := topS 43
abbrev N_law_mixed : List Str := ["number", "turn", "many", "prime", "once", "twice"]
abbrev P_law_mixed : List Str := ["number", "turn", "many"]
theorem sc_law_mixed : FnScope N_law_mixed P_law_mixed (defScope s_law_mixed) := ⟨rfl, rfl, rfl, by decide +kernel, rfl, by decide +kernel, by decide +kernel⟩
abbrev s_law_pool : Stmt := topS 44
abbrev N_law_pool : List Str := ["script", "seed", "cell", "cells"]
abbrev P_law_pool : List Str := ["script"]
theorem sc_law_pool : FnScope N_law_pool P_law_pool (defScope s_law_pool) := ⟨rfl, rfl, rfl, by decide +kernel, rfl, by decide +kernel, by decide +kernel⟩
abbrev s_law_take : Stmt := topS 45
abbrev N_law_take : List Str := ["pool", "many", "drawn"]
abbrev P_law_take : List Str := ["pool", "many"]
theorem sc_law_take : FnScope N_law_take P_law_take (defScope s_law_take) := ⟨rfl, rfl, rfl, by decide +kernel, rfl, by decide +kernel, by decide +kernel⟩
abbrev s_law_signs : Stmt := topS 46
abbrev N_law_signs : List Str := ["signs"]
abbrev P_law_signs : List Str := []
theorem sc_law_signs : FnScope N_law_signs P_law_signs (defScope s_law_signs) := ⟨rfl, rfl, rfl, by decide +kernel, rfl, by decide +kernel, by decide +kernel⟩
abbrev s_law_letters : Stmt := topS 47
abbrev N_law_letters : List Str := []
abbrev P_law_letters : List Str := []
theorem sc_law_letters : FnScope N_law_letters P_law_letters (defScope s_law_letters) := ⟨rfl, rfl, rfl, by decide +kernel, rfl, by decide +kernel, by decide +kernel⟩
abbrev s_law_stands : Stmt := topS 48
abbrev N_law_stands : List Str := ["text", "at", "signs"]
abbrev P_law_stands : List Str := ["text", "at", "signs"]
theorem sc_law_stands : FnScope N_law_stands P_law_stands (defScope s_law_stands) := ⟨rfl, rfl, rfl, by decide +kernel, rfl, by decide +kernel, by decide +kernel⟩
abbrev s_law_run : Stmt := topS 49
abbrev N_law_run : List Str := ["text", "at", "signs", "k"]
abbrev P_law_run : List Str := ["text", "at", "signs"]
theorem sc_law_run : FnScope N_law_run P_law_run (defScope s_law_run) := ⟨rfl, rfl, rfl, by decide +kernel, rfl, by decide +kernel, by decide +kernel⟩
abbrev s_law_dollar : Stmt := topS 50
abbrev N_law_dollar : List Str := ["text", "at"]
abbrev P_law_dollar : List Str := ["text", "at"]
theorem sc_law_dollar : FnScope N_law_dollar P_law_dollar (defScope s_law_dollar) := ⟨rfl, rfl, rfl, by decide +kernel, rfl, by decide +kernel, by decide +kernel⟩
abbrev s_law_row : Stmt := topS 51
abbrev N_law_row : List Str := ["text", "at", "end"]
abbrev P_law_row : List Str := ["text", "at"]
theorem sc_law_row : FnScope N_law_row P_law_row (defScope s_law_row) := ⟨rfl, rfl, rfl, by decide +kernel, rfl, by decide +kernel, by decide +kernel⟩
abbrev s_law_rows : Stmt := topS 52
abbrev N_law_rows : List Str := ["text", "at", "middle"]
abbrev P_law_rows : List Str := ["text", "at"]
theorem sc_law_rows : FnScope N_law_rows P_law_rows (defScope s_law_rows) := ⟨rfl, rfl, rfl, by decide +kernel, rfl, by decide +kernel, by decide +kernel⟩
abbrev s_law_cell : Stmt := topS 53
abbrev N_law_cell : List Str := ["text", "at", "letter", "end"]
abbrev P_law_cell : List Str := ["text", "at"]
theorem sc_law_cell : FnScope N_law_cell P_law_cell (defScope s_law_cell) := ⟨rfl, rfl, rfl, by decide +kernel, rfl, by decide +kernel, by decide +kernel⟩
abbrev s_law_columns : Stmt := topS 54
abbrev N_law_columns : List Str := ["text", "at", "letter"]
abbrev P_law_columns : List Str := ["text", "at"]
theorem sc_law_columns : FnScope N_law_columns P_law_columns (defScope s_law_columns) := ⟨rfl, rfl, rfl, by decide +kernel, rfl, by decide +kernel, by decide +kernel⟩
abbrev s_law_number : Stmt := topS 55
abbrev N_law_number : List Str := ["text", "at", "end"]
abbrev P_law_number : List Str := ["text", "at"]
theorem sc_law_number : FnScope N_law_number P_law_number (defScope s_law_number) := ⟨rfl, rfl, rfl, by decide +kernel, rfl, by decide +kernel, by decide +kernel⟩
abbrev s_law_is_amount : Stmt := topS 56
abbrev N_law_is_amount : List Str := ["figures", "whole", "point", "beyond"]
abbrev P_law_is_amount : List Str := ["figures"]
theorem sc_law_is_amount : FnScope N_law_is_amount P_law_is_amount (defScope s_law_is_amount) := ⟨rfl, rfl, rfl, by decide +kernel, rfl, by decide +kernel, by decide +kernel⟩
abbrev s_law_error : Stmt := topS 57
abbrev N_law_error : List Str := ["text", "at", "word"]
abbrev P_law_error : List Str := ["text", "at"]
theorem sc_law_error : FnScope N_law_error P_law_error (defScope s_law_error) := ⟨rfl, rfl, rfl, by decide +kernel, rfl, by decide +kernel, by decide +kernel⟩
abbrev s_law_word : Stmt := topS 58
abbrev N_law_word : List Str := ["text", "at"]
abbrev P_law_word : List Str := ["text", "at"]
theorem sc_law_word : FnScope N_law_word P_law_word (defScope s_law_word) := ⟨rfl, rfl, rfl, by decide +kernel, rfl, by decide +kernel, by decide +kernel⟩
abbrev s_law_sign : Stmt := topS 59
abbrev N_law_sign : List Str := ["text", "at"]
abbrev P_law_sign : List Str := ["text", "at"]
theorem sc_law_sign : FnScope N_law_sign P_law_sign (defScope s_law_sign) := ⟨rfl, rfl, rfl, by decide +kernel, rfl, by decide +kernel, by decide +kernel⟩
abbrev s_law_quoted : Stmt := topS 60
abbrev N_law_quoted : List Str := ["text", "at", "said", "place", "k"]
abbrev P_law_quoted : List Str := ["text", "at"]
theorem sc_law_quoted : FnScope N_law_quoted P_law_quoted (defScope s_law_quoted) := ⟨rfl, rfl, rfl, by decide +kernel, rfl, by decide +kernel, by decide +kernel⟩
abbrev s_law_token : Stmt := topS 61
abbrev N_law_token : List Str := ["text", "at", "ends", "kind", "end"]
abbrev P_law_token : List Str := ["text", "at"]
theorem sc_law_token : FnScope N_law_token P_law_token (defScope s_law_token) := ⟨rfl, rfl, rfl, by decide +kernel, rfl, by decide +kernel, by decide +kernel⟩
abbrev s_law_formed : Stmt := topS 62
abbrev N_law_formed : List Str := ["pool", "form", "piece", "sign"]
abbrev P_law_formed : List Str := ["pool", "form"]
theorem sc_law_formed : FnScope N_law_formed P_law_formed (defScope s_law_formed) := ⟨rfl, rfl, rfl, by decide +kernel, rfl, by decide +kernel, by decide +kernel⟩
abbrev s_law_text_piece : Stmt := topS 63
abbrev N_law_text_piece : List Str := ["pool", "size", "piece", "k", "sign"]
abbrev P_law_text_piece : List Str := ["pool"]
theorem sc_law_text_piece : FnScope N_law_text_piece P_law_text_piece (defScope s_law_text_piece) := ⟨rfl, rfl, rfl, by decide +kernel, rfl, by decide +kernel, by decide +kernel⟩
abbrev s_law_piece : Stmt := topS 64
abbrev N_law_piece : List Str := ["pool", "kind", "form", "words", "signs"]
abbrev P_law_piece : List Str := ["pool"]
theorem sc_law_piece : FnScope N_law_piece P_law_piece (defScope s_law_piece) := ⟨rfl, rfl, rfl, by decide +kernel, rfl, by decide +kernel, by decide +kernel⟩
abbrev s_law_is_integer : Stmt := topS 65
abbrev N_law_is_integer : List Str := ["actual"]
abbrev P_law_is_integer : List Str := ["actual"]
theorem sc_law_is_integer : FnScope N_law_is_integer P_law_is_integer (defScope s_law_is_integer) := ⟨rfl, rfl, rfl, by decide +kernel, rfl, by decide +kernel, by decide +kernel⟩
abbrev s_law_due : Stmt := topS 66
abbrev N_law_due : List Str := ["text", "due", "at", "k", "token"]
abbrev P_law_due : List Str := ["text"]
theorem sc_law_due : FnScope N_law_due P_law_due (defScope s_law_due) := ⟨rfl, rfl, rfl, by decide +kernel, rfl, by decide +kernel, by decide +kernel⟩
abbrev s_law_same : Stmt := topS 67
abbrev N_law_same : List Str := ["actual", "due", "k", "token"]
abbrev P_law_same : List Str := ["actual", "due"]
theorem sc_law_same : FnScope N_law_same P_law_same (defScope s_law_same) := ⟨rfl, rfl, rfl, by decide +kernel, rfl, by decide +kernel, by decide +kernel⟩
abbrev slaw : Stmt := topS 68
abbrev Nlaw : List Str := ["script", "pool", "many", "text", "k", "due", "fault", "named", "actual", "e"]
abbrev Plaw : List Str := ["script"]
theorem sclaw : FnScope Nlaw Plaw (defScope slaw) := ⟨rfl, rfl, rfl, by decide +kernel, rfl, by decide +kernel, by decide +kernel⟩

/-! ### own rules -/
theorem pe_powc {X : Cx} {a b c : Int} {j k : Nat} {p q pos : Pos} (hb : 0 ≤ b ∧ b ≤ 1000000 ∧ a.natAbs < 2 ^ 64) (h : a ^ b.toNat = c) : PE X (.BinOp (.Constant (.int a) j p) .Pow (.Constant (.int b) k q) pos) (tC (.int c)) :=
  ⟨fun pins s σ H Q I hq => (pe_op op_pow pe_int pe_int).run pins s σ H Q I ⟨a, b, rfl, rfl, hb, by
    show Q (.int (a ^ b.toNat)) H
    rw [h]
    exact hq⟩⟩
/-- isinstance of a flat value: told by its kind -/
def isiV : V → String → Option Bool
  | .int _, "int" => some true | .bl _, "int" => some true | .str _, "int" => some false | .non, "int" => some false
  | .int _, "bool" => some false | .bl _, "bool" => some true | .str _, "bool" => some false | .non, "bool" => some false
  | .int _, "str" => some false | .bl _, "str" => some false | .str _, "str" => some true | .non, "str" => some false
  | .int _, "tuple" => some false | .bl _, "tuple" => some false | .str _, "tuple" => some false | .non, "tuple" => some false
  | _, _ => none
theorem call_isiV {X : Cx} : CallR X (.builtin "isinstance") (fun xs H Q => ∃ x n b, xs = [x, .ty n] ∧ isiV x n = some b ∧ Q (.bl b) H) := by
  intro pins s σ H xs us Q I r h
  obtain ⟨x, n, b, rfl, e, q⟩ := h
  refine call_isi pins s σ H _ us Q I r ?_
  unfold isiV at e
  split at e
  case h_17 => cases e
  all_goals (cases e)
  all_goals first
    | exact ⟨_, _, .type "int", _, _, rfl, .ty _, .base (.int _), kit_ty (by decide +kernel), q⟩
    | exact ⟨_, _, .type "bool", _, _, rfl, .ty _, .base (.bl _), kit_ty (by decide +kernel), q⟩
    | exact ⟨_, _, .type "str", _, _, rfl, .ty _, .base (.str _), kit_ty (by decide +kernel), q⟩
    | exact ⟨_, _, .type "NoneType", _, _, rfl, .ty _, .base .non, kit_ty (by decide +kernel), q⟩
/-- how a call by keywords alone binds -/
structure KB0 (K : PySem.W.Frag) (fd : FuncData) (ps ks : List Str) (g : List Value → List Value) (gV : List V → List V) : Prop where
  to : ∀ (s : Shared) (ws : List Value), ws.length = ks.length → BindsTo s fd ⟨[], ks.zip ws⟩ (ps.zip (g ws))
  rel : ∀ {zs : List V} {ws : List Value}, Vals zs ws → Vals (gV zs) (g ws)
def tCallK0 (n : Nat) (sp : Sp) (gV : List V → List V) (E : XK) (tk : TA) : TE := fun σ H Q => tk σ H fun zs H2 => zs.length = n ∧ sp (gV zs) H2 Q E
theorem pe_callK0 {X : Cx} {CX : CXT} {k : Nat} {f : Addr} {fd : FuncData} {ps ks : List Str} {sp : Sp} {E : XK} {x : Str} {p pos : Pos} {kws : List Keyword} {tk : TA} {g : List Value → List Value} {gV : List V → List V}
    (F : FnOk X.prog X.w X.K X.mg X.base CX k f fd ps sp) (hr : Room k X.A) (hg : Gl X x) (hm : X.mg x = some (.ref f)) (hk : PySem.W.keepIn X.K (.ref f) = true) (hb : KB0 X.K fd ps ks g gV) (hx : Passes CX X E)
    (hkw : PK X kws tk) (hall : (backToKw pos (keywordEach kws X.env)).all (·.1.isSome) = true := by rfl) (hks : (backToKw pos (keywordEach kws X.env)).filterMap (·.1) = ks := by rfl)
    (hdb : (x == ("__debug__" : Str)) = false := by decide)
    (hpl : ((backTo pos (starEach [] X.env)).any (·.1) || (backToKw pos (keywordEach kws X.env)).any (·.1.isNone)) = false := by rfl) :
    PE X (.Call (.Name x p) [] kws pos) (tCallK0 ks.length sp gV E tk) := by
  refine ⟨fun pins s σ H Q I h => ?_⟩
  refine wpAny_Call_Name_kw (ld_glob I hg hm ?_ hdb)
  refine PySem.W.callWith_KW0 (h₀ := X.base) I.ok.mod.kin hk hall (thn (hkw.run pos pins s σ H _ I h) fun ws s2 ⟨zs, H2, I2, rz, l2, q2⟩ => ⟨I2.kIn, ?_⟩) hpl
  rw [hks]
  have r2 := hb.rel rz
  refine wpAny_call (codeAny_mono (F.run X.A X.stack s2 H2 ⟨[], ks.zip ws⟩ (g ws) (gV zs) Q E hr I2.env0 (hb.to s2 ws (rz.length.symm.trans l2)) r2 q2) fun r s' hq => ?_)
  cases r with
  | error e => exact hx pins σ H2 s2 e s' I2 hq
  | ok fl =>
    cases fl with
    | ret u => exact I2.after hq
    | next => exact False.elim hq
    | brk => exact False.elim hq
    | cont => exact False.elim hq
theorem atI_mem {xs : List V} {i : Int} (h0 : 0 ≤ i) (h1 : i < (xs.length : Int)) : ∃ v, v ∈ xs ∧ atI xs i = some v := by
  obtain ⟨n, rfl⟩ := Int.eq_ofNat_of_zero_le h0
  have h2 : n < xs.length := by omega
  exact ⟨xs[n], List.getElem_mem h2, atI_nat (List.getElem?_eq_getElem h2)⟩
/-- rules with conditions that are linear -/
theorem opr_imp {X : Cx} {f : Value → Value → Sem Value} {C C' : Int → Int → Prop} {g : Int → Int → V} (h : OpR X f (rI C g)) (k : ∀ i j, C' i j → C i j) : OpR X f (rI C' g) := fun pins s σ H x y v u Q I rx ry hq => by
  obtain ⟨i, j, ex, ey, hc, q⟩ := hq
  exact h pins s σ H x y v u Q I rx ry ⟨i, j, ex, ey, k i j hc, q⟩
def CB (_ j : Int) : Prop := 0 < j ∧ j < 1267650600228229401496703205376
def CMB (i j : Int) : Prop := (-1000000000000000000000000000000000000000000000000000000000000 < i ∧ i < 1000000000000000000000000000000000000000000000000000000000000) ∧ (-1000000000000000000000000000000000000000000000000000000000000 < j ∧ j < 1000000000000000000000000000000000000000000000000000000000000)
theorem abs200 {i : Int} (h : -1000000000000000000000000000000000000000000000000000000000000 < i ∧ i < 1000000000000000000000000000000000000000000000000000000000000) : i.natAbs < 2 ^ 200 := by
  have e : (2 : Nat) ^ 200 = 1606938044258990275541962092341162602522202993782792835301376 := by decide
  rw [e]
  omega
theorem abs100 {i : Int} (h : 0 < i ∧ i < 1267650600228229401496703205376) : i.natAbs < 2 ^ 100 := by
  have e : (2 : Nat) ^ 100 = 1267650600228229401496703205376 := by decide
  rw [e]
  omega
theorem op_mulB {X : Cx} : OpR X (binaryOp .Mult) (rI CMB fun i j => .int (i * j)) := opr_imp op_mulW fun i j h => wide_mul (abs200 h.1) (abs200 h.2) (by decide) (by decide) (by decide)
theorem op_fdivB {X : Cx} : OpR X (binaryOp .FloorDiv) (rI CB fun i j => .int (i / j)) := opr_imp op_fdivW fun i j h => wide_div h.1 (abs100 h) (by decide) (by decide)
theorem ediv_up {i j : Int} (h : 0 < j) (h0 : 0 ≤ i) : 0 ≤ i / j ∧ i / j ≤ i := ⟨Int.ediv_nonneg h0 (Int.le_of_lt h), Int.ediv_le_self j h0⟩
theorem ediv_dn {i j : Int} (h : 0 < j) (h0 : i < 0) : i ≤ i / j ∧ i / j < 0 := by
  refine ⟨?_, Int.ediv_neg_of_neg_of_pos h0 h⟩
  rw [Int.le_ediv_iff_mul_le h]
  have a : i * (j - 1) ≤ 0 := Int.mul_nonpos_of_nonpos_of_nonneg (Int.le_of_lt h0) (by omega)
  rw [Int.mul_sub, Int.mul_one] at a
  omega
/-- the quotient as a letter, with its bounds -/
theorem op_fdivL {X : Cx} : OpR X (binaryOp .FloorDiv) (fun x y H Q => ∃ i j, x = .int i ∧ y = .int j ∧ CB i j ∧ ∀ d, d = i / j → (0 ≤ i → 0 ≤ d ∧ d ≤ i) → (i < 0 → i ≤ d ∧ d < 0) → Q (.int d) H) := fun pins s σ H x y v u Q I rx ry hq => by
  obtain ⟨i, j, ex, ey, hc, q⟩ := hq
  exact op_fdivB pins s σ H x y v u Q I rx ry ⟨i, j, ex, ey, hc, q _ rfl (ediv_up hc.1) (ediv_dn hc.1)⟩
theorem call_divmodB {X : Cx} : CallR X (.builtin "divmod") (fun xs H Q => ∃ i j, xs = [.int i, .int j] ∧ CB i j ∧ ∀ p, H p = none → Q (.ref p) (upd H p (.tup [.int (i / j), .int (i % j)]))) := fun pins s σ H xs us Q I r hq => by
  obtain ⟨i, j, ex, hc, q⟩ := hq
  have w := wide_div (i := i) hc.1 (abs100 hc) (by decide) (by decide)
  exact call_divmodW pins s σ H xs us Q I r ⟨i, j, ex, ⟨hc.1, PyProof.noPylong_of_log2 w.2⟩, q⟩
theorem iteEqI {i j : Int} {A B : Prop} (h1 : i = j → A) (h2 : ¬ i = j → B) : if decide (V.int i = V.int j) = true then A else B := by
  by_cases h : i = j
  · rw [if_pos (decide_eq_true (congrArg V.int h))]
    exact h1 h
  · rw [if_neg (fun z => h (V.int.inj (of_decide_eq_true z)))]
    exact h2 h
theorem iteNeI {i j : Int} {A B : Prop} (h1 : ¬ i = j → A) (h2 : i = j → B) : if (!decide (V.int i = V.int j)) = true then A else B := by
  by_cases h : i = j
  · rw [decide_eq_true (congrArg V.int h)]
    exact iteF (h2 h)
  · rw [decide_eq_false (fun z => h (V.int.inj z))]
    exact iteT (h1 h)
theorem iteSS {x : Str} {A B : Prop} (h : A) : if decide (V.str x = V.str x) = true then A else B := by
  rw [if_pos (decide_eq_true rfl)]
  exact h
theorem iteIS {i : Int} {x : Str} {A B : Prop} (h : B) : if decide (V.int i = V.str x) = true then A else B := by
  rw [if_neg (fun z => V.noConfusion (of_decide_eq_true z))]
  exact h
theorem iteD {c A B : Prop} [Decidable c] (h1 : c → A) (h2 : ¬ c → B) : if decide c = true then A else B := by
  by_cases h : c
  · rw [if_pos (decide_eq_true h)]
    exact h1 h
  · rw [if_neg (fun z => h (of_decide_eq_true z))]
    exact h2 h
theorem same_upd {H : Hp} {p : Addr} {o : HO} (h : H p = none) : Same H (upd H p o) := fun b x e => by
  rw [upd_ne (ne_of_none e h)]
  exact e
theorem ix_listK {X : Cx} {K : PySem.W.Frag} (e : X.K = K) : IxR X (rIxL K) := e ▸ ix_list
theorem ix_tupK {X : Cx} {K : PySem.W.Frag} (e : X.K = K) : IxR X (rIxT K) := e ▸ ix_tup
theorem ix_seqK {X : Cx} {K : PySem.W.Frag} (e : X.K = K) : IxR X (rIx K) := e ▸ ix_seq
theorem call_len_seqK {X : Cx} {K : PySem.W.Frag} (e : X.K = K) : CallR X (.builtin "len") (fun xs H Q => ∃ p ys, xs = [.ref p] ∧ (SqL K H p ys ∨ SqT K H p ys) ∧ Q (.int ys.length) H) := e ▸ call_len_seq
/-- an item of a list, whichever -/
theorem atI_go {K : PySem.W.Frag} {p : Addr} {xs : List V} {i : Int} {H : Hp} {Q : VK} (h : SqL K H p xs) (h0 : 0 ≤ i) (h1 : i < (xs.length : Int)) (q : ∀ v, v ∈ xs → Q v H) : rIxL K (.ref p) (.int i) H Q := by
  obtain ⟨v, hv, e⟩ := atI_mem h0 h1
  exact ⟨_, _, _, v, rfl, rfl, h, e, q v hv⟩

/-- the product as a letter, with its bounds -/
theorem op_mulL {X : Cx} : OpR X (binaryOp .Mult) (fun x y H Q => ∃ i j, x = .int i ∧ y = .int j ∧ CMul i j ∧ ∀ d, d = i * j → (0 ≤ i → 0 ≤ j → 0 ≤ d) → (0 ≤ i → i ≤ 100000000000000 → 0 ≤ j → j ≤ 100000000000000 → d ≤ 10000000000000000000000000000) → Q (.int d) H) := fun pins s σ H x y v u Q I rx ry hq => by
  obtain ⟨i, j, ex, ey, hc, q⟩ := hq
  exact op_mul pins s σ H x y v u Q I rx ry ⟨i, j, ex, ey, hc, q _ rfl (fun a b => Int.mul_nonneg a b) (fun a b c d => Int.le_trans (Int.mul_le_mul b d c (by decide)) (by decide))⟩

abbrev exB : List Value := [.type "Exception", .type "BaseException", .type "object"]
/-- what the written part says of an own exception class over Exception whose __init__ is a def -/
structure OxE (K : PySem.W.Frag) (C : Addr) : Prop where
  ini : PySem.W.excInitIn K C exB "Exception.__new__" = true
  ov : PySem.W.excOver K C exB = true
  hd : PySem.W.hasDictIn K C = true
  sa : PySem.W.findIn K (.ref C) "__setattr__" = some (some (.builtin "object.__setattr__"))
  ga : PySem.W.findIn K (.ref C) "__getattribute__" = some (some (.builtin "BaseException.__getattribute__"))
  gg : PySem.W.findIn K (.ref C) "__getattr__" = some none
  exC : PySem.W.subIn K (.ref C) (.type "BaseException") = some true
  tyC : PySem.W.typeIn K (.ref C) = some (.type "type")
  kC : PySem.W.keepIn K (.ref C) = true
  ca : PySem.W.findIn K (.ref C) "__class__" = some (some (.builtin "object.__class__"))
  cn : PySem.W.specialIn K (.builtin "object.__class__") "__get__" = some (some (.builtin "getset_descriptor.__get__"))
  ct : PySem.W.takesIn K (.builtin "object.__class__") = some true
  cm : PySem.W.mroIn K C (.type "object") = some true
theorem OxE.cls {K : PySem.W.Frag} {C : Addr} (T : OxE K C) : ∃ cd, PySem.W.clsIn K C = some cd ∧ cd.hasDict = true := PySem.W.any_some T.hd
theorem OxE.xf {K : PySem.W.Frag} {C : Addr} (T : OxE K C) : XfC K C := ⟨T.ga, T.gg, T.exC, T.hd⟩
section
variable {X : Cx} {pins : List (Addr × Obj)} {σ : L2.St} {H : Hp} {s : Shared} {a C dx : Addr} {f : Str} {y : V} {u : Value} {fs : List (Str × V)} {Q : Unit → Shared → Prop} {E : Value → Shared → Prop} {A : Around}
/-- the first field -/
theorem est_new (T : OxE X.K C) (ht : PySem.W.takerIn X.K C f = some none) (I : Inv X pins σ H s) (e : H a = some (exo a C none)) (ry : RelV y u)
    (h : ∀ dx s', H dx = none → dx ≠ a → Inv X pins σ (upd (upd H dx (exd dx [(f, y)])) a (exo a C (some dx))) s' → Q () s') : wpAny (model X.prog X.w) A (setAttr (.ref a) f u) Q E s := by
  obtain ⟨cd, hcd, hdict⟩ := T.cls
  obtain ⟨t1, ho⟩ := exo_at I.hok e
  obtain ⟨hp, g, d, t, os⟩ := s
  have J0 : PySem.W.InstAt hp a { cls := .ref C, dict := none, data := .fields #[.ref t1, .none, .none, .none, .bool false, .none] } C none := ⟨ho, rfl, rfl, trivial⟩
  refine PySem.W.set_plain I.kIn J0 T.sa ?_
  refine PySem.W.osa_openX PySem.F.store_Exception I.kIn J0 T.ov ht fun b => ?_
  have hcls : PySem.W.Looks (model X.prog X.w) hp (classData C) cd := PySem.W.looks_clsIn I.kIn hcd
  show wpAny _ _ (Builtin.ObjectAttr.storeInOwnDict (.ref a) (.ref C) (.str f t) f u b) _ _ _
  have hah : a ≠ hp.objs.size := Nat.ne_of_lt (Heap.lt_size ho)
  obtain ⟨nm, bs, mro, ns, qn, hd, sn, sb, ab, col, del⟩ := cd
  dsimp only at hdict
  subst hdict
  unfold Builtin.ObjectAttr.storeInOwnDict Builtin.ObjectAttr.ownDictForStores
  repeat (first | with_reducible refine PySem.HandSPX.store_in_new ?_ ?_ | with_reducible refine wpAny_loadPart_at ho ?_ | with_reducible refine hcls.at ?_ | wp_step)
  · exact ⟨_, #[], _, (Heap.get?_update_ne _ _ _ _ hah.symm).trans (Heap.get?_push_at rfl rfl), rfl, fun e he => absurd he (by simp), fun _ => rfl⟩
  · intro h' tk' hn hs
    have hnd : H hp.objs.size = none := I.hok.fresh (Nat.le_refl _)
    have hx1 : h'.get? a = some ({ cls := .ref C, dict := some hp.objs.size, data := .fields #[.ref t1, .none, .none, .none, .bool false, .none] } : Obj) :=
      (hs.2 a hah).trans (Heap.get?_update_self _ (Heap.get?_push_of_some _ ho) rfl)
    have k : ∀ b o, b ≠ a → hp.get? b = some o → h'.get? b = some o := fun b o hb q =>
      (hs.2 b (Nat.ne_of_lt (Heap.lt_size q))).trans ((Heap.get?_update_ne _ _ _ _ hb).trans (Heap.get?_push_of_some _ q))
    have na : hp.objs.size ≠ a := hah.symm
    -- first the dict, the exception as it was; then the exception
    have g0 : (h'.update a fun _ => ({ cls := .ref C, dict := none, data := .fields #[.ref t1, .none, .none, .none, .bool false, .none] } : Obj)).get? a = some ({ cls := .ref C, dict := none, data := .fields #[.ref t1, .none, .none, .none, .bool false, .none] } : Obj) := Heap.get?_update_self _ hx1 rfl
    have g1 : ∀ b, b ≠ a → (h'.update a fun _ => ({ cls := .ref C, dict := none, data := .fields #[.ref t1, .none, .none, .none, .bool false, .none] } : Obj)).get? b = h'.get? b := fun b hb => Heap.get?_update_ne _ _ _ _ hb
    generalize (h'.update a fun _ => ({ cls := .ref C, dict := none, data := .fields #[.ref t1, .none, .none, .none, .bool false, .none] } : Obj)) = h1 at g0 g1
    have I1 := I.laid (t' := tk') (a := hp.objs.size) (o := exd hp.objs.size [(f, y)]) (h' := h1) (fun b o q => by
      by_cases hb : b = a
      · subst hb
        rw [g0]
        exact ho.symm.trans q
      · rw [g1 b hb]
        exact k b o hb q) (Nat.le_refl _) (exd_ok (hn.at fun o q => (g1 _ na).trans q) (relO_put (fs := []) ry fun g => True.intro))
    have I2 := I1.write (t' := tk') (x := a) (e := a) (o := exo a C (some hp.objs.size)) (h' := h') (by rw [upd_ne na.symm, e]; exact True.intro) (.inl rfl) (fun b o hb q => (g1 b hb).symm.trans q) ⟨_, hx1⟩ (exo_ok hx1)
    exact h _ _ hnd na I2
/-- a further field -/
theorem est_old (T : OxE X.K C) (ht : PySem.W.takerIn X.K C f = some none) (I : Inv X pins σ H s) (e : H a = some (exo a C (some dx))) (ed : H dx = some (exd dx fs)) (hl : fs.length ≤ 900) (ry : RelV y u)
    (h : ∀ s', Inv X pins σ (upd H dx (exd dx ((f, y) :: fs))) s' → Q () s') : wpAny (model X.prog X.w) A (setAttr (.ref a) f u) Q E s := by
  obtain ⟨cd, hcd, hdict⟩ := T.cls
  obtain ⟨t1, ho⟩ := exo_at I.hok e
  obtain ⟨mA, hns, rel⟩ := exd_at I.hok ed
  have hw := within_of rel
  obtain ⟨hp, g, d, t, os⟩ := s
  obtain ⟨oD, _, _, hoD, _, _⟩ := hns.count hw
  have J0 : PySem.W.InstAt hp a { cls := .ref C, dict := some dx, data := .fields #[.ref t1, .none, .none, .none, .bool false, .none] } C (some oD) := ⟨ho, rfl, rfl, hoD⟩
  refine PySem.W.set_plain I.kIn J0 T.sa ?_
  refine PySem.W.osa_openX PySem.F.store_Exception I.kIn J0 T.ov ht fun b => ?_
  have hcls : PySem.W.Looks (model X.prog X.w) hp (classData C) cd := PySem.W.looks_clsIn I.kIn hcd
  show wpAny _ _ (Builtin.ObjectAttr.storeInOwnDict (.ref a) (.ref C) (.str f t) f u b) _ _ _
  obtain ⟨nm, bs, mro, ns, qn, hd, sn, sb, ab, col, del⟩ := cd
  dsimp only at hdict
  subst hdict
  unfold Builtin.ObjectAttr.storeInOwnDict Builtin.ObjectAttr.ownDictForStores
  repeat (first | with_reducible refine PySem.OEX.store_in_old hns hw (by rw [List.length_map]; omega) ?_ | with_reducible refine wpAny_loadPart_at ho ?_ | with_reducible refine hcls.at ?_ | wp_step)
  intro h' tk' hn hs
  have k : ∀ b o, b ≠ dx → hp.get? b = some o → h'.get? b = some o := fun b o hb q => (hs.2 b hb).trans q
  have hd : ∃ o, h'.get? dx = some o := by
    obtain ⟨o, _, _, e', _⟩ := hn
    exact ⟨o, e'⟩
  exact h _ (I.write (t' := tk') (x := dx) (e := dx) (o := exd dx ((f, y) :: fs)) (h' := h') (by rw [ed]; exact True.intro) (.inl rfl) k hd (exd_ok hn (relO_put ry rel)))
end
/-- self.f = e, self an exception that is being made -/
def tEst (K : PySem.W.Frag) (f : Str) (to te : TE) : TS := fun D σ H => te σ H fun y H1 => to σ H1 fun x H2 => ∃ a C : Addr, x = .ref a ∧ OxE K C ∧ PySem.W.takerIn K C f = some none ∧
  ((H2 a = some (exo a C none) ∧ ∀ dx, H2 dx = none → dx ≠ a → D.nx σ (upd (upd H2 dx (exd dx [(f, y)])) a (exo a C (some dx)))) ∨
    ∃ (dx : Addr) (fs : List (Str × V)), H2 a = some (exo a C (some dx)) ∧ H2 dx = some (exd dx fs) ∧ fs.length ≤ 900 ∧ D.nx σ (upd H2 dx (exd dx ((f, y) :: fs))))
theorem ps_est {X : Cx} {o e : Expr} {to te : TE} {f : Str} {p' pos : Pos} (ho : PE X o to) (he : PE X e te) (hs : swapsWith e (some (.Attribute o f p')) pos.line X.env = pure false := by rfl) : PS X (.Assign [.Attribute o f p'] e pos) (tEst X.K f to te) := by
  refine ⟨fun pins s σ H D I h => ?_⟩
  refine plainObj_wpAny_Assign_Attribute (thn (he.run pins s σ H _ I h) fun v s1 ⟨y, H1, I1, r1, q1⟩ => thn (ho.run pins s1 σ H1 _ I1 q1) fun u s2 ⟨x, H2, I2, r2, a, C, ex, T, ht, q⟩ => ?_) hs
  subst ex
  obtain rfl : u = Value.ref a := r2
  rcases q with ⟨ea, q⟩ | ⟨dx, fs, ea, ed, hl, q⟩
  · exact est_new T ht I2 ea r1 fun dx s' n ne J => ⟨σ, _, J, q dx n ne⟩
  · exact est_old T ht I2 ea ed hl r1 fun s' J => ⟨σ, _, J, q⟩
/-- what __init__(self, y..) does: the fields ns stand in the exception's own new dict, all else as it was -/
def spI (K : PySem.W.Frag) (ns : List Str) : Sp := fun vs H Q _ => ∃ (a C : Addr) (ys : List V), vs = .ref a :: ys ∧ ys.length = ns.length ∧ OxE K C ∧ (∀ f ∈ ns, PySem.W.takerIn K C f = some none) ∧ H a = some (exo a C none) ∧
  ∀ (dx : Addr) (H' : Hp), dx ≠ a → H dx = none → H' a = some (exo a C (some dx)) → H' dx = some (exd dx (ns.zip ys).reverse) → (∀ b, b ≠ a → b ≠ dx → H' b = H b) → Q .non H'
/-- C(e, ..): a new exception object, its fields in its own dict -/
def tMkF (C : Addr) (ns : List Str) (ta : TA) : TE := fun σ H Q => ta σ H fun vs H1 => vs.length = ns.length ∧ ∀ (a d : Addr) (H2 : Hp), H1 a = none → H1 d = none → Same H1 H2 → H2 a = some (exo a C (some d)) → H2 d = some (exd d (ns.zip vs).reverse) → Q (.ref a) H2
theorem pe_mkF {X : Cx} {CX : CXT} {x : Str} {C fI : Addr} {k : Nat} {fd : FuncData} {ps ns : List Str} {e : Expr} {es : List Expr} {ta : TA} {p pos : Pos} (T : OxE X.K C) (tk : ∀ f ∈ ns, PySem.W.takerIn X.K C f = some none) (hns : ns.length ≤ 100) (iC : PySem.W.findIn X.K (.ref C) "__init__" = some (some (.ref fI))) (tI : PySem.W.typeIn X.K (.ref fI) = some (.type "function"))
    (F1 : FnOk X.prog X.w X.K X.mg X.base CX k fI fd ps (spI X.K ns)) (hr : Room (k + 1) X.A) (hb : Binds X.K fd ps []) (hx : Passes CX X (fun _ _ _ => False)) (hg : Gl X x) (hm : X.mg x = some (.ref C)) (ha : PA X (e :: es) ta)
    (hdb : (x == ("__debug__" : Str)) = false := by decide) (he : starEach (e :: es) X.env = (false, eval e X.env) :: starEach es X.env := by rfl) (hpl : (backTo pos (starEach es X.env)).any (·.1) = false := by rfl) :
    PE X (.Call (.Name x p) (e :: es) [] pos) (tMkF C ns ta) := by
  refine ⟨fun pins s σ H Q I h => ?_⟩
  refine wpAny_Call_Name_kw (ld_glob I hg hm ?_ hdb)
  refine PySem.W.callWith_K (h₀ := X.base) I.ok.mod.kin T.kC (thn (ha.run pos pins s σ H _ I h) fun us s1 ⟨vs, H1, I1, r1, hz, q1⟩ => ⟨I1.kIn, ?_⟩) he hpl
  show wpAny _ _ (call (.ref C) us) _ _ _
  obtain ⟨hp, g, dr, tkn, os⟩ := s1
  have hsz : hp.objs.size ≤ hp.objs.size + 1 := Nat.le_succ _
  have hn : H1 (hp.objs.size + 1) = none := I1.hok.fresh hsz
  have kk : ∀ b o, hp.get? b = some o → ((hp.push (PySem.W.kdv_tup us)).push (PySem.HandSPX.excO C hp.objs.size)).get? b = some o := fun b o e => Heap.get?_push_of_some _ (Heap.get?_push_of_some _ e)
  have hget : ((hp.push (PySem.W.kdv_tup us)).push (PySem.HandSPX.excO C hp.objs.size)).get? (hp.objs.size + 1) = some (PySem.HandSPX.excO C hp.objs.size) := by heap_get
  have I2 : Inv X pins σ (upd H1 (hp.objs.size + 1) (exo (hp.objs.size + 1) C none)) ⟨(hp.push (PySem.W.kdv_tup us)).push (PySem.HandSPX.excO C hp.objs.size), g, dr, tkn, os⟩ :=
    I1.laid (t' := tkn) (a := hp.objs.size + 1) (o := exo (hp.objs.size + 1) C none) (h' := (hp.push (PySem.W.kdv_tup us)).push (PySem.HandSPX.excO C hp.objs.size)) kk hsz (exo_ok hget)
  have hq : spI X.K ns (.ref (hp.objs.size + 1) :: vs) (upd H1 (hp.objs.size + 1) (exo (hp.objs.size + 1) C none)) (fun v H2 => v = .non ∧ Q (.ref (hp.objs.size + 1)) H2) (fun _ _ _ => False) := by
    refine ⟨hp.objs.size + 1, C, vs, rfl, hz, T, tk, upd_same, fun dx H' nd hd ea ed hk => ⟨rfl, ?_⟩⟩
    rw [upd_ne nd] at hd
    exact q1 _ dx H' hn hd (fun b x hb => by rw [hk b (ne_of_none hb hn) (ne_of_none hb hd), upd_ne (ne_of_none hb hn)]; exact hb) ea ed
  have r2 : Vals (V.ref (hp.objs.size + 1) :: vs) (Value.ref (hp.objs.size + 1) :: us) := .cons rfl r1
  have hl : (Value.ref (hp.objs.size + 1) :: us).length = ps.length := by
    have e := r2.length
    rw [F1.len _ _ _ _ hq] at e
    exact e.symm
  have hus : us.length ≤ sizeLine := by
    rw [← Paired.length r1, sizeLine_eq]
    omega
  obtain ⟨nm, N, qn, bs, bm, hdct, sn, sub, ab, col, dd, k0, k1, k2, k3, k5, hC, hT⟩ := PySem.W.excInit_of I1.kIn T.ini
  have hbd := hb ⟨(hp.push (PySem.W.kdv_tup us)).push (PySem.HandSPX.excO C hp.objs.size), g, dr, tkn, os⟩ (Value.ref (hp.objs.size + 1) :: us) I2.kIn (by rw [List.append_nil]; exact hl)
  rw [List.append_nil] at hbd
  refine wpAny_call (PySem.HandSPX.call_own F.excBase_Exception hT hC (PySem.W.looks_findIn I1.kIn iC) (fun self => PySem.W.bind_fn I1.kIn self tI) hus
    (codeAny_mono (F1.run _ X.stack _ _ ⟨Value.ref (hp.objs.size + 1) :: us, []⟩ (Value.ref (hp.objs.size + 1) :: us) _ _ (fun _ _ _ => False) (hr.make C us []) (I2.env0.make C us []) hbd r2 hq) fun r s' hq' => ?_))
  cases r with
  | error er => exact hx pins σ _ _ er s' I2 hq'
  | ok fl =>
    cases fl with
    | ret u =>
      obtain ⟨v, H2, os2, bare2, un2, hok2, rv, ev, q2⟩ := hq'
      subst ev
      obtain ⟨h2, g2, d2, t2, os'⟩ := s'
      exact ⟨rv, .ref (hp.objs.size + 1), H2, I2.call' (ch := []) os2 un2 hok2 bare2 (fun b z => absurd z (by simp)), rfl, q2⟩
    | next => exact False.elim hq'
    | brk => exact False.elim hq'
    | cont => exact False.elim hq'
/-- made.f, made an exception that is held -/
def tEat (K : PySem.W.Frag) (f : Str) (te : TE) : TE := fun σ H Q => te σ H fun x H1 => ∃ (a C d : Addr) (fs : List (Str × V)) (v : V), x = .ref a ∧ OxE K C ∧ PySem.W.findIn K (.ref C) f = some none ∧ H1 a = some (exo a C (some d)) ∧ H1 d = some (exd d fs) ∧ fs.lookup f = some v ∧ Q v H1
theorem pe_eat {X : Cx} {e : Expr} {te : TE} {pos : Pos} {f : Str} (he : PE X e te) (hb : attributeBase e f X.env (eval e X.env) = eval e X.env := by rfl) : PE X (.Attribute e f pos) (tEat X.K f te) := by
  refine ⟨fun pins s σ H Q I h => ?_⟩
  refine attr_of hb (thn (he.run pins s σ H _ I h) fun u s1 hh => ?_)
  obtain ⟨x, H1, I1, rx, a, C, d, fs, v, ex, T, hno, ea, ed, l, q⟩ := hh
  subst ex
  obtain rfl : u = Value.ref a := rx
  obtain ⟨t1, ho⟩ := exo_at I1.hok ea
  obtain ⟨mA, hns, hr⟩ := exd_at I1.hok ed
  obtain ⟨od, hod, hl⟩ := lookIn_ns hns
  obtain ⟨u, hu, ru⟩ := RelO.some_of (v := v) (o := mA f) (by rw [← l]; exact hr f)
  have J : PySem.W.InstAt s1.heap a _ C (some od) := ⟨ho, rfl, rfl, hod⟩
  exact PySem.HandSPX.exc_get I1.kIn J T.ga T.gg T.exC (PySem.W.findObj_own T.hd hno rfl (by rw [hl, hu])) (handed_of ru) ⟨v, H1, I1.tok _, ru, q⟩
/-- isinstance(made, c), made an exception that is held -/
def rIsH (K : PySem.W.Frag) : List V → Hp → VK → Prop := fun xs H Q => ∃ (a C d : Addr) (fs : List (Str × V)) (c : V) (cv : Value) (b : Bool), xs = [.ref a, c] ∧ OxE K C ∧ H a = some (exo a C (some d)) ∧ H d = some (exd d fs) ∧ (∀ u, RelV c u → u = cv) ∧ PySem.W.kitOne K (.ref C) cv = some b ∧ Q (.bl b) H
theorem call_isH {X : Cx} {K : PySem.W.Frag} (ek : X.K = K) : CallR X (.builtin "isinstance") (rIsH K) := by
  subst ek
  intro pins s σ H xs us Q I r h
  obtain ⟨a, C, d, fs, c, cv, b, rfl, T, ea, ed, hcv, e, q⟩ := h
  cases r with
  | cons rx rr =>
    cases rr with
    | cons rt rr =>
      cases rr
      cases rx
      have ec := hcv _ rt
      subst ec
      obtain ⟨t1, ho⟩ := exo_at I.hok ea
      obtain ⟨mA, hns, hr⟩ := exd_at I.hok ed
      obtain ⟨od, hod, hl⟩ := lookIn_ns hns
      have J : PySem.W.InstAt s.heap a _ C (some od) := ⟨ho, rfl, rfl, hod⟩
      obtain ⟨cd, hcd, _⟩ := T.cls
      exact PySem.W.kia_one (PySem.W.kitx_exc (by rw [hcd]; rfl) T.ga T.gg T.exC T.ca T.cn T.ct T.cm) I.kIn J e (fun z => nomatch z) fun tk => ⟨.bl b, H, I.kept (t' := tk) fun _ _ z => z, rfl, q⟩
/-- what gives a new exception object back makes one to be raised -/
theorem pmk_val {X : Cx} {e : Expr} {te : TE} (hx : X.ex = []) (he : PE X e te) :
    L2N.PMk X e (fun σ H Q => te σ H fun x H1 => ∃ (a C d : Addr) (fs : List (Str × V)), x = .ref a ∧ OxE X.K C ∧ H1 a = some (exo a C (some d)) ∧ H1 d = some (exd d fs) ∧ Fr0 X.H_0 a ∧ Q (.ref C) (some d) (upd (delH H1 a) d (.xd fs))) := by
  intro pins s σ H Q I h
  refine wpAny_mono (he.run pins s σ H _ I h) (fun u s1 hu => ?_) fun _ _ x => x
  obtain ⟨v, H1, I1, r1, a, C, d, fs, rfl, T, ea, ed, h0, q⟩ := hu
  cases r1
  obtain ⟨t1, ho⟩ := exo_at I1.hok ea
  obtain ⟨mA, hns, rel⟩ := exd_at I1.hok ed
  have hda : d ≠ a := fun z => by
    obtain ⟨o, es, ep, e1, e2, _⟩ := hns
    rw [z, ho] at e1
    have z2 := Option.some.inj e1
    subst z2
    cases e2
  obtain ⟨G, gs, ga, J⟩ := I1.untrack ea h0 hx
  have ed2 : delH H1 a d = some (exd d fs) := by rw [delH_ne hda]; exact ed
  obtain ⟨mB, hns2, rel2⟩ := exd_at J.hok ed2
  have hd : ∃ o, G.get? d = some o := by
    obtain ⟨o, _, _, e', _⟩ := hns2
    exact ⟨o, e'⟩
  have J2 : Inv X pins σ (upd (delH H1 a) d (.xd fs)) { s1 with heap := G } := J.write (t' := s1.toks) (x := d) (e := d) (o := .xd fs) (h' := G) (by rw [ed2]; exact True.intro) (.inl rfl) (fun b o _ z => z) hd ⟨mB, hns2, rel2⟩
  exact ⟨a, _, _, { s1 with heap := G }, _, .ref C, some d, rfl, J2, gs, ga, ho, ⟨rfl, rfl, fun vs e => by cases e; rfl⟩, rfl, rfl, by rw [upd_ne (Ne.symm hda), delH_same], rfl, I1.bare, raises_own T.exC T.tyC, q⟩
theorem fr0_of {H0 H1 : Hp} {a : Addr} (s : Same H0 H1) (h : H1 a = none) : Fr0 H0 a := fun o e => by
  have := s _ _ e
  rw [h] at this
  cases this
theorem same_raised {H1 H2 : Hp} {a d : Addr} {fs : List (Str × V)} (s : Same H1 H2) (na : H1 a = none) (nd : H1 d = none) : Same H1 (upd (delH H2 a) d (.xd fs)) := fun b x e => by
  rw [upd_ne (ne_of_none e nd), delH_ne (ne_of_none e na)]
  exact s _ _ e
/-- what the clauses 'except c as n' wish of an exception of the body, one after the other: slot i is n's -/
def wAsM (K : PySem.W.Frag) (Wout : WX) (D : Ends) : List (Value × Nat × (Addr → Value → Option Addr → TS)) → WX
  | [] => Wout
  | (c, i, ts) :: r => fun cls d σ H => ∃ b, PySem.W.exmOne K cls c = some b ∧
    (b = true → ∀ a, H a = none → ts a cls d { nx := fun σ' H' => D.nx (σ'.set i none) H', rt := D.rt, bk := fun σ' H' => D.bk (σ'.set i none) H', ct := fun σ' H' => D.ct (σ'.set i none) H' } (σ.set i (some (.ref a))) H) ∧
    (b = false → wAsM K Wout D r cls d σ H)
inductive HdsAs (X : Cx) : List ExceptHandler → List (Value × Nat × (Addr → Value → Option Addr → TS)) → Prop
  | nil : HdsAs X [] []
  | cons {x n : Str} {c : Value} {i : Nat} {ts : Addr → Value → Option Addr → TS} {b₀ : Stmt} {suite : List Stmt} {np pos' : Pos} {hds : List ExceptHandler} {l : List (Value × Nat × (Addr → Value → Option Addr → TS))} (hi : X.N[i]? = some n) (hln : X.env.kindOf n = some .local) (hc : Names X x c)
      (hsu : ∀ (a : Addr) (oe : Obj) (cls : Value) (d : Option Addr) (pn : List (Addr × Obj)), L2N.Zn cls d oe → (∃ vs, oe.data = .fields vs) → PSs (X.suite a ((a, oe) :: pn)) (b₀ :: suite) (ts a cls d)) (r : HdsAs X hds l) :
      HdsAs X (.ExceptHandler (some (.Name x np)) (some n) (b₀ :: suite) pos' :: hds) ((c, i, ts) :: l)
/-- try: .. except C as e: .. except D as e: .. -/
theorem ps_try_asM {X : Cx} {body : List Stmt} {h₀ : ExceptHandler} {hds : List ExceptHandler} {l : List (Value × Nat × (Addr → Value → Option Addr → TS))} {pos : Pos} {tb : WX → TS} {Wout : WX} (hs : X.stack = X.env :: X.outer) (hf : X.env.frame = some X.env.locals) (hN : X.N.Nodup) (tk : L2N.Takes X Wout)
    (hb : ∀ (W : WX) (pn : List (Addr × Obj)) (xe : Value → Shared → Prop), L2N.Takes (X.tr pn xe) W → PassesOwn (model X.prog X.w) X.A X.env xe → PSs (X.tr pn xe) body (tb W))
    (hh : HdsAs X (h₀ :: hds) l) : PS X (.Try body (h₀ :: hds) [] [] pos) (fun D σ H => tb (wAsM X.K Wout D l) D σ H) := by
  refine ⟨fun pins s σ H D I h => ?_⟩
  have ok := I.ok
  have hfr : X.A.frames = some (X.env :: X.outer) := by rw [ok.frames, hs]
  refine wpAny_Try_except ?_
  refine wpAny_mono ((hb (wAsM X.K Wout D l) (X.pn ++ pins) (fun e s₁ => wpAny (model X.prog X.w) X.A (noteFrame e X.env) (fun _ s₂ => wpAny (model X.prog X.w) X.A (setFlight e none) (fun _ s₃ =>
    wpAny (model X.prog X.w) X.A (handleBy e X.env (h₀ :: hds)) (SP X pins D) X.xe s₃) X.xe s₂) X.xe s₁) (fun u s' xx => ?_) PassesOwn.looking).run [] s σ H D (I.toTry _) h) (fun f s1 hsp => ?_) (fun e s1 he => he)
  · -- caught: the frame noted, then clause by clause
    obtain ⟨a, B, sI, pins', σ', H', cls, d, rfl, J', nb, up, sky, na, os, ag, w⟩ := xx
    have J : Inv X pins σ' H' sI := J'.ofTry ok
    show wpAny _ X.A (noteFrame (.ref a) X.env) _ _ _
    refine L2N.Sky.land L2N.Zn.steady hfr hf (by rw [← hs]; exact sky) fun h3 fl3 up3 => ?_
    have J3 : Inv X pins σ' H' { s' with heap := h3 } := J.landed nb fl3.1 (up.trans up3) os ag
    obtain ⟨oe3, vs3, he3, hz3, hd3⟩ := fl3.there
    have nfr : a ∉ frs (X.env :: X.outer) := fun hm => by
      obtain ⟨_, o', e', hnf⟩ := fl3.2.2.1.mem hm
      rw [he3] at e'
      cases e'
      exact hnf _ hd3
    have nL : a ≠ X.env.locals := fun z => nfr (List.mem_filterMap.mpr ⟨X.env, List.mem_cons_self, by rw [hf, z]⟩)
    have nF : a ∉ X.fs := fun hm => by
      obtain ⟨e, he, q⟩ := List.mem_filterMap.mp hm
      exact nfr (List.mem_filterMap.mpr ⟨e, List.mem_cons_of_mem _ he, q⟩)
    have S3 := J3.suite he3 hd3 na nL nF
    have LT : PySem.W.Looks (model X.prog X.w) h3 (typeOf (.ref a)) cls := fun A Q E s k q => wpAny_typeOf_ref (k _ _ he3) (by rw [hz3.1]; exact q)
    have go : ∀ {hds' : List ExceptHandler} {l' : List (Value × Nat × (Addr → Value → Option Addr → TS))}, HdsAs X hds' l' → wAsM X.K Wout D l' cls d σ' H' →
        wpAny (model X.prog X.w) X.A (handleBy (.ref a) X.env hds') (SP X pins D) X.xe { s' with heap := h3 } := by
      intro hds' l' hk
      induction hk with
      | nil =>
        -- no clause: it goes on
        intro w
        refine wpAny_handleBy_nil ?_
        obtain ⟨k1, k2, k3, oe, vs, T, oT, ts', he, hz, hd, h1, hr⟩ := id fl3
        unfold PySem.passOn
        refine wpAny_bind (wpAny_field he hd h1 ?_)
        rw [if_neg (show ¬ ((Value.ref T == Value.none) = true) from by simp)]
        have fin : wpAny (model X.prog X.w) X.A (setFlight (.ref a) X.env.frame) (fun _ s4 => wpAny (model X.prog X.w) X.A (throw (.ref a) : Sem Flow) (SP X pins D) X.xe s4) X.xe { s' with heap := h3 } := by
          rw [hf]
          exact HandSPX.setFlight_upZ fl3 fun h4 hh4 up4 => wpAny_throw (tk _ _ ⟨a, B, sI, pins, σ', H', cls, d, rfl, J, nb, (up.trans up3).trans up4, .inr (.inr (by rw [hs]; exact hh4)), na, os, ag, w⟩)
        first
          | exact wpAny_bind (wpAny_pure (wpAny_bind fin))
          | exact wpAny_bind fin
      | @cons x n c i ts b₀ suite np pos' hds2 l2 hi hln hc hsu r ih =>
        intro w
        obtain ⟨b, hb1, hyes, hno⟩ := w
        refine wpAny_handleBy_cons (codeAny_handlers_test ?_) (by intro q; cases q)
        have LM := PySem.W.exm_one (M := model X.prog X.w) (J3.kIn) LT hb1
        have test : ∀ {Q : Value → Shared → Prop} {E : Value → Shared → Prop}, Q c { s' with heap := h3 } → wpAny (model X.prog X.w) (X.A.mark (some (.ref a))) (eval (.Name x np) X.env) Q E { s' with heap := h3 } := fun {Q E} q => by
          obtain ⟨hg, hdbg, hm | ⟨hm, hv, hnn⟩⟩ := hc
          · exact ld_glob (X := X.suite a ((a, oe3) :: (X.pn ++ pins))) S3 hg hm q hdbg
          · exact ld_blt (X := X.suite a ((a, oe3) :: (X.pn ++ pins))) S3 hg hm hv q hnn hdbg
        refine test (LM.here ?_)
        cases b with
        | false =>
          show wpAny _ X.A (handleBy (.ref a) X.env hds2) _ _ _
          exact ih (hno rfl)
        | true =>
          refine codeAny_handlers_suite_as ?_
          refine HandSPX.lands_againZ fl3 fun h4 fl4 up4 => ?_
          have J4 : Inv X pins σ' H' { s' with heap := h4 } := J.landed nb fl4.1 ((up.trans up3).trans up4) os ag
          obtain ⟨oe4, vs4, he4, hz4, hd4⟩ := fl4.there
          have S4 := J4.suite he4 hd4 na nL nF
          refine store_ok (X := X.suite a ((a, oe4) :: (X.pn ++ pins))) (v := .ref a) S4 hN hi (.inl hln) rfl (fun s5 S5 => ?_) (.inr hln)
          refine wpAny_mono ((hsu a oe4 cls d (X.pn ++ pins) hz4 ⟨_, hd4⟩).run [] s5 _ H' _ S5 (hyes rfl a na)) (fun f s6 hsp => ?_) (fun _ _ z => False.elim z)
          cases f with
          | next =>
            obtain ⟨σ6, H6, S6, q6⟩ := hsp
            exact gone_ok (S6.unsuite ok) hN hi hln fun s7 J7 => ⟨_, _, J7, q6⟩
          | brk =>
            obtain ⟨σ6, H6, S6, q6⟩ := hsp
            exact gone_ok (S6.unsuite ok) hN hi hln fun s7 J7 => ⟨_, _, J7, q6⟩
          | cont =>
            obtain ⟨σ6, H6, S6, q6⟩ := hsp
            exact gone_ok (S6.unsuite ok) hN hi hln fun s7 J7 => ⟨_, _, J7, q6⟩
          | ret u =>
            obtain ⟨v6, σ6, H6, S6, r6, q6⟩ := hsp
            exact gone_ok (S6.unsuite ok) hN hi hln fun s7 J7 => ⟨_, _, _, J7, r6, q6⟩
    exact go hh w
  · -- the body went through
    cases f with
    | next =>
      obtain ⟨σ', H', J', q⟩ := hsp
      exact wpAny_execs_nil ⟨σ', H', J'.ofTry ok, q⟩
    | brk =>
      obtain ⟨σ', H', J', q⟩ := hsp
      exact ⟨σ', H', J'.ofTry ok, q⟩
    | cont =>
      obtain ⟨σ', H', J', q⟩ := hsp
      exact ⟨σ', H', J'.ofTry ok, q⟩
    | ret u =>
      obtain ⟨v, σ', H', J', r, q⟩ := hsp
      exact ⟨v, σ', H', J'.ofTry ok, r, q⟩

theorem takes0N {X : Cx} : L2N.Takes X (fun _ _ _ _ => False) := fun _ _ ⟨_, _, _, _, _, _, _, _, _, _, _, _, _, _, _, _, w⟩ => w.elim
theorem passAtN {X : Cx} {W : WX} (tk : L2N.Takes X W) (σ : L2.St) : PassesAt (L2N.CX X.prog X.w) X σ (WE W σ) := fun _ _ _ e s' I c => tk e s' (L2N.XE.of_call I (fun _ _ _ h => h) c)
/-- a def that may let an exception out -/
theorem okXN {P : Program} {w : World} {K : PySem.W.Frag} {mg : Str → Option Value} {base : Heap} {x qual : Str} {st : Stmt} {f : Addr} {fd : FuncData} {N ps : List Str} {k : Nat} {sp : Sp} (F : Fun K x qual st f fd) (S : FnScope N ps (defScope st)) (len : ∀ vs H Q E, sp vs H Q E → vs.length = ps.length)
    (hbody : ∀ (cdv : Value) (A : Around) (outer : List Env) (s : Shared) (H : Hp) (vs : List V) (Q : VK) (E : XK), Room k (A.deeper (envOfC qual (defScope st) s.heap.objs.size f cdv)) → sp vs H Q E →
      ∃ t, PSs (cxOf (L2N.CX P w) P w K mg base N qual (defScope st) f cdv A outer s H E) (defBody st) t ∧ t { nx := fun _ H' => Q .non H', rt := Q } (start N vs) H) : FnOk P w K mg base (L2N.CX P w) (k + 1) f fd ps sp := by
  obtain ⟨oc, od, kV, doc, pm, an, cdv, ct, osl, rfl, lk, hcd⟩ := F.ex
  exact fn_of lk hcd S len fun A outer s H vs Q E hr hsp => hbody cdv A outer s H vs Q E hr hsp
/-- a def that is called while an exception is handled -/
theorem okHot {P : Program} {w : World} {K : PySem.W.Frag} {mg : Str → Option Value} {base : Heap} {x qual : Str} {st : Stmt} {f : Addr} {fd : FuncData} {N ps : List Str} {k : Nat} {sp : Sp} (F : Fun K x qual st f fd) (S : FnScope N ps (defScope st)) (len : ∀ vs H Q E, sp vs H Q E → vs.length = ps.length)
    (hbody : ∀ (cdv : Value) (A : Around) (outer : List Env) (s : Shared) (H : Hp) (vs : List V) (Q : VK) (E : XK) (p : Addr × Obj), L2H.Hot1 A p → L2H.RoomH k (A.deeper (envOfC qual (defScope st) s.heap.objs.size f cdv)) → sp vs H Q E →
      ∃ t, PSs (L2H.cxH CX0 P w K mg base N qual (defScope st) f cdv A outer s H E p) (defBody st) t ∧ t { nx := fun _ H' => Q .non H', rt := Q } (start N vs) H) : L2H.FnH P w K mg base CX0 (k + 1) f fd ps sp := by
  obtain ⟨oc, od, kV, doc, pm, an, cdv, ct, osl, rfl, lk, hcd⟩ := F.ex
  exact L2H.fn_ofH lk hcd S len fun A outer s H vs Q E p hot hr hsp => hbody cdv A outer s H vs Q E p hot hr hsp
theorem hotC_suite {X : Cx} {a : Addr} {oe : Obj} {cls : Value} {d : Option Addr} {pn : List (Addr × Obj)} (hz : L2N.Zn cls d oe) (hf : ∃ vs, oe.data = .fields vs) : L2H.HotC (X.suite a ((a, oe) :: pn)) := by
  obtain ⟨vs, e⟩ := hf
  exact ⟨(a, oe), ⟨rfl, vs, e, hz.2.2 vs e⟩, List.mem_cons_self⟩
theorem room_suite {X : Cx} {a : Addr} {pn : List (Addr × Obj)} {k j : Nat} (hr : Room k X.A) (h : j ≤ k) : L2H.RoomH j (X.suite a pn).A := ⟨(hr.mono h).dp, (hr.mono h).un⟩
theorem pass0A {X : Cx} {σ : L2.St} {E : XK} : PassesAt CX0 X σ E := fun _ _ _ _ _ _ h => h.elim
/-- an exception object with its fields -/
def ExAt (H : Hp) (a C : Addr) (fs : List (Str × V)) : Prop := ∃ d, H a = some (exo a C (some d)) ∧ H d = some (exd d fs)
theorem ExAt.same {H H' : Hp} {a C : Addr} {fs : List (Str × V)} (h : ExAt H a C fs) (s : Same H H') : ExAt H' a C fs := by
  obtain ⟨d, h1, h2⟩ := h
  exact ⟨d, s _ _ h1, s _ _ h2⟩
theorem ekit_self {K : PySem.W.Frag} {C : Addr} : PySem.W.kitOne K (.ref C) (.ref C) = some true := if_pos (by simp)
theorem ekit_sub {K : PySem.W.Frag} {C D : Addr} {b : Bool} (hd : PySem.W.hasDictIn K D = true) (ht : PySem.W.typeIn K (.ref D) = some (.type "type")) (h : PySem.W.subIn K (.ref C) (.ref D) = some b) (hn : C = D → b = true) : PySem.W.kitOne K (.ref C) (.ref D) = some b := by
  unfold PySem.W.kitOne
  by_cases e : (Value.ref C == Value.ref D) = true
  · rw [if_pos e, hn (Value.ref.inj (beq_iff_eq.mp e))]
  · rw [if_neg e]
    obtain ⟨cd, hc, _⟩ := PySem.W.any_some hd
    show (if ((PySem.W.clsIn K D).isSome && PySem.W.typeIn K (.ref D) == some (.type "type")) = true then PySem.W.subIn K (.ref C) (.ref D) else none) = some b
    rw [hc, ht]
    exact h
theorem ekit_ty {K : PySem.W.Frag} {C : Addr} {T : String} {b : Bool} (hm : PySem.W.kitMeta T = true) (h : PySem.W.subIn K (.ref C) (.type T) = some b) : PySem.W.kitOne K (.ref C) (.type T) = some b := by
  unfold PySem.W.kitOne
  rw [if_neg (by simp)]
  show (if PySem.W.kitMeta T = true then PySem.W.subIn K (.ref C) (.type T) else none) = some b
  rw [if_pos hm]
  exact h

section
open CwR
variable {X : Cx}
/-- text.find(c, i): a token is out behind it -/
theorem find_pos {o e1 e2 : Expr} {to : TE} {t : TA} {apos cpos : Pos} (ho : PE X o to) (ha : PA X [e1, e2] t)
    (hbase : attributeBase o "find" X.env (eval o X.env) = eval o X.env)
    (hfew : ((backTo cpos (starEach [e1, e2] X.env)).all (fun x => !x.1) && (backToKw cpos (keywordEach [] X.env)).all (fun x => x.1.isSome)
      && decide ([e1, e2].length + ([] : List Keyword).length + (if ([] : List Keyword).isEmpty then 0 else 1) < 30)) = true)
    (hline : (apos.endLine == cpos.line) = true) (hs : starEach [e1, e2] X.env = (false, eval e1 X.env) :: starEach [e2] X.env) (hplain : (backTo cpos (starEach [e2] X.env)).any (·.1) = false)
    (pins : List (Addr × Obj)) (s : Shared) (σ : L2.St) (H : Hp) (Q : VK) (I : Inv X pins σ H s)
    (h : tBM X.K "str" (fun x xs H Q => ∃ (a b : Str) (i : Int), x = .str a ∧ xs = [.str b, .int i] ∧ Q (.int (Txt.find3 a b i)) H) to t σ H Q) :
    wpAny (model X.prog X.w) X.A (eval (.Call (.Attribute o "find" apos) [e1, e2] [] cpos) X.env) (fun v s' => 1 ≤ s'.toks ∧ EP X pins σ Q v s') X.xe s := by
  refine wpAny_Call_method_late hbase hfew hline rfl (thn (ho.run pins s σ H _ I h) fun v s1 ⟨x, H1, I1, r1, ty, q1⟩ => ?_)
  obtain ⟨h1, h2⟩ := tyV_is I1 r1 ty
  refine ⟨"str", "str.find", PySem.F.plainAttrs_str, PySem.F.slot_str_find, PySem.F.type_str_find, h1, h2, ?_⟩
  have hA := ha.run cpos pins s1 σ H1 _ I1 q1
  rw [hs] at hA ⊢
  refine Calls.callWith_builtin (by show (false || (backTo cpos (starEach [e2] X.env)).any (·.1)) = false; rw [hplain] <;> rfl) (Calls.evalArgs_plain ?_)
  refine thn hA fun us s2 ⟨vs, H2, I2, r2, a, b, i, ex, es, q2⟩ => ?_
  subst ex
  subst es
  obtain ⟨t1, rfl⟩ := r1
  cases r2 with
  | cons ra r2 =>
    cases r2 with
    | cons rb r2 =>
      cases r2
      obtain ⟨t2, rfl⟩ := ra
      obtain ⟨t3, rfl⟩ := rb
      exact PySem.SC.find3 ⟨by show 1 ≤ s2.toks + 1; omega, .int _, H2, I2.tok _, ⟨_, rfl⟩, q2⟩
theorem pss_findT {x : Str} {i : Nat} {o e1 e2 : Expr} {to : TE} {t : TA} {apos cpos pos pos' : Pos} {rest : List Stmt} {u : TS} (hN : X.N.Nodup) (hi : X.N[i]? = some x) (hx : Loc X.env.scope x) (ho : PE X o to) (ha : PA X [e1, e2] t) (h : PSsT X rest u)
    (hsw : swapsWith (.Call (.Attribute o "find" apos) [e1, e2] [] cpos) (some (.Name x pos')) pos.line X.env = pure false := by rfl) (hf : X.fn x = true ∨ X.env.scope.names.lookup x = some .local := by first | exact .inl rfl | exact .inr rfl | assumption)
    (hbase : attributeBase o "find" X.env (eval o X.env) = eval o X.env := by rfl)
    (hfew : ((backTo cpos (starEach [e1, e2] X.env)).all (fun x => !x.1) && (backToKw cpos (keywordEach [] X.env)).all (fun x => x.1.isSome)
      && decide ([e1, e2].length + ([] : List Keyword).length + (if ([] : List Keyword).isEmpty then 0 else 1) < 30)) = true := by rfl)
    (hline : (apos.endLine == cpos.line) = true := by rfl) (hs : starEach [e1, e2] X.env = (false, eval e1 X.env) :: starEach [e2] X.env := by rfl) (hplain : (backTo cpos (starEach [e2] X.env)).any (·.1) = false := by rfl) :
    PSs X (.Assign [.Name x pos'] (.Call (.Attribute o "find" apos) [e1, e2] [] cpos) pos :: rest) (tSeq (tAsg (tBM X.K "str" (fun x xs H Q => ∃ (a b : Str) (i : Int), x = .str a ∧ xs = [.str b, .int i] ∧ Q (.int (Txt.find3 a b i)) H) to t) (gName i)) u) := by
  refine ⟨fun pins s σ H D I hq => ?_⟩
  have key : wpAny (model X.prog X.w) X.A (exec (.Assign [.Name x pos'] (.Call (.Attribute o "find" apos) [e1, e2] [] cpos) pos) X.env) (fun f s1 => 1 ≤ s1.toks ∧ SP X pins { D with nx := u D } f s1) X.xe s := by
    refine wpAny_Assign_Name (thn (find_pos ho ha hbase hfew hline hs hplain pins s σ H (fun y H1 => u D (σ.set i (some y)) H1) I (by exact hq)) fun v s1 ⟨hk, y, H1, I1, r1, q1⟩ => ?_) hsw
    exact wpAny_mono (wpAny_toks_of hk (store_ok (Q := fun _ s2 => SP X pins { D with nx := u D } .next s2) I1 hN hi hx r1 (fun s2 I2 => ⟨_, H1, I2, q1⟩) hf)) (fun _ _ z => z) (fun _ _ z => z.2)
  refine wpAny_execs_cons (thn key fun f s1 q => ?_)
  obtain ⟨hk, q⟩ := q
  cases f with
  | next =>
    obtain ⟨σ', H', I', q⟩ := q
    exact h pins s1 σ' H' D hk I' q
  | brk => exact q
  | cont => exact q
  | ret v => exact q
theorem pst_set {i : Nat} {x : Str} {e : Expr} {te : TE} {pos pos' : Pos} (hN : X.N.Nodup) (hi : X.N[i]? = some x) (hx : Loc X.env.scope x) (he : PET X e te) (hs : swapsWith e (some (.Name x pos')) pos.line X.env = pure false := by rfl) (hf : X.fn x = true ∨ X.env.scope.names.lookup x = some .local := by first | exact .inl rfl | exact .inr rfl | assumption) :
    PST X (.Assign [.Name x pos'] e pos) (tAsg te (gName i)) := by
  intro pins s σ H D h0 I h
  refine wpAny_Assign_Name (thn (he pins s σ H _ h0 I h) fun v s1 ⟨y, H1, I1, r1, q1⟩ => ?_) hs
  exact store_ok I1 hN hi hx r1 (fun s2 I2 => ⟨_, H1, I2, q1⟩) hf
end
/-! ### the keys of a dict of the written part -/
def ItkK (ks : List Str) : It := ⟨fun i H => i < ks.length, fun i H x H' => H' = H ∧ ∃ k, ks[i]? = some k ∧ x = .str k, fun i H => ks.length ≤ i⟩
structure KKeys (K : PySem.W.Frag) (d : Addr) (ks : List Str) : Prop where
  ex : ∃ (es : Array DictEntry) (ep : Nat), K.lookup d = some ⟨.type "dict", none, .dict es ep, #[]⟩ ∧ (d == sysModules) = false ∧ es.size = ks.length ∧ ∀ (i : Nat) (k : Str), ks[i]? = some k → ∃ (en : DictEntry) (t : Tok), es[i]? = some en ∧ en.key = .str k t
theorem turn_kkeys {P : Program} {w : World} {K : PySem.W.Frag} {tg : Expr} {d : Addr} {es : Array DictEntry} {ep : Nat} {ks : List Str} (it : Addr) (hl : K.lookup d = some ⟨.type "dict", none, .dict es ep, #[]⟩) (hz : es.size = ks.length)
    (hk : ∀ (i : Nat) (k : Str), ks[i]? = some k → ∃ (en : DictEntry) (t : Tok), es[i]? = some en ∧ en.key = .str k t) : Turn P w K tg (ItkK ks) [it] it (fun i h => h.IsKeyIter it d i ks.length ep) where
  mem := by simp
  obj := fun i h st b hb => by
    have e : b = it := by simpa using hb
    subst e
    obtain ⟨oi, e, c, dd⟩ := st
    exact ⟨oi, e, fun v z => by rw [dd] at z; cases z⟩
  keep := fun i h h' st k => st.at fun oi e => k it (by simp) oi e
  item := by
    intro X hP hw hK hc i pins s σ H E I hf st hg
    subst hP hw hK
    obtain ⟨f0, f1, f2, f3, f4, f5⟩ := hf it (by simp)
    obtain ⟨k, ek⟩ : ∃ k, ks[i]? = some k := ⟨ks[i]'hg, List.getElem?_eq_getElem hg⟩
    obtain ⟨en, t, e1, e2⟩ := hk i k ek
    refine next_key_item st (I.kIn _ _ hl) rfl hz e1 fun h' st' sb => ?_
    have I1 : Inv X pins σ H { s with heap := h' } := I.turned (t' := s.toks) (fun b ob hb e => (sb.2 b hb).trans e) f0 f1 f3 f4 f5
    obtain ⟨oi, e, c, dd⟩ := id st'
    refine ⟨en.key, rfl, go_of (s := { s with heap := h' }) e c dd (by decide) ⟨.str k, H, I1, ⟨t, e2⟩, ⟨rfl, k, ek, rfl⟩, st', fun b hb => (hf b hb).1⟩⟩
  done := by
    intro X hP hw hK hc i pins s σ H E I hf st hg
    subst hP hw hK
    obtain ⟨f0, f1, f2, f3, f4, f5⟩ := hf it (by simp)
    exact next_key_end (I.ok.hd hc) st (I.kIn _ _ hl) rfl hz hg fun h' eb => ⟨rfl, I.turned (t' := s.toks) (fun b ob hb e => eb b ob hb e) f0 f1 f3 f4 f5⟩
  self := fun A i s Q E st h => wpAny_pyIter_keyiter st h
def iKKeys (K : PySem.W.Frag) (td : TE) : TI := fun σ H R => td σ H fun x H1 => ∃ d ks, x = .ref d ∧ KKeys K d ks ∧ R (ItkK ks) H1
theorem pi_kkeys {X : Cx} {tg e : Expr} {td : TE} (he : PE X e td) : PI X tg e (iKKeys X.K td) := by
  refine ⟨fun pins s σ H R I h => ?_⟩
  refine thn (he.run pins s σ H _ I h) fun u s1 ⟨x, H1, I1, rx, d, ks, ex, ⟨es, ep, hl, hd, hz, hk⟩, q⟩ => ?_
  subst ex
  obtain rfl : u = Value.ref d := rx
  refine iter_keys hd (I1.kIn _ _ hl) ⟨rfl, rfl, rfl⟩ rfl (pi_one (tk := s1.toks) I1 _ (turn_kkeys _ hl hz hk) ⟨_, Heap.get?_push_size _ rfl, rfl, ?_⟩ q)
  rw [hz] <;> rfl
theorem walk_kkeys {ks : List Str} : Walk (ItkK ks) ks.length (fun _ => True) (fun i H x H' => H' = H ∧ ∃ k, ks[i]? = some k ∧ x = .str k) where
  goes := fun i H hi _ => hi
  stops := fun H _ => Nat.le_refl _
  yields := fun i H x H' hi _ y => y
/-! ### isinstance of the exception that a suite holds -/
def rIsX (K : PySem.W.Frag) (a : Addr) (cls : Value) (d : Option Addr) : List V → Hp → VK → Prop := fun xs H Q => ∃ (C dd : Addr) (fs : List (Str × V)) (c : V) (cv : Value) (b : Bool), xs = [.ref a, c] ∧ cls = .ref C ∧ d = some dd ∧ OxE K C ∧ H dd = some (.xd fs) ∧ (∀ u, RelV c u → u = cv) ∧ PySem.W.kitOne K (.ref C) cv = some b ∧ Q (.bl b) H
theorem call_isX {X : Cx} {a : Addr} {oe : Obj} {cls : Value} {d : Option Addr} {pn : List (Addr × Obj)} (hz : Zc cls d oe) (hf : ∃ vs, oe.data = .fields vs) : CallR (X.suite a ((a, oe) :: pn)) (.builtin "isinstance") (rIsX X.K a cls d) := by
  intro pins s σ H xs us Q I r h
  obtain ⟨C, dd, fs, c, cv, b, rfl, ec, ed, T, ea, hcv, e, q⟩ := h
  subst ec
  subst ed
  cases r with
  | cons rx rr =>
    cases rr with
    | cons rt rr =>
      cases rr
      cases rx
      have ec := hcv _ rt
      subst ec
      obtain ⟨ha, _⟩ := I.pin (a, oe) (List.mem_append_left _ List.mem_cons_self)
      obtain ⟨vs, hd⟩ := hf
      have hx : ObjOk X.prog X.w H s.heap dd (.xd fs) := I.hok dd _ ea
      obtain ⟨mA, hns, hr⟩ := hx
      obtain ⟨od, ho, hl⟩ := lookIn_ns hns
      have J : PySem.W.InstAt s.heap a oe C (some od) := ⟨ha, hz.1, by unfold PySem.W.notCls; rw [hd] <;> rfl, by rw [hz.2]; exact ho⟩
      obtain ⟨cd, hcd, _⟩ := T.cls
      exact PySem.W.kia_one (PySem.W.kitx_exc (by rw [hcd]; rfl) T.ga T.gg T.exC T.ca T.cn T.ct T.cm) I.kIn J e (fun z => nomatch z) fun tk => ⟨.bl b, H, I.kept (t' := tk) fun _ _ z => z, rfl, q⟩

/-- where a class, a def of the top lies -/
def clK (K : PySem.W.Frag) (x : Str) : Addr := match PySem.W.nsIn K mainGlobals x with
  | some (some (.ref C)) => C
  | _ => 0
abbrev fnK (K : PySem.W.Frag) (x : Str) : Addr := clK K x
theorem clK_of {K : PySem.W.Frag} {x : Str} {C : Addr} (h : PySem.W.nsIn K mainGlobals x = some (some (.ref C))) : clK K x = C := by
  unfold clK
  rw [h]
/-- what the written part says of an own error class -/
structure ClsF (K : PySem.W.Frag) (x : Str) (fs bs : List Str) : Prop where
  ox : OxE K (clK K x)
  tk : ∀ f ∈ fs, PySem.W.takerIn K (clK K x) f = some none
  no : ∀ f ∈ fs, PySem.W.findIn K (.ref (clK K x)) f = some none
  kb : ∀ b ∈ bs, PySem.W.kitOne K (.ref (clK K x)) (.ref (clK K b)) = some true
  ex : PySem.W.exmOne K (.ref (clK K x)) (.ref (clK K x)) = some true
theorem fun_inj {K : PySem.W.Frag} {x1 q1 x2 q2 : Str} {s1 s2 : Stmt} {f : Addr} {d1 d2 : FuncData} (F1 : Fun K x1 q1 s1 f d1) (F2 : Fun K x2 q2 s2 f d2) : x1 = x2 := by
  obtain ⟨_, _, _, _, _, _, _, _, _, e1, l1, _⟩ := F1.ex
  obtain ⟨_, _, _, _, _, _, _, _, _, e2, l2, _⟩ := F2.ex
  rw [l1] at l2
  have e : d1 = d2 := by
    cases l2
    rfl
  rw [e1, e2] at e
  exact congrArg FuncData.name e
theorem fnK_ne {K : PySem.W.Frag} {x1 x2 y1 y2 q1 q2 : Str} {s1 s2 : Stmt} {f1 f2 : Addr} {d1 d2 : FuncData} (F1 : Fun K x1 q1 s1 f1 d1) (F2 : Fun K x2 q2 s2 f2 d2) (e1 : f1 = fnK K y1) (e2 : f2 = fnK K y2) (h : x1 ≠ x2) : fnK K y1 ≠ fnK K y2 := fun e => h (fun_inj F1 (by rw [e1, e, ← e2]; exact F2))
theorem look1 (f : Str) (y : V) : [(f, y)].lookup f = some y := by simp [List.lookup]

/-- a call by names within a try -/
def tCallK0S (n : Nat) (sp : Sp) (gV : List V → List V) (E : L2.St → XK) (tk : TA) : TE := fun σ H Q => tk σ H fun zs H2 => zs.length = n ∧ sp (gV zs) H2 Q (E σ)
theorem pe_callK0S {X : Cx} {CX : CXT} {k : Nat} {f : Addr} {fd : FuncData} {ps ks : List Str} {sp : Sp} {E : L2.St → XK} {x : Str} {p pos : Pos} {kws : List Keyword} {tk : TA} {g : List Value → List Value} {gV : List V → List V}
    (F : FnOk X.prog X.w X.K X.mg X.base CX k f fd ps sp) (hr : Room k X.A) (hg : Gl X x) (hm : X.mg x = some (.ref f)) (hk : PySem.W.keepIn X.K (.ref f) = true) (hb : KB0 X.K fd ps ks g gV) (hx : ∀ σ, PassesAt CX X σ (E σ))
    (hkw : PK X kws tk) (hall : (backToKw pos (keywordEach kws X.env)).all (·.1.isSome) = true := by rfl) (hks : (backToKw pos (keywordEach kws X.env)).filterMap (·.1) = ks := by rfl)
    (hdb : (x == ("__debug__" : Str)) = false := by decide)
    (hpl : ((backTo pos (starEach [] X.env)).any (·.1) || (backToKw pos (keywordEach kws X.env)).any (·.1.isNone)) = false := by rfl) :
    PE X (.Call (.Name x p) [] kws pos) (tCallK0S ks.length sp gV E tk) := by
  refine ⟨fun pins s σ H Q I h => ?_⟩
  refine wpAny_Call_Name_kw (ld_glob I hg hm ?_ hdb)
  refine PySem.W.callWith_KW0 (h₀ := X.base) I.ok.mod.kin hk hall (thn (hkw.run pos pins s σ H _ I h) fun ws s2 ⟨zs, H2, I2, rz, l2, q2⟩ => ⟨I2.kIn, ?_⟩) hpl
  rw [hks]
  have r2 := hb.rel rz
  refine wpAny_call (codeAny_mono (F.run X.A X.stack s2 H2 ⟨[], ks.zip ws⟩ (g ws) (gV zs) Q (E σ) hr I2.env0 (hb.to s2 ws (rz.length.symm.trans l2)) r2 q2) fun r s' hq => ?_)
  cases r with
  | error e => exact hx σ pins H2 s2 e s' I2 hq
  | ok fl =>
    cases fl with
    | ret u => exact I2.after hq
    | next => exact False.elim hq
    | brk => exact False.elim hq
    | cont => exact False.elim hq

/-! ### what the top has left -/
structure Txt (K : PySem.W.Frag) (mg : Str → Option Value) (w : World) where
  aFault_init : Addr
  dFault_init : FuncData
  FFault_init : Fun K "__init__" "Fault.__init__" sFault_init aFault_init dFault_init
  bFault_init : Binds K dFault_init PFault_init []
  ahalf_even : Addr
  dhalf_even : FuncData
  Fhalf_even : Fun K "half_even" "half_even" shalf_even ahalf_even dhalf_even
  ghalf_even : mg "half_even" = some (.ref ahalf_even)
  bhalf_even : Binds K dhalf_even Phalf_even []
  afitting : Addr
  dfitting : FuncData
  Ffitting : Fun K "fitting" "fitting" sfitting afitting dfitting
  gfitting : mg "fitting" = some (.ref afitting)
  bfitting : Binds K dfitting Pfitting []
  aread_amount : Addr
  dread_amount : FuncData
  Fread_amount : Fun K "read_amount" "read_amount" sread_amount aread_amount dread_amount
  gread_amount : mg "read_amount" = some (.ref aread_amount)
  bread_amount : Binds K dread_amount Pread_amount []
  aare_figures : Addr
  dare_figures : FuncData
  Fare_figures : Fun K "are_figures" "are_figures" sare_figures aare_figures dare_figures
  gare_figures : mg "are_figures" = some (.ref aare_figures)
  bare_figures : Binds K dare_figures Pare_figures []
  acapital : Addr
  dcapital : FuncData
  Fcapital : Fun K "capital" "capital" scapital acapital dcapital
  gcapital : mg "capital" = some (.ref acapital)
  bcapital : Binds K dcapital Pcapital []
  ais_figure : Addr
  dis_figure : FuncData
  Fis_figure : Fun K "is_figure" "is_figure" sis_figure ais_figure dis_figure
  gis_figure : mg "is_figure" = some (.ref ais_figure)
  bis_figure : Binds K dis_figure Pis_figure []
  ais_letter : Addr
  dis_letter : FuncData
  Fis_letter : Fun K "is_letter" "is_letter" sis_letter ais_letter dis_letter
  gis_letter : mg "is_letter" = some (.ref ais_letter)
  bis_letter : Binds K dis_letter Pis_letter []
  ablanks_end : Addr
  dblanks_end : FuncData
  Fblanks_end : Fun K "blanks_end" "blanks_end" sblanks_end ablanks_end dblanks_end
  gblanks_end : mg "blanks_end" = some (.ref ablanks_end)
  bblanks_end : Binds K dblanks_end Pblanks_end []
  afigures_end : Addr
  dfigures_end : FuncData
  Ffigures_end : Fun K "figures_end" "figures_end" sfigures_end afigures_end dfigures_end
  gfigures_end : mg "figures_end" = some (.ref afigures_end)
  bfigures_end : Binds K dfigures_end Pfigures_end []
  amark_end : Addr
  dmark_end : FuncData
  Fmark_end : Fun K "mark_end" "mark_end" smark_end amark_end dmark_end
  gmark_end : mg "mark_end" = some (.ref amark_end)
  bmark_end : Binds K dmark_end Pmark_end []
  arow_end : Addr
  drow_end : FuncData
  Frow_end : Fun K "row_end" "row_end" srow_end arow_end drow_end
  grow_end : mg "row_end" = some (.ref arow_end)
  brow_end : Binds K drow_end Prow_end []
  acolumn_end : Addr
  dcolumn_end : FuncData
  Fcolumn_end : Fun K "column_end" "column_end" scolumn_end acolumn_end dcolumn_end
  gcolumn_end : mg "column_end" = some (.ref acolumn_end)
  bcolumn_end : Binds K dcolumn_end Pcolumn_end []
  apair_end : Addr
  dpair_end : FuncData
  Fpair_end : Fun K "pair_end" "pair_end" spair_end apair_end dpair_end
  gpair_end : mg "pair_end" = some (.ref apair_end)
  bpair_end : Binds K dpair_end Ppair_end []
  amakes_word : Addr
  dmakes_word : FuncData
  Fmakes_word : Fun K "makes_word" "makes_word" smakes_word amakes_word dmakes_word
  gmakes_word : mg "makes_word" = some (.ref amakes_word)
  bmakes_word : Binds K dmakes_word Pmakes_word []
  aerror_end : Addr
  derror_end : FuncData
  Ferror_end : Fun K "error_end" "error_end" serror_end aerror_end derror_end
  gerror_end : mg "error_end" = some (.ref aerror_end)
  berror_end : Binds K derror_end Perror_end []
  arows_end : Addr
  drows_end : FuncData
  Frows_end : Fun K "rows_end" "rows_end" srows_end arows_end drows_end
  grows_end : mg "rows_end" = some (.ref arows_end)
  brows_end : Binds K drows_end Prows_end []
  anumber_end : Addr
  dnumber_end : FuncData
  Fnumber_end : Fun K "number_end" "number_end" snumber_end anumber_end dnumber_end
  gnumber_end : mg "number_end" = some (.ref anumber_end)
  bnumber_end : Binds K dnumber_end Pnumber_end []
  acell_end : Addr
  dcell_end : FuncData
  Fcell_end : Fun K "cell_end" "cell_end" scell_end acell_end dcell_end
  gcell_end : mg "cell_end" = some (.ref acell_end)
  bcell_end : Binds K dcell_end Pcell_end []
  acolumns_end : Addr
  dcolumns_end : FuncData
  Fcolumns_end : Fun K "columns_end" "columns_end" scolumns_end acolumns_end dcolumns_end
  gcolumns_end : mg "columns_end" = some (.ref acolumns_end)
  bcolumns_end : Binds K dcolumns_end Pcolumns_end []
  agoes_on_word : Addr
  dgoes_on_word : FuncData
  Fgoes_on_word : Fun K "goes_on_word" "goes_on_word" sgoes_on_word agoes_on_word dgoes_on_word
  ggoes_on_word : mg "goes_on_word" = some (.ref agoes_on_word)
  bgoes_on_word : Binds K dgoes_on_word Pgoes_on_word []
  aword_end : Addr
  dword_end : FuncData
  Fword_end : Fun K "word_end" "word_end" sword_end aword_end dword_end
  gword_end : mg "word_end" = some (.ref aword_end)
  bword_end : Binds K dword_end Pword_end []
  asign_end : Addr
  dsign_end : FuncData
  Fsign_end : Fun K "sign_end" "sign_end" ssign_end asign_end dsign_end
  gsign_end : mg "sign_end" = some (.ref asign_end)
  bsign_end : Binds K dsign_end Psign_end []
  atext_token : Addr
  dtext_token : FuncData
  Ftext_token : Fun K "text_token" "text_token" stext_token atext_token dtext_token
  gtext_token : mg "text_token" = some (.ref atext_token)
  btext_token : Binds K dtext_token Ptext_token []
  ais_at_fault : Addr
  dis_at_fault : FuncData
  Fis_at_fault : Fun K "is_at_fault" "is_at_fault" sis_at_fault ais_at_fault dis_at_fault
  gis_at_fault : mg "is_at_fault" = some (.ref ais_at_fault)
  bis_at_fault : Binds K dis_at_fault Pis_at_fault []
  atoken_at : Addr
  dtoken_at : FuncData
  Ftoken_at : Fun K "token_at" "token_at" stoken_at atoken_at dtoken_at
  gtoken_at : mg "token_at" = some (.ref atoken_at)
  btoken_at : Binds K dtoken_at Ptoken_at []
  atokens : Addr
  dtokens : FuncData
  Ftokens : Fun K "tokens" "tokens" stokens atokens dtokens
  gtokens : mg "tokens" = some (.ref atokens)
  btokens : Binds K dtokens Ptokens []
  a_law_mixed : Addr
  d_law_mixed : FuncData
  F_law_mixed : Fun K "_law_mixed" "_law_mixed" s_law_mixed a_law_mixed d_law_mixed
  g_law_mixed : mg "_law_mixed" = some (.ref a_law_mixed)
  b_law_mixed : Binds K d_law_mixed P_law_mixed []
  a_law_pool : Addr
  d_law_pool : FuncData
  F_law_pool : Fun K "_law_pool" "_law_pool" s_law_pool a_law_pool d_law_pool
  g_law_pool : mg "_law_pool" = some (.ref a_law_pool)
  b_law_pool : Binds K d_law_pool P_law_pool []
  a_law_take : Addr
  d_law_take : FuncData
  F_law_take : Fun K "_law_take" "_law_take" s_law_take a_law_take d_law_take
  g_law_take : mg "_law_take" = some (.ref a_law_take)
  b_law_take : Binds K d_law_take P_law_take []
  a_law_signs : Addr
  d_law_signs : FuncData
  F_law_signs : Fun K "_law_signs" "_law_signs" s_law_signs a_law_signs d_law_signs
  g_law_signs : mg "_law_signs" = some (.ref a_law_signs)
  b_law_signs : Binds K d_law_signs P_law_signs []
  a_law_letters : Addr
  d_law_letters : FuncData
  F_law_letters : Fun K "_law_letters" "_law_letters" s_law_letters a_law_letters d_law_letters
  g_law_letters : mg "_law_letters" = some (.ref a_law_letters)
  b_law_letters : Binds K d_law_letters P_law_letters []
  a_law_stands : Addr
  d_law_stands : FuncData
  F_law_stands : Fun K "_law_stands" "_law_stands" s_law_stands a_law_stands d_law_stands
  g_law_stands : mg "_law_stands" = some (.ref a_law_stands)
  b_law_stands : Binds K d_law_stands P_law_stands []
  a_law_run : Addr
  d_law_run : FuncData
  F_law_run : Fun K "_law_run" "_law_run" s_law_run a_law_run d_law_run
  g_law_run : mg "_law_run" = some (.ref a_law_run)
  b_law_run : Binds K d_law_run P_law_run []
  a_law_dollar : Addr
  d_law_dollar : FuncData
  F_law_dollar : Fun K "_law_dollar" "_law_dollar" s_law_dollar a_law_dollar d_law_dollar
  g_law_dollar : mg "_law_dollar" = some (.ref a_law_dollar)
  b_law_dollar : Binds K d_law_dollar P_law_dollar []
  a_law_row : Addr
  d_law_row : FuncData
  F_law_row : Fun K "_law_row" "_law_row" s_law_row a_law_row d_law_row
  g_law_row : mg "_law_row" = some (.ref a_law_row)
  b_law_row : Binds K d_law_row P_law_row []
  a_law_rows : Addr
  d_law_rows : FuncData
  F_law_rows : Fun K "_law_rows" "_law_rows" s_law_rows a_law_rows d_law_rows
  g_law_rows : mg "_law_rows" = some (.ref a_law_rows)
  b_law_rows : Binds K d_law_rows P_law_rows []
  a_law_cell : Addr
  d_law_cell : FuncData
  F_law_cell : Fun K "_law_cell" "_law_cell" s_law_cell a_law_cell d_law_cell
  g_law_cell : mg "_law_cell" = some (.ref a_law_cell)
  b_law_cell : Binds K d_law_cell P_law_cell []
  a_law_columns : Addr
  d_law_columns : FuncData
  F_law_columns : Fun K "_law_columns" "_law_columns" s_law_columns a_law_columns d_law_columns
  g_law_columns : mg "_law_columns" = some (.ref a_law_columns)
  b_law_columns : Binds K d_law_columns P_law_columns []
  a_law_number : Addr
  d_law_number : FuncData
  F_law_number : Fun K "_law_number" "_law_number" s_law_number a_law_number d_law_number
  g_law_number : mg "_law_number" = some (.ref a_law_number)
  b_law_number : Binds K d_law_number P_law_number []
  a_law_is_amount : Addr
  d_law_is_amount : FuncData
  F_law_is_amount : Fun K "_law_is_amount" "_law_is_amount" s_law_is_amount a_law_is_amount d_law_is_amount
  g_law_is_amount : mg "_law_is_amount" = some (.ref a_law_is_amount)
  b_law_is_amount : Binds K d_law_is_amount P_law_is_amount []
  a_law_error : Addr
  d_law_error : FuncData
  F_law_error : Fun K "_law_error" "_law_error" s_law_error a_law_error d_law_error
  g_law_error : mg "_law_error" = some (.ref a_law_error)
  b_law_error : Binds K d_law_error P_law_error []
  a_law_word : Addr
  d_law_word : FuncData
  F_law_word : Fun K "_law_word" "_law_word" s_law_word a_law_word d_law_word
  g_law_word : mg "_law_word" = some (.ref a_law_word)
  b_law_word : Binds K d_law_word P_law_word []
  a_law_sign : Addr
  d_law_sign : FuncData
  F_law_sign : Fun K "_law_sign" "_law_sign" s_law_sign a_law_sign d_law_sign
  g_law_sign : mg "_law_sign" = some (.ref a_law_sign)
  b_law_sign : Binds K d_law_sign P_law_sign []
  a_law_quoted : Addr
  d_law_quoted : FuncData
  F_law_quoted : Fun K "_law_quoted" "_law_quoted" s_law_quoted a_law_quoted d_law_quoted
  g_law_quoted : mg "_law_quoted" = some (.ref a_law_quoted)
  b_law_quoted : Binds K d_law_quoted P_law_quoted []
  a_law_token : Addr
  d_law_token : FuncData
  F_law_token : Fun K "_law_token" "_law_token" s_law_token a_law_token d_law_token
  g_law_token : mg "_law_token" = some (.ref a_law_token)
  b_law_token : Binds K d_law_token P_law_token []
  a_law_formed : Addr
  d_law_formed : FuncData
  F_law_formed : Fun K "_law_formed" "_law_formed" s_law_formed a_law_formed d_law_formed
  g_law_formed : mg "_law_formed" = some (.ref a_law_formed)
  b_law_formed : Binds K d_law_formed P_law_formed []
  a_law_text_piece : Addr
  d_law_text_piece : FuncData
  F_law_text_piece : Fun K "_law_text_piece" "_law_text_piece" s_law_text_piece a_law_text_piece d_law_text_piece
  g_law_text_piece : mg "_law_text_piece" = some (.ref a_law_text_piece)
  b_law_text_piece : Binds K d_law_text_piece P_law_text_piece []
  a_law_piece : Addr
  d_law_piece : FuncData
  F_law_piece : Fun K "_law_piece" "_law_piece" s_law_piece a_law_piece d_law_piece
  g_law_piece : mg "_law_piece" = some (.ref a_law_piece)
  b_law_piece : Binds K d_law_piece P_law_piece []
  a_law_is_integer : Addr
  d_law_is_integer : FuncData
  F_law_is_integer : Fun K "_law_is_integer" "_law_is_integer" s_law_is_integer a_law_is_integer d_law_is_integer
  g_law_is_integer : mg "_law_is_integer" = some (.ref a_law_is_integer)
  b_law_is_integer : Binds K d_law_is_integer P_law_is_integer []
  a_law_due : Addr
  d_law_due : FuncData
  F_law_due : Fun K "_law_due" "_law_due" s_law_due a_law_due d_law_due
  g_law_due : mg "_law_due" = some (.ref a_law_due)
  b_law_due : Binds K d_law_due P_law_due []
  a_law_same : Addr
  d_law_same : FuncData
  F_law_same : Fun K "_law_same" "_law_same" s_law_same a_law_same d_law_same
  g_law_same : mg "_law_same" = some (.ref a_law_same)
  b_law_same : Binds K d_law_same P_law_same []
  alaw : Addr
  dlaw : FuncData
  Flaw : Fun K "law" "law" slaw alaw dlaw
  glaw : mg "law" = some (.ref alaw)
  blaw : Binds K dlaw Plaw []
  t_GREATEST : Tok
  m_GREATEST : mg "GREATEST" = some (.int 999999999999999999999 t_GREATEST)
  t_FIGURES_AHEAD : Tok
  m_FIGURES_AHEAD : mg "FIGURES_AHEAD" = some (.int 15 t_FIGURES_AHEAD)
  t_FIGURES_BEHIND : Tok
  m_FIGURES_BEHIND : mg "FIGURES_BEHIND" = some (.int 12 t_FIGURES_BEHIND)
  o_ERRORS : Addr
  m_ERRORS : mg "ERRORS" = some (.ref o_ERRORS)
  q_ERRORS : ∀ H, SqT K H o_ERRORS [.str "DIV", .str "VALUE", .str "REF", .str "NAME", .str "NUM", .str "NA", .str "CALC", .str "SIZE", .str "LIMIT", .str "CIRC"]
  t_MOST_SIGNS : Tok
  m_MOST_SIGNS : mg "MOST_SIGNS" = some (.int 64 t_MOST_SIGNS)
  t_LAST_COLUMN : Tok
  m_LAST_COLUMN : mg "LAST_COLUMN" = some (.str "J" t_LAST_COLUMN)
  t_LAST_ROW : Tok
  m_LAST_ROW : mg "LAST_ROW" = some (.int 20 t_LAST_ROW)
  t_MOST_SIGNS_OF_WORD : Tok
  m_MOST_SIGNS_OF_WORD : mg "MOST_SIGNS_OF_WORD" = some (.int 12 t_MOST_SIGNS_OF_WORD)
  o_SIGNS : Addr
  m_SIGNS : mg "SIGNS" = some (.ref o_SIGNS)
  q_SIGNS : ∀ H, SqT K H o_SIGNS [.str "<>", .str "<=", .str ">=", .str "+", .str "-", .str "*", .str "/", .str "^", .str "&", .str "=", .str "<", .str ">", .str "(", .str ")", .str "{", .str "}", .str ",", .str ";", .str ":", .str "!"]
  o_ENDS : Addr
  m_ENDS : mg "ENDS" = some (.ref o_ENDS)
  k_ENDS : KKeys K o_ENDS ["error", "rows", "number", "cell", "columns", "word", "sign"]
  k_ENDS_error : KDct K w o_ENDS "error" (.ref (fnK K "error_end"))
  k_ENDS_rows : KDct K w o_ENDS "rows" (.ref (fnK K "rows_end"))
  k_ENDS_number : KDct K w o_ENDS "number" (.ref (fnK K "number_end"))
  k_ENDS_cell : KDct K w o_ENDS "cell" (.ref (fnK K "cell_end"))
  k_ENDS_columns : KDct K w o_ENDS "columns" (.ref (fnK K "columns_end"))
  k_ENDS_word : KDct K w o_ENDS "word" (.ref (fnK K "word_end"))
  k_ENDS_sign : KDct K w o_ENDS "sign" (.ref (fnK K "sign_end"))
  z_bool : mg "bool" = none
  z_divmod : mg "divmod" = none
  z_int : mg "int" = none
  z_isinstance : mg "isinstance" = none
  z_len : mg "len" = none
  z_list : mg "list" = none
  z_range : mg "range" = none
  z_str : mg "str" = none
  z_tuple : mg "tuple" = none
  gc_WorkError : mg "WorkError" = some (.ref (clK K "WorkError"))
  cs_Fault : ClsF K "Fault" ["at"] ["WorkError"]
  gc_Fault : mg "Fault" = some (.ref (clK K "Fault"))
  i_Fault : PySem.W.findIn K (.ref (clK K "Fault")) "__init__" = some (some (.ref aFault_init))
  ti_Fault : PySem.W.typeIn K (.ref aFault_init) = some (.type "function")
  ev_row_end : arow_end = fnK K "row_end"
  gv_row_end : mg "row_end" = some (.ref (fnK K "row_end"))
  ev_column_end : acolumn_end = fnK K "column_end"
  gv_column_end : mg "column_end" = some (.ref (fnK K "column_end"))
  ev_error_end : aerror_end = fnK K "error_end"
  gv_error_end : mg "error_end" = some (.ref (fnK K "error_end"))
  ev_rows_end : arows_end = fnK K "rows_end"
  gv_rows_end : mg "rows_end" = some (.ref (fnK K "rows_end"))
  ev_number_end : anumber_end = fnK K "number_end"
  gv_number_end : mg "number_end" = some (.ref (fnK K "number_end"))
  ev_cell_end : acell_end = fnK K "cell_end"
  gv_cell_end : mg "cell_end" = some (.ref (fnK K "cell_end"))
  ev_columns_end : acolumns_end = fnK K "columns_end"
  gv_columns_end : mg "columns_end" = some (.ref (fnK K "columns_end"))
  ev_word_end : aword_end = fnK K "word_end"
  gv_word_end : mg "word_end" = some (.ref (fnK K "word_end"))
  ev_sign_end : asign_end = fnK K "sign_end"
  gv_sign_end : mg "sign_end" = some (.ref (fnK K "sign_end"))
/-! ### the mathematics -/
theorem merge2 {G : Prop} {C : Str → Bool → Prop} (R : Str → V → Prop) (tail : ∀ U vb b, vb = V.bl b → C U b → R U vb) (rest : (∀ U vb b, vb = V.bl b → C U b → R U vb) → G) : G := rest tail

/-- an amount, or NUM -/
def lim (n : Int) : V := if -1000000000000000000000 < n ∧ n < 1000000000000000000000 then .int n else .str "NUM"
theorem lim_in {n : Int} (h : -1000000000000000000000 < n ∧ n < 1000000000000000000000) : lim n = .int n := if_pos h
theorem lim_out {n : Int} (h : ¬ (-1000000000000000000000 < n ∧ n < 1000000000000000000000)) : lim n = .str "NUM" := if_neg h
def Flat (x : V) : Prop := (∃ i, x = .int i) ∨ ∃ s, x = .str s
theorem lim_flat (n : Int) : Flat (lim n) := by
  unfold lim
  split
  · exact Or.inl ⟨_, rfl⟩
  · exact Or.inr ⟨_, rfl⟩

/-- the integer nearest to a / b, of two equally near ones the even one -/
def near (a b : Int) : Int := if 2 * (a % b) > b then a / b + 1 else if 2 * (a % b) = b then a / b + a / b % 2 else a / b

theorem atI_some {α : Type} {xs : List α} {i : Int} (h0 : 0 ≤ i) (h1 : i < (xs.length : Int)) : ∃ v, v ∈ xs ∧ atI xs i = some v := by
  obtain ⟨n, rfl⟩ := Int.eq_ofNat_of_zero_le h0
  have h2 : n < xs.length := by omega
  exact ⟨xs[n], List.getElem_mem h2, atI_nat (List.getElem?_eq_getElem h2)⟩
theorem atI_at {α : Type} {xs : List α} {i : Int} {n : Nat} (e : i = (n : Int)) {v : α} (h : xs[n]? = some v) : atI xs i = some v := by
  rw [e]
  exact atI_nat h
theorem sqT_ty {K : PySem.W.Frag} {H : Hp} {p : Addr} {xs : List V} (h : SqT K H p xs) : TyX K H (.ref p) (.type "tuple") := by
  rcases h with (h | ⟨o, h⟩) | ⟨o, its, n, e, c, _⟩
  · exact .base (.tup h)
  · exact .fTuple h
  · exact .kTuple e c
theorem sqL_ty {K : PySem.W.Frag} {H : Hp} {p : Addr} {xs : List V} (h : SqL K H p xs) : TyX K H (.ref p) (.type "list") := by
  rcases h with (h | ⟨o, h⟩) | ⟨o, its, n, e, c, _⟩
  · exact .base (.lst h)
  · exact .base (.frz h)
  · exact .kList e c
/-- isinstance: flat values, tuples, lists -/
theorem call_isiR {X : Cx} : CallR X (.builtin "isinstance") (fun xs H Q => (∃ x n b, xs = [x, .ty n] ∧ isiV x n = some b ∧ Q (.bl b) H) ∨ (∃ p ys n b, xs = [.ref p, .ty n] ∧ SqT X.K H p ys ∧ kitB "tuple" n = some b ∧ Q (.bl b) H) ∨ ∃ p ys n b, xs = [.ref p, .ty n] ∧ SqL X.K H p ys ∧ kitB "list" n = some b ∧ Q (.bl b) H) := by
  intro pins s σ H xs us Q I r h
  rcases h with h | ⟨p, ys, n, b, rfl, hp, e, q⟩ | ⟨p, ys, n, b, rfl, hp, e, q⟩
  · exact call_isiV pins s σ H xs us Q I r h
  · exact call_isi pins s σ H _ us Q I r ⟨_, _, .type "tuple", _, _, rfl, .ty _, sqT_ty hp, kit_ty e, q⟩
  · exact call_isi pins s σ H _ us Q I r ⟨_, _, .type "list", _, _, rfl, .ty _, sqL_ty hp, kit_ty e, q⟩
theorem iteSN {x y : Str} {A B : Prop} (h : x ≠ y) (b : B) : if decide (V.str x = V.str y) = true then A else B := by
  rw [if_neg (fun z => h (V.str.inj (of_decide_eq_true z)))]
  exact b
theorem iteSNn {x y : Str} {A B : Prop} (h : x ≠ y) (a : A) : if (!decide (V.str x = V.str y)) = true then A else B := by
  rw [decide_eq_false (fun z => h (V.str.inj z))]
  exact iteT a
theorem iteSSn {x : Str} {A B : Prop} (b : B) : if (!decide (V.str x = V.str x)) = true then A else B := by
  rw [decide_eq_true rfl]
  exact iteF b
/-- a flat value -/
def Flat3 (x : V) : Prop := (∃ i, x = .int i) ∨ (∃ s, x = .str s) ∨ ∃ b, x = .bl b
/-- the tuples stand as they were -/
def TK (K : PySem.W.Frag) (H H' : Hp) : Prop := ∀ p xs, SqT K H p xs → SqT K H' p xs
theorem TK.refl {K : PySem.W.Frag} {H : Hp} : TK K H H := fun _ _ h => h
theorem TK.trans {K : PySem.W.Frag} {H H1 H2 : Hp} (a : TK K H H1) (b : TK K H1 H2) : TK K H H2 := fun p xs h => b p xs (a p xs h)
theorem same_tk {K : PySem.W.Frag} {H H' : Hp} (e : Same H H') : TK K H H' := by
  intro p xs h
  rcases h with (h | ⟨o, h⟩) | h
  · exact .inl (.inl (e _ _ h))
  · exact .inl (.inr ⟨o, e _ _ h⟩)
  · exact .inr h
theorem but_tk {K : PySem.W.Frag} {H H' : Hp} {b : Addr} {ys : List V} (h : H b = some (.lst ys)) (e : ∀ a o, a ≠ b → H a = some o → H' a = some o) : TK K H H' := by
  intro p xs q
  rcases q with (q | ⟨o, q⟩) | q
  · exact .inl (.inl (e _ _ (ne_of q h (fun z => nomatch z)) q))
  · exact .inl (.inr ⟨o, e _ _ (ne_of q h (fun z => nomatch z)) q⟩)
  · exact .inr q
theorem upd_but {H : Hp} {b : Addr} {u : HO} : ∀ a o, a ≠ b → H a = some o → upd H b u a = some o := fun a o n e => by
  rw [upd_ne n]
  exact e
theorem lst_tk {K : PySem.W.Frag} {H : Hp} {b : Addr} {ys zs : List V} (h : H b = some (.lst ys)) : TK K H (upd H b (.lst zs)) := but_tk h upd_but
theorem same_put {H H' : Hp} {D : Addr} {o : HO} (e : Same H H') (h : H D = none) : Same H (upd H' D o) := fun a x q => by
  rw [upd_ne (ne_of_none q h)]
  exact e _ _ q
/-- likeness, so deep -/
def Al (K : PySem.W.Frag) : Nat → Hp → V → V → Prop
  | 0, _, _, _ => False
  | n + 1, H, x, y => (Flat3 x ∧ x = y) ∨ ∃ (p q : Addr) (xs ys : List V), x = .ref p ∧ y = .ref q ∧ SqT K H p xs ∧ SqT K H q ys ∧ (xs.length = ys.length ∧ ys.length ≤ 5000) ∧ ∀ (k : Nat) (a b : V), xs[k]? = some a → ys[k]? = some b → Al K n H a b
theorem Al.flat {K : PySem.W.Frag} {n : Nat} {H : Hp} {x : V} (h : Flat3 x) : Al K (n + 1) H x x := Or.inl ⟨h, rfl⟩
theorem Al.tup {K : PySem.W.Frag} {n : Nat} {H : Hp} {p q : Addr} {xs : List V} (hl : xs.length ≤ 5000) (hp : SqT K H p xs) (hq : SqT K H q xs) (h : ∀ x ∈ xs, Al K n H x x) : Al K (n + 1) H (.ref p) (.ref q) :=
  Or.inr ⟨p, q, xs, xs, rfl, rfl, hp, hq, ⟨rfl, hl⟩, fun k a b e1 e2 => by
    obtain rfl := Option.some.inj (e1.symm.trans e2)
    exact h _ (List.mem_of_getElem? e1)⟩
/-- a scalar -/
def Sca (K : PySem.W.Frag) (H : Hp) (x : V) : Prop := ∃ p k rest, x = .ref p ∧ SqT K H p (.str k :: rest) ∧ k ≠ ("array" : Str) ∧ rest.length ≤ 20 ∧ ∀ y ∈ rest, Flat3 y
theorem Sca.keep {K : PySem.W.Frag} {H H' : Hp} {x : V} (e : TK K H H') (h : Sca K H x) : Sca K H' x := by
  obtain ⟨p, k, rest, rfl, a, b, c⟩ := h
  exact ⟨p, k, rest, rfl, e _ _ a, b, c⟩
theorem Sca.al {K : PySem.W.Frag} {H : Hp} {x : V} (n : Nat) (h : Sca K H x) : Al K (n + 2) H x x := by
  obtain ⟨p, k, rest, rfl, a, b, l, c⟩ := h
  refine Al.tup (by rw [List.length_cons]; omega) a a fun y hy => Al.flat ?_
  rcases List.mem_cons.mp hy with rfl | hy
  · exact Or.inr (Or.inl ⟨_, rfl⟩)
  · exact c y hy
theorem sca1 {K : PySem.W.Frag} {H : Hp} {p : Addr} {k : Str} (h : k ≠ ("array" : Str)) : Sca K (upd H p (.tup [.str k])) (.ref p) := ⟨p, k, [], rfl, SqT.of upd_same, h, by decide, fun y hy => by cases hy⟩
theorem sca2 {K : PySem.W.Frag} {H : Hp} {p : Addr} {k : Str} {x : V} (h : k ≠ ("array" : Str)) (hx : Flat3 x) : Sca K (upd H p (.tup [.str k, x])) (.ref p) := ⟨p, k, [x], rfl, SqT.of upd_same, h, (show 1 ≤ 20 by decide), fun y hy => by
  rcases List.mem_cons.mp hy with rfl | hy
  · exact hx
  · cases hy⟩
/-- all the signs -/
def SG : Str := (" !\"#$&'()*+,-./0123456789:;<=>?@ABCDEFGHIJKLMNOPQRSTUVWXYZ[\\]^_`" : Str) ++ ("abcdefghijklmnopqrstuvwxyz{|}~" : Str)
theorem sg_len : SG.cps.toList.length = 94 := by decide +kernel
theorem sg_line : SG.length ≤ sizeLine := by decide +kernel
theorem sg_at {n : Int} (h0 : 0 ≤ n) (h1 : n < 94) : ∃ c, atI SG.cps.toList n = some c := by
  obtain ⟨c, _, e⟩ := atI_some (xs := SG.cps.toList) h0 (by rw [sg_len]; exact h1)
  exact ⟨c, e⟩
theorem ones_sum : ∀ (zs : List Str), (∀ z ∈ zs, z.length = 1) → (zs.map (·.length)).sum = zs.length
  | [], _ => rfl
  | z :: zs, h => by
    rw [List.map_cons, List.sum_cons, ones_sum zs (fun y hy => h y (List.mem_cons_of_mem _ hy)), h z (List.mem_cons_self ..), List.length_cons]
    omega
theorem ones_join {zs : List Str} (h : ∀ z ∈ zs, z.length = 1) (hl : zs.length ≤ 1000) : (zs.map (·.length)).sum + zs.length * ("" : Str).length ≤ 16777216 := by
  rw [ones_sum zs h, show ("" : Str).length = 0 from by decide +kernel]
  omega
/-- the box of draws -/
def BoxAt (b : Addr) (H : Hp) : Prop := ∃ c d z : Int, H b = some (.lst [.int c, .int d, .int z])
def Bx (b : Addr) (H H' : Hp) : Prop := (∀ a o, a ≠ b → H a = some o → H' a = some o) ∧ BoxAt b H'
theorem Bx.refl {b : Addr} {H : Hp} (h : BoxAt b H) : Bx b H H := ⟨fun _ _ _ e => e, h⟩
theorem Bx.trans {b : Addr} {H H1 H2 : Hp} (x : Bx b H H1) (y : Bx b H1 H2) : Bx b H H2 := ⟨fun a o n e => y.1 a o n (x.1 a o n e), y.2⟩
theorem Bx.bat {b : Addr} {H H1 : Hp} (x : Bx b H H1) : BoxAt b H1 := x.2
theorem BoxAt.ne {b p : Addr} {H : Hp} (x : BoxAt b H) (h : H p = none) : b ≠ p := by
  obtain ⟨c, d, z, e⟩ := x
  exact ne_of_none e h
theorem BoxAt.new {b p : Addr} {H : Hp} {o : HO} (x : BoxAt b H) (h : H p = none) : BoxAt b (upd H p o) := by
  have n := x.ne h
  obtain ⟨c, d, z, e⟩ := x
  exact ⟨c, d, z, by rw [upd_ne n]; exact e⟩
theorem Bx.same {b : Addr} {H H1 H2 : Hp} (x : Bx b H H1) (y : Same H1 H2) : Bx b H H2 := by
  obtain ⟨x1, c, d, z, e⟩ := x
  exact ⟨fun a o n e => y _ _ (x1 a o n e), c, d, z, y _ _ e⟩
theorem Bx.new {b p : Addr} {H H1 : Hp} {o : HO} (x : Bx b H H1) (h : H1 p = none) : Bx b H (upd H1 p o) := x.same (same_upd h)
theorem Bx.put {b : Addr} {H H1 : Hp} {c d z : Int} (x : Bx b H H1) : Bx b H (upd H1 b (.lst [.int c, .int d, .int z])) := ⟨fun a o n e => by
  rw [upd_ne n]
  exact x.1 a o n e, c, d, z, upd_same⟩
theorem Bx.tk {K : PySem.W.Frag} {b : Addr} {H H1 : Hp} (x : Bx b H H1) (h : BoxAt b H) : TK K H H1 := by
  obtain ⟨c, d, z, e⟩ := h
  exact but_tk e x.1
/-- a new list beside the box, longer by one -/
theorem Bx.more {b D : Addr} {H0 H : Hp} {o : HO} (x : Bx b H0 H) (hD : H0 D = none) (n : b ≠ D) : Bx b H0 (upd H D o) := by
  obtain ⟨x1, c, d, z, e⟩ := x
  refine ⟨fun a o m q => ?_, c, d, z, by rw [upd_ne n]; exact e⟩
  rw [upd_ne (ne_of_none q hD)]
  exact x1 a o m q
theorem Bx.back {b D : Addr} {H0 H : Hp} (x : Bx b H0 H) (h : BoxAt b H0) (hD : H D = none) : H0 D = none ∧ b ≠ D := by
  have n := x.2.ne hD
  refine ⟨?_, n⟩
  cases q : H0 D with
  | none => rfl
  | some o =>
    rw [x.1 D o (Ne.symm n) q] at hD
    cases hD

open TL SX NumText
/-- z * n -/
def repS (z : Str) (n : Nat) : Str := S (List.replicate n (tl z)).flatten
theorem foldl_cat (a : Array Nat) : ∀ (n : Nat) (b : Array Nat), ((List.replicate n a).foldl (· ++ ·) b).toList = b.toList ++ (List.replicate n a.toList).flatten
  | 0, b => by simp
  | n + 1, b => by
    rw [List.replicate_succ, List.foldl_cons, foldl_cat a n, List.replicate_succ, List.flatten_cons, Array.toList_append, List.append_assoc]
theorem rep_len (l : List Nat) : ∀ n : Nat, (List.replicate n l).flatten.length = l.length * n
  | 0 => rfl
  | n + 1 => by
    rw [List.replicate_succ, List.flatten_cons, List.length_append, rep_len l n, Nat.mul_succ, Nat.add_comm]
theorem repS_len (z : Str) (n : Nat) : (repS z n).length = z.length * n := by
  rw [len_tl, len_tl]
  exact rep_len (tl z) n
theorem op_repS {X : Cx} : OpR X (binaryOp .Mult) (fun x y H Q => ∃ (z : Str) (k : Int), x = .str z ∧ y = .int k ∧ ((-1000000 ≤ k ∧ k ≤ 1000000) ∧ z.length ≤ 16) ∧ Q (.str (repS z k.toNat)) H) := by
  intro pins s σ H x y v u Q I rx ry h
  obtain ⟨z, k, rfl, rfl, ⟨⟨h1, h2⟩, h3⟩, q⟩ := h
  obtain ⟨t, rfl⟩ := rx
  obtain ⟨t', rfl⟩ := ry
  have h4 : z.length * k.toNat ≤ 16 * 1000000 := Nat.mul_le_mul h3 (by omega)
  refine PySem.P.mul_str ?_ (fun a _ => ?_) (fun a _ => ?_) ?_
  · rw [decide_eq_false (by omega), decide_eq_false (by omega)]
    rfl
  · have b : (z.length : Int) ≤ (2 ^ 63 - 1) / k := by
      rw [Int.le_ediv_iff_mul_le (by omega)]
      have c : (z.length : Int) * k ≤ 16 * 1000000 := Int.mul_le_mul (by omega) h2 (by omega) (by decide)
      omega
    omega
  · show decide (_ > sizeLine) = false
    rw [sizeLine_eq]
    exact decide_eq_false (by omega)
  · by_cases a : k < 1
    · rw [if_pos a]
      have e : repS z k.toNat = Str.empty := by
        rw [show k.toNat = 0 by omega]
        rfl
      rw [e] at q
      exact ⟨by decide, .str _, H, I.tok _, ⟨_, rfl⟩, q⟩
    · rw [if_neg a]
      by_cases b : (k == 1 || z.length == 0) = true
      · rw [if_pos b]
        have e : repS z k.toNat = z := by
          refine ext_tl ?_
          show (List.replicate k.toNat (tl z)).flatten = tl z
          rcases Bool.or_eq_true_iff.mp b with c | c
          · rw [show k.toNat = 1 by have := eq_of_beq c; omega]
            simp
          · have c2 : tl z = [] := List.eq_nil_of_length_eq_zero (by rw [← len_tl]; exact eq_of_beq c)
            rw [c2]
            exact List.eq_nil_of_length_eq_zero (by rw [rep_len]; exact Nat.zero_mul _)
        rw [e] at q
        exact ⟨.str _, H, I, ⟨_, rfl⟩, q⟩
      · rw [if_neg b]
        have e : (⟨(List.replicate k.toNat z.cps).foldl (· ++ ·) #[]⟩ : Str) = repS z k.toNat := ext_tl (by
          show ((List.replicate k.toNat z.cps).foldl (· ++ ·) #[]).toList = (List.replicate k.toNat (tl z)).flatten
          rw [foldl_cat]
          rfl)
        rw [e]
        refine ⟨?_, .str _, H, I.tok _, ⟨_, rfl⟩, q⟩
        rw [repS_len, sizeLine_eq]
        omega
theorem one_of {z : Str} {c : Nat} (h : tl z = [c]) : z = ⟨#[c]⟩ := ext_tl h
theorem mt_ljustF {X : Cx} : MtR X "str.ljust" (fun x xs H Q => ∃ (a f : Str) (i : Int) (c : Nat), x = .str a ∧ xs = [.int i, .str f] ∧ tl f = [c] ∧ PadOk i = true ∧ Q (.str (Txt.ljustF a i c)) H) := by
  intro pins s σ H x xs v us Q I rx rs h
  obtain ⟨a, f, i, c, rfl, rfl, hf, hc, h⟩ := h
  obtain rfl := one_of hf
  obtain ⟨t, rfl⟩ := rx
  cases rs with
  | cons r1 rs =>
    cases rs with
    | cons r2 rs =>
      cases rs
      obtain ⟨u, rfl⟩ := r1
      obtain ⟨z, rfl⟩ := r2
      exact ljust_fill hc rfl fun t' k => ⟨.str _, H, I.tok k, ⟨_, rfl⟩, h⟩
def isD (c : Nat) : Bool := decide (48 ≤ c) && decide (c ≤ 57)
theorem digit_ascii : ∀ c : Nat, c < 128 → Unicode.isDigit c = isD c := by decide +kernel
/-- as many figures, no other sign -/
def figs (l : List Nat) (most : Int) : Bool := l.all isD && decide (1 ≤ l.length) && decide ((l.length : Int) ≤ most)
theorem isD_iff {c : Nat} : isD c = true ↔ 48 ≤ c ∧ c ≤ 57 := by
  unfold isD
  rw [Bool.and_eq_true, decide_eq_true_eq, decide_eq_true_eq]
theorem all_digits {l : List Nat} (h : l.all isD = true) : AllDigits l := fun c hc => isD_iff.mp (List.all_eq_true.mp h c hc)
theorem digits_all {l : List Nat} (h : AllDigits l) : l.all isD = true := List.all_eq_true.mpr fun c hc => isD_iff.mpr (h c hc)
theorem figs_code (z : Str) (most : Int) : (Txt.isascii z && (Txt.isdigit z && decide ((z.length : Int) ≤ most))) = figs (tl z) most := by
  unfold Txt.isascii Txt.isdigit figs
  rw [← Array.all_toList, ← Array.all_toList, ← len_tl]
  have e : ((tl z).all (· < 128) && (tl z).all Unicode.isDigit) = (tl z).all isD := by
    cases h : (tl z).all (· < 128) with
    | true =>
      rw [Bool.true_and]
      refine Bool.eq_iff_iff.mpr ⟨fun k => List.all_eq_true.mpr fun c hc => ?_, fun k => List.all_eq_true.mpr fun c hc => ?_⟩
      · rw [← digit_ascii c (of_decide_eq_true (List.all_eq_true.mp h c hc))]
        exact List.all_eq_true.mp k c hc
      · rw [digit_ascii c (of_decide_eq_true (List.all_eq_true.mp h c hc))]
        exact List.all_eq_true.mp k c hc
    | false =>
      rw [Bool.false_and]
      refine (Bool.eq_false_iff.mpr fun k => ?_).symm
      refine (Bool.eq_false_iff.mp h) (List.all_eq_true.mpr fun c hc => decide_eq_true ?_)
      have := isD_iff.mp (List.all_eq_true.mp k c hc)
      omega
  rw [← e]
  have e2 : decide (z.length > 0) = decide (1 ≤ z.length) := rfl
  rw [e2]
  cases (tl z).all (· < 128) <;> cases (tl z).all Unicode.isDigit <;> cases decide (1 ≤ z.length) <;> cases decide ((z.length : Int) ≤ most) <;> rfl

theorem str_empty : Str.empty = S [] := rfl
theorem e_none : (Str.ofString "") = S [] := by decide +kernel
theorem e_zero : (Str.ofString "0") = S [48] := by decide +kernel
theorem e_minus : (Str.ofString "-") = S [45] := by decide +kernel
theorem e_plus : (Str.ofString "+") = S [43] := by decide +kernel
theorem e_dot : (Str.ofString ".") = S [46] := by decide +kernel
theorem e_blank : (Str.ofString " ") = S [32] := by decide +kernel
theorem starts_S (l : List Nat) (c : Nat) : Txt.startswith (S l) (S [c]) = decide (l.head? = some c) := by
  unfold Txt.startswith Builtin.Str.subAt
  cases l with
  | nil => rfl
  | cons a l =>
    have h1 : (S (a :: l)).length = l.length + 1 := S_len (a :: l)
    have h2 : (S [c]).length = 1 := S_len [c]
    rw [h1, h2, decide_eq_true (show 0 + 1 ≤ l.length + 1 by omega), Bool.true_and]
    have e : (S (a :: l)).cps.extract 0 (0 + 1) = #[a] := Array.toList_inj.mp (by rw [Array.toList_extract]; rfl)
    rw [e]
    by_cases k : a = c
    · rw [k]
      simp
    · have k2 : (#[a] == (S [c]).cps) = false := by
        refine beq_eq_false_iff_ne.mpr fun z => k ?_
        have z2 := congrArg Array.toList z
        exact (List.cons.inj z2).1
      rw [k2]
      exact (decide_eq_false (fun z => k (Option.some.inj z))).symm
theorem cut_one (l : List Nat) : cutS (S l) (some 1) none = S (l.drop 1) := by
  have h1 : (S l).length = l.length := S_len l
  unfold cutS
  rw [h1, show HT.sIx l.length 0 (some 1) = min 1 l.length from HT.sIx_nat l.length 0 1, HT.sIx_none]
  refine congrArg S ?_
  show (l.drop (min 1 l.length)).take (l.length - min 1 l.length) = l.drop 1
  cases l with
  | nil => rfl
  | cons a l =>
    rw [List.length_cons, Nat.min_eq_left (by omega), List.drop_one, List.tail_cons]
    exact List.take_of_length_le (by omega)
theorem cut_head (l : List Nat) : cutS (S l) none (some 1) = S (l.take 1) := by
  have h1 : (S l).length = l.length := S_len l
  unfold cutS
  rw [h1, show HT.sIx l.length l.length (some 1) = min 1 l.length from HT.sIx_nat l.length l.length 1, HT.sIx_none]
  refine congrArg S ?_
  show (l.drop 0).take (min 1 l.length - 0) = l.take 1
  cases l with
  | nil => rfl
  | cons a l => rw [List.length_cons, Nat.min_eq_left (by omega)]; rfl
theorem head_starts (u : Str) (c : Nat) : decide (V.str (cutS u none (some 1)) = V.str (S [c])) = Txt.startswith u (S [c]) := by
  rw [← S_tl u]
  generalize u.cps.toList = l
  rw [cut_head, starts_S]
  refine decide_eq_decide.mpr ⟨fun h => ?_, fun h => ?_⟩
  · have k := S_inj (V.str.inj h)
    cases l with
    | nil => cases k
    | cons a l => rw [(List.cons.inj k).1]; rfl
  · cases l with
    | nil => cases h
    | cons a l => rw [← Option.some.inj h]; rfl
theorem tw_none {p : Nat → Bool} {l : List Nat} (h : ∀ c ∈ l, p c = false) : l.takeWhile p = [] := by
  cases l with
  | nil => rfl
  | cons a l => rw [List.takeWhile_cons, h a (List.mem_cons_self ..)]; rfl
theorem strip_free {l : List Nat} {c : Nat} (h : c ∉ l) : Txt.stripChars (S l) (S [c]) = S l := by
  have hp : ∀ d ∈ l, (S [c]).cps.contains d = false := fun d hd => by
    cases k : (S [c]).cps.contains d with
    | false => rfl
    | true =>
      have e : d = c := by simpa [S] using k
      rw [e] at hd
      exact absurd hd h
  unfold Txt.stripChars
  rw [stripBy_eq]
  have lo : stripLo (S [c]).cps.contains true (S l) = 0 := by
    show (l.takeWhile _).length = 0
    rw [tw_none hp]
    rfl
  have hi : stripHi (S [c]).cps.contains true (S l) 0 = l.length := by
    show (S l).length - ((l.drop 0).reverse.takeWhile _).length = l.length
    rw [List.drop_zero, tw_none (fun d hd => hp d (List.mem_reverse.mp hd)), S_len]
    rfl
  rw [lo, hi]
  refine ext_tl ?_
  rw [tl_strSub]
  exact List.take_of_length_le (Nat.le_refl _)
/-- without noughts at the end -/
def zt (l : List Nat) : List Nat := l.take (l.length - (l.reverse.takeWhile (· == 48)).length)
theorem rstrip_S (l : List Nat) : Txt.rstripChars (S l) (S [48]) = S (zt l) := by
  unfold Txt.rstripChars
  rw [stripBy_eq]
  have hp : ((S [48]).cps.contains : Nat → Bool) = (· == 48) := by
    funext d
    rw [Bool.eq_iff_iff]
    simp [S]
  rw [hp]
  have lo : stripLo (· == 48) false (S l) = 0 := rfl
  have hi : stripHi (· == 48) true (S l) 0 = l.length - (l.reverse.takeWhile (· == 48)).length := by
    show (S l).length - ((l.drop 0).reverse.takeWhile _).length = _
    rw [S_len]
    rfl
  rw [lo, hi]
  refine ext_tl ?_
  rw [tl_strSub]
  rfl
theorem tw_all {p : Nat → Bool} : ∀ l : List Nat, ∀ c ∈ l.takeWhile p, p c = true
  | [], c, h => by cases h
  | a :: l, c, h => by
    rw [List.takeWhile_cons] at h
    cases e : p a with
    | true =>
      rw [e] at h
      rcases List.mem_cons.mp h with rfl | h
      · exact e
      · exact tw_all l c h
    | false => rw [e] at h; cases h
theorem zt_back (l : List Nat) : l = zt l ++ List.replicate (l.length - (zt l).length) 48 := by
  have h1 : (l.reverse.takeWhile (· == 48)).length ≤ l.length := by
    have a := (List.takeWhile_sublist (l := l.reverse) (· == 48)).length_le
    rw [List.length_reverse] at a
    exact a
  have h2 : (zt l).length = l.length - (l.reverse.takeWhile (· == 48)).length := by
    unfold zt
    rw [List.length_take]
    omega
  have h3 : l.drop (l.length - (l.reverse.takeWhile (· == 48)).length) = (l.reverse.takeWhile (· == 48)).reverse := by
    have a := List.takeWhile_append_dropWhile (p := (· == 48)) (l := l.reverse)
    have b := congrArg List.reverse a
    rw [List.reverse_append, List.reverse_reverse] at b
    conv => lhs; arg 2; rw [← b]
    rw [List.drop_append, List.drop_of_length_le, List.nil_append]
    · have c : l.length - (l.reverse.takeWhile (· == 48)).length - ((l.reverse.dropWhile (· == 48)).reverse).length = 0 := by
        have d := congrArg List.length b
        rw [List.length_append, List.length_reverse, List.length_reverse] at d
        rw [List.length_reverse]
        omega
      rw [c]
      rfl
    · have d := congrArg List.length b
      rw [List.length_append, List.length_reverse, List.length_reverse] at d
      rw [List.length_reverse]
      omega
  have h4 : (l.reverse.takeWhile (· == 48)).reverse = List.replicate (l.length - (zt l).length) 48 := by
    refine List.eq_replicate_iff.mpr ⟨?_, fun c hc => ?_⟩
    · rw [List.length_reverse, h2]
      omega
    · exact eq_of_beq (tw_all _ c (List.mem_reverse.mp hc))
  conv => lhs; rw [← List.take_append_drop (l.length - (l.reverse.takeWhile (· == 48)).length) l]
  rw [h3, h4]
  rfl
/-- six figures -/
def pad6 (r : Nat) : List Nat := [48 + r / 100000 % 10, 48 + r / 10000 % 10, 48 + r / 1000 % 10, 48 + r / 100 % 10, 48 + r / 10 % 10, 48 + r % 10]
theorem num_mill {r : Nat} (h : r < 1000000) : numL (1000000 + r) = 49 :: pad6 r := by
  rw [numL_step (by omega), numL_step (by omega), numL_step (by omega), numL_step (by omega), numL_step (by omega), numL_step (by omega), numL_lt (by omega)]
  unfold pad6
  simp only [List.cons_append, List.nil_append, List.append_assoc, List.cons.injEq, and_true]
  omega
theorem zfill_six {r : Nat} (h : r < 1000000) : Txt.zfill (S (numL r)) 6 = S (pad6 r) := by
  have hd := numL_digits r
  unfold Txt.zfill
  rw [S_len]
  have z : ∀ k, zfilled (S (numL r)) k = S (List.replicate k 48 ++ numL r) := fun k => by
    have e : zfilled (S (numL r)) k = Builtin.Str.padded (S (numL r)) k 0 48 := by
      unfold zfilled
      split
      · rename_i q
        have m := hd 43 (by have := List.mem_of_getElem? (l := numL r) (i := 0) (by simpa [S] using q); exact this)
        omega
      · rename_i q
        have m := hd 45 (by have := List.mem_of_getElem? (l := numL r) (i := 0) (by simpa [S] using q); exact this)
        omega
      · rfl
    rw [e]
    refine ext_tl ?_
    show (Array.replicate k 48 ++ (S (numL r)).cps ++ Array.replicate 0 48).toList = _
    simp [S]
  have fin : ∀ k l, numL r = l → l.length + k = 6 → List.replicate k 48 ++ l = pad6 r → (if (6 : Int) ≤ ((numL r).length : Int) then S (numL r) else zfilled (S (numL r)) ((6 : Int).toNat - (numL r).length)) = S (pad6 r) := fun k l e1 e2 e3 => by
    have e4 : (numL r).length = l.length := congrArg List.length e1
    by_cases c : (6 : Int) ≤ ((numL r).length : Int)
    · rw [if_pos c, ← e3, e1, show k = 0 by omega]
      rfl
    · rw [if_neg c, z, show (6 : Int).toNat - (numL r).length = k by omega, e1, e3]
  by_cases h1 : r < 10
  · refine fin 5 [48 + r] (numL_lt h1) rfl ?_
    simp only [pad6, List.replicate, List.cons_append, List.nil_append, List.cons.injEq, and_true]
    omega
  by_cases h2 : r < 100
  · refine fin 4 [48 + r / 10, 48 + r % 10] (by rw [numL_step (by omega), numL_lt (by omega)]; rfl) rfl ?_
    simp only [pad6, List.replicate, List.cons_append, List.nil_append, List.cons.injEq, and_true]
    omega
  by_cases h3 : r < 1000
  · refine fin 3 [48 + r / 10 / 10, 48 + r / 10 % 10, 48 + r % 10] (by rw [numL_step (by omega), numL_step (by omega), numL_lt (by omega)]; rfl) rfl ?_
    simp only [pad6, List.replicate, List.cons_append, List.nil_append, List.cons.injEq, and_true]
    omega
  by_cases h4 : r < 10000
  · refine fin 2 [48 + r / 10 / 10 / 10, 48 + r / 10 / 10 % 10, 48 + r / 10 % 10, 48 + r % 10] (by rw [numL_step (by omega), numL_step (by omega), numL_step (by omega), numL_lt (by omega)]; rfl) rfl ?_
    simp only [pad6, List.replicate, List.cons_append, List.nil_append, List.cons.injEq, and_true]
    omega
  by_cases h5 : r < 100000
  · refine fin 1 [48 + r / 10 / 10 / 10 / 10, 48 + r / 10 / 10 / 10 % 10, 48 + r / 10 / 10 % 10, 48 + r / 10 % 10, 48 + r % 10] (by rw [numL_step (by omega), numL_step (by omega), numL_step (by omega), numL_step (by omega), numL_lt (by omega)]; rfl) rfl ?_
    simp only [pad6, List.replicate, List.cons_append, List.nil_append, List.cons.injEq, and_true]
    omega
  · refine fin 0 [48 + r / 10 / 10 / 10 / 10 / 10, 48 + r / 10 / 10 / 10 / 10 % 10, 48 + r / 10 / 10 / 10 % 10, 48 + r / 10 / 10 % 10, 48 + r / 10 % 10, 48 + r % 10] (by rw [numL_step (by omega), numL_step (by omega), numL_step (by omega), numL_step (by omega), numL_step (by omega), numL_lt (by omega)]; rfl) rfl ?_
    simp only [pad6, List.replicate, List.cons_append, List.nil_append, List.cons.injEq, and_true]
    omega
theorem pad6_digits (r : Nat) : AllDigits (pad6 r) := fun c hc => by
  simp only [pad6, List.mem_cons, List.not_mem_nil, or_false] at hc
  omega
theorem val_app (a b : List Nat) : digitsVal (a ++ b) = digitsVal a * 10 ^ b.length + digitsVal b := by
  have key : ∀ (b : List Nat) (s : Nat), b.foldl (fun acc c => acc * 10 + (c - 48)) s = s * 10 ^ b.length + b.foldl (fun acc c => acc * 10 + (c - 48)) 0 := by
    intro b
    induction b with
    | nil => intro s; simp
    | cons c b ih =>
      intro s
      rw [List.foldl_cons, List.foldl_cons, ih, ih (0 * 10 + (c - 48)), List.length_cons, Nat.pow_succ, Nat.add_mul, Nat.zero_mul, Nat.zero_add, Nat.mul_assoc, Nat.mul_comm 10, Nat.add_assoc]
  unfold digitsVal
  rw [List.foldl_append, key]
theorem val_pad6 {r : Nat} (h : r < 1000000) : digitsVal (pad6 r) = r := by
  simp only [digitsVal, pad6, List.foldl_cons, List.foldl_nil]
  omega
theorem val_noughts : ∀ n : Nat, digitsVal (List.replicate n 48) = 0
  | 0 => rfl
  | n + 1 => by
    rw [List.replicate_succ']
    rw [val_app, val_noughts n]
    rfl

/-- the signs of an amount -/
def showL (m : Int) : List Nat := (if m < 0 then [45] else []) ++ (numL (m.natAbs / 1000000) ++ (if m.natAbs % 1000000 = 0 then [] else 46 :: zt (pad6 (m.natAbs % 1000000))))
def readN (neg : Bool) (s : Int) : V := if 1000000000000000000000 ≤ s then .non else .int (if neg = true then -s else s)
def readP (neg : Bool) (P : Str × Str × Str) : V :=
  if figs (tl P.1) 15 = false then .non
  else if P.2.1 ≠ Str.empty ∧ figs (tl P.2.2) 12 = false then .non
  else readN neg (near (digitsVal (tl P.1 ++ tl P.2.2 ++ List.replicate (12 - (tl P.2.2).length) 48) : Nat) 1000000)
def unS (u : Str) : Str := if Txt.startswith u (S [45]) = true ∨ Txt.startswith u (S [43]) = true then cutS u (some 1) none else u
/-- the amount that a text tells, or none -/
def readV (z : Str) : V := readP (Txt.startswith (Txt.stripChars z (S [32])) (S [45])) (Txt.partition (unS (Txt.stripChars z (S [32]))) (S [46]))
theorem part_cases (u : Str) : (Txt.partition u (S [46])).2.1 = S [46] ∨ ((Txt.partition u (S [46])).2.1 = Str.empty ∧ (Txt.partition u (S [46])).2.2 = Str.empty) := by
  unfold Txt.partition
  split
  · exact Or.inl rfl
  · exact Or.inr ⟨rfl, rfl⟩
theorem near_exact (k : Int) : near (k * 1000000) 1000000 = k := by
  unfold near
  (repeat' split) <;> omega
theorem zt_sub {l : List Nat} {c : Nat} (h : c ∈ zt l) : c ∈ l := List.mem_of_mem_take h
theorem zt_len (l : List Nat) : (zt l).length ≤ l.length := by
  unfold zt
  rw [List.length_take]
  omega
theorem zt_ne {r : Nat} (h : r < 1000000) (h0 : r ≠ 0) : zt (pad6 r) ≠ [] := fun e => by
  have b := zt_back (pad6 r)
  rw [e, List.nil_append] at b
  have v := val_pad6 h
  rw [b, val_noughts] at v
  exact h0 v.symm
theorem figs_ok {l : List Nat} {k : Nat} (hd : AllDigits l) (h1 : l ≠ []) (h2 : l.length ≤ k) : figs l (k : Int) = true := by
  have h3 : 1 ≤ l.length := by
    cases l with
    | nil => exact absurd rfl h1
    | cons a l => exact Nat.succ_le_succ (Nat.zero_le _)
  unfold figs
  rw [digits_all hd, decide_eq_true h3, decide_eq_true (show (l.length : Int) ≤ (k : Int) by omega)]
  rfl
theorem head_num (w : Nat) : ∃ d l, numL w = d :: l ∧ 48 ≤ d ∧ d ≤ 57 := by
  have a := numL_digits w
  cases e : numL w with
  | nil => exact absurd e (numL_ne w)
  | cons d l =>
    rw [e] at a
    exact ⟨d, l, rfl, a.head⟩
theorem read_body {w r : Nat} (hw : w < 1000000000000000) (hr : r < 1000000) (neg : Bool) :
    readP neg (Txt.partition (S (numL w ++ (if r = 0 then [] else 46 :: zt (pad6 r)))) (S [46])) = .int (if neg = true then -((w * 1000000 + r : Nat) : Int) else ((w * 1000000 + r : Nat) : Int)) := by
  have dw := numL_digits w
  have lw : (numL w).length ≤ 15 := numL_len (by decide) (by rw [show (10 : Nat) ^ 15 = 1000000000000000 by decide]; exact hw)
  have hfree : (46 : Nat) ∉ numL w := numL_free (by omega)
  have fw : figs (numL w) 15 = true := figs_ok dw (numL_ne w) lw
  have fin : ∀ P : Str × Str × Str, tl P.1 = numL w → (P.2.1 = Str.empty ∨ figs (tl P.2.2) 12 = true) → digitsVal (tl P.1 ++ tl P.2.2 ++ List.replicate (12 - (tl P.2.2).length) 48) = (w * 1000000 + r) * 1000000 →
      readP neg P = .int (if neg = true then -((w * 1000000 + r : Nat) : Int) else ((w * 1000000 + r : Nat) : Int)) := fun P e1 e2 e3 => by
    unfold readP
    rw [e3, e1, if_neg (by rw [fw]; decide), if_neg (fun z => by
      rcases e2 with e2 | e2
      · exact z.1 e2
      · rw [e2] at z
        cases z.2), Int.natCast_mul, show ((1000000 : Nat) : Int) = 1000000 from rfl, near_exact]
    unfold readN
    rw [if_neg (by omega)]
  by_cases h0 : r = 0
  · rw [if_pos h0, List.append_nil, TL.partition_none (y := S [46]) (s := 46) (S := []) rfl (a := S (numL w)) hfree]
    refine fin _ rfl (Or.inl rfl) ?_
    show digitsVal (numL w ++ [] ++ List.replicate 12 48) = _
    rw [List.append_nil, val_app, val_noughts, numL_val, List.length_replicate, h0]
    omega
  · have e : S (numL w ++ (46 :: zt (pad6 r))) = S (numL w) ++ S [46] ++ S (zt (pad6 r)) := by
      rw [S_cat, S_cat, List.append_assoc]
      rfl
    rw [if_neg h0, e, TL.partition_app (y := S [46]) (s := 46) (S := []) rfl (a := S (numL w)) hfree]
    have lz : (zt (pad6 r)).length ≤ 6 := zt_len (pad6 r)
    refine fin _ rfl (Or.inr (figs_ok (fun c hc => pad6_digits r c (zt_sub hc)) (zt_ne hr h0) (show (zt (pad6 r)).length ≤ 12 by omega))) ?_
    show digitsVal (numL w ++ zt (pad6 r) ++ List.replicate (12 - (zt (pad6 r)).length) 48) = _
    have b : zt (pad6 r) ++ List.replicate (12 - (zt (pad6 r)).length) 48 = pad6 r ++ List.replicate 6 48 := by
      conv => rhs; rw [zt_back (pad6 r)]
      rw [List.append_assoc, List.replicate_append_replicate]
      have l6 : (pad6 r).length = 6 := rfl
      rw [l6, show 6 - (zt (pad6 r)).length + 6 = 12 - (zt (pad6 r)).length by omega]
    rw [List.append_assoc, b, val_app, val_app, val_noughts, val_pad6 hr, numL_val, List.length_append, List.length_replicate, show (pad6 r).length = 6 from rfl]
    omega
/-- what was written is read back -/
theorem read_show {m : Int} (h : -1000000000000000000000 < m ∧ m < 1000000000000000000000) : readV (S (showL m)) = .int m := by
  have hw : m.natAbs / 1000000 < 1000000000000000 := by omega
  have hr : m.natAbs % 1000000 < 1000000 := by omega
  have body := read_body hw hr
  obtain ⟨d, l, en, d1, d2⟩ := head_num (m.natAbs / 1000000)
  have nd := numL_digits (m.natAbs / 1000000)
  have free : (32 : Nat) ∉ showL m := fun z => by
    unfold showL at z
    rcases List.mem_append.mp z with z | z
    · split at z
      · simp at z
      · cases z
    · rcases List.mem_append.mp z with z | z
      · have := nd 32 z
        omega
      · split at z
        · cases z
        · rcases List.mem_cons.mp z with z | z
          · omega
          · have := pad6_digits _ 32 (zt_sub z)
            omega
  unfold readV
  rw [strip_free free, starts_S]
  unfold unS
  rw [starts_S, starts_S]
  by_cases hm : m < 0
  · have e : showL m = 45 :: (numL (m.natAbs / 1000000) ++ (if m.natAbs % 1000000 = 0 then [] else 46 :: zt (pad6 (m.natAbs % 1000000)))) := by
      unfold showL
      rw [if_pos hm]
      rfl
    rw [e, List.head?_cons, decide_eq_true rfl, if_pos (Or.inl rfl), cut_one, List.drop_one, List.tail_cons, body true, if_pos rfl]
    refine congrArg V.int ?_
    omega
  · have e : showL m = numL (m.natAbs / 1000000) ++ (if m.natAbs % 1000000 = 0 then [] else 46 :: zt (pad6 (m.natAbs % 1000000))) := by
      unfold showL
      rw [if_neg hm]
      rfl
    have eh : (showL m).head? = some d := by
      rw [e, en]
      rfl
    rw [eh, decide_eq_false (fun z => by have := Option.some.inj z; omega), decide_eq_false (fun z => by have := Option.some.inj z; omega), if_neg (by simp), e, body false, if_neg (by simp)]
    refine congrArg V.int ?_
    omega

theorem tens : tl (Str.ofString "0123456789") = [48, 49, 50, 51, 52, 53, 54, 55, 56, 57] := by decide +kernel
theorem mem_tens {c : Nat} : c ∈ (Str.ofString "0123456789").cps.toList ↔ isD c = true := by
  rw [show (Str.ofString "0123456789").cps.toList = [48, 49, 50, 51, 52, 53, 54, 55, 56, 57] from tens, isD_iff]
  simp only [List.mem_cons, List.not_mem_nil, or_false]
  omega
theorem find_tens : ∀ c : Nat, 48 ≤ c → c ≤ 57 → Txt.find (Str.ofString "0123456789") ⟨#[c]⟩ = (c : Int) - 48 := fun c h1 h2 => by
  have e : c = 48 ∨ c = 49 ∨ c = 50 ∨ c = 51 ∨ c = 52 ∨ c = 53 ∨ c = 54 ∨ c = 55 ∨ c = 56 ∨ c = 57 := by omega
  rcases e with rfl | rfl | rfl | rfl | rfl | rfl | rfl | rfl | rfl | rfl <;> decide +kernel
theorem figs_len {l : List Nat} {most : Int} (h : (l.length : Int) < 1 ∨ most < (l.length : Int)) : figs l most = false := by
  unfold figs
  rcases h with h | h
  · rw [decide_eq_false (show ¬ 1 ≤ l.length by omega), Bool.and_false, Bool.false_and]
  · rw [decide_eq_false (show ¬ (l.length : Int) ≤ most by omega), Bool.and_false]
theorem figs_bad {l : List Nat} {most : Int} {i c : Nat} (h : l[i]? = some c) (hc : ¬ isD c = true) : figs l most = false := by
  unfold figs
  have e : l.all isD = false := Bool.eq_false_iff.mpr fun k => hc (List.all_eq_true.mp k c (List.mem_of_getElem? h))
  rw [e, Bool.false_and, Bool.false_and]
theorem figs_good {l : List Nat} {most : Int} (h : ∀ (i c : Nat), l[i]? = some c → isD c = true) (h1 : ¬ (l.length : Int) < 1) (h2 : ¬ most < (l.length : Int)) : figs l most = true := by
  unfold figs
  have e : l.all isD = true := List.all_eq_true.mpr fun c hc => by
    obtain ⟨i, hi⟩ := List.getElem?_of_mem hc
    exact h i c hi
  rw [e, decide_eq_true (show 1 ≤ l.length by omega), decide_eq_true (show (l.length : Int) ≤ most by omega)]
  rfl
theorem str_nat {k : Int} {w : Nat} (h : k = (w : Int)) : Str.ofString (toString k) = S (numL w) := by
  rw [h]
  exact num_S w
theorem log_small {k : Int} (h : -1267650600228229401496703205376 < k ∧ k < 1267650600228229401496703205376) : k.natAbs.log2 < 1920 := by
  have e : (2 : Nat) ^ 100 = 1267650600228229401496703205376 := by decide
  exact Nat.lt_trans (PySem.Flt.log2_lt_of (by decide) (show k.natAbs < 2 ^ 100 by rw [e]; omega)) (by decide)
theorem numL_short {w : Nat} (h : w < 1000000000000000000000000) : (numL w).length ≤ 24 := numL_len (by decide) (by rw [show (10 : Nat) ^ 24 = 1000000000000000000000000 by decide]; exact h)

theorem hl1 {z : Str} (h : z.length ≤ 100000) : z.length ≤ sizeLine := Nat.le_trans h (by decide)
theorem hl2 {z : Str} (h : z.length ≤ 200000) : z.length ≤ sizeLine := Nat.le_trans h (by decide)
theorem hl3 {z y : Str} (h : z.length ≤ 100000) : (Txt.stripChars z y).length ≤ 100000 := Nat.le_trans (len_stripChars _ _) h
theorem hl4 {z : Str} {a b : Option Int} (h : z.length ≤ 100000) : (cutS z a b).length ≤ 100000 := Nat.le_trans (cutS_length _ _ _) h

theorem part_len (u y : Str) : (Txt.partition u y).1.length ≤ u.length ∧ (Txt.partition u y).2.2.length ≤ u.length := by
  have sub : ∀ i j, (Builtin.Str.strSub u i j).length ≤ u.length := fun i j => by
    rw [len_tl, len_tl, tl_strSub, List.length_take, List.length_drop]
    omega
  unfold Txt.partition
  split
  · exact ⟨sub _ _, sub _ _⟩
  · exact ⟨Nat.le_refl _, Nat.zero_le _⟩
theorem readV_1 {z : Str} (h : Txt.startswith (Txt.stripChars z (S [32])) (S [45]) = true) : readV z = readP true (Txt.partition (cutS (Txt.stripChars z (S [32])) (some 1) none) (S [46])) := by
  unfold readV unS
  rw [h, if_pos (Or.inl rfl)]
theorem readV_2 {z : Str} (h : ¬ Txt.startswith (Txt.stripChars z (S [32])) (S [45]) = true) (h2 : Txt.startswith (Txt.stripChars z (S [32])) (S [43]) = true) : readV z = readP false (Txt.partition (cutS (Txt.stripChars z (S [32])) (some 1) none) (S [46])) := by
  unfold readV unS
  rw [Bool.eq_false_iff.mpr h, h2, if_pos (Or.inr rfl)]
theorem readV_3 {z : Str} (h : ¬ Txt.startswith (Txt.stripChars z (S [32])) (S [45]) = true) (h2 : ¬ Txt.startswith (Txt.stripChars z (S [32])) (S [43]) = true) : readV z = readP false (Txt.partition (Txt.stripChars z (S [32])) (S [46])) := by
  unfold readV unS
  rw [Bool.eq_false_iff.mpr h, Bool.eq_false_iff.mpr h2, if_neg (by decide)]
theorem readP_bad1 {b : Bool} {P : Str × Str × Str} (h : ¬ figs (tl P.1) 15 = true) : readP b P = .non := by
  unfold readP
  rw [if_pos (Bool.eq_false_iff.mpr h)]
theorem readP_bad2 {b : Bool} {P : Str × Str × Str} (h1 : ¬ P.2.1 = Str.empty) (h : ¬ figs (tl P.2.2) 12 = true) : readP b P = .non := by
  unfold readP
  split
  · rfl
  · rw [if_pos ⟨h1, Bool.eq_false_iff.mpr h⟩]
def worthP (P : Str × Str × Str) : Nat := digitsVal (tl P.1 ++ tl P.2.2 ++ List.replicate (12 - (tl P.2.2).length) 48)
theorem readP_good {b : Bool} {P : Str × Str × Str} (h : figs (tl P.1) 15 = true) (h2 : P.2.1 = Str.empty ∨ figs (tl P.2.2) 12 = true) : readP b P = readN b (near (worthP P : Nat) 1000000) := by
  unfold readP
  rw [if_neg (by rw [h]; decide), if_neg (fun z => by
    rcases h2 with h2 | h2
    · exact z.1 h2
    · rw [h2] at z
      cases z.2)]
  rfl
theorem figs_out {l : List Nat} {k : Int} (h : figs l k = true) : AllDigits l ∧ 1 ≤ l.length ∧ (l.length : Int) ≤ k := by
  unfold figs at h
  rw [Bool.and_eq_true, Bool.and_eq_true, decide_eq_true_eq, decide_eq_true_eq] at h
  exact ⟨all_digits h.1.1, h.1.2, h.2⟩
theorem just_tl (z : Str) : tl (Txt.ljustF z 12 48) = tl z ++ List.replicate (12 - (tl z).length) 48 := by
  unfold Txt.ljustF
  have e := len_tl z
  by_cases h : (12 : Int) ≤ (z.length : Int)
  · rw [if_pos h, show 12 - (tl z).length = 0 by omega]
    exact (List.append_nil _).symm
  · rw [if_neg h, e]
    show (Array.replicate 0 48 ++ z.cps ++ Array.replicate ((12 : Int).toNat - (tl z).length) 48).toList = _
    simp [tl]
theorem behind_ok {P : Str × Str × Str} (hc : P.2.1 = S [46] ∨ (P.2.1 = Str.empty ∧ P.2.2 = Str.empty)) (h2 : P.2.1 = Str.empty ∨ figs (tl P.2.2) 12 = true) : AllDigits (tl P.2.2) ∧ (tl P.2.2).length ≤ 12 := by
  rcases h2 with h2 | h2
  · rcases hc with hc | hc
    · rw [hc] at h2
      exact absurd (congrArg tl h2) (fun z => nomatch z)
    · rw [hc.2]
      exact ⟨fun c hc => (nomatch hc), Nat.zero_le _⟩
  · have f := figs_out h2
    exact ⟨f.1, by omega⟩
theorem worth_text {P : Str × Str × Str} (hc : P.2.1 = S [46] ∨ (P.2.1 = Str.empty ∧ P.2.2 = Str.empty)) (h : figs (tl P.1) 15 = true) (h2 : P.2.1 = Str.empty ∨ figs (tl P.2.2) 12 = true) :
    intText? (P.1 ++ Txt.ljustF P.2.2 12 48) = some ((worthP P : Nat) : Int) ∧ (P.1 ++ Txt.ljustF P.2.2 12 48).length ≤ 27 ∧ P.1.length ≤ 15 ∧ (Txt.ljustF P.2.2 12 48).length ≤ 12 := by
  have f := figs_out h
  have b := behind_ok hc h2
  have e : tl (P.1 ++ Txt.ljustF P.2.2 12 48) = tl P.1 ++ tl P.2.2 ++ List.replicate (12 - (tl P.2.2).length) 48 := by
    rw [tl_append, just_tl, List.append_assoc]
  have l2 : (Txt.ljustF P.2.2 12 48).length = 12 := by
    rw [len_tl, just_tl, List.length_append, List.length_replicate]
    omega
  have l1 : P.1.length = (tl P.1).length := len_tl _
  have l : (P.1 ++ Txt.ljustF P.2.2 12 48).length ≤ 27 := by
    rw [Str.length_append]
    omega
  refine ⟨?_, l, by omega, by omega⟩
  have d := intText_digits (x := P.1 ++ Txt.ljustF P.2.2 12 48) (fun c hc => by
    rw [show (P.1 ++ Txt.ljustF P.2.2 12 48).cps.toList = _ from e] at hc
    rcases List.mem_append.mp hc with hc | hc
    · rcases List.mem_append.mp hc with hc | hc
      · exact f.1 c hc
      · exact b.1 c hc
    · rw [List.eq_of_mem_replicate hc]
      decide) (fun z => by
    have z2 := congrArg List.length z
    rw [show (P.1 ++ Txt.ljustF P.2.2 12 48).cps.toList = _ from e, List.length_append, List.length_append] at z2
    have z3 : (tl P.1).length + (tl P.2.2).length + _ = 0 := z2
    omega) (by omega)
  rw [show (P.1 ++ Txt.ljustF P.2.2 12 48).cps.toList = _ from e] at d
  exact d
theorem near_nn {a : Int} (h : 0 ≤ a) : 0 ≤ near a 1000000 := by
  unfold near
  (repeat' split) <;> omega

theorem ne_empty {a : Str} : (!decide (V.str a = V.str (Str.ofString ""))) = true ↔ ¬ a = Str.empty := by
  rw [e_none, str_empty, Bool.not_eq_true', decide_eq_false_iff_not]
  exact ⟨fun h z => h (congrArg V.str z), fun h z => h (V.str.inj z)⟩

theorem show_S (m : Int) : S (showL m) = (if m < 0 then S [45] else S []) ++ (S (numL (m.natAbs / 1000000)) ++ (if m.natAbs % 1000000 = 0 then S [] else S [46] ++ S (zt (pad6 (m.natAbs % 1000000))))) := by
  unfold showL
  by_cases h : m < 0
  · by_cases k : m.natAbs % 1000000 = 0
    · rw [if_pos h, if_pos h, if_pos k, if_pos k]; simp only [S_cat]
    · rw [if_pos h, if_pos h, if_neg k, if_neg k]; simp only [S_cat]; rfl
  · by_cases k : m.natAbs % 1000000 = 0
    · rw [if_neg h, if_neg h, if_pos k, if_pos k]; simp only [S_cat]
    · rw [if_neg h, if_neg h, if_neg k, if_neg k]; simp only [S_cat]; rfl
theorem rest_zero : zt (pad6 0) = [] := by decide +kernel
theorem nots {b : Bool} (h : ¬ (!b) = true) : b = true := by simpa using h
theorem readN_in {b : Bool} {s : Int} (h : s < 1000000000000000000000) : readN b s = .int (if b = true then -s else s) := if_neg (by omega)
theorem readN_out {b : Bool} {s : Int} (h : ¬ s < 1000000000000000000000) : readN b s = .non := if_pos (by omega)

theorem val_bound : ∀ {l : List Nat}, AllDigits l → digitsVal l < 10 ^ l.length := by
  have key : ∀ (l : List Nat) (s : Nat), AllDigits l → l.foldl (fun acc c => acc * 10 + (c - 48)) s < (s + 1) * 10 ^ l.length := by
    intro l
    induction l with
    | nil => intro s _; simp
    | cons c l ih =>
      intro s h
      have hc := h.head
      rw [List.foldl_cons, List.length_cons, Nat.pow_succ]
      refine Nat.lt_of_lt_of_le (ih _ h.tail) ?_
      rw [Nat.mul_comm (10 ^ l.length) 10, ← Nat.mul_assoc]
      exact Nat.mul_le_mul_right _ (by omega)
  intro l h
  have a := key l 0 h
  rw [Nat.zero_add, Nat.one_mul] at a
  exact a
theorem val_step {l : List Nat} {i c : Nat} (h : l[i]? = some c) : digitsVal (l.take (i + 1)) = digitsVal (l.take i) * 10 + (c - 48) := by
  obtain ⟨hi, e⟩ := List.getElem?_eq_some_iff.mp h
  rw [List.take_succ_eq_append_getElem hi, val_app, e]
  show _ * 10 ^ 1 + (0 * 10 + (c - 48)) = _
  omega
def allP (P : Str × Str × Str) : Str := P.1 ++ P.2.2 ++ repS (Str.ofString "0") ((12 : Int) - (P.2.2.length : Int)).toNat
theorem allP_tl (P : Str × Str × Str) : tl (allP P) = tl P.1 ++ tl P.2.2 ++ List.replicate (12 - (tl P.2.2).length) 48 := by
  unfold allP
  rw [tl_append, tl_append, e_zero, len_tl P.2.2, show ((12 : Int) - ((tl P.2.2).length : Int)).toNat = 12 - (tl P.2.2).length by omega]
  refine congrArg (fun z => tl P.1 ++ tl P.2.2 ++ z) ?_
  show (List.replicate (12 - (tl P.2.2).length) [48]).flatten = _
  generalize 12 - (tl P.2.2).length = n
  induction n with
  | zero => rfl
  | succ n ih => rw [List.replicate_succ, List.flatten_cons, ih, List.replicate_succ]; rfl
theorem allP_ok {P : Str × Str × Str} (hc : P.2.1 = S [46] ∨ (P.2.1 = Str.empty ∧ P.2.2 = Str.empty)) (h : figs (tl P.1) 15 = true) (h2 : P.2.1 = Str.empty ∨ figs (tl P.2.2) 12 = true) :
    AllDigits (tl (allP P)) ∧ digitsVal (tl (allP P)) = worthP P ∧ (worthP P : Int) < 1000000000000000000000000000000 ∧ (tl P.1).length ≤ 15 ∧ (tl P.2.2).length ≤ 12 := by
  have f := figs_out h
  have b := behind_ok hc h2
  have d : AllDigits (tl (allP P)) := fun c hc => by
    rw [allP_tl] at hc
    rcases List.mem_append.mp hc with hc | hc
    · rcases List.mem_append.mp hc with hc | hc
      · exact f.1 c hc
      · exact b.1 c hc
    · rw [List.eq_of_mem_replicate hc]
      decide
  have e : digitsVal (tl (allP P)) = worthP P := congrArg digitsVal (allP_tl P)
  refine ⟨d, e, ?_, by omega, b.2⟩
  have v := val_bound d
  rw [e] at v
  have l : (tl (allP P)).length ≤ 27 := by
    rw [allP_tl, List.length_append, List.length_append, List.length_replicate]
    omega
  have v2 : worthP P < 10 ^ 27 := Nat.lt_of_lt_of_le v (Nat.pow_le_pow_right (by decide) l)
  rw [show (10 : Nat) ^ 27 = 1000000000000000000000000000 by decide] at v2
  omega
theorem head_is {u : Str} {c : Nat} (h : V.str (cutS u none (some 1)) = V.str (S [c])) : Txt.startswith u (S [c]) = true := (head_starts u c).symm.trans (decide_eq_true h)
theorem head_not {u : Str} {c : Nat} (h : ¬ V.str (cutS u none (some 1)) = V.str (S [c])) : ¬ Txt.startswith u (S [c]) = true := by
  rw [← head_starts u c]
  exact fun z => h (of_decide_eq_true z)

theorem show_len {m : Int} (h : -1000000000000000000000 < m ∧ m < 1000000000000000000000) : (S (showL m)).length ≤ 40 := by
  rw [S_len]
  unfold showL
  have n1 : (numL (m.natAbs / 1000000)).length ≤ 24 := numL_short (by omega)
  have n2 := zt_len (pad6 (m.natAbs % 1000000))
  have n3 : (pad6 (m.natAbs % 1000000)).length = 6 := rfl
  rw [List.length_append, List.length_append]
  split <;> split <;> simp only [List.length_cons, List.length_nil] <;> omega

theorem readP_kind (b : Bool) (P : Str × Str × Str) : readP b P = .non ∨ ∃ s : Int, readP b P = .int s ∧ (-1000000000000000000000 < s ∧ s < 1000000000000000000000) := by
  unfold readP
  split
  · exact Or.inl rfl
  · split
    · exact Or.inl rfl
    · have nn := near_nn (a := (digitsVal (tl P.1 ++ tl P.2.2 ++ List.replicate (12 - (tl P.2.2).length) 48) : Nat)) (Int.natCast_nonneg _)
      unfold readN
      split
      · exact Or.inl rfl
      · refine Or.inr ⟨_, rfl, ?_⟩
        split <;> omega
theorem readV_kind (z : Str) : readV z = .non ∨ ∃ s : Int, readV z = .int s ∧ (-1000000000000000000000 < s ∧ s < 1000000000000000000000) := readP_kind _ _

theorem op_modL {X : Cx} : OpR X (binaryOp .Mod) (fun x y H Q => ∃ i j, x = .int i ∧ y = .int j ∧ 0 < j ∧ ∀ d : Int, 0 ≤ d → d < j → Q (.int d) H) := fun pins s σ H x y v u Q I rx ry hq => by
  obtain ⟨i, j, ex, ey, hc, q⟩ := hq
  exact op_mod pins s σ H x y v u Q I rx ry ⟨i, j, ex, ey, hc, q _ (Int.emod_nonneg _ (by omega)) (Int.emod_lt_of_pos _ hc)⟩
theorem ixS_go {z : Str} {i : Int} {H : Hp} {Q : VK} (h : z.length ≤ 100000) (h0 : 0 ≤ i) (h1 : i < (z.length : Int)) (q : ∀ c, Q (.str ⟨#[c]⟩) H) : rIxS (.str z) (.int i) H Q := by
  obtain ⟨c, _, e⟩ := atI_some (xs := z.cps.toList) h0 (by rw [← len_tl]; exact h1)
  exact ⟨z, i, c, rfl, rfl, hl1 h, e, q c⟩
theorem joinL_len : ∀ ls : List (List Nat), (TL.joinL [] ls).length = (ls.map List.length).sum
  | [] => rfl
  | [x] => by simp [TL.joinL]
  | x :: y :: ls => by
    have e : TL.joinL [] (x :: y :: ls) = x ++ [] ++ TL.joinL [] (y :: ls) := by first | rfl | simp [TL.joinL]
    rw [e, List.length_append, List.append_nil, joinL_len (y :: ls)]
    simp
theorem sum_le {n : Nat} : ∀ {zs : List Str}, (∀ z ∈ zs, z.length ≤ n) → (zs.map (·.length)).sum ≤ n * zs.length
  | [], _ => Nat.zero_le _
  | z :: zs, h => by
    rw [List.map_cons, List.sum_cons, List.length_cons, Nat.mul_succ]
    have a := sum_le (fun y hy => h y (List.mem_cons_of_mem _ hy))
    have b := h z (List.mem_cons_self ..)
    omega
theorem join_len {n : Nat} {zs : List Str} (h : ∀ z ∈ zs, z.length ≤ n) : (Txt.join (Str.ofString "") zs).length ≤ n * zs.length := by
  rw [len_tl, TL.join_eq, TL.tl_join, e_none, joinL_len, List.map_map]
  exact Nat.le_trans (Nat.le_of_eq (congrArg List.sum (List.map_congr_left fun z _ => (len_tl z).symm))) (sum_le h)
theorem join_sum {n : Nat} {zs : List Str} (h : ∀ z ∈ zs, z.length ≤ n) : (zs.map (·.length)).sum + zs.length * (Str.ofString "").length ≤ n * zs.length := by
  rw [show (Str.ofString "").length = 0 from by decide +kernel, Nat.mul_zero, Nat.add_zero]
  exact sum_le h
theorem more_map (zs : List Str) (ch : Nat) : zs.map V.str ++ [V.str ⟨#[ch]⟩] = (zs ++ [(⟨#[ch]⟩ : Str)]).map V.str := by
  rw [List.map_append]
  rfl
theorem more_one {zs : List Str} {ch : Nat} (h : ∀ z ∈ zs, z.length ≤ 1) : ∀ z ∈ zs ++ [(⟨#[ch]⟩ : Str)], z.length ≤ 1 := fun z hm => by
  rcases List.mem_append.mp hm with hm | hm
  · exact h z hm
  · rw [List.mem_singleton.mp hm]
    exact Nat.le_refl _
theorem more_len {zs : List Str} {ch i : Nat} (h : zs.length ≤ i) : (zs ++ [(⟨#[ch]⟩ : Str)]).length ≤ i + 1 := by
  rw [List.length_append, List.length_singleton]
  omega
theorem tens_len : (Str.ofString "0123456789").length = 10 := by decide +kernel

theorem La {A B : Str} {a b : Nat} (h : A.length ≤ a) (k : B.length ≤ b) : (A ++ B).length ≤ a + b := by
  rw [Str.length_append]
  omega
theorem Lc {z : Str} {x y : Option Int} {n : Nat} (h : z.length ≤ n) : (cutS z x y).length ≤ n := Nat.le_trans (cutS_length _ _ _) h
theorem Lr {z : Str} {k : Int} (n : Nat) (h : z.length ≤ 1) (hk : k ≤ (n : Int)) : (repS z k.toNat).length ≤ n := by
  rw [repS_len]
  exact Nat.le_trans (Nat.mul_le_mul_right _ h) (by omega)
theorem c_one (c : Nat) : (⟨#[c]⟩ : Str).length ≤ 1 := Nat.le_refl 1

theorem pe_bm0k {X : Cx} {K : PySem.W.Frag} {T name id : String} {r : V → List V → Hp → VK → Prop} {o : Expr} {to : TE} {apos cpos : Pos} (ek : X.K = K) (pa : PlainAttrs T) (slot : Slot T name id) (hty : typeOf (.builtin id) = pure (.type "method_descriptor")) (hm : MtR X id r) (ho : PE X o to)
    (hb : attributeBase o name X.env (eval o X.env) = eval o X.env := by rfl) (hl : (apos.endLine == cpos.line) = true := by rfl) : PE X (.Call (.Attribute o name apos) [] [] cpos) (tBM0 K T r to) := ek ▸ pe_bm0 pa slot hty hm ho hb hl
/-- signs below 128 -/
def Asc (z : Str) : Prop := ∀ c ∈ tl z, c < 128
theorem Asc.app {a b : Str} (h : Asc a) (k : Asc b) : Asc (a ++ b) := fun c hc => by
  rw [TL.tl_append] at hc
  rcases List.mem_append.mp hc with hc | hc
  · exact h c hc
  · exact k c hc
theorem Asc.cut {a : Str} {x y : Option Int} (h : Asc a) : Asc (cutS a x y) := fun c hc => by
  have e : tl (cutS a x y) = ((a.cps.toList.drop (HT.sIx a.length 0 x)).take (HT.sIx a.length a.length y - HT.sIx a.length 0 x)) := rfl
  rw [e] at hc
  exact h c (List.mem_of_mem_drop (List.mem_of_mem_take hc))
theorem Asc.rep {a : Str} {n : Nat} (h : Asc a) : Asc (repS a n) := fun c hc => by
  have e : tl (repS a n) = (List.replicate n (tl a)).flatten := rfl
  rw [e] at hc
  obtain ⟨l, hl, hc⟩ := List.mem_flatten.mp hc
  rw [(List.mem_replicate.mp hl).2] at hc
  exact h c hc
theorem Asc.one {c : Nat} (h : c < 128) : Asc ⟨#[c]⟩ := fun d hd => by
  rw [List.mem_singleton.mp (show d ∈ [c] from hd)]
  exact h
theorem Asc.at {a : Str} {i c : Nat} (h : Asc a) (e : a.cps.toList[i]? = some c) : c < 128 := h c (List.mem_of_getElem? e)
theorem asc_lit {z : Str} (h : (tl z).all (· < 128) = true) : Asc z := fun c hc => of_decide_eq_true (List.all_eq_true.mp h c hc)
theorem mem_joinL : ∀ {ls : List (List Nat)} {c : Nat}, c ∈ TL.joinL [] ls → ∃ l ∈ ls, c ∈ l
  | [], c, h => by cases h
  | [x], c, h => ⟨x, List.mem_cons_self .., by simpa [TL.joinL] using h⟩
  | x :: y :: ls, c, h => by
    have e : TL.joinL [] (x :: y :: ls) = x ++ [] ++ TL.joinL [] (y :: ls) := by first | rfl | simp [TL.joinL]
    rw [e, List.append_nil] at h
    rcases List.mem_append.mp h with h | h
    · exact ⟨x, List.mem_cons_self .., h⟩
    · obtain ⟨l, hl, k⟩ := mem_joinL h
      exact ⟨l, List.mem_cons_of_mem _ hl, k⟩
theorem tl_join0 (zs : List Str) : tl (Txt.join (Str.ofString "") zs) = TL.joinL [] (zs.map tl) := by
  rw [TL.join_eq, TL.tl_join, e_none]
theorem Asc.join {zs : List Str} (h : ∀ z ∈ zs, Asc z) : Asc (Txt.join (Str.ofString "") zs) := fun c hc => by
  rw [tl_join0] at hc
  obtain ⟨l, hl, k⟩ := mem_joinL hc
  obtain ⟨z, hz, rfl⟩ := List.mem_map.mp hl
  exact h z hz c k
theorem joinL_ones (f : Nat → Nat) : ∀ l : List Nat, TL.joinL [] (l.map fun c => [f c]) = l.map f
  | [] => rfl
  | [c] => by simp [TL.joinL]
  | c :: d :: l => by
    have e : TL.joinL [] ((c :: d :: l).map fun c => [f c]) = [f c] ++ [] ++ TL.joinL [] ((d :: l).map fun c => [f c]) := by first | rfl | simp [TL.joinL]
    rw [e, joinL_ones f (d :: l)]
    rfl
theorem join_ones (f : Nat → Nat) (l : List Nat) : Txt.join (Str.ofString "") (l.map fun c => (⟨#[f c]⟩ : Str)) = S (l.map f) := by
  refine ext_tl ?_
  rw [tl_join0, List.map_map]
  exact joinL_ones f l
theorem upper_tl {z : Str} (h : Asc z) : Txt.upper z = S ((tl z).map PyProof.Rows.up1) := by
  have e := upper_S (a := tl z) (List.all_eq_true.mpr fun c hc => decide_eq_true (h c hc))
  rw [S_tl z] at e
  exact e
theorem upper_one {c : Nat} (h : c < 128) : Txt.upper ⟨#[c]⟩ = ⟨#[PyProof.Rows.up1 c]⟩ := upper_tl (Asc.one h)
theorem lower_one {c : Nat} (h : c < 128) : Txt.lower ⟨#[c]⟩ = ⟨#[PyProof.Rows.lo1 c]⟩ := by
  have e := lower_S (a := [c]) (List.all_eq_true.mpr fun d hd => decide_eq_true (by rw [List.mem_singleton.mp hd]; exact h))
  exact e
theorem lo1_small {c : Nat} (h : c < 128) : PyProof.Rows.lo1 c < 128 := by
  unfold PyProof.Rows.lo1
  split <;> omega
theorem up1_small {c : Nat} (h : c < 128) : PyProof.Rows.up1 c < 128 := by
  unfold PyProof.Rows.up1
  split <;> omega
theorem upper_asc {z : Str} (h : Asc z) : Asc (Txt.upper z) := fun c hc => by
  rw [upper_tl h] at hc
  obtain ⟨d, hd, rfl⟩ := List.mem_map.mp (show c ∈ (tl z).map PyProof.Rows.up1 from hc)
  exact up1_small (h d hd)
theorem upper_len {z : Str} (h : Asc z) : (Txt.upper z).length = z.length := by
  rw [upper_tl h, S_len, List.length_map, len_tl]
theorem one_lt {c d : Nat} : ([c] : List Nat) < [d] ↔ c < d := by
  simp [List.cons_lt_cons_iff]
theorem sg_ge_a (c : Nat) : (!decide ((⟨#[c]⟩ : Str).cps.toList < (Str.ofString "a").cps.toList)) = decide (97 ≤ c) := by
  have e : (Str.ofString "a").cps.toList = [97] := by decide +kernel
  rw [e]
  show (!decide ([c] < [97])) = decide (97 ≤ c)
  by_cases h : c < 97
  · rw [decide_eq_true (one_lt.mpr h), decide_eq_false (by omega)]
    rfl
  · rw [decide_eq_false (fun z => h (one_lt.mp z)), decide_eq_true (by omega)]
    rfl
theorem sg_le_z (c : Nat) : (!decide ((Str.ofString "z").cps.toList < (⟨#[c]⟩ : Str).cps.toList)) = decide (c ≤ 122) := by
  have e : (Str.ofString "z").cps.toList = [122] := by decide +kernel
  rw [e]
  show (!decide ([122] < [c])) = decide (c ≤ 122)
  by_cases h : 122 < c
  · rw [decide_eq_true (one_lt.mpr h), decide_eq_false (by omega)]
    rfl
  · rw [decide_eq_false (fun z => h (one_lt.mp z)), decide_eq_true (by omega)]
    rfl
theorem up1_small_letter {c : Nat} (h : ¬ (97 ≤ c ∧ c ≤ 122)) : c = PyProof.Rows.up1 c := (if_neg h).symm
/-- an index into a text of such signs -/
theorem ixS_goA {z : Str} {i : Int} {H : Hp} {Q : VK} (ha : Asc z) (h : z.length ≤ 100000) (h0 : 0 ≤ i) (h1 : i < (z.length : Int)) (q : ∀ c, c < 128 → Q (.str ⟨#[c]⟩) H) : rIxS (.str z) (.int i) H Q := by
  obtain ⟨c, hc, e⟩ := atI_some (xs := z.cps.toList) h0 (by rw [← len_tl]; exact h1)
  exact ⟨z, i, c, rfl, rfl, hl1 h, e, q c (ha c hc)⟩
theorem show_asc (m : Int) : Asc (S (showL m)) := fun c hc => by
  have hc2 : c ∈ showL m := hc
  unfold showL at hc2
  rcases List.mem_append.mp hc2 with h | h
  · split at h
    · rw [List.mem_singleton.mp h]
      decide
    · cases h
  · rcases List.mem_append.mp h with h | h
    · have := TL.numL_digits _ c h
      omega
    · split at h
      · cases h
      · rcases List.mem_cons.mp h with rfl | h
        · decide
        · have := pad6_digits _ c (zt_sub h)
          omega
theorem more_asc {zs : List Str} {ch : Nat} (h : ∀ z ∈ zs, Asc z) (hc : ch < 128) : ∀ z ∈ zs ++ [(⟨#[ch]⟩ : Str)], Asc z := fun z hm => by
  rcases List.mem_append.mp hm with hm | hm
  · exact h z hm
  · rw [List.mem_singleton.mp hm]
    exact Asc.one hc
/-- an item of a tuple, whichever -/
theorem atT_go {K : PySem.W.Frag} {p : Addr} {xs : List V} {i : Int} {H : Hp} {Q : VK} (h : SqT K H p xs) (h0 : 0 ≤ i) (h1 : i < (xs.length : Int)) (q : ∀ v, v ∈ xs → Q v H) : rIxT K (.ref p) (.int i) H Q := by
  obtain ⟨v, hv, e⟩ := atI_mem h0 h1
  exact ⟨_, _, _, v, rfl, rfl, h, e, q v hv⟩
/-- a scalar by its kind -/
inductive Sc where
  | empty | num (m : Int) | tru (b : Bool) | txt (z : Str) | err (z : Str)
def Sc.vs : Sc → List V
  | .empty => [.str "empty"]
  | .num m => [.str "number", .int m]
  | .tru b => [.str "truth", .bl b]
  | .txt z => [.str "text", .str z]
  | .err z => [.str "error", .str z]
def Sc.ok : Sc → Prop
  | .num m => -1000000000000000000000 < m ∧ m < 1000000000000000000000
  | .txt z => z.length ≤ 2000 ∧ Asc z
  | .err z => z.length ≤ 20 ∧ Asc z
  | _ => True
theorem Sc.flat (s : Sc) : ∀ y ∈ s.vs, Flat3 y := by
  rcases s with _ | m | b | z | z
  all_goals (intro y hy; simp only [Sc.vs, List.mem_cons, List.not_mem_nil, or_false] at hy)
  · rw [hy]
    exact Or.inr (Or.inl ⟨_, rfl⟩)
  all_goals rcases hy with rfl | rfl
  all_goals first
    | exact Or.inr (Or.inl ⟨_, rfl⟩)
    | exact Or.inl ⟨_, rfl⟩
    | exact Or.inr (Or.inr ⟨_, rfl⟩)
theorem Sc.short (s : Sc) : s.vs.length ≤ 20 := by
  rcases s with _ | m | b | z | z
  all_goals exact Nat.le_of_ble_eq_true rfl

/-! ### a statement read alone -/
theorem seq_merge {a b : TS} {D : Ends} {σ : L2.St} {H : Hp} {C : L2.St → Hp → Prop} (tail : ∀ σ H, C σ H → b D σ H) (rest : ∀ R : L2.St → Hp → Prop, (∀ σ H, C σ H → R σ H) → a { D with nx := R } σ H) : tSeq a b D σ H := rest (b D) tail
theorem seq_merge2 {a1 a2 b : TS} {D : Ends} {σ : L2.St} {H : Hp} {C : L2.St → Hp → Prop} (tail : ∀ σ H, C σ H → b D σ H) (rest : ∀ R : L2.St → Hp → Prop, (∀ σ H, C σ H → R σ H) → (tSeq a1 (a2)) { D with nx := R } σ H) : (tSeq a1 (tSeq a2 (b))) D σ H := rest (b D) tail
theorem seq_merge3 {a1 a2 a3 b : TS} {D : Ends} {σ : L2.St} {H : Hp} {C : L2.St → Hp → Prop} (tail : ∀ σ H, C σ H → b D σ H) (rest : ∀ R : L2.St → Hp → Prop, (∀ σ H, C σ H → R σ H) → (tSeq a1 (tSeq a2 (a3))) { D with nx := R } σ H) : (tSeq a1 (tSeq a2 (tSeq a3 (b)))) D σ H := rest (b D) tail
theorem seq_merge4 {a1 a2 a3 a4 b : TS} {D : Ends} {σ : L2.St} {H : Hp} {C : L2.St → Hp → Prop} (tail : ∀ σ H, C σ H → b D σ H) (rest : ∀ R : L2.St → Hp → Prop, (∀ σ H, C σ H → R σ H) → (tSeq a1 (tSeq a2 (tSeq a3 (a4)))) { D with nx := R } σ H) : (tSeq a1 (tSeq a2 (tSeq a3 (tSeq a4 (b))))) D σ H := rest (b D) tail
theorem seq_merge5 {a1 a2 a3 a4 a5 b : TS} {D : Ends} {σ : L2.St} {H : Hp} {C : L2.St → Hp → Prop} (tail : ∀ σ H, C σ H → b D σ H) (rest : ∀ R : L2.St → Hp → Prop, (∀ σ H, C σ H → R σ H) → (tSeq a1 (tSeq a2 (tSeq a3 (tSeq a4 (a5))))) { D with nx := R } σ H) : (tSeq a1 (tSeq a2 (tSeq a3 (tSeq a4 (tSeq a5 (b)))))) D σ H := rest (b D) tail
theorem seq_merge6 {a1 a2 a3 a4 a5 a6 b : TS} {D : Ends} {σ : L2.St} {H : Hp} {C : L2.St → Hp → Prop} (tail : ∀ σ H, C σ H → b D σ H) (rest : ∀ R : L2.St → Hp → Prop, (∀ σ H, C σ H → R σ H) → (tSeq a1 (tSeq a2 (tSeq a3 (tSeq a4 (tSeq a5 (a6)))))) { D with nx := R } σ H) : (tSeq a1 (tSeq a2 (tSeq a3 (tSeq a4 (tSeq a5 (tSeq a6 (b))))))) D σ H := rest (b D) tail
theorem seq_merge7 {a1 a2 a3 a4 a5 a6 a7 b : TS} {D : Ends} {σ : L2.St} {H : Hp} {C : L2.St → Hp → Prop} (tail : ∀ σ H, C σ H → b D σ H) (rest : ∀ R : L2.St → Hp → Prop, (∀ σ H, C σ H → R σ H) → (tSeq a1 (tSeq a2 (tSeq a3 (tSeq a4 (tSeq a5 (tSeq a6 (a7))))))) { D with nx := R } σ H) : (tSeq a1 (tSeq a2 (tSeq a3 (tSeq a4 (tSeq a5 (tSeq a6 (tSeq a7 (b)))))))) D σ H := rest (b D) tail
theorem seq_merge8 {a1 a2 a3 a4 a5 a6 a7 a8 b : TS} {D : Ends} {σ : L2.St} {H : Hp} {C : L2.St → Hp → Prop} (tail : ∀ σ H, C σ H → b D σ H) (rest : ∀ R : L2.St → Hp → Prop, (∀ σ H, C σ H → R σ H) → (tSeq a1 (tSeq a2 (tSeq a3 (tSeq a4 (tSeq a5 (tSeq a6 (tSeq a7 (a8)))))))) { D with nx := R } σ H) : (tSeq a1 (tSeq a2 (tSeq a3 (tSeq a4 (tSeq a5 (tSeq a6 (tSeq a7 (tSeq a8 (b))))))))) D σ H := rest (b D) tail

/-! ### signs and runs -/
def isLo (c : Nat) : Bool := decide (97 ≤ c) && decide (c ≤ 122)
def isUp (c : Nat) : Bool := decide (65 ≤ c) && decide (c ≤ 90)
def isLt (c : Nat) : Bool := isUp c || isLo c
def isCo (c : Nat) : Bool := (decide (65 ≤ c) && decide (c ≤ 74)) || (decide (97 ≤ c) && decide (c ≤ 106))
def mkW (c : Nat) : Bool := isLt c || isD c || c == 95 || c == 40
def gW (c : Nat) : Bool := isLt c || isD c || c == 95 || c == 46
def isSg (c : Nat) : Bool := decide (c ∈ [43, 45, 42, 47, 94, 38, 61, 60, 62, 40, 41, 123, 125, 44, 59, 58, 33])
def stands (p : Nat → Bool) (l : List Nat) (i : Nat) : Bool := match l[i]? with
  | some c => p c
  | none => false
def runE (p : Nat → Bool) (l : List Nat) (i : Nat) : Nat := i + ((l.drop i).takeWhile p).length
def sub (l : List Nat) (i j : Nat) : List Nat := (l.drop i).take (j - i)
def markE (l : List Nat) (i : Nat) : Nat := if stands (· == 36) l i = true then i + 1 else i
def rowE (l : List Nat) (i : Nat) : Option Nat :=
  if runE isD l i = i ∨ i + 2 < runE isD l i ∨ stands (· == 48) l i = true ∨ 20 < NumText.digitsVal (sub l i (runE isD l i)) then none else some (runE isD l i)
def colE (l : List Nat) (i : Nat) : Option Nat := if stands isCo l (markE l i) = true then some (markE l i + 1) else none
def rowsE (l : List Nat) (i : Nat) : Option Nat := (rowE l (markE l i)).bind fun m => if stands (· == 58) l m = true then rowE l (markE l (m + 1)) else none
def cellE (l : List Nat) (i : Nat) : Option Nat := (colE l i).bind fun k => (rowE l (markE l k)).bind fun e => if stands mkW l e = true then none else some e
def columnsE (l : List Nat) (i : Nat) : Option Nat := (colE l i).bind fun k => if stands (· == 58) l k = true then (colE l (k + 1)).bind fun e => if stands (fun c => c == 36 || mkW c) l e = true then none else some e else none
def numE (l : List Nat) (i : Nat) : Option Nat :=
  if runE isD l i = i then none else if stands (· == 46) l (runE isD l i) = true ∧ stands isD l (runE isD l i + 1) = true then some (runE isD l (runE isD l i + 1)) else some (runE isD l i)
def wordE (l : List Nat) (i : Nat) : Option Nat := if stands isLt l i = true then some (runE gW l (i + 1)) else none
def signE (l : List Nat) (i : Nat) : Option Nat :=
  if (l.drop i).take 2 = [60, 62] ∨ (l.drop i).take 2 = [60, 61] ∨ (l.drop i).take 2 = [62, 61] then some (i + 2) else if stands isSg l i = true then some (i + 1) else none
def ERW : List Str := ["DIV", "VALUE", "REF", "NAME", "NUM", "NA", "CALC", "SIZE", "LIMIT"]
def errS (w : Str) : List Nat := 35 :: (TL.tl w ++ [33])
def errE (l : List Nat) (i : Nat) : Option Nat := (ERW.find? fun w => TL.pre (errS w) (l.drop i)).map fun w => i + (w.length + 2)
theorem len_drop_take {l : List Nat} {p : Nat → Bool} {i : Nat} : ((l.drop i).takeWhile p).length ≤ l.length - i := by
  have h := (List.takeWhile_sublist (l := l.drop i) p).length_le
  rw [List.length_drop] at h
  exact h
theorem runE_ge (p : Nat → Bool) (l : List Nat) (i : Nat) : i ≤ runE p l i := Nat.le_add_right _ _
theorem runE_le {p : Nat → Bool} {l : List Nat} {i : Nat} (h : i ≤ l.length) : runE p l i ≤ l.length := by
  have := @len_drop_take l p i
  unfold runE
  omega
theorem stands_lt {p : Nat → Bool} {l : List Nat} {i : Nat} (h : stands p l i = true) : i < l.length := by
  unfold stands at h
  cases e : l[i]? with
  | none =>
    rw [e] at h
    cases h
  | some c => exact (List.getElem?_eq_some_iff.mp e).1
theorem stands_some {p : Nat → Bool} {l : List Nat} {i c : Nat} (e : l[i]? = some c) : stands p l i = p c := by
  unfold stands
  rw [e]
theorem stands_none {p : Nat → Bool} {l : List Nat} {i : Nat} (e : l.length ≤ i) : stands p l i = false := by
  unfold stands
  rw [List.getElem?_eq_none e]
theorem runE_step {p : Nat → Bool} {l : List Nat} {i : Nat} (h : stands p l i = true) : runE p l i = runE p l (i + 1) := by
  have hl := stands_lt h
  have e := List.drop_eq_getElem_cons hl
  rw [stands_some (List.getElem?_eq_getElem hl)] at h
  unfold runE
  rw [e, List.takeWhile_cons, if_pos h, List.length_cons]
  omega
theorem runE_stop {p : Nat → Bool} {l : List Nat} {i : Nat} (h : stands p l i = false) : runE p l i = i := by
  unfold runE
  by_cases hl : i < l.length
  · rw [stands_some (List.getElem?_eq_getElem hl)] at h
    rw [List.drop_eq_getElem_cons hl, List.takeWhile_cons, if_neg (by rw [h]; exact Bool.false_ne_true)]
    rfl
  · rw [List.drop_of_length_le (by omega)]
    rfl
theorem runE_end (p : Nat → Bool) (l : List Nat) : ∀ (n i : Nat), l.length - i ≤ n → stands p l (runE p l i) = false
  | 0, i, h => stands_none (Nat.le_trans (by omega) (runE_ge p l i))
  | n + 1, i, h => by
    cases e : stands p l i with
    | true =>
      have hl := stands_lt e
      rw [runE_step e]
      exact runE_end p l n (i + 1) (by omega)
    | false =>
      rw [runE_stop e]
      exact e
theorem runE_fin (p : Nat → Bool) (l : List Nat) (i : Nat) : stands p l (runE p l i) = false := runE_end p l _ i (Nat.le_refl _)
/-- all signs of a run -/
theorem runE_of {p : Nat → Bool} {l : List Nat} : ∀ {i j : Nat}, i ≤ j → (∀ k, i ≤ k → k < j → stands p l k = true) → stands p l j = false → runE p l i = j
  | i, j, h, hk, hs => by
    obtain ⟨n, rfl⟩ := Nat.exists_eq_add_of_le h
    induction n generalizing i with
    | zero => exact runE_stop hs
    | succ n ih =>
      rw [runE_step (hk i (Nat.le_refl _) (by omega))]
      have := ih (i := i + 1) (by omega) (fun k h1 h2 => hk k (by omega) (by omega)) (by rw [show i + 1 + n = i + (n + 1) by omega]; exact hs)
      omega
theorem markE_ge (l : List Nat) (i : Nat) : i ≤ markE l i := by
  unfold markE
  split <;> omega
theorem markE_le {l : List Nat} {i : Nat} (h : i ≤ l.length) : markE l i ≤ l.length := by
  unfold markE
  split
  · rename_i e
    exact stands_lt e
  · exact h
theorem rowE_gt {l : List Nat} {i e : Nat} (h : rowE l i = some e) : i < e := by
  unfold rowE at h
  split at h
  · cases h
  · rename_i hn
    cases h
    have := runE_ge isD l i
    omega
theorem rowE_eq {l : List Nat} {i e : Nat} (h : rowE l i = some e) : runE isD l i = e := by
  unfold rowE at h
  split at h
  · cases h
  · exact Option.some.inj h
theorem rowE_le {l : List Nat} {i e : Nat} (hi : i ≤ l.length) (h : rowE l i = some e) : e ≤ l.length := rowE_eq h ▸ runE_le hi
theorem colE_gt {l : List Nat} {i e : Nat} (h : colE l i = some e) : i < e := by
  unfold colE at h
  split at h
  · cases h
    have := markE_ge l i
    omega
  · cases h
theorem colE_le {l : List Nat} {i e : Nat} (h : colE l i = some e) : e ≤ l.length := by
  unfold colE at h
  split at h
  · rename_i e
    cases h
    exact stands_lt e
  · cases h
theorem rowsE_gt {l : List Nat} {i e : Nat} (h : rowsE l i = some e) : i < e := by
  unfold rowsE at h
  obtain ⟨m, hm, h⟩ := Option.bind_eq_some_iff.mp h
  split at h
  · have a := rowE_gt hm
    have b := rowE_gt h
    have := markE_ge l i
    have := markE_ge l (m + 1)
    omega
  · cases h
theorem rowsE_le {l : List Nat} {i e : Nat} (h : rowsE l i = some e) : e ≤ l.length := by
  unfold rowsE at h
  obtain ⟨m, hm, h⟩ := Option.bind_eq_some_iff.mp h
  split at h
  · rename_i hs
    exact rowE_le (markE_le (stands_lt hs)) h
  · cases h
theorem cellE_gt {l : List Nat} {i e : Nat} (h : cellE l i = some e) : i < e := by
  unfold cellE at h
  obtain ⟨k, hk, h⟩ := Option.bind_eq_some_iff.mp h
  obtain ⟨m, hm, h⟩ := Option.bind_eq_some_iff.mp h
  split at h
  · cases h
  · cases h
    have := colE_gt hk
    have := rowE_gt hm
    have := markE_ge l k
    omega
theorem cellE_le {l : List Nat} {i e : Nat} (h : cellE l i = some e) : e ≤ l.length := by
  unfold cellE at h
  obtain ⟨k, hk, h⟩ := Option.bind_eq_some_iff.mp h
  obtain ⟨m, hm, h⟩ := Option.bind_eq_some_iff.mp h
  split at h
  · cases h
  · cases h
    exact rowE_le (markE_le (colE_le hk)) hm
theorem columnsE_gt {l : List Nat} {i e : Nat} (h : columnsE l i = some e) : i < e := by
  unfold columnsE at h
  obtain ⟨k, hk, h⟩ := Option.bind_eq_some_iff.mp h
  split at h
  · obtain ⟨m, hm, h⟩ := Option.bind_eq_some_iff.mp h
    split at h
    · cases h
    · cases h
      have := colE_gt hk
      have := colE_gt hm
      omega
  · cases h
theorem columnsE_le {l : List Nat} {i e : Nat} (h : columnsE l i = some e) : e ≤ l.length := by
  unfold columnsE at h
  obtain ⟨k, hk, h⟩ := Option.bind_eq_some_iff.mp h
  split at h
  · obtain ⟨m, hm, h⟩ := Option.bind_eq_some_iff.mp h
    split at h
    · cases h
    · cases h
      exact colE_le hm
  · cases h
theorem numE_gt {l : List Nat} {i e : Nat} (h : numE l i = some e) : i < e := by
  unfold numE at h
  have a := runE_ge isD l i
  split at h
  · cases h
  · split at h
    · cases h
      have := runE_ge isD l (runE isD l i + 1)
      omega
    · cases h
      omega
theorem numE_le {l : List Nat} {i e : Nat} (hi : i ≤ l.length) (h : numE l i = some e) : e ≤ l.length := by
  unfold numE at h
  split at h
  · cases h
  · split at h
    · rename_i hs
      cases h
      exact runE_le (Nat.le_of_lt (stands_lt hs.2))
    · cases h
      exact runE_le hi
theorem wordE_gt {l : List Nat} {i e : Nat} (h : wordE l i = some e) : i < e := by
  unfold wordE at h
  split at h
  · cases h
    exact runE_ge gW l (i + 1)
  · cases h
theorem wordE_le {l : List Nat} {i e : Nat} (h : wordE l i = some e) : e ≤ l.length := by
  unfold wordE at h
  split at h
  · rename_i hs
    cases h
    exact runE_le (stands_lt hs)
  · cases h
theorem take2_lt {l : List Nat} {i a b : Nat} (h : (l.drop i).take 2 = [a, b]) : i + 2 ≤ l.length := by
  have e := congrArg List.length h
  rw [List.length_take, List.length_drop] at e
  have : min 2 (l.length - i) = 2 := e
  omega
theorem signE_gt {l : List Nat} {i e : Nat} (h : signE l i = some e) : i < e := by
  unfold signE at h
  split at h
  · cases h
    omega
  · split at h
    · cases h
      omega
    · cases h
theorem signE_le {l : List Nat} {i e : Nat} (h : signE l i = some e) : e ≤ l.length := by
  unfold signE at h
  split at h
  · rename_i hs
    cases h
    rcases hs with hs | hs | hs
    · exact take2_lt hs
    · exact take2_lt hs
    · exact take2_lt hs
  · split at h
    · rename_i hs
      cases h
      exact stands_lt hs
    · cases h
theorem pre_len_le {S l : List Nat} (h : TL.pre S l = true) : S.length ≤ l.length := by
  have e := congrArg List.length (eq_of_beq (show (l.take S.length == S) = true from h))
  rw [List.length_take] at e
  omega
theorem errS_len (w : Str) : (errS w).length = w.length + 2 := by
  unfold errS
  rw [List.length_cons, List.length_append, ← TL.len_tl]
  rfl
theorem errE_gt {l : List Nat} {i e : Nat} (h : errE l i = some e) : i < e := by
  unfold errE at h
  obtain ⟨w, _, rfl⟩ := Option.map_eq_some_iff.mp h
  omega
theorem errE_le {l : List Nat} {i e : Nat} (hi : i ≤ l.length) (h : errE l i = some e) : e ≤ l.length := by
  unfold errE at h
  obtain ⟨w, hw, rfl⟩ := Option.map_eq_some_iff.mp h
  have a := pre_len_le (show TL.pre (errS w) (l.drop i) = true from List.find?_some (p := fun w => TL.pre (errS w) (l.drop i)) hw)
  rw [errS_len, List.length_drop] at a
  omega
/-- what a text in quotes stands for, and how many signs it takes behind the first quote; or it is not closed -/
def qScan : List Nat → Option (Nat × List Nat)
  | [] => none
  | c :: r => if c = 34 then (match r with
      | [] => some (1, [])
      | d :: r' => if d = 34 then (qScan r').map fun q => (q.1 + 2, 34 :: q.2) else some (1, []))
    else (qScan r).map fun q => (q.1 + 1, c :: q.2)
inductive Tk where
  | fault (at_ : Nat)
  | tok (kind : Str) (at_ end_ : Nat) (what : List Nat)
def endK (u : List Nat) (i : Nat) : List (Str × Option Nat) := [("error", errE u i), ("rows", rowsE u i), ("number", numE u i), ("cell", cellE u i), ("columns", columnsE u i), ("word", wordE u i), ("sign", signE u i)]
def badK (k : Str) (w : List Nat) : Bool := (decide (k = "number") && decide (readV (SX.S w) = .non)) || (decide (k = "word") && decide (12 < w.length))
def pickE (u : List Nat) (i : Nat) : List (Str × Option Nat) → Tk
  | [] => .fault i
  | (k, some e) :: _ => if badK k (sub u i e) = true then .fault i else .tok k i e (sub u i e)
  | (_, none) :: r => pickE u i r
def quoteE (l : List Nat) (i : Nat) : Tk := match qScan (l.drop (i + 1)) with
  | none => .fault l.length
  | some q => if 64 < q.2.length then .fault i else .tok "text" i (i + 1 + q.1) q.2
def tokAt (l u : List Nat) (i : Nat) : Tk := if stands (· == 34) l i = true then quoteE l i else pickE u i (endK u i)

/-! ### small letters and capital ones -/
abbrev up1 : Nat → Nat := PyProof.Rows.up1
def upL (l : List Nat) : List Nat := l.map up1
def AscL (l : List Nat) : Prop := ∀ c ∈ l, c < 128
def UpInv (p : Nat → Bool) : Prop := ∀ c, c < 128 → p (up1 c) = p c
theorem upL_len (l : List Nat) : (upL l).length = l.length := List.length_map ..
theorem upL_at (l : List Nat) (i : Nat) : (upL l)[i]? = (l[i]?).map up1 := List.getElem?_map ..
theorem upL_drop (l : List Nat) (i : Nat) : (upL l).drop i = upL (l.drop i) := (List.map_drop ..).symm
theorem upL_take (l : List Nat) (i : Nat) : (upL l).take i = upL (l.take i) := (List.map_take ..).symm
theorem upL_sub (l : List Nat) (i j : Nat) : sub (upL l) i j = upL (sub l i j) := by
  unfold sub
  rw [upL_drop, upL_take]
theorem stands_up {p : Nat → Bool} (h : UpInv p) {l : List Nat} (ha : AscL l) (i : Nat) : stands p (upL l) i = stands p l i := by
  unfold stands
  rw [upL_at]
  cases e : l[i]? with
  | none => rfl
  | some c => exact h c (ha c (List.mem_of_getElem? e))
theorem tw_up {p : Nat → Bool} (h : UpInv p) : ∀ {l : List Nat}, AscL l → ((upL l).takeWhile p).length = (l.takeWhile p).length
  | [], _ => rfl
  | c :: l, ha => by
    have hc := h c (ha c (List.mem_cons_self ..))
    show ((up1 c :: upL l).takeWhile p).length = _
    rw [List.takeWhile_cons, List.takeWhile_cons, hc]
    cases p c with
    | true => exact congrArg Nat.succ (tw_up h fun d hd => ha d (List.mem_cons_of_mem _ hd))
    | false => rfl
theorem runE_up {p : Nat → Bool} (h : UpInv p) {l : List Nat} (ha : AscL l) (i : Nat) : runE p (upL l) i = runE p l i := by
  unfold runE
  rw [upL_drop, tw_up h fun c hc => ha c (List.mem_of_mem_drop hc)]
theorem inv_isD : UpInv isD := by unfold UpInv; decide +kernel
theorem inv_co : UpInv isCo := by unfold UpInv; decide +kernel
theorem inv_lt : UpInv isLt := by unfold UpInv; decide +kernel
theorem inv_mkW : UpInv mkW := by unfold UpInv; decide +kernel
theorem inv_gW : UpInv gW := by unfold UpInv; decide +kernel
theorem inv_sg : UpInv isSg := by unfold UpInv; decide +kernel
theorem inv_36 : UpInv (· == 36) := by unfold UpInv; decide +kernel
theorem inv_32 : UpInv (· == 32) := by unfold UpInv; decide +kernel
theorem inv_34 : UpInv (· == 34) := by unfold UpInv; decide +kernel
theorem inv_46 : UpInv (· == 46) := by unfold UpInv; decide +kernel
theorem inv_48 : UpInv (· == 48) := by unfold UpInv; decide +kernel
theorem inv_58 : UpInv (· == 58) := by unfold UpInv; decide +kernel
theorem inv_cw : UpInv (fun c => c == 36 || mkW c) := by unfold UpInv; decide +kernel
theorem up_eq {d : Nat} (h : d < 65 ∨ 90 < d) {c : Nat} (hd : up1 c = d) : c = d := by
  unfold up1 PyProof.Rows.up1 at hd
  split at hd <;> omega
theorem up_same {c : Nat} (h : isD c = true) : up1 c = c := by
  have := isD_iff.mp h
  unfold up1 PyProof.Rows.up1
  rw [if_neg (by omega)]
theorem sub_digits {l : List Nat} {i : Nat} : ∀ c ∈ sub l i (runE isD l i), isD c = true := fun c hc => by
  have e : sub l i (runE isD l i) = (l.drop i).takeWhile isD := by
    unfold sub runE
    rw [Nat.add_sub_cancel_left]
    exact (List.prefix_iff_eq_take.mp (List.takeWhile_prefix isD)).symm
  rw [e] at hc
  exact tw_all _ c hc
theorem upL_digits {l : List Nat} (h : ∀ c ∈ l, isD c = true) : upL l = l := by
  unfold upL
  conv => rhs; rw [← List.map_id l]
  exact List.map_congr_left fun c hc => up_same (h c hc)
section
variable {l : List Nat} (ha : AscL l)
include ha
theorem markE_up (i : Nat) : markE (upL l) i = markE l i := by
  unfold markE
  rw [stands_up inv_36 ha]
theorem rowE_up (i : Nat) : rowE (upL l) i = rowE l i := by
  unfold rowE
  rw [runE_up inv_isD ha, stands_up inv_48 ha, upL_sub, upL_digits sub_digits]
theorem colE_up (i : Nat) : colE (upL l) i = colE l i := by
  unfold colE
  rw [markE_up ha, stands_up inv_co ha]
theorem rowsE_up (i : Nat) : rowsE (upL l) i = rowsE l i := by
  unfold rowsE
  rw [markE_up ha, rowE_up ha]
  refine congrArg _ (funext fun m => ?_)
  rw [stands_up inv_58 ha, markE_up ha, rowE_up ha]
theorem cellE_up (i : Nat) : cellE (upL l) i = cellE l i := by
  unfold cellE
  rw [colE_up ha]
  refine congrArg _ (funext fun k => ?_)
  rw [markE_up ha, rowE_up ha]
  refine congrArg _ (funext fun e => ?_)
  rw [stands_up inv_mkW ha]
theorem columnsE_up (i : Nat) : columnsE (upL l) i = columnsE l i := by
  unfold columnsE
  rw [colE_up ha]
  refine congrArg _ (funext fun k => ?_)
  rw [stands_up inv_58 ha, colE_up ha]
  refine congrArg (fun z => if stands (· == 58) l k = true then z else none) (congrArg _ (funext fun e => ?_))
  rw [stands_up inv_cw ha]
theorem numE_up (i : Nat) : numE (upL l) i = numE l i := by
  unfold numE
  rw [runE_up inv_isD ha, stands_up inv_46 ha, stands_up inv_isD ha, runE_up inv_isD ha]
theorem wordE_up (i : Nat) : wordE (upL l) i = wordE l i := by
  unfold wordE
  rw [stands_up inv_lt ha, runE_up inv_gW ha]
theorem take2_up {i a b : Nat} (h1 : a < 65 ∨ 90 < a) (h2 : b < 65 ∨ 90 < b) (k1 : a < 97 ∨ 122 < a) (k2 : b < 97 ∨ 122 < b) : ((upL l).drop i).take 2 = [a, b] ↔ (l.drop i).take 2 = [a, b] := by
  rw [upL_drop, upL_take]
  generalize (l.drop i).take 2 = m
  constructor
  · intro h
    match m, h with
    | [x, y], h =>
      have q := List.cons.inj h
      have q2 := (List.cons.inj q.2).1
      rw [up_eq h1 q.1, up_eq h2 q2]
  · intro h
    rw [h]
    show [up1 a, up1 b] = [a, b]
    unfold up1 PyProof.Rows.up1
    rw [if_neg (by omega), if_neg (by omega)]
theorem signE_up (i : Nat) : signE (upL l) i = signE l i := by
  unfold signE
  rw [stands_up inv_sg ha]
  simp only [take2_up ha (i := i) (a := 60) (b := 62) (by decide) (by decide) (by decide) (by decide), take2_up ha (i := i) (a := 60) (b := 61) (by decide) (by decide) (by decide) (by decide), take2_up ha (i := i) (a := 62) (b := 61) (by decide) (by decide) (by decide) (by decide)]
end
theorem badK_num {w : List Nat} : badK "number" w = decide (readV (SX.S w) = .non) := by
  unfold badK
  rw [decide_eq_true (p := ("number" : Str) = "number") rfl, decide_eq_false (p := ("number" : Str) = "word") (by decide +kernel), Bool.true_and, Bool.false_and, Bool.or_false]
theorem badK_word {w : List Nat} : badK "word" w = decide (12 < w.length) := by
  unfold badK
  rw [decide_eq_true (p := ("word" : Str) = "word") rfl, decide_eq_false (p := ("word" : Str) = "number") (by decide +kernel), Bool.true_and, Bool.false_and, Bool.false_or]
theorem badK_no {k : Str} {w : List Nat} (h1 : k ≠ "number") (h2 : k ≠ "word") : badK k w = false := by
  unfold badK
  rw [decide_eq_false h1, decide_eq_false h2]
  rfl
/-! ### one token after another -/
theorem qScan_pos : ∀ {m n : Nat} {l : List Nat} {s : List Nat}, l.length ≤ m → qScan l = some (n, s) → 1 ≤ n ∧ n ≤ l.length
  | m, n, [], s, _, h => by cases h
  | 0, n, c :: r, s, hl, h => absurd hl (by rw [List.length_cons]; omega)
  | m + 1, n, c :: r, s, hl, h => by
    unfold qScan at h
    split at h
    · match r, hl, h with
      | [], hl, h =>
        cases h
        exact ⟨Nat.le_refl _, Nat.le_refl _⟩
      | d :: r', hl, h =>
        dsimp only at h
        split at h
        · obtain ⟨q, hq, e⟩ := Option.map_eq_some_iff.mp h
          cases e
          have := qScan_pos (m := m) (n := q.1) (s := q.2) (by simp only [List.length_cons] at hl; omega) hq
          simp only [List.length_cons]
          omega
        · cases h
          simp only [List.length_cons]
          omega
    · obtain ⟨q, hq, e⟩ := Option.map_eq_some_iff.mp h
      cases e
      have := qScan_pos (m := m) (n := q.1) (s := q.2) (by simp only [List.length_cons] at hl; omega) hq
      rw [List.length_cons]
      omega
theorem endK_ok {u : List Nat} {i : Nat} (hi : i ≤ u.length) : ∀ k e, (k, some e) ∈ endK u i → i < e ∧ e ≤ u.length := fun k e h => by
  unfold endK at h
  simp only [List.mem_cons, List.not_mem_nil, or_false, Prod.mk.injEq] at h
  rcases h with ⟨_, h⟩ | ⟨_, h⟩ | ⟨_, h⟩ | ⟨_, h⟩ | ⟨_, h⟩ | ⟨_, h⟩ | ⟨_, h⟩
  · exact ⟨errE_gt h.symm, errE_le hi h.symm⟩
  · exact ⟨rowsE_gt h.symm, rowsE_le h.symm⟩
  · exact ⟨numE_gt h.symm, numE_le hi h.symm⟩
  · exact ⟨cellE_gt h.symm, cellE_le h.symm⟩
  · exact ⟨columnsE_gt h.symm, columnsE_le h.symm⟩
  · exact ⟨wordE_gt h.symm, wordE_le h.symm⟩
  · exact ⟨signE_gt h.symm, signE_le h.symm⟩
theorem pickE_ok {u : List Nat} {i : Nat} : ∀ {ks : List (Str × Option Nat)}, (∀ k e, (k, some e) ∈ ks → i < e ∧ e ≤ u.length) → ∀ {k : Str} {a e : Nat} {w : List Nat}, pickE u i ks = .tok k a e w → a = i ∧ i < e ∧ e ≤ u.length
  | [], _, k, a, e, w, h => by cases h
  | (k0, some e0) :: r, hk, k, a, e, w, h => by
    unfold pickE at h
    split at h
    · cases h
    · cases h
      exact ⟨rfl, hk _ _ (List.mem_cons_self ..)⟩
  | (k0, none) :: r, hk, k, a, e, w, h => pickE_ok (ks := r) (fun k e h => hk k e (List.mem_cons_of_mem _ h)) h
theorem tokAt_ok {l u : List Nat} {i : Nat} (hi : i < l.length) (hl : u.length = l.length) {k : Str} {a e : Nat} {w : List Nat} (h : tokAt l u i = .tok k a e w) : a = i ∧ i < e ∧ e ≤ l.length := by
  unfold tokAt at h
  split at h
  · unfold quoteE at h
    split at h
    · cases h
    · rename_i q hq
      split at h
      · cases h
      · cases h
        have b := qScan_pos (n := q.1) (s := q.2) (Nat.le_refl _) hq
        rw [List.length_drop] at b
        omega
  · have := pickE_ok (endK_ok (by omega)) h
    omega
/-- all tokens from a place on, and the fault that ends them -/
def toks (l u : List Nat) : Nat → Nat → List (Str × Nat × Nat × List Nat) × Option Nat
  | 0, _ => ([], none)
  | n + 1, i => if l.length ≤ i then ([], none) else match tokAt l u i with
    | .fault a => ([], some a)
    | .tok k a e w => ((k, a, e, w) :: (toks l u n (runE (· == 32) l e)).1, (toks l u n (runE (· == 32) l e)).2)
theorem toks_stop {l u : List Nat} {n i : Nat} (h : l.length ≤ i) : toks l u n i = ([], none) := by
  cases n with
  | zero => rfl
  | succ n => exact if_pos h
theorem toks_fault {l u : List Nat} {n i a : Nat} (h : i < l.length) (e : tokAt l u i = .fault a) : toks l u (n + 1) i = ([], some a) := by
  unfold toks
  rw [if_neg (by omega), e]
theorem toks_tok {l u : List Nat} {n i a e : Nat} {k : Str} {w : List Nat} (h : i < l.length) (q : tokAt l u i = .tok k a e w) : toks l u (n + 1) i = ((k, a, e, w) :: (toks l u n (runE (· == 32) l e)).1, (toks l u n (runE (· == 32) l e)).2) := by
  rw [toks, if_neg (by omega), q]
/-- enough turns are enough -/
theorem toks_more {l u : List Nat} (hl : u.length = l.length) : ∀ {n m i : Nat}, l.length - i ≤ n → n ≤ m → toks l u m i = toks l u n i
  | 0, m, i, h, _ => by rw [toks_stop (by omega), toks_stop (by omega)]
  | n + 1, 0, i, h, k => absurd k (by omega)
  | n + 1, m + 1, i, h, k => by
    by_cases hi : l.length ≤ i
    · rw [toks_stop hi, toks_stop hi]
    · cases e : tokAt l u i with
      | fault a => rw [toks_fault (by omega) e, toks_fault (by omega) e]
      | tok kk a e2 w =>
        have b := tokAt_ok (by omega) hl e
        have r := runE_ge (· == 32) l e2
        rw [toks_tok (by omega) e, toks_tok (by omega) e, toks_more hl (n := n) (m := m) (by omega) (by omega)]
def toksL (l : List Nat) : List (Str × Nat × Nat × List Nat) × Option Nat := toks l (upL l) l.length (runE (· == 32) l 1)

/-! ### quotes -/
theorem find3_q (z : Str) (i : Nat) : Txt.find3 z ⟨#[34]⟩ (i : Int) = if runE (· != 34) (tl z) i < (tl z).length then ((runE (· != 34) (tl z) i : Nat) : Int) else -1 := by
  have hf : PySem.fromIndex z.length (i : Int) = i := by
    unfold PySem.fromIndex
    rw [if_neg (by omega)]
    omega
  have hl := len_tl z
  have hx : ∀ v c, v < z.length → (tl z)[v]? = some c → z.cps.getD v 0 = c := fun v c _ e => StrLaws.getD_of_getElem? e
  rcases StrLaws.find3_spec z 34 i with ⟨h, hn⟩ | ⟨k, h, h1, h2, h3, h4⟩
  · rw [h, if_neg]
    intro hlt
    have hs := runE_fin (· != 34) (tl z) i
    have e := List.getElem?_eq_getElem hlt
    rw [stands_some e] at hs
    have e2 : (tl z)[runE (· != 34) (tl z) i] = 34 := by simpa using hs
    exact hn (runE (· != 34) (tl z) i) (by rw [hf]; exact runE_ge _ _ _) (by omega) (hx _ _ (by omega) (by rw [e, e2]))
  · rw [hf] at h1 h4
    have e1 : (tl z)[k]? = some 34 := StrLaws.getElem?_of_getD h2 h3
    have e : runE (· != 34) (tl z) i = k := runE_of h1 (fun v v1 v2 => by
      have hv := List.getElem?_eq_getElem (l := tl z) (i := v) (by omega)
      rw [stands_some hv]
      have := h4 v v1 v2
      rw [hx v _ (by omega) hv] at this
      simpa using this) (by rw [stands_some e1]; rfl)
    rw [h, e, if_pos (by omega)]
inductive Units : List Nat → List Nat → Prop
  | nil : Units [] []
  | two {m s : List Nat} : Units m s → Units (34 :: 34 :: m) (34 :: s)
  | one {c : Nat} {m s : List Nat} : c ≠ 34 → Units m s → Units (c :: m) (c :: s)
theorem Units.app {a s b t : List Nat} (h : Units a s) (k : Units b t) : Units (a ++ b) (s ++ t) := by
  induction h with
  | nil => exact k
  | two _ ih => exact .two ih
  | one hc _ ih => exact .one hc ih
theorem Units.plain : ∀ {m : List Nat}, (∀ c ∈ m, c ≠ 34) → Units m m
  | [], _ => .nil
  | c :: m, h => .one (h c (List.mem_cons_self ..)) (Units.plain fun d hd => h d (List.mem_cons_of_mem _ hd))
theorem qScan_34 {r : List Nat} (h : r.head? ≠ some 34) : qScan (34 :: r) = some (1, []) := by
  unfold qScan
  rw [if_pos rfl]
  cases r with
  | nil => rfl
  | cons d r => exact if_neg fun e => h (by rw [e]; rfl)
theorem qScan_two (r : List Nat) : qScan (34 :: 34 :: r) = (qScan r).map fun q => (q.1 + 2, 34 :: q.2) := by
  rw [qScan.eq_def]
  exact (if_pos rfl).trans (if_pos rfl)
theorem qScan_one {c : Nat} (h : c ≠ 34) (r : List Nat) : qScan (c :: r) = (qScan r).map fun q => (q.1 + 1, c :: q.2) := by
  rw [qScan.eq_def]
  exact if_neg h
theorem Units.scan {m s : List Nat} (h : Units m s) (r : List Nat) : qScan (m ++ r) = (qScan r).map fun q => (q.1 + m.length, s ++ q.2) := by
  induction h with
  | nil =>
    show qScan r = (qScan r).map fun q => (q.1 + 0, q.2)
    cases qScan r <;> rfl
  | two _ ih =>
    rw [List.cons_append, List.cons_append, qScan_two, ih, Option.map_map]
    refine congrArg (fun f => Option.map f (qScan r)) (funext fun q => ?_)
    show (q.1 + _ + 2, _) = (q.1 + _, _)
    simp only [List.length_cons]
    rfl
  | one hc _ ih =>
    rw [List.cons_append, qScan_one hc, ih, Option.map_map]
    refine congrArg (fun f => Option.map f (qScan r)) (funext fun q => ?_)
    show (q.1 + _ + 1, _) = (q.1 + _, _)
    simp only [List.length_cons]
    rfl
theorem Units.und {m s : List Nat} (h : Units m s) : ∀ acc : List Nat, TL.joinL [34] (TL.spl [34, 34] 0 acc m) = acc ++ s := by
  induction h with
  | nil =>
    intro acc
    rw [TL.spl_nil, List.append_nil]
    rfl
  | @two m s _ ih =>
    intro acc
    rw [TL.spl_hit (show TL.pre [34, 34] (34 :: 34 :: m) = true from rfl)]
    show TL.joinL [34] (acc :: TL.spl [34, 34] 1 [] (34 :: m)) = _
    rw [TL.spl_pass]
    show TL.joinL [34] (acc :: TL.spl [34, 34] 0 [] m) = _
    have e := ih []
    rw [List.nil_append] at e
    cases q : TL.spl [34, 34] 0 [] m with
    | nil =>
      exfalso
      have hne : ∀ (m acc : List Nat), TL.spl [34, 34] 0 acc m ≠ [] := fun m => by
        induction m with
        | nil => intro acc; rw [TL.spl_nil]; exact List.cons_ne_nil _ _
        | cons c m ih2 =>
          intro acc
          cases hp : TL.pre [34, 34] (c :: m) with
          | true => rw [TL.spl_hit hp]; exact List.cons_ne_nil _ _
          | false => rw [TL.spl_miss hp]; exact ih2 _
      exact hne m [] q
    | cons x xs =>
      rw [q] at e
      have e3 : TL.joinL [34] (acc :: x :: xs) = acc ++ ([34] ++ TL.joinL [34] (x :: xs)) := rfl
      rw [e3, e]
      rfl
  | @one c m s hc _ ih =>
    intro acc
    have hp : TL.pre [34, 34] (c :: m) = false := TL.pre_of_head [34] m hc
    rw [TL.spl_miss hp, ih, List.append_assoc]
    rfl
theorem replace_spl (x y z : Str) (hy : tl y ≠ []) : tl (Txt.replace x y z) = TL.joinL (tl z) (TL.spl (tl y) 0 [] (tl x)) := by
  obtain ⟨f, g, hn⟩ := StrLaws.occ_tight x y (TL.len1 hy)
  have key := TL.parts_spl hy _ 0 f (Nat.zero_le _) g hn
  rw [List.drop_zero] at key
  unfold Txt.replace
  have hy0 : (y.length == 0) = false := by
    have := TL.len1 hy
    rw [beq_eq_false_iff_ne]
    omega
  rw [hy0, Bool.false_and, Bool.or_false]
  by_cases h2 : (Builtin.Str.occurrences x y 0 x.length (x.length + 1)).isEmpty = true
  · rw [if_pos h2, ← key, List.isEmpty_iff.mp h2]
    show tl x = tl (Builtin.Str.strSub x 0 x.length)
    rw [TL.tl_strSub_end]
    rfl
  · rw [if_neg h2, ← key]
    rw [StrLaws.glued_eq_join, TL.tl_join, StrLaws.partsBetween_eq]
/-! ### lists that the draws do not touch -/
def A2 {α : Type} (R : V → α → Prop) (xs : List V) (ys : List α) : Prop := xs.length = ys.length ∧ ∀ (k : Nat) (x : V) (y : α), xs[k]? = some x → ys[k]? = some y → R x y
section
variable {α : Type} {R S : V → α → Prop} {xs zs : List V} {ys us : List α}
theorem A2.nil : A2 R [] [] := ⟨rfl, fun k x y e _ => by simp at e⟩
theorem A2.imp (h : A2 R xs ys) (f : ∀ x y, R x y → S x y) : A2 S xs ys := ⟨h.1, fun k x y a b => f _ _ (h.2 k x y a b)⟩
theorem A2.app (h : A2 R xs ys) (g : A2 R zs us) : A2 R (xs ++ zs) (ys ++ us) := by
  refine ⟨by rw [List.length_append, List.length_append, h.1, g.1], fun k x y a b => ?_⟩
  by_cases hk : k < xs.length
  · rw [List.getElem?_append_left hk] at a
    rw [List.getElem?_append_left (by rw [← h.1]; exact hk)] at b
    exact h.2 k x y a b
  · rw [List.getElem?_append_right (by omega)] at a
    rw [List.getElem?_append_right (by rw [← h.1]; omega), ← h.1] at b
    exact g.2 _ x y a b
theorem A2.one {x : V} {y : α} (h : R x y) : A2 R [x] [y] := ⟨rfl, fun k a b e f => by
  cases k with
  | zero =>
    cases e
    cases f
    exact h
  | succ k => simp at e⟩
theorem A2.snoc {x : V} {y : α} (h : A2 R xs ys) (g : R x y) : A2 R (xs ++ [x]) (ys ++ [y]) := h.app (.one g)
theorem A2.drop (n : Nat) (h : A2 R xs ys) : A2 R (xs.drop n) (ys.drop n) := ⟨by rw [List.length_drop, List.length_drop, h.1], fun k x y a b => by
  rw [List.getElem?_drop] at a b
  exact h.2 _ x y a b⟩
theorem A2.take (n : Nat) (h : A2 R xs ys) : A2 R (xs.take n) (ys.take n) := ⟨by rw [List.length_take, List.length_take, h.1], fun k x y a b => by
  rw [List.getElem?_take] at a b
  split at a
  · rw [if_pos (by assumption)] at b
    exact h.2 _ x y a b
  · cases a⟩
theorem A2.get (h : A2 R xs ys) {k : Nat} {x : V} (e : xs[k]? = some x) : ∃ y, ys[k]? = some y ∧ R x y := by
  have hl : k < ys.length := by
    rw [← h.1]
    exact (List.getElem?_eq_some_iff.mp e).1
  exact ⟨ys[k], List.getElem?_eq_getElem hl, h.2 k x _ e (List.getElem?_eq_getElem hl)⟩
end

/-- a word that the walk does not open -/
inductive Hd (p : Prop) : Prop where
  | mk (h : p)
  | no (h : False)
theorem Hd.get {p : Prop} : Hd p → p
  | .mk h => h
  | .no h => h.elim
def optV : Option Nat → V
  | none => .non
  | some n => .int (n : Nat)
/-- what becomes of a token: handed back, or its fault -/
def TkQ (K : PySem.W.Frag) (H : Hp) (Q : VK) (E : XK) : Tk → Prop
  | .fault a => ∀ (d : Addr) (H' : Hp), Same H H' → H' d = some (.xd [("at", .int (a : Nat))]) → E (.ref (clK K "Fault")) (some d) H'
  | .tok k a e w => ∀ (p : Addr) (H' : Hp), Same H H' → SqT K H' p [.str k, .int (a : Nat), .int (e : Nat), .str (SX.S w)] → Q (.ref p) H'
/-- a token at an address -/
def TkV (K : PySem.W.Frag) (H : Hp) (x : V) (t : Str × Nat × Nat × List Nat) : Prop := ∃ p, x = .ref p ∧ SqT K H p [.str t.1, .int (t.2.1 : Nat), .int (t.2.2.1 : Nat), .str (SX.S t.2.2.2)]
def pairE (g : List Nat → Nat → Option Nat) (l : List Nat) (i : Nat) : Option Nat := (g l i).bind fun m => if stands (· == 58) l m = true then g l (m + 1) else none
def CapL (l : List Nat) : Prop := ∀ c ∈ l, c < 128 ∧ isLo c = false
theorem cut_sub (z : Str) (i j : Nat) : cutS z (some (i : Int)) (some (j : Int)) = SX.S (sub (tl z) i j) := by
  unfold cutS sub
  rw [HT.sIx_nat, HT.sIx_nat]
  refine congrArg SX.S ?_
  show ((tl z).drop (min i z.length)).take (min j z.length - min i z.length) = _
  rw [len_tl]
  by_cases h : i ≤ (tl z).length
  · rw [Nat.min_eq_left h]
    by_cases h2 : j ≤ (tl z).length
    · rw [Nat.min_eq_left h2]
    · rw [Nat.min_eq_right (a := j) (by omega), List.take_of_length_le (by rw [List.length_drop]; exact Nat.le_refl _), List.take_of_length_le (by rw [List.length_drop]; omega)]
  · rw [List.drop_of_length_le (i := min i (tl z).length) (by omega), List.drop_of_length_le (i := i) (by omega), List.take_nil, List.take_nil]
theorem cut_sign (z : Str) (i : Nat) : cutS z (some (i : Int)) (some ((i : Int) + 1)) = SX.S (sub (tl z) i (i + 1)) := cut_sub z i (i + 1)
theorem sub_one (l : List Nat) (i : Nat) : sub l i (i + 1) = match l[i]? with
    | some c => [c]
    | none => [] := by
  unfold sub
  rw [Nat.add_sub_cancel_left]
  cases e : l[i]? with
  | none => rw [List.drop_of_length_le (List.getElem?_eq_none_iff.mp e)]; rfl
  | some c =>
    obtain ⟨h, rfl⟩ := List.getElem?_eq_some_iff.mp e
    rw [List.drop_eq_getElem_cons h]
    rfl
theorem sub_len1 (l : List Nat) (i : Nat) : (SX.S (sub l i (i + 1))).length ≤ 1 := by
  rw [SX.S_len, sub_one]
  split
  · exact Nat.le_refl _
  · exact Nat.zero_le _
theorem stands_one (p : Nat → Bool) (l : List Nat) (i : Nat) : stands p (sub l i (i + 1)) 0 = stands p l i := by
  rw [sub_one]
  unfold stands
  cases l[i]? <;> rfl
theorem sign_is (l : List Nat) (i c : Nat) : decide (V.str (SX.S (sub l i (i + 1))) = V.str (SX.S [c])) = stands (· == c) l i := by
  rw [sub_one]
  unfold stands
  cases e : l[i]? with
  | none =>
    refine decide_eq_false fun h => ?_
    exact absurd (SX.S_inj (V.str.inj h)) (List.cons_ne_nil _ _).symm
  | some d =>
    rw [Bool.eq_iff_iff, decide_eq_true_eq]
    refine ⟨fun h => ?_, fun h => ?_⟩
    · have := SX.S_inj (V.str.inj h)
      simpa using this
    · have : d = c := by simpa using h
      rw [this]
theorem while_at {c : TT} {tb : TS} {D : Ends} {σ : L2.St} {H : Hp} (Pv : Nat → L2.St → Hp → Prop) (n : Nat) (h0 : Pv n σ H)
    (hs : ∀ n σ H, Pv n σ H → c σ H fun b H1 => if b = true then ∃ Nx : L2.St → Hp → Prop, (∀ σ' H', Nx σ' H' → ∃ m', m' < n ∧ Pv m' σ' H') ∧ tb { D with nx := Nx, ct := Nx, bk := D.nx } σ H1 else D.nx σ H1) : tWhile c tb D σ H := ⟨Pv, ⟨n, h0⟩, hs⟩
theorem sg_cases {z : Str} (h : z.length ≤ 1) : z = SX.S [] ∨ ∃ c, z = SX.S [c] := by
  rw [len_tl] at h
  have e : SX.S (tl z) = z := SX.S_tl z
  generalize tl z = m at h e
  subst e
  match m, h with
  | [], _ => exact .inl rfl
  | [c], _ => exact .inr ⟨c, rfl⟩
theorem le_sg0 (z : Str) : (!decide ((SX.S []).cps.toList < z.cps.toList)) = decide (tl z = []) := by
  show (!decide (([] : List Nat) < tl z)) = _
  cases tl z with
  | nil => rfl
  | cons c l => rfl
theorem ge_sg (c d : Nat) : (!decide ((SX.S [c]).cps.toList < (SX.S [d]).cps.toList)) = decide (d ≤ c) := by
  show (!decide ([c] < [d])) = decide (d ≤ c)
  rw [Bool.eq_iff_iff]
  simp only [Bool.not_eq_true', decide_eq_false_iff_not, decide_eq_true_eq, one_lt]
  omega
theorem ge_sg0 (d : Nat) : (!decide ((SX.S []).cps.toList < (SX.S [d]).cps.toList)) = false := rfl

theorem c_0 : (Str.ofString "0") = SX.S [48] := by decide +kernel
theorem c_9 : (Str.ofString "9") = SX.S [57] := by decide +kernel
theorem c_A : (Str.ofString "A") = SX.S [65] := by decide +kernel
theorem c_J : (Str.ofString "J") = SX.S [74] := by decide +kernel
theorem c_Z : (Str.ofString "Z") = SX.S [90] := by decide +kernel
theorem c_a : (Str.ofString "a") = SX.S [97] := by decide +kernel
theorem c_z : (Str.ofString "z") = SX.S [122] := by decide +kernel
theorem c_mark : (Str.ofString "$") = SX.S [36] := by decide +kernel
theorem c_colon : (Str.ofString ":") = SX.S [58] := by decide +kernel
theorem c_quote : (Str.ofString "\"") = SX.S [34] := by decide +kernel
theorem c_quotes : (Str.ofString "\"\"") = SX.S [34, 34] := by decide +kernel
theorem isD_eq (c : Nat) (h : 48 ≤ c) : isD c = decide (c ≤ 57) := by
  unfold isD
  rw [decide_eq_true h, Bool.true_and]
theorem isD_no (c : Nat) (h : ¬ 48 ≤ c) : isD c = false := by
  unfold isD
  rw [decide_eq_false h, Bool.false_and]
theorem sgn_of {i c : Nat} {z : Str} {k : Str} (hk : k = SX.S [c]) (h : V.str (cutS z (some (i : Int)) (some ((i : Int) + 1))) = V.str k) : stands (· == c) (tl z) i = true := by
  rw [hk, cut_sign] at h
  rw [← sign_is]
  exact decide_eq_true h
theorem sgn_no {i c : Nat} {z : Str} {k : Str} (hk : k = SX.S [c]) (h : ¬ V.str (cutS z (some (i : Int)) (some ((i : Int) + 1))) = V.str k) : stands (· == c) (tl z) i = false := by
  rw [hk, cut_sign] at h
  rw [← sign_is]
  exact decide_eq_false h
theorem cut_st (p : Nat → Bool) (z : Str) (i : Nat) : stands p (tl (cutS z (some (i : Int)) (some ((i : Int) + 1)))) 0 = stands p (tl z) i := by
  rw [cut_sign]
  exact stands_one p (tl z) i
theorem cut_st1 (z : Str) (i : Nat) : (cutS z (some (i : Int)) (some ((i : Int) + 1))).length ≤ 1 := by
  rw [cut_sign]
  exact sub_len1 _ _

theorem cut_cases (z : Str) (i : Nat) : (cutS z (some (i : Int)) (some ((i : Int) + 1)) = SX.S [] ∧ (tl z)[i]? = none) ∨ ∃ c, cutS z (some (i : Int)) (some ((i : Int) + 1)) = SX.S [c] ∧ (tl z)[i]? = some c := by
  rw [cut_sign, sub_one]
  cases e : (tl z)[i]? with
  | none => exact .inl ⟨rfl, rfl⟩
  | some c => exact .inr ⟨c, rfl, rfl⟩
theorem colE_some {l : List Nat} {i : Nat} (h : stands isCo l (markE l i) = true) : colE l i = some (markE l i + 1) := if_pos h
theorem colE_none {l : List Nat} {i : Nat} (h : stands isCo l (markE l i) = false) : colE l i = none := if_neg (by rw [h]; exact Bool.false_ne_true)
theorem isCo_cap {c : Nat} (h : isLo c = false) : isCo c = (decide (65 ≤ c) && decide (c ≤ 74)) := by
  have : ¬ (97 ≤ c ∧ c ≤ 122) := fun z => by
    unfold isLo at h
    rw [decide_eq_true z.1, decide_eq_true z.2] at h
    cases h
  unfold isCo
  rw [Bool.eq_iff_iff]
  simp only [Bool.or_eq_true, Bool.and_eq_true, decide_eq_true_eq]
  omega

theorem tl_sub {z : Str} {i j : Nat} : tl (cutS z (some (i : Int)) (some (j : Int))) = sub (tl z) i j := congrArg tl (cut_sub z i j)
theorem sub_len {l : List Nat} {i j : Nat} (h : i ≤ j) (k : j ≤ l.length) : (sub l i j).length = j - i := by
  unfold sub
  rw [List.length_take, List.length_drop]
  omega
theorem sub_run {l : List Nat} {p : Nat → Bool} {i : Nat} : sub l i (runE p l i) = (l.drop i).takeWhile p := by
  unfold sub runE
  rw [Nat.add_sub_cancel_left]
  exact (List.prefix_iff_eq_take.mp (List.takeWhile_prefix p)).symm
theorem ofS_none : (Str.ofString "") = SX.S [] := e_none
theorem sub_nil {l : List Nat} {p : Nat → Bool} {i : Nat} : sub l i (runE p l i) = [] ↔ runE p l i = i := by
  rw [sub_run]
  unfold runE
  constructor
  · intro h
    rw [h]
    rfl
  · intro h
    exact List.eq_nil_of_length_eq_zero (by omega)
theorem intT {l : List Nat} (h : ∀ c ∈ l, isD c = true) (h0 : l ≠ []) (hl : l.length ≤ 640) : PySem.intText? (SX.S l) = some ((NumText.digitsVal l : Nat) : Int) := int_S (List.all_eq_true.mpr h) h0 (by omega)
theorem rowE_none {l : List Nat} {i : Nat} (h : runE isD l i = i ∨ i + 2 < runE isD l i ∨ stands (· == 48) l i = true ∨ 20 < NumText.digitsVal (sub l i (runE isD l i))) : rowE l i = none := if_pos h
theorem rowE_some {l : List Nat} {i : Nat} (h : ¬ (runE isD l i = i ∨ i + 2 < runE isD l i ∨ stands (· == 48) l i = true ∨ 20 < NumText.digitsVal (sub l i (runE isD l i)))) : rowE l i = some (runE isD l i) := if_neg h
theorem mkW_or (c : Nat) : mkW c = (isLt c || (isD c || (c == 95 || c == 40))) := by
  unfold mkW
  rw [Bool.or_assoc, Bool.or_assoc]
theorem gW_or (c : Nat) : gW c = (isLt c || (isD c || (c == 95 || c == 46))) := by
  unfold gW
  rw [Bool.or_assoc, Bool.or_assoc]
theorem stands_or (p q : Nat → Bool) (l : List Nat) (i : Nat) : stands (fun c => p c || q c) l i = (stands p l i || stands q l i) := by
  unfold stands
  cases l[i]? <;> rfl
theorem inV_sg2 {z : Str} (h : z.length ≤ 1) {a b : Str} {c d : Nat} (ha : a = SX.S [c]) (hb : b = SX.S [d]) : inV (.str z) [.str a, .str b] = stands (fun x => x == c || x == d) (tl z) 0 := by
  subst ha hb
  rcases sg_cases h with rfl | ⟨x, rfl⟩
  · rfl
  · show ((SX.S [c] == SX.S [x]) || ((SX.S [d] == SX.S [x]) || false)) = (x == c || x == d)
    have e : ∀ u v : Nat, (SX.S [u] == SX.S [v]) = (v == u) := fun u v => by
      rw [Bool.eq_iff_iff, beq_iff_eq, beq_iff_eq]
      exact ⟨fun q => (List.cons.inj (SX.S_inj q)).1.symm, fun q => by rw [q]⟩
    rw [e, e, Bool.or_false]
theorem mkW_st (l : List Nat) (i : Nat) : stands mkW l i = (stands isLt l i || (stands isD l i || stands (fun x => x == 95 || x == 40) l i)) := by
  rw [← stands_or, ← stands_or]
  exact congrArg (fun p => stands p l i) (funext mkW_or)
theorem gW_st (l : List Nat) (i : Nat) : stands gW l i = (stands isLt l i || (stands isD l i || stands (fun x => x == 95 || x == 46) l i)) := by
  rw [← stands_or, ← stands_or]
  exact congrArg (fun p => stands p l i) (funext gW_or)
theorem c_under : (Str.ofString "_") = SX.S [95] := by decide +kernel
theorem c_open : (Str.ofString "(") = SX.S [40] := by decide +kernel
theorem c_dot : (Str.ofString ".") = SX.S [46] := by decide +kernel

theorem ge_c (c d : Nat) : (!decide ([c] < [d])) = decide (d ≤ c) := ge_sg c d
theorem starts3_pre (x y : Str) (hy : tl y ≠ []) (i : Nat) : Txt.startswith3 x y (i : Int) = TL.pre (tl y) ((tl x).drop i) := by
  have hf : PySem.fromIndex x.length (i : Int) = i := by
    unfold PySem.fromIndex
    rw [if_neg (by omega)]
    omega
  have e := TL.at_iff (x := x) (y := y) hy i
  unfold Txt.startswith3
  rw [hf, Bool.eq_iff_iff, ← e, Bool.and_eq_true, decide_eq_true_eq]
  exact Iff.rfl
theorem find_at {α : Type} {p : α → Bool} {w : α} : ∀ {l : List α} {k : Nat}, l[k]? = some w → p w = true → (∀ j, j < k → ∀ v, l[j]? = some v → p v = false) → l.find? p = some w
  | [], k, h, _, _ => by cases h
  | a :: l, 0, h, hp, _ => by
    cases h
    exact List.find?_cons_of_pos hp
  | a :: l, k + 1, h, hp, hn => by
    rw [List.find?_cons_of_neg (by rw [hn 0 (Nat.succ_pos k) a rfl]; exact Bool.false_ne_true)]
    exact find_at (l := l) (k := k) h hp fun j hj v hv => hn (j + 1) (by omega) v hv
theorem find_no {α : Type} {p : α → Bool} : ∀ {l : List α}, (∀ j, j < l.length → ∀ v, l[j]? = some v → p v = false) → l.find? p = none
  | [], _ => rfl
  | a :: l, h => by
    rw [List.find?_cons_of_neg (by rw [h 0 (Nat.succ_pos _) a rfl]; exact Bool.false_ne_true)]
    exact find_no fun j hj v hv => h (j + 1) (by rw [List.length_cons]; omega) v hv
theorem err_tl (w : Str) : tl (Str.ofString "#" ++ w ++ Str.ofString "!") = errS w := by
  rw [TL.tl_append, TL.tl_append]
  rfl
theorem err_len (w : Str) : (Str.ofString "#" ++ w ++ Str.ofString "!").length = w.length + 2 := by
  rw [len_tl, err_tl, errS_len]
theorem erw_short : ∀ w ∈ ERW ++ (["CIRC"] : List Str), w.length ≤ 5 := by decide +kernel
theorem erw_circ : ("CIRC" : Str) ∉ ERW := by decide +kernel
theorem head_sub {l : List Nat} {i j c : Nat} (h : i < j) (e : l[i]? = some c) : (sub l i j)[0]? = some c := by
  unfold sub
  rw [List.getElem?_take, if_pos (by omega), List.getElem?_drop]
  exact e

theorem optV_non {o : Option Nat} (h : optV o = V.non) : o = none := by
  cases o with
  | none => rfl
  | some n => cases h
theorem optV_some {o : Option Nat} (h : ¬ optV o = V.non) : ∃ n, o = some n := by
  cases o with
  | none => exact absurd rfl h
  | some n => exact ⟨n, rfl⟩
theorem pairE_none {g : List Nat → Nat → Option Nat} {l : List Nat} {i : Nat} (h : g l i = none) : pairE g l i = none := by
  unfold pairE
  rw [h]
  rfl
theorem pairE_no {g : List Nat → Nat → Option Nat} {l : List Nat} {i m : Nat} (h : g l i = some m) (k : stands (· == 58) l m = false) : pairE g l i = none := by
  unfold pairE
  rw [h]
  exact if_neg (by rw [k]; exact Bool.false_ne_true)
theorem pairE_go {g : List Nat → Nat → Option Nat} {l : List Nat} {i m : Nat} (h : g l i = some m) (k : stands (· == 58) l m = true) : pairE g l i = g l (m + 1) := by
  unfold pairE
  rw [h]
  exact if_pos k
theorem columnsE_pair (l : List Nat) (i : Nat) : columnsE l i = (pairE colE l i).bind fun e => if stands (fun c => c == 36 || mkW c) l e = true then none else some e := by
  unfold columnsE pairE
  cases colE l i with
  | none => rfl
  | some k =>
    show (if stands (· == 58) l k = true then _ else none) = (if stands (· == 58) l k = true then colE l (k + 1) else none).bind _
    split <;> rfl
theorem pair_le {l : List Nat} {i e : Nat} (h : pairE colE l i = some e) : e ≤ l.length := by
  unfold pairE at h
  obtain ⟨m, hm, h⟩ := Option.bind_eq_some_iff.mp h
  split at h
  · exact colE_le h
  · cases h
theorem st_or2 (l : List Nat) (i : Nat) : stands (fun c => c == 36 || mkW c) l i = (stands (· == 36) l i || stands mkW l i) := stands_or _ _ l i
theorem nb {x y : V} (h : (!decide (x = y)) = true) : ¬ x = y := by simpa using h
theorem nb2 {x y : V} (h : ¬ (!decide (x = y)) = true) : x = y := by simpa using h
def SGW : List Str := ["<>", "<=", ">=", "+", "-", "*", "/", "^", "&", "=", "<", ">", "(", ")", "{", "}", ",", ";", ":", "!"]
theorem sgw_one : ∀ w ∈ SGW.drop 3, (tl w).length = 1 ∧ isSg ((tl w).headD 0) = true := by decide +kernel
theorem sgw_all : ∀ c, c < 128 → isSg c = true → ∃ j, j < 20 ∧ (SGW[j]?).map tl = some [c] := by decide +kernel
theorem sgw_ne : ∀ w ∈ SGW, tl w ≠ [] ∧ w.length ≤ 2 := by decide +kernel
theorem pre2 {l : List Nat} {i a b : Nat} : TL.pre [a, b] (l.drop i) = true ↔ (l.drop i).take 2 = [a, b] := beq_iff_eq
theorem pre1 {l : List Nat} {i c : Nat} : TL.pre [c] (l.drop i) = true ↔ l[i]? = some c := by
  show ((l.drop i).take 1 == [c]) = true ↔ _
  rw [beq_iff_eq]
  cases e : l[i]? with
  | none =>
    rw [List.drop_of_length_le (List.getElem?_eq_none_iff.mp e)]
    exact ⟨(fun h => by cases h), (fun h => by cases h)⟩
  | some d =>
    obtain ⟨h, rfl⟩ := List.getElem?_eq_some_iff.mp e
    rw [List.drop_eq_getElem_cons h]
    exact ⟨fun h => congrArg some (List.cons.inj h).1, fun h => by cases h; rfl⟩
theorem erw_at {k : Nat} {w : Str} (e : (ERW ++ (["CIRC"] : List Str))[k]? = some w) (h : w ≠ "CIRC") : ERW[k]? = some w := by
  by_cases hk : k < ERW.length
  · rw [List.getElem?_append_left hk] at e
    exact e
  · rw [List.getElem?_append_right (by omega)] at e
    generalize k - ERW.length = j at e
    cases j with
    | zero => exact absurd (Option.some.inj e).symm h
    | succ j => cases e
theorem erw_no {k : Nat} {w w' : Str} (e : (ERW ++ (["CIRC"] : List Str))[k]? = some w) (h : w = "CIRC") (e' : ERW[k]? = some w') : False := by
  rw [List.getElem?_append_left (List.getElem?_eq_some_iff.mp e').1, e'] at e
  cases e
  exact erw_circ (h ▸ List.mem_of_getElem? e')
theorem sg_no2 {l : List Nat} {i k : Nat} (hk : 3 ≤ k) (hn : ∀ j, j < k → ∀ v, SGW[j]? = some v → TL.pre (tl v) (l.drop i) = false) : ¬ ((l.drop i).take 2 = [60, 62] ∨ (l.drop i).take 2 = [60, 61] ∨ (l.drop i).take 2 = [62, 61]) := fun h => by
  rcases h with h | h | h
  · have := hn 0 (by omega) _ rfl
    rw [show tl (Str.ofString "<>") = [60, 62] from rfl, pre2.mpr h] at this
    cases this
  · have := hn 1 (by omega) _ rfl
    rw [show tl (Str.ofString "<=") = [60, 61] from rfl, pre2.mpr h] at this
    cases this
  · have := hn 2 (by omega) _ rfl
    rw [show tl (Str.ofString ">=") = [62, 61] from rfl, pre2.mpr h] at this
    cases this
theorem sign_hit {l : List Nat} {i k : Nat} {w : Str} (hk : SGW[k]? = some w) (hp : TL.pre (tl w) (l.drop i) = true) (hn : ∀ j, j < k → ∀ v, SGW[j]? = some v → TL.pre (tl v) (l.drop i) = false) : signE l i = some (i + w.length) := by
  match k, hk, hn with
  | 0, hk, _ =>
    cases hk
    exact if_pos (.inl (pre2.mp hp))
  | 1, hk, _ =>
    cases hk
    exact if_pos (.inr (.inl (pre2.mp hp)))
  | 2, hk, _ =>
    cases hk
    exact if_pos (.inr (.inr (pre2.mp hp)))
  | k + 3, hk, hn =>
    have hm : w ∈ SGW.drop 3 := by
      refine List.mem_of_getElem? (i := k) ?_
      rw [List.getElem?_drop, Nat.add_comm]
      exact hk
    obtain ⟨h1, h2⟩ := sgw_one w hm
    rw [len_tl, h1]
    match e : tl w, h1 with
    | [c], _ =>
      rw [e] at hp h2
      have ec := pre1.mp hp
      exact (if_neg (sg_no2 (by omega) hn)).trans (if_pos (by rw [stands_some ec]; exact h2))
theorem sign_miss {l : List Nat} {i : Nat} (ha : ∀ c ∈ l, c < 128) (hn : ∀ j, j < 20 → ∀ v, SGW[j]? = some v → TL.pre (tl v) (l.drop i) = false) : signE l i = none := by
  refine (if_neg (sg_no2 (by decide) hn)).trans (if_neg fun h => ?_)
  have hl := stands_lt h
  have e := List.getElem?_eq_getElem hl
  rw [stands_some e] at h
  obtain ⟨j, hj, ej⟩ := sgw_all _ (ha _ (List.getElem_mem hl)) h
  obtain ⟨v, ev, etl⟩ := Option.map_eq_some_iff.mp ej
  have := hn j hj v ev
  rw [etl, pre1.mpr e] at this
  cases this

theorem sub_app {l : List Nat} {i j k : Nat} (h : i ≤ j) (h2 : j ≤ k) : sub l i k = sub l i j ++ sub l j k := by
  unfold sub
  have e : (l.drop j) = (l.drop i).drop (j - i) := by rw [List.drop_drop]; congr 1; omega
  rw [e, show k - i = (j - i) + (k - j) by omega, List.take_add]
theorem sub_drop {l : List Nat} {i j : Nat} (h : i ≤ j) : l.drop i = sub l i j ++ l.drop j := by
  unfold sub
  have e : (l.drop j) = (l.drop i).drop (j - i) := by rw [List.drop_drop]; congr 1; omega
  rw [e, List.take_append_drop]
theorem sub_plain {l : List Nat} {i : Nat} : ∀ c ∈ sub l i (runE (· != 34) l i), c ≠ 34 := fun c hc => by
  rw [sub_run] at hc
  have := tw_all _ c hc
  simpa using this
/-- the next quote from a place on -/
theorem quote_next {l s : List Nat} {i p : Nat} (h : i ≤ p) (hp : p ≤ l.length) (u : Units (sub l i p) s) :
    if runE (· != 34) l p < l.length then stands (· == 34) l (runE (· != 34) l p) = true ∧ Units (sub l i (runE (· != 34) l p)) (s ++ sub l p (runE (· != 34) l p)) else qScan (l.drop i) = none := by
  have hr := runE_ge (· != 34) l p
  have un : Units (sub l i (runE (· != 34) l p)) (s ++ sub l p (runE (· != 34) l p)) := by
    rw [sub_app h hr]
    exact u.app (.plain sub_plain)
  split
  · rename_i hlt
    refine ⟨?_, un⟩
    have hs := runE_fin (· != 34) l p
    rw [stands_some (List.getElem?_eq_getElem hlt)] at hs ⊢
    simpa using hs
  · have hle := runE_le (p := (· != 34)) hp
    have e : runE (· != 34) l p = l.length := by omega
    rw [sub_drop (j := runE (· != 34) l p) (by omega), un.scan, e, List.drop_length]
    rfl
theorem quote_end {l s : List Nat} {i j : Nat} (h : i + 1 ≤ j) (hj : stands (· == 34) l j = true) (hn : stands (· == 34) l (j + 1) = false) (u : Units (sub l (i + 1) j) s) : quoteE l i = if 64 < s.length then .fault i else .tok "text" i (j + 1) s := by
  have hl := stands_lt hj
  have e1 : (sub l (i + 1) j).length = j - (i + 1) := sub_len h (by omega)
  have e34 : l[j] = 34 := by
    rw [stands_some (List.getElem?_eq_getElem hl)] at hj
    simpa using hj
  have hh : (l.drop (j + 1)).head? ≠ some 34 := fun z => by
    rw [List.head?_drop] at z
    rw [stands_some z] at hn
    cases hn
  unfold quoteE
  rw [sub_drop (l := l) h, u.scan, List.drop_eq_getElem_cons hl, e34, qScan_34 hh]
  show (if 64 < (s ++ []).length then Tk.fault i else .tok "text" i (i + 1 + (1 + (sub l (i + 1) j).length)) (s ++ [])) = _
  rw [List.append_nil, e1, show i + 1 + (1 + (j - (i + 1))) = j + 1 by omega]
theorem quote_none {l : List Nat} {i : Nat} (h : qScan (l.drop (i + 1)) = none) : quoteE l i = .fault l.length := by
  unfold quoteE
  rw [h]
theorem units_more {l s : List Nat} {i j : Nat} (h : i ≤ j) (hj : stands (· == 34) l j = true) (hn : stands (· == 34) l (j + 1) = true) (u : Units (sub l i j) s) : Units (sub l i (j + 2)) (s ++ [34]) := by
  have hl := stands_lt hj
  have hl2 := stands_lt hn
  have e34 : l[j] = 34 := by
    rw [stands_some (List.getElem?_eq_getElem hl)] at hj
    simpa using hj
  have e35 : l[j + 1] = 34 := by
    rw [stands_some (List.getElem?_eq_getElem hl2)] at hn
    simpa using hn
  rw [sub_app h (by omega : j ≤ j + 2)]
  refine u.app ?_
  have e : sub l j (j + 2) = [34, 34] := by
    unfold sub
    rw [Nat.add_sub_cancel_left, List.drop_eq_getElem_cons hl, List.drop_eq_getElem_cons hl2, e34, e35]
    rfl
  rw [e]
  exact .two .nil
theorem undoubled {z : Str} {s : List Nat} (u : Units (tl z) s) : Txt.replace z (Str.ofString "\"\"") (Str.ofString "\"") = SX.S s := by
  refine ext_tl ?_
  rw [replace_spl _ _ _ (by rw [c_quotes]; exact List.cons_ne_nil _ _), c_quotes, c_quote]
  have := u.und []
  rw [List.nil_append] at this
  exact this

theorem upL_cap {z : Str} (h : Asc z) : CapL (upL (tl z)) := fun c hc => by
  obtain ⟨d, hd, rfl⟩ := List.mem_map.mp hc
  have h2 := h d hd
  refine ⟨up1_small h2, ?_⟩
  show isLo (PyProof.Rows.up1 d) = false
  unfold isLo PyProof.Rows.up1
  split
  · rw [Bool.and_eq_false_iff]
    exact .inl (decide_eq_false (by omega))
  · rename_i hn
    rw [Bool.and_eq_false_iff]
    by_cases h97 : 97 ≤ d
    · exact .inr (decide_eq_false (by omega))
    · exact .inl (decide_eq_false h97)
theorem same_none {H H1 : Hp} {p : Addr} (s : Same H H1) (h : H1 p = none) : H p = none := by
  cases e : H p with
  | none => rfl
  | some o => rw [s _ _ e] at h; cases h

theorem A2.len {α : Type} {R : V → α → Prop} {xs : List V} {ys : List α} (h : A2 R xs ys) : xs.length = ys.length := h.1
theorem TkV.keep {K : PySem.W.Frag} {H H' : Hp} {x : V} {t : Str × Nat × Nat × List Nat} (h : TkV K H x t) (e : TK K H H') : TkV K H' x t := by
  obtain ⟨p, h1, h2⟩ := h
  exact ⟨p, h1, e _ _ h2⟩
theorem pick_none {u : List Nat} {i : Nat} {ks : List (Str × Option Nat)} {k : Nat} {kd : Str} (h : ks[k]? = some (kd, none)) : pickE u i (ks.drop k) = pickE u i (ks.drop (k + 1)) := by
  obtain ⟨hk, e⟩ := List.getElem?_eq_some_iff.mp h
  rw [List.drop_eq_getElem_cons hk, e]
  rfl
theorem pick_some {u : List Nat} {i : Nat} {ks : List (Str × Option Nat)} {k e : Nat} {kd : Str} (h : ks[k]? = some (kd, some e)) : pickE u i (ks.drop k) = if badK kd (sub u i e) = true then .fault i else .tok kd i e (sub u i e) := by
  obtain ⟨hk, eq⟩ := List.getElem?_eq_some_iff.mp h
  rw [List.drop_eq_getElem_cons hk, eq]
  rfl

theorem small20000 {n : Nat} (h : n ≤ 20000) : n < sizeLine := by
  rw [sizeLine_eq]
  omega

theorem Units.len {m s : List Nat} (h : Units m s) : s.length ≤ m.length := by
  induction h with
  | nil => exact Nat.le_refl _
  | two _ ih =>
    simp only [List.length_cons]
    omega
  | one _ _ ih =>
    simp only [List.length_cons]
    omega

/-! ### the pool of draws -/
def PS (c : Addr) (a r l : Int) (s : Bool) (e t : Int) : List (Key × V) := [(.inr "cells", .ref c), (.inr "at", .int a), (.inr "rest", .int r), (.inr "left", .int l), (.inr "small", .bl s), (.inr "seed", .int e), (.inr "turn", .int t)]
theorem kk_no {x y : Str} (h : x ≠ y) : ¬ (Sum.inr x : Key) = Sum.inr y := fun e => h (Sum.inr.inj e)
section
variable {c : Addr} {a r l : Int} {s : Bool} {e t : Int} {H : Hp} {b : Addr}
theorem pv_cells : valV (PS c a r l s e t) (.inr "cells") = some (.ref c) := valV_pos rfl
theorem pv_at : valV (PS c a r l s e t) (.inr "at") = some (.int a) := (valV_neg (kk_no (by decide +kernel))).trans (valV_pos rfl)
theorem pv_rest : valV (PS c a r l s e t) (.inr "rest") = some (.int r) := (valV_neg (kk_no (by decide +kernel))).trans ((valV_neg (kk_no (by decide +kernel))).trans (valV_pos rfl))
theorem pv_left : valV (PS c a r l s e t) (.inr "left") = some (.int l) := (valV_neg (kk_no (by decide +kernel))).trans ((valV_neg (kk_no (by decide +kernel))).trans ((valV_neg (kk_no (by decide +kernel))).trans (valV_pos rfl)))
theorem pv_small : valV (PS c a r l s e t) (.inr "small") = some (.bl s) := (valV_neg (kk_no (by decide +kernel))).trans ((valV_neg (kk_no (by decide +kernel))).trans ((valV_neg (kk_no (by decide +kernel))).trans ((valV_neg (kk_no (by decide +kernel))).trans (valV_pos rfl))))
theorem pv_seed : valV (PS c a r l s e t) (.inr "seed") = some (.int e) := (valV_neg (kk_no (by decide +kernel))).trans ((valV_neg (kk_no (by decide +kernel))).trans ((valV_neg (kk_no (by decide +kernel))).trans ((valV_neg (kk_no (by decide +kernel))).trans ((valV_neg (kk_no (by decide +kernel))).trans (valV_pos rfl)))))
theorem pv_turn : valV (PS c a r l s e t) (.inr "turn") = some (.int t) := (valV_neg (kk_no (by decide +kernel))).trans ((valV_neg (kk_no (by decide +kernel))).trans ((valV_neg (kk_no (by decide +kernel))).trans ((valV_neg (kk_no (by decide +kernel))).trans ((valV_neg (kk_no (by decide +kernel))).trans ((valV_neg (kk_no (by decide +kernel))).trans (valV_pos rfl))))))
theorem pg_of {kvs : List (Key × V)} {x : Str} {v : V} (h : H b = some (.dK kvs)) (e : valV kvs (.inr x) = some v) : DGet H b (.str x) (some v) := .inl ⟨kvs, .inr x, .inl h, rfl, e.symm⟩
theorem pg_cells (h : H b = some (.dK (PS c a r l s e t))) : DGet H b (.str "cells") (some (.ref c)) := pg_of h pv_cells
theorem pg_at (h : H b = some (.dK (PS c a r l s e t))) : DGet H b (.str "at") (some (.int a)) := pg_of h pv_at
theorem pg_rest (h : H b = some (.dK (PS c a r l s e t))) : DGet H b (.str "rest") (some (.int r)) := pg_of h pv_rest
theorem pg_left (h : H b = some (.dK (PS c a r l s e t))) : DGet H b (.str "left") (some (.int l)) := pg_of h pv_left
theorem pg_small (h : H b = some (.dK (PS c a r l s e t))) : DGet H b (.str "small") (some (.bl s)) := pg_of h pv_small
theorem pg_seed (h : H b = some (.dK (PS c a r l s e t))) : DGet H b (.str "seed") (some (.int e)) := pg_of h pv_seed
theorem pg_turn (h : H b = some (.dK (PS c a r l s e t))) : DGet H b (.str "turn") (some (.int t)) := pg_of h pv_turn
theorem put_of {kvs kvs2 : List (Key × V)} {x : Str} {v : V} (h : H b = some (.dK kvs)) (hl : kvs.length ≤ 100) (e : putK kvs (.inr x) v = kvs2) : DPut H b (.str x) v (upd H b (.dK kvs2)) := e ▸ DPut.k (k := .inr x) h (by rw [sizeLine_eq]; omega)
theorem put_at {n : Int} : putK (PS c a r l s e t) (.inr "at") (.int n) = PS c n r l s e t := rfl
theorem put_rest {n : Int} : putK (PS c a r l s e t) (.inr "rest") (.int n) = PS c a n l s e t := rfl
theorem put_left {n : Int} : putK (PS c a r l s e t) (.inr "left") (.int n) = PS c a r n s e t := rfl
theorem put_seed {n : Int} : putK (PS c a r l s e t) (.inr "seed") (.int n) = PS c a r l s n t := rfl
theorem put_turn {n : Int} : putK (PS c a r l s e t) (.inr "turn") (.int n) = PS c a r l s e n := rfl
theorem put_small {n : Bool} : putK (PS c a r l s e t) (.inr "small") (.bl n) = PS c a r l n e t := rfl
theorem pp_at {n : Int} (h : H b = some (.dK (PS c a r l s e t))) : DPut H b (.str "at") (.int n) (upd H b (.dK (PS c n r l s e t))) := put_of h (by show 7 ≤ 100; decide) put_at
theorem pp_rest {n : Int} (h : H b = some (.dK (PS c a r l s e t))) : DPut H b (.str "rest") (.int n) (upd H b (.dK (PS c a n l s e t))) := put_of h (by show 7 ≤ 100; decide) put_rest
theorem pp_left {n : Int} (h : H b = some (.dK (PS c a r l s e t))) : DPut H b (.str "left") (.int n) (upd H b (.dK (PS c a r n s e t))) := put_of h (by show 7 ≤ 100; decide) put_left
theorem pp_turn {n : Int} (h : H b = some (.dK (PS c a r l s e t))) : DPut H b (.str "turn") (.int n) (upd H b (.dK (PS c a r l s e n))) := put_of h (by show 7 ≤ 100; decide) put_turn
theorem pp_small {n : Bool} (h : H b = some (.dK (PS c a r l s e t))) : DPut H b (.str "small") (.bl n) (upd H b (.dK (PS c a r l n e t))) := put_of h (by show 7 ≤ 100; decide) put_small
end
def BoxP (K : PySem.W.Frag) (b c : Addr) (H : Hp) : Prop := (∃ (a r l : Int) (s : Bool) (e t : Int), H b = some (.dK (PS c a r l s e t)) ∧ 0 ≤ a ∧ 0 ≤ l) ∧ ∃ ns : List Int, H c = some (.lst (ns.map V.int))
def Bp (K : PySem.W.Frag) (b c : Addr) (H H' : Hp) : Prop := (∀ a o, a ≠ b → H a = some o → H' a = some o) ∧ BoxP K b c H'
section
variable {K : PySem.W.Frag} {b c : Addr} {H H1 H2 : Hp}
theorem Bp.refl (h : BoxP K b c H) : Bp K b c H H := ⟨fun _ _ _ e => e, h⟩
theorem Bp.trans (x : Bp K b c H H1) (y : Bp K b c H1 H2) : Bp K b c H H2 := ⟨fun a o n e => y.1 a o n (x.1 a o n e), y.2⟩
theorem BoxP.same (x : BoxP K b c H) (s : Same H H1) : BoxP K b c H1 := by
  obtain ⟨⟨a, r, l, sm, e, t, h, h0⟩, ns, h1⟩ := x
  exact ⟨⟨a, r, l, sm, e, t, s _ _ h, h0⟩, ns, s _ _ h1⟩
theorem BoxP.new {p : Addr} {o : HO} (x : BoxP K b c H) (h : H p = none) : BoxP K b c (upd H p o) := x.same (same_upd h)
theorem Bp.same (x : Bp K b c H H1) (y : Same H1 H2) : Bp K b c H H2 := ⟨fun a o n e => y _ _ (x.1 a o n e), x.2.same y⟩
theorem Bp.new {p : Addr} {o : HO} (x : Bp K b c H H1) (h : H1 p = none) : Bp K b c H (upd H1 p o) := x.same (same_upd h)
theorem pool_ne {kvs : List (Key × V)} {xs : List V} (h : H b = some (.dK kvs)) (k : H c = some (.lst xs)) : c ≠ b := fun z => by
  rw [z, h] at k
  cases k
/-- the pool written anew -/
theorem Bp.put {a r l : Int} {s : Bool} {e t : Int} {kvs : List (Key × V)} (x : ∀ q o, q ≠ b → H q = some o → H1 q = some o) {ns : List Int} (h : H1 b = some (.dK kvs)) (k : H1 c = some (.lst (ns.map V.int))) (h0 : 0 ≤ a) (h1 : 0 ≤ l) : Bp K b c H (upd H1 b (.dK (PS c a r l s e t))) :=
  ⟨fun q o n z => by
    rw [upd_ne n]
    exact x q o n z, ⟨⟨a, r, l, s, e, t, upd_same, h0, h1⟩, ns, by
    rw [upd_ne (pool_ne h k)]
    exact k⟩⟩
end

theorem Bp.lst {K : PySem.W.Frag} {b c : Addr} {H H1 : Hp} (x : Bp K b c H H1) (h : BoxP K b c H) {a : Addr} {xs : List V} (e : H a = some (.lst xs)) : H1 a = some (.lst xs) := by
  obtain ⟨⟨_, _, _, _, _, _, e0, _⟩, _⟩ := h
  refine x.1 a _ (fun z => ?_) e
  rw [z, e0] at e
  cases e
theorem but_upd {b : Addr} {o : HO} {H H1 : Hp} (x : ∀ q o, q ≠ b → H q = some o → H1 q = some o) : ∀ q o', q ≠ b → H q = some o' → upd H1 b o q = some o' := fun q o' n e => (upd_ne n).trans (x q o' n e)
theorem but_new {b p : Addr} {o : HO} {H H1 : Hp} (x : ∀ q o, q ≠ b → H q = some o → H1 q = some o) (h : H1 p = none) : ∀ q o', q ≠ b → H q = some o' → upd H1 p o q = some o' := fun q o' n e => same_upd h _ _ (x q o' n e)
theorem Bp.but {K : PySem.W.Frag} {b c : Addr} {H H1 : Hp} (x : Bp K b c H H1) : ∀ q o, q ≠ b → H q = some o → H1 q = some o := x.1
theorem Bp.tk {K : PySem.W.Frag} {b c : Addr} {H H1 : Hp} (x : Bp K b c H H1) (h : BoxP K b c H) : TK K H H1 := by
  obtain ⟨⟨_, _, _, _, _, _, eb, _⟩, _⟩ := h
  intro p xs q
  rcases q with (q | ⟨o, q⟩) | q
  · exact .inl (.inl (x.1 _ _ (ne_of q eb (fun z => nomatch z)) q))
  · exact .inl (.inr ⟨o, x.1 _ _ (ne_of q eb (fun z => nomatch z)) q⟩)
  · exact .inr q
theorem Bp.xd {K : PySem.W.Frag} {b c : Addr} {H H1 : Hp} (x : Bp K b c H H1) : BoxP K b c H1 := x.2
/-! ### what the law's own reading tells -/
def encE : Option Nat → Int
  | none => -1
  | some n => (n : Nat)
def stI (s : Str) (c : Nat) : Bool := decide (c ∈ tl s)
def lawTk : Tk → List V
  | .fault a => [.str "fault", .int (a : Nat), .int (a : Nat), .str ""]
  | .tok k a e w => [.str k, .int (a : Nat), .int (e : Nat), .str (SX.S w)]
theorem inV_S (t : List Nat) (zs : List Str) : inV (.str (SX.S t)) (zs.map V.str) = decide (∃ w ∈ zs, tl w = t) := by
  induction zs with
  | nil => exact (decide_eq_false fun ⟨w, h, _⟩ => by cases h).symm
  | cons w zs ih =>
    show ((w == SX.S t) || inV (.str (SX.S t)) (zs.map V.str)) = _
    have e : w = SX.S t ↔ tl w = t := ⟨fun h => congrArg tl h, fun h => (SX.S_tl w).symm.trans (congrArg SX.S h)⟩
    rw [ih, Bool.eq_iff_iff, Bool.or_eq_true, beq_iff_eq, decide_eq_true_eq, decide_eq_true_eq, e]
    constructor
    · rintro (h | ⟨v, hv, h⟩)
      · exact ⟨w, List.mem_cons_self .., h⟩
      · exact ⟨v, List.mem_cons_of_mem _ hv, h⟩
    · rintro ⟨v, hv, h⟩
      rcases List.mem_cons.mp hv with rfl | hv
      · exact .inl h
      · exact .inr ⟨v, hv, h⟩
theorem pickE_kind {u : List Nat} {i : Nat} : ∀ {ks : List (Str × Option Nat)} {k : Str} {a e : Nat} {w : List Nat}, pickE u i ks = .tok k a e w → ∃ o, (k, o) ∈ ks
  | [], k, a, e, w, h => by cases h
  | (k', none) :: r, k, a, e, w, h => by
    obtain ⟨o, ho⟩ := pickE_kind (ks := r) h
    exact ⟨o, List.mem_cons_of_mem _ ho⟩
  | (k', some e') :: r, k, a, e, w, h => by
    unfold pickE at h
    split at h
    · cases h
    · cases h
      exact ⟨_, List.mem_cons_self ..⟩
def tkD (t : Str × Nat × Nat × List Nat) : PyData := .tuple [.str t.1, .int (t.2.1 : Nat), .int (t.2.2.1 : Nat), .str (SX.S t.2.2.2)]
theorem dp_tk {K : PySem.W.Frag} {H : Hp} {p : Addr} {t : Str × Nat × Nat × List Nat} (h : SqT K H p [.str t.1, .int (t.2.1 : Nat), .int (t.2.2.1 : Nat), .str (SX.S t.2.2.2)]) : Dp K H (.ref p) (tkD t) :=
  .tup h (.cons (.str _) (.cons (.int _) (.cons (.int _) (.cons (.str _) .nil))))
theorem eqv_tk (t : Str × Nat × Nat × List Nat) : PyData.eqv (tkD t) (tkD t) = true := by simp [tkD, PyData.eqv, PyData.eqvAll]
def TokOk (t : Str × Nat × Nat × List Nat) : Prop := (∀ c ∈ tl t.1, c < 128) ∧ ∀ c ∈ t.2.2.2, c < 128
theorem ok_str {z : Str} (h : Asc z) : PyData.strOk z = true := by
  unfold PyData.strOk
  rw [← Array.all_toList]
  exact List.all_eq_true.mpr fun c hc => decide_eq_true (Nat.lt_trans (h c hc) (by decide))
theorem shp_tk {t : Str × Nat × Nat × List Nat} (h : TokOk t) : SeqAt.shaped (tkD t) = true := by
  have h1 := ok_str (z := t.1) h.1
  have h2 := ok_str (z := SX.S t.2.2.2) h.2
  simp [tkD, SeqAt.shaped, PyData.canLay0, PyData.canLayAll0, PyData.depth, PyData.depthAll, h1, h2]
theorem qScan_sub : ∀ {m n : Nat} {l s : List Nat}, l.length ≤ m → qScan l = some (n, s) → ∀ c ∈ s, c ∈ l
  | 0, n, [], s, _, h => by cases h
  | 0, n, c :: r, s, k, h => by cases k
  | m + 1, n, [], s, _, h => by cases h
  | m + 1, n, c :: r, s, k, h => by
    by_cases hc : c = 34
    · subst hc
      cases r with
      | nil =>
        cases h
        intro c hc
        cases hc
      | cons d r' =>
        by_cases hd : d = 34
        · subst hd
          rw [qScan_two] at h
          obtain ⟨q, hq, e⟩ := Option.map_eq_some_iff.mp h
          cases e
          intro c hc
          rcases List.mem_cons.mp hc with rfl | hc
          · exact List.mem_cons_self ..
          · exact List.mem_cons_of_mem _ (List.mem_cons_of_mem _ (qScan_sub (m := m) (n := q.1) (by simp only [List.length_cons] at k; omega) hq c hc))
        · rw [qScan_34 (by simpa using hd)] at h
          cases h
          intro c hc
          cases hc
    · rw [qScan_one hc] at h
      obtain ⟨q, hq, e⟩ := Option.map_eq_some_iff.mp h
      cases e
      intro c hc
      rcases List.mem_cons.mp hc with rfl | hc
      · exact List.mem_cons_self ..
      · exact List.mem_cons_of_mem _ (qScan_sub (m := m) (n := q.1) (by simp only [List.length_cons] at k; omega) hq c hc)
theorem pickE_sub {u : List Nat} {i : Nat} : ∀ {ks : List (Str × Option Nat)} {k : Str} {a e : Nat} {w : List Nat}, pickE u i ks = .tok k a e w → ∃ x y, w = sub u x y
  | [], k, a, e, w, h => by cases h
  | (k', none) :: r, k, a, e, w, h => pickE_sub (ks := r) h
  | (k', some e') :: r, k, a, e, w, h => by
    unfold pickE at h
    split at h
    · cases h
    · cases h
      exact ⟨_, _, rfl⟩
theorem tokAt_kind {l u : List Nat} {i : Nat} {k : Str} {a e : Nat} {w : List Nat} (h : tokAt l u i = .tok k a e w) : k ≠ "fault" := by
  unfold tokAt at h
  split at h
  · unfold quoteE at h
    split at h
    · cases h
    · split at h
      · cases h
      · cases h
        decide +kernel
  · obtain ⟨o, ho⟩ := pickE_kind h
    have : k ∈ (["error", "rows", "number", "cell", "columns", "word", "sign"] : List Str) := List.mem_map_of_mem (f := Prod.fst) ho
    revert this
    intro hm e
    subst e
    revert hm
    decide +kernel
theorem tokAt_cases {l u : List Nat} {i : Nat} {k : Str} {a e : Nat} {w : List Nat} (h : tokAt l u i = .tok k a e w) : (k = "text" ∧ ∀ c ∈ w, c ∈ l) ∨ (k ∈ (["error", "rows", "number", "cell", "columns", "word", "sign"] : List Str) ∧ ∀ c ∈ w, c ∈ u) := by
  unfold tokAt at h
  split at h
  · left
    unfold quoteE at h
    split at h
    · cases h
    · rename_i q hq
      split at h
      · cases h
      · cases h
        exact ⟨rfl, fun c hc => List.mem_of_mem_drop (qScan_sub (n := q.1) (Nat.le_refl _) hq c hc)⟩
  · right
    obtain ⟨o, ho⟩ := pickE_kind h
    refine ⟨List.mem_map_of_mem (f := Prod.fst) ho, ?_⟩
    obtain ⟨x, y, hw⟩ := pickE_sub h
    rw [hw]
    exact fun c hc => List.mem_of_mem_drop (List.mem_of_mem_take hc)
theorem toks_okA {l u : List Nat} (hl : ∀ c ∈ l, c < 128) (hu : ∀ c ∈ u, c < 128) : ∀ {n i : Nat}, ∀ t ∈ (toks l u n i).1, TokOk t
  | 0, i, t, h => by cases h
  | n + 1, i, t, h => by
    unfold toks at h
    split at h
    · cases h
    · split at h
      · cases h
      · rename_i k a e w hk
        rcases List.mem_cons.mp h with rfl | h
        · rcases tokAt_cases hk with ⟨rfl, hw⟩ | ⟨hk, hw⟩
          · exact ⟨(by decide +kernel : ∀ c ∈ tl (Str.ofString "text"), c < 128), fun c hc => hl c (hw c hc)⟩
          · refine ⟨?_, fun c hc => hu c (hw c hc)⟩
            revert hk
            have : ∀ k ∈ (["error", "rows", "number", "cell", "columns", "word", "sign"] : List Str), ∀ c ∈ tl k, c < 128 := by decide +kernel
            exact this k
        · exact toks_okA hl hu t h
theorem toks_len {l u : List Nat} : ∀ {n i : Nat}, (toks l u n i).1.length ≤ n
  | 0, i => Nat.le_refl _
  | n + 1, i => by
    unfold toks
    split
    · exact Nat.zero_le _
    · split
      · exact Nat.zero_le _
      · exact Nat.succ_le_succ toks_len
theorem errE_at {u : List Nat} {i : Nat} (w : Str) (c : Nat) (e : u[i]? = some c) : TL.pre (errS w) (u.drop i) = (decide (c = 35) && decide (sub u (i + 1) (i + 2 + w.length) = tl w ++ [33])) := by
  obtain ⟨h, rfl⟩ := List.getElem?_eq_some_iff.mp e
  rw [List.drop_eq_getElem_cons h]
  unfold TL.pre sub
  rw [errS_len, show i + 2 + w.length - (i + 1) = w.length + 1 from by omega]
  show ((u[i] :: (u.drop (i + 1)).take (w.length + 1)) == (35 :: (tl w ++ [33]))) = _
  rw [Bool.eq_iff_iff, beq_iff_eq, List.cons.injEq, Bool.and_eq_true, decide_eq_true_eq, decide_eq_true_eq]
theorem ixS_asc {z : Str} {i : Int} {H : Hp} {Q : VK} (ha : Asc z) (h : z.length ≤ 100000) (h0 : 0 ≤ i) (h1 : i < (z.length : Int)) (q : ∀ c, c < 128 → Q (.str (SX.S [c])) H) : rIxS (.str z) (.int i) H Q := by
  obtain ⟨c, hc, e⟩ := atI_some (xs := z.cps.toList) h0 (by rw [← len_tl]; exact h1)
  exact ⟨z, i, c, rfl, rfl, hl1 h, e, q c (ha c hc)⟩
theorem Asc.cat {a b : Str} (x : Asc a) (y : Asc b) : Asc (a ++ b) := fun c hc => by
  have hc : c ∈ tl (a ++ b) := hc
  rw [TL.tl_append] at hc
  rcases List.mem_append.mp hc with h | h
  · exact x c h
  · exact y c h
theorem asc_num {k : Int} (h0 : 0 ≤ k) (h1 : k < 1000) : Asc (Str.ofString (toString k)) ∧ (Str.ofString (toString k)).length ≤ 3 := by
  obtain ⟨w, rfl⟩ := Int.eq_ofNat_of_zero_le h0
  rw [str_nat (w := w) rfl]
  refine ⟨fun c hc => ?_, ?_⟩
  · have := numL_digits w c hc
    omega
  · rw [SX.S_len]
    exact numL_len (by decide) (by show w < 1000; omega)
theorem pick {K : PySem.W.Frag} {zs : List Str} {p : Addr} {n : Int} {H' : Hp} {Q' : VK} {m : Nat} (e : H' p = some (.lst (zs.map V.str))) (h0 : 0 ≤ n) (h1 : n < (zs.length : Int)) (hw : ∀ w ∈ zs, Asc w ∧ w.length ≤ m) (qq : ∀ w, Asc w → w.length ≤ m → Q' (.str w) H') : rIxL K (.ref p) (.int n) H' Q' := atI_go (SqL.of e) h0 (by rw [List.length_map]; exact h1) fun v hv => by
  obtain ⟨w, hm, rfl⟩ := List.mem_map.mp hv
  exact qq w (hw w hm).1 (hw w hm).2
theorem asc_num2 {k : Int} (h0 : 0 ≤ k) (h1 : k < 100) : Asc (Str.ofString (toString k)) ∧ (Str.ofString (toString k)).length ≤ 2 := by
  refine ⟨(asc_num h0 (by omega)).1, ?_⟩
  obtain ⟨w, rfl⟩ := Int.eq_ofNat_of_zero_le h0
  rw [str_nat (w := w) rfl, SX.S_len]
  exact numL_len (by decide) (by show w < 100; omega)
theorem rep_one {c : Nat} {n : Int} : (repS (SX.S [c]) n.toNat).length = n.toNat := by
  rw [repS_len]
  show 1 * n.toNat = _
  omega
theorem lt_le (a b : Int) : (!decide (b ≤ a)) = decide (a < b) := by
  by_cases h : b ≤ a
  · rw [decide_eq_true h, decide_eq_false (by omega)]
    rfl
  · rw [decide_eq_false h, decide_eq_true (by omega)]
    rfl
theorem S_snoc (l : List Nat) (c : Nat) : SX.S l ++ (⟨#[c]⟩ : Str) = SX.S (l ++ [c]) := ext_tl (TL.tl_append _ _)
def parP (d e : List Nat) (p : Bool) : Str × Str × Str := (SX.S d, if p = true then SX.S [46] else Str.empty, if p = true then SX.S e else Str.empty)
def amtL (d e : List Nat) (p : Bool) : List Nat := d ++ if p = true then 46 :: e else []
theorem dig_ge {d : List Nat} (hd : ∀ c ∈ d, isD c = true) : ∀ c ∈ d, 48 ≤ c ∧ c ≤ 57 := fun c hc => isD_iff.mp (hd c hc)
theorem part_amt {d e : List Nat} {p : Bool} (hd : ∀ c ∈ d, isD c = true) : Txt.partition (SX.S (amtL d e p)) (SX.S [46]) = parP d e p := by
  have hf : (46 : Nat) ∉ d := fun z => by
    have := dig_ge hd 46 z
    omega
  unfold amtL parP
  cases p
  · show Txt.partition (SX.S (d ++ [])) (SX.S [46]) = (SX.S d, Str.empty, Str.empty)
    rw [List.append_nil]
    exact TL.partition_none (y := SX.S [46]) (s := 46) (S := []) rfl (a := SX.S d) hf
  · show Txt.partition (SX.S (d ++ 46 :: e)) (SX.S [46]) = (SX.S d, SX.S [46], SX.S e)
    have e1 : SX.S (d ++ 46 :: e) = SX.S d ++ SX.S [46] ++ SX.S e := by
      rw [S_cat, S_cat, List.append_assoc]
      rfl
    rw [e1]
    exact TL.partition_app (y := SX.S [46]) (s := 46) (S := []) rfl (a := SX.S d) hf
theorem readV_amt {d e : List Nat} {p : Bool} (hd : ∀ c ∈ d, isD c = true) (he : ∀ c ∈ e, isD c = true) (d0 : d ≠ []) : readV (SX.S (amtL d e p)) = readP false (parP d e p) := by
  have free : (32 : Nat) ∉ amtL d e p := fun z => by
    unfold amtL at z
    rcases List.mem_append.mp z with z | z
    · have := dig_ge hd 32 z
      omega
    · split at z
      · rcases List.mem_cons.mp z with z | z
        · omega
        · have := dig_ge he 32 z
          omega
      · cases z
  obtain ⟨c, l, hc⟩ : ∃ c l, d = c :: l := by
    cases d with
    | nil => exact absurd rfl d0
    | cons c l => exact ⟨c, l, rfl⟩
  have hc1 := dig_ge hd c (by rw [hc]; exact List.mem_cons_self ..)
  have eh : (amtL d e p).head? = some c := by
    rw [hc]
    rfl
  unfold readV unS
  rw [strip_free free, starts_S, starts_S, eh, decide_eq_false (fun z => by have := Option.some.inj z; omega), decide_eq_false (fun z => by have := Option.some.inj z; omega), if_neg (by simp), part_amt hd]
theorem near_big {x : Int} (h : 0 ≤ x) : 1000000000000000000000 ≤ near x 1000000 ↔ 1000000000000000000000000000 - 500000 ≤ x := by
  unfold near
  (repeat' split) <;> omega
theorem amt_good {d e : List Nat} {p : Bool} (hd : ∀ c ∈ d, isD c = true) (he : ∀ c ∈ e, isD c = true) (d0 : d ≠ []) (e0 : e ≠ []) (h1 : d.length ≤ 15) (h2 : p = true → e.length ≤ 12) :
    PySem.intText? ((parP d e p).1 ++ Txt.ljustF (parP d e p).2.2 12 48) = some ((worthP (parP d e p) : Nat) : Int) ∧ ((parP d e p).1 ++ Txt.ljustF (parP d e p).2.2 12 48).length ≤ 27 ∧ (parP d e p).1.length ≤ 15 ∧ (Txt.ljustF (parP d e p).2.2 12 48).length ≤ 12 ∧ decide (readV (SX.S (amtL d e p)) = .non) = decide ((1000000000000000000000000000 - 500000 : Int) ≤ (worthP (parP d e p) : Nat)) := by
  have f1 : figs (tl (parP d e p).1) 15 = true := figs_ok (dig_ge hd) d0 h1
  have f2 : (parP d e p).2.1 = Str.empty ∨ figs (tl (parP d e p).2.2) 12 = true := by
    cases p
    · exact .inl rfl
    · exact .inr (figs_ok (dig_ge he) e0 (h2 rfl))
  have hc : (parP d e p).2.1 = SX.S [46] ∨ ((parP d e p).2.1 = Str.empty ∧ (parP d e p).2.2 = Str.empty) := by
    cases p
    · exact .inr ⟨rfl, rfl⟩
    · exact .inl rfl
  obtain ⟨w1, w2, w3, w4⟩ := worth_text hc f1 f2
  refine ⟨w1, w2, w3, w4, ?_⟩
  rw [readV_amt hd he d0, readP_good f1 f2]
  have nb := near_big (x := (worthP (parP d e p) : Nat)) (Int.natCast_nonneg _)
  unfold readN
  by_cases h : (1000000000000000000000 : Int) ≤ near (worthP (parP d e p) : Nat) 1000000
  · rw [if_pos h, decide_eq_true rfl, decide_eq_true (nb.mp h)]
  · rw [if_neg h, decide_eq_false (fun z => by cases z), decide_eq_false (fun z => h (nb.mpr z))]
theorem amt_bad {d e : List Nat} {p : Bool} (hd : ∀ c ∈ d, isD c = true) (he : ∀ c ∈ e, isD c = true) (d0 : d ≠ []) (h : 15 < d.length ∨ (p = true ∧ 12 < e.length)) : readV (SX.S (amtL d e p)) = .non := by
  rw [readV_amt hd he d0]
  unfold readP
  by_cases h1 : figs (tl (parP d e p).1) 15 = false
  · rw [if_pos h1]
  · rw [if_neg h1]
    rcases h with h | ⟨rfl, h⟩
    · exact absurd (figs_len (.inr (by show (15 : Int) < (d.length : Int); omega))) h1
    · exact if_pos ⟨(fun z => by cases congrArg tl z), figs_len (.inr (by show (12 : Int) < (e.length : Int); omega))⟩
theorem sub_snoc {l : List Nat} {i p c : Nat} (h : i ≤ p) (e : l[p]? = some c) : sub l i (p + 1) = sub l i p ++ [c] := by
  rw [sub_app h (Nat.le_succ p), sub_one, e]
theorem qs_end {l s : List Nat} {i p : Nat} (h : i ≤ p) (hp : p = l.length) (u : Units (sub l i p) s) : qScan (l.drop i) = none := by
  have e := quote_next h (Nat.le_of_eq hp) u
  have g := runE_ge (· != 34) l p
  rw [if_neg (by omega)] at e
  exact e
def letS : Str := "ABCDEFGHIJKLMNOPQRSTUVWXYZabcdefghijklmnopqrstuvwxyz"
theorem stands_c {p q : Nat → Bool} {l : List Nat} (ha : AscL l) (h : ∀ c, c < 128 → p c = q c) (i : Nat) : stands p l i = stands q l i := by
  unfold stands
  cases e : l[i]? with
  | none => rfl
  | some c => exact h c (ha c (List.mem_of_getElem? e))
theorem tw_c {p q : Nat → Bool} : ∀ {l : List Nat}, (∀ c ∈ l, p c = q c) → l.takeWhile p = l.takeWhile q
  | [], _ => rfl
  | c :: l, h => by
    rw [List.takeWhile_cons, List.takeWhile_cons, h c (List.mem_cons_self ..), tw_c fun d hd => h d (List.mem_cons_of_mem _ hd)]
theorem runE_c {p q : Nat → Bool} {l : List Nat} (ha : AscL l) (h : ∀ c, c < 128 → p c = q c) (i : Nat) : runE p l i = runE q l i := by
  unfold runE
  rw [tw_c fun c hc => h c (ha c (List.mem_of_mem_drop hc))]
theorem sI_D : ∀ c, c < 128 → stI "0123456789" c = isD c := by decide +kernel
theorem sI_mark : ∀ c, c < 128 → stI "$" c = (c == 36) := by decide +kernel
theorem sI_colon : ∀ c, c < 128 → stI ":" c = (c == 58) := by decide +kernel
theorem sI_dot : ∀ c, c < 128 → stI "." c = (c == 46) := by decide +kernel
theorem sI_quote : ∀ c, c < 128 → stI "\"" c = (c == 34) := by decide +kernel
theorem sI_blank : ∀ c, c < 128 → stI " " c = (c == 32) := by decide +kernel
theorem sI_co : ∀ c, c < 128 → stI "ABCDEFGHIJabcdefghij" c = isCo c := by decide +kernel
theorem sI_lt : ∀ c, c < 128 → stI letS c = isLt c := by decide +kernel
theorem sI_gW : ∀ c, c < 128 → stI (letS ++ Str.ofString "0123456789_.") c = gW c := by decide +kernel
theorem sI_cw : ∀ c, c < 128 → stI (letS ++ Str.ofString "0123456789_($") c = (c == 36 || mkW c) := by decide +kernel
theorem sI_mk : ∀ c, c < 128 → (stI (letS ++ Str.ofString "_(") c || isD c) = mkW c := by decide +kernel
theorem sI_sg : ∀ c, c < 128 → stI "+-*/^&=<>(){},;:!" c = isSg c := by decide +kernel
def EV (i : Nat) : Option Nat → Int → Prop
  | none, v => v ≤ (i : Int)
  | some e, v => v = (e : Int)
theorem ev_enc {i : Nat} : ∀ {o : Option Nat}, EV i o (encE o)
  | none => by show (-1 : Int) ≤ (i : Int); omega
  | some e => rfl
theorem ev_get {i : Nat} : ∀ {o : Option Nat}, EV i o ((o.getD i : Nat) : Int)
  | none => Int.le_refl _
  | some e => rfl
def EvQ (K : PySem.W.Frag) (H : Hp) (i : Nat) (x : V) (t : Str × Option Nat) : Prop := ∃ p v, x = .ref p ∧ SqT K H p [.str t.1, .int v] ∧ EV i t.2 v
theorem evq {K : PySem.W.Frag} {H : Hp} {i : Nat} {p : Addr} {v : Int} {t : Str × Option Nat} (h : SqT K H p [.str t.1, .int v]) (e : EV i t.2 v) : EvQ K H i (.ref p) t := ⟨p, v, rfl, h, e⟩
theorem A2.cons {α : Type} {R : V → α → Prop} {x : V} {y : α} {xs : List V} {ys : List α} (g : R x y) (h : A2 R xs ys) : A2 R (x :: xs) (y :: ys) := (A2.one g).app h
theorem endK_num {u : List Nat} {i e : Nat} (h : ((Str.ofString "number" : Str), some e) ∈ endK u i) : numE u i = some e := by
  unfold endK at h
  simp only [List.mem_cons, List.not_mem_nil, or_false, Prod.mk.injEq] at h
  rcases h with ⟨h, _⟩ | ⟨h, _⟩ | ⟨_, h⟩ | ⟨h, _⟩ | ⟨h, _⟩ | ⟨h, _⟩ | ⟨h, _⟩
  · exact absurd h (by decide +kernel)
  · exact absurd h (by decide +kernel)
  · exact h.symm
  · exact absurd h (by decide +kernel)
  · exact absurd h (by decide +kernel)
  · exact absurd h (by decide +kernel)
  · exact absurd h (by decide +kernel)
theorem upL_amt {d e : List Nat} {p : Bool} (hd : ∀ c ∈ d, isD c = true) (he : ∀ c ∈ e, isD c = true) : upL (amtL d e p) = amtL d e p := by
  unfold amtL
  cases p
  · show upL (d ++ []) = d ++ []
    rw [List.append_nil]
    exact upL_digits hd
  · show upL (d ++ 46 :: e) = d ++ 46 :: e
    unfold upL
    rw [List.map_append, List.map_cons]
    have a := upL_digits hd
    have b := upL_digits he
    unfold upL at a b
    rw [a, b]
    rfl
theorem num_parts {l : List Nat} {i e : Nat} (hi : i ≤ l.length) (h : numE l i = some e) : ∃ d e' p, sub l i e = amtL d e' p ∧ (∀ c ∈ d, isD c = true) ∧ (∀ c ∈ e', isD c = true) ∧ d ≠ [] ∧ e' ≠ [] ∧ d.length ≤ l.length ∧ e'.length ≤ l.length := by
  have hd := sub_digits (l := l) (i := i)
  have r1 := runE_ge isD l i
  have r2 : runE isD l i ≤ l.length := runE_le hi
  unfold numE at h
  split at h
  · cases h
  · rename_i h0
    have d0 : sub l i (runE isD l i) ≠ [] := fun e => h0 (sub_nil.mp e)
    have dl : (sub l i (runE isD l i)).length ≤ l.length := by rw [sub_len r1 r2]; omega
    split at h
    · rename_i hs
      cases h
      have r3 := runE_ge isD l (runE isD l i + 1)
      have hsl := stands_lt hs.1
      have r4 : runE isD l (runE isD l i + 1) ≤ l.length := runE_le hsl
      refine ⟨sub l i (runE isD l i), sub l (runE isD l i + 1) (runE isD l (runE isD l i + 1)), true, ?_, hd, sub_digits, d0, fun e => ?_, dl, by rw [sub_len r3 r4]; omega⟩
      · rw [sub_app (j := runE isD l i) r1 (by omega), sub_app (l := l) (i := runE isD l i) (j := runE isD l i + 1) (by omega) (by omega), sub_one]
        have ec : l[runE isD l i]? = some (l[runE isD l i]'hsl) := List.getElem?_eq_getElem hsl
        have hc := hs.1
        rw [stands_some ec] at hc
        rw [ec, eq_of_beq hc]
        rfl
      · have := sub_nil.mp e
        have hx := hs.2
        rw [runE_step hx] at this
        have := runE_ge isD l (runE isD l i + 1 + 1)
        omega
    · cases h
      refine ⟨sub l i (runE isD l i), [48], false, (List.append_nil _).symm, hd, fun c hc => by cases List.mem_singleton.mp hc; rfl, d0, List.cons_ne_nil _ _, dl, ?_⟩
      have : runE isD l i ≠ i := h0
      show 1 ≤ l.length
      omega

local macro_rules | `(tactic| walk_at "len1") => `(tactic| first
  | with_reducible assumption
  | (with_reducible refine hl3 ?_; walk_at "len1")
  | (with_reducible refine hl4 ?_; walk_at "len1"))
local macro_rules | `(tactic| walk_at "len") => `(tactic| first
  | (with_reducible refine hl1 ?_; walk_at "len1")
  | (with_reducible refine hl2 ?_; with_reducible assumption))
local macro_rules | `(tactic| walk_at "sl") => `(tactic| (refine Nat.le_trans (Nat.le_of_eq (S_len _)) ?_; rw [sizeLine_eq]; (try simp only [List.length_append, List.length_cons, List.length_nil]); omega))
local macro_rules | `(tactic| walk_at "sl3") => `(tactic| (rw [sizeLine_eq]; (try simp only [S_len, Str.length_append, List.length_append, List.length_cons, List.length_nil]); omega))
local macro_rules | `(tactic| walk_at "lb") => `(tactic| first
  | with_reducible assumption
  | with_reducible exact c_one _
  | (with_reducible apply Lc; walk_at "lb")
  | (with_reducible refine' La ?hx ?hy; (case hx => walk_at "lb"); (case hy => walk_at "lb"))
  | (with_reducible refine Lr 50 ?hx ?hy; (case hx => assumption); (case hy => omega)))
local macro_rules | `(tactic| walk_at "ln") => `(tactic| (refine' Nat.le_trans (m := ?mm) ?hu ?hv; (case hu => walk_at "lb"); (case hv => first | omega | (rw [sizeLine_eq]; omega))))
local macro_rules | `(tactic| walk_at "ls") => `(tactic| (refine' Nat.le_trans (Nat.add_le_add ?hu ?hv) ?hw; (case hu => walk_at "lb"); (case hv => walk_at "lb"); (case hw => (rw [sizeLine_eq]; omega))))
local macro_rules | `(tactic| walk_at "sl2") => `(tactic| (rw [sizeLine_eq]; simp only [e_dot, e_minus, e_plus, S_len, Str.length_append, List.length_append, List.length_cons, List.length_nil]; omega))
local macro_rules | `(tactic| walk_at "sq") => `(tactic| first
  | assumption
  | exact SqT.of upd_same
  | (refine same_tk (same_upd (by assumption)) _ _ ?_; walk_at "sq")
  | (refine same_tk (by assumption) _ _ ?_; walk_at "sq"))
local macro_rules | `(tactic| walk_at "own") => `(tactic| first
  | refine ⟨_, _, _, _, rfl, rfl, (by walk_at "sq"), rfl, ?_⟩
  | refine Or.inl ⟨_, _, _, rfl, rfl, ?_⟩
  | refine ⟨_, rfl, Or.inl ⟨_, rfl, fun (r : Addr) (H1 : Hp) (s1 : Same _ _) h1 => ?_⟩⟩
  | refine ⟨_, rfl, Or.inr ⟨_, rfl, fun (r : Addr) (H1 : Hp) (s1 : Same _ _) h1 => ?_⟩⟩
  | refine ⟨_, _, rfl, (by walk_at "sq"), (by assumption), fun (r : Addr) (H1 : Hp) (s1 : Same _ _) h1 => ?_⟩
  | refine ⟨_, _, rfl, (by walk_at "sq"), (by assumption), fun (H1 : Hp) (s1 : Same _ _) => ?_⟩
  | refine Or.inr (Or.inl ⟨_, _, _, _, rfl, (by walk_at "sq"), rfl, ?_⟩)
  | refine ⟨_, _, _, _, rfl, rfl, (by walk_at "sq"), (by with_reducible assumption), ?_⟩
  | refine ⟨_, _, rfl, Or.inr (by walk_at "sq"), ?_⟩
  | refine ⟨_, _, rfl, Or.inl (by assumption), ?_⟩
  | refine And.intro (by omega) (fun (z : Str) (H1 : Hp) (s1 : Same _ _) hl ha => ?_)
  | refine And.intro (by omega) (fun (r : Addr) (H1 : Hp) (s1 : Same _ _) h1 => ?_)
  | refine And.intro (by omega) (And.intro (by with_reducible assumption) (fun (r : Addr) (H1 : Hp) (s1 : Same _ _) h1 => ?_))
  | refine ⟨_, _, _, rfl, (by walk_at "sq"), (by walk_at "sq"), Sc.short _, Sc.flat _, ?_⟩
  | refine ⟨_, _, rfl, (by omega), (by with_reducible assumption), fun (r : Addr) (H1 : Hp) (s1 : Same _ _) h1 => ?_⟩
  | refine ⟨_, _, rfl, fun (p : Addr) (s : Sc) (H1 : Hp) (s1 : Same _ _) hp hs => ?_⟩
  | refine fun (z : Str) (H1 : Hp) (s1 : Same _ _) hl ha => ?_
  | refine fun (r : Addr) (H1 : Hp) (s1 : Same _ _) h1 => ?_
  | refine fun (H1 : Hp) (s1 : Same _ H1) => ?_
  | refine Or.inl ⟨_, rfl, fun (r : Addr) (H1 : Hp) (s1 : Same _ _) h1 => ?_⟩
  | refine Or.inr ⟨_, rfl, fun (r : Addr) (H1 : Hp) (s1 : Same _ _) h1 => ?_⟩
  | refine Or.inr ⟨_, rfl, ?_⟩
  | refine ⟨(show Flat3 _ from by first | assumption | exact Or.inl ⟨_, rfl⟩ | exact Or.inr (Or.inl ⟨_, rfl⟩) | exact Or.inr (Or.inr ⟨_, rfl⟩)), ?_⟩
  | refine ⟨⟨_, rfl⟩, ?_⟩
  | refine ⟨_, rfl, rfl, trivial, ?_⟩
  | refine ⟨_, _, rfl, rfl, (show (0 : Int) < _ from by first | decide | omega), fun d d0 d1 => ?_⟩
  | refine ⟨_, _, rfl, (show Str.length _ ≤ 200000 from by with_reducible assumption), ?_⟩
  | refine ⟨_, _, rfl, (show CB _ _ from ⟨by decide, by decide⟩), fun p hp => ?_⟩
  | refine ⟨_, _, rfl, .inl (.inl upd_same), rfl, ?_⟩
  | refine ⟨_, _, _, _, rfl, rfl, .inl (.inl upd_same), rfl, ?_⟩
  | refine And.intro (show Str.length _ ≤ sizeLine from by walk_at "len") ?_
  | refine And.intro (show Str.length _ + Str.length _ ≤ sizeLine from by walk_at "sl2") ?_
  | (refine And.intro ?hc ?_; case hc => (show Str.length _ + Str.length _ ≤ sizeLine; walk_at "ls"))
  | (refine And.intro ?hc ?_; case hc => (show Str.length _ ≤ sizeLine; walk_at "ln"))
  | refine ⟨_, _, rfl, (show 0 < (1000000 : Int) ∧ (1000000 : Int) < _ from ⟨by decide, by decide⟩), fun H1 s1 => ?_⟩
  | refine And.intro (show (_ ∧ _) ∧ Str.length _ ≤ 16 from ⟨⟨by omega, by omega⟩, by decide +kernel⟩) ?_
  | refine And.intro (show Nat.log2 _ < 1920 from log_small (by omega)) ?_
  | refine And.intro (show PadOk _ = true from rfl) ?_
  | refine And.intro (show (Str.length _ == 0) = false from by decide +kernel) ?_)

local macro_rules | `(tactic| walk_at "bat") => `(tactic| first
  | assumption
  | exact Bp.xd (by assumption)
  | exact BoxP.new (by walk_at "bat") (by assumption)
  | exact BoxP.same (by walk_at "bat") (by assumption))
local macro_rules | `(tactic| walk_at "bx") => `(tactic| first
  | assumption
  | exact Bp.refl (by assumption)
  | exact Bp.new (by walk_at "bx") (by assumption)
  | exact Bp.same (by walk_at "bx") (by assumption)
  | exact Bp.trans (by assumption) (by assumption)
  | (refine Bp.trans ?_ (by assumption); walk_at "bx"))
local macro_rules | `(tactic| walk_at "bk") => `(tactic| first
  | exact fun _ _ _ h => h
  | exact Bp.but (by assumption)
  | exact but_upd (by walk_at "bk")
  | exact but_new (by walk_at "bk") (by assumption))
local macro_rules | `(tactic| walk_at "cc") => `(tactic| first
  | assumption
  | exact (upd_ne (by assumption)).trans (by walk_at "cc")
  | exact same_upd (by assumption) _ _ (by walk_at "cc"))
local macro_rules | `(tactic| walk_at "own") => `(tactic| first
  | refine ⟨_, _, _, rfl, (by walk_at "bat"), (by omega), fun (n : Int) (H1 : Hp) (b1 : Bp _ _ _ _ _) h0 h1 => ?_⟩
  | refine ⟨_, _, _, rfl, (by walk_at "bat"), ⟨by assumption, by omega⟩, fun (z : Str) (H1 : Hp) (b1 : Bp _ _ _ _ _) ha hl => ?_⟩
  | refine ⟨_, _, rfl, (by walk_at "bat"), fun (z : Str) (H1 : Hp) (b1 : Bp _ _ _ _ _) ha hl => ?_⟩
  | refine ⟨_, _, rfl, pg_turn (by first | assumption | exact upd_same | exact same_upd (by assumption) _ _ upd_same), ?_⟩
  | refine ⟨_, _, rfl, pg_left (by first | assumption | exact upd_same | exact same_upd (by assumption) _ _ upd_same), ?_⟩
  | refine ⟨_, _, rfl, pg_at (by first | assumption | exact upd_same | exact same_upd (by assumption) _ _ upd_same), ?_⟩
  | refine ⟨_, _, rfl, pg_rest (by first | assumption | exact upd_same | exact same_upd (by assumption) _ _ upd_same), ?_⟩
  | refine ⟨_, _, rfl, pg_small (by first | assumption | exact upd_same | exact same_upd (by assumption) _ _ upd_same), ?_⟩
  | refine ⟨_, _, rfl, pg_seed (by first | assumption | exact upd_same | exact same_upd (by assumption) _ _ upd_same), ?_⟩
  | refine ⟨_, _, rfl, pg_cells (by first | assumption | exact upd_same | exact same_upd (by assumption) _ _ upd_same), ?_⟩
  | refine ⟨_, _, rfl, pp_turn (by first | assumption | exact upd_same | exact same_upd (by assumption) _ _ upd_same), ?_⟩
  | refine ⟨_, _, rfl, pp_left (by first | assumption | exact upd_same | exact same_upd (by assumption) _ _ upd_same), ?_⟩
  | refine ⟨_, _, rfl, pp_at (by first | assumption | exact upd_same | exact same_upd (by assumption) _ _ upd_same), ?_⟩
  | refine ⟨_, _, rfl, pp_rest (by first | assumption | exact upd_same | exact same_upd (by assumption) _ _ upd_same), ?_⟩
  | refine ⟨_, _, rfl, pp_small (by first | assumption | exact upd_same | exact same_upd (by assumption) _ _ upd_same), ?_⟩)

/-- a chain of heaps -/
local macro_rules | `(tactic| walk_at "same") => `(tactic| first
  | assumption
  | exact Same.refl _
  | exact same_upd (by assumption)
  | (refine Same.trans ?_ (same_upd (by assumption)); walk_at "same")
  | (refine Same.trans ?_ (by assumption); walk_at "same"))
/-- a step of a reading, by its shape -/
local macro_rules | `(tactic| walk_at "st") => `(tactic| first
  | walk_at "own"
  | refine ⟨_, rfl, fun n h0 h1 => ?_⟩
  | refine ⟨_, rfl, ?_⟩
  | refine ⟨_, _, rfl, rfl, (by first | exact Or.inl ⟨by decide, by decide⟩ | exact Or.inr ⟨by decide, by decide⟩ | exact Or.inl (by omega) | exact Or.inr (by omega)), fun d hd hu hn => ?_⟩
  | refine ⟨_, _, rfl, rfl, by first | exact Or.inl ⟨by decide, by decide⟩ | exact Or.inr ⟨by decide, by decide⟩ | exact Or.inl (by omega) | exact Or.inr (by omega), ?_⟩
  | refine ⟨_, _, rfl, rfl, by first | (show (0 : Int) < _; first | omega | decide | (split <;> omega)) | (show _ ≠ (0 : Int); omega), ?_⟩
  | refine ⟨_, _, rfl, rfl, ⟨by decide, by decide⟩, ?_⟩
  | refine ⟨_, _, rfl, rfl, (by show (_ ∧ _) ∧ (_ ∧ _); omega), ?_⟩
  | refine ⟨_, _, rfl, rfl, (by show _ ∧ _; first | omega | (split <;> omega)), fun d hd hu hn => ?_⟩
  | refine ⟨_, _, rfl, rfl, (by show (0 : Int) < _ ∧ _; first | omega | (split <;> omega)), ?_⟩
  | refine ⟨_, _, rfl, rfl, ?_⟩
  | refine ⟨_, _, _, rfl, rfl, ?_⟩
  | refine ⟨_, _, _, _, rfl, rfl, .inl (.inl (by assumption)), rfl, ?_⟩
  | refine Or.inl ⟨_, rfl, ?_⟩
  | refine ⟨_, _, rfl, fun n H1 s1 h0 h1 => ?_⟩
  | refine ⟨_, _, rfl, fun n h0 h1 => ?_⟩
  | refine ⟨_, _, rfl, ?_⟩
  | refine ⟨Nat.le_of_ble_eq_true rfl, fun p hp => ?_⟩
  | refine ⟨rfl, ?_⟩
  | refine ⟨lim_flat _, ?_⟩
  | refine ⟨⟨by assumption, by assumption⟩, ?_⟩
  | refine And.intro (by assumption) ?_
  | refine ⟨Or.inl ⟨_, rfl⟩, ?_⟩
  | refine And.intro (by omega) (fun H1 s1 => ?_)
  | refine And.intro (by omega) ?_
  | refine iteF ?_
  | refine iteT ?_
  | refine iteSS ?_
  | refine iteIS ?_
  | refine iteEqI (fun _ => ?_) (fun _ => ?_)
  | refine iteNeI (fun _ => ?_) (fun _ => ?_)
  | refine iteD (fun _ => ?_) (fun _ => ?_)
  | refine ite2 (fun _ => ?_) (fun _ => ?_))
local macro_rules | `(tactic| walk_at "run") => `(tactic| repeat' (walk_at "st"))
local macro_rules | `(tactic| walk_at "own0") => `(tactic| first
  | refine ⟨⟨_, rfl⟩, ?_⟩
  | refine ⟨_, rfl, rfl, trivial, ?_⟩
  | refine ⟨_, _, rfl, rfl, (show (0 : Int) < _ from by first | decide | omega), fun d d0 d1 => ?_⟩
  | refine ⟨_, _, rfl, (show Str.length _ ≤ 200000 from by with_reducible assumption), ?_⟩
  | refine ⟨_, _, rfl, (show CB _ _ from ⟨by decide, by decide⟩), fun p hp => ?_⟩
  | refine ⟨_, _, rfl, .inl (.inl upd_same), rfl, ?_⟩
  | refine ⟨_, _, _, _, rfl, rfl, .inl (.inl upd_same), rfl, ?_⟩
  | refine And.intro (show Str.length _ ≤ sizeLine from by walk_at "len") ?_
  | refine And.intro (show Str.length _ + Str.length _ ≤ sizeLine from by walk_at "sl2") ?_
  | refine ⟨_, _, rfl, (show 0 < (1000000 : Int) ∧ (1000000 : Int) < _ from ⟨by decide, by decide⟩), fun H1 s1 => ?_⟩
  | refine And.intro (show (_ ∧ _) ∧ Str.length _ ≤ 16 from ⟨⟨by omega, by omega⟩, by decide +kernel⟩) ?_
  | refine And.intro (show Nat.log2 _ < 1920 from log_small (by omega)) ?_
  | refine And.intro (show PadOk _ = true from rfl) ?_
  | refine And.intro (show (Str.length _ == 0) = false from by decide +kernel) ?_)
/-- a step of a reading, by its shape -/
local macro_rules | `(tactic| walk_at "st0") => `(tactic| first
  | walk_at "own0"
  | refine ⟨_, rfl, fun n h0 h1 => ?_⟩
  | refine ⟨_, rfl, ?_⟩
  | refine ⟨_, _, rfl, rfl, (by first | exact Or.inl ⟨by decide, by decide⟩ | exact Or.inr ⟨by decide, by decide⟩ | exact Or.inl (by omega) | exact Or.inr (by omega)), fun d hd hu hn => ?_⟩
  | refine ⟨_, _, rfl, rfl, by first | exact Or.inl ⟨by decide, by decide⟩ | exact Or.inr ⟨by decide, by decide⟩ | exact Or.inl (by omega) | exact Or.inr (by omega), ?_⟩
  | refine ⟨_, _, rfl, rfl, by first | (show (0 : Int) < _; first | omega | decide | (split <;> omega)) | (show _ ≠ (0 : Int); omega), ?_⟩
  | refine ⟨_, _, rfl, rfl, ⟨by decide, by decide⟩, ?_⟩
  | refine ⟨_, _, rfl, rfl, (by show (_ ∧ _) ∧ (_ ∧ _); omega), ?_⟩
  | refine ⟨_, _, rfl, rfl, (by show _ ∧ _; first | omega | (split <;> omega)), fun d hd hu hn => ?_⟩
  | refine ⟨_, _, rfl, rfl, (by show (0 : Int) < _ ∧ _; first | omega | (split <;> omega)), ?_⟩
  | refine ⟨_, _, rfl, rfl, ?_⟩
  | refine ⟨_, _, _, rfl, rfl, ?_⟩
  | refine ⟨_, _, _, _, rfl, rfl, .inl (.inl (by assumption)), rfl, ?_⟩
  | refine Or.inl ⟨_, rfl, ?_⟩
  | refine ⟨_, _, rfl, fun n H1 s1 h0 h1 => ?_⟩
  | refine ⟨_, _, rfl, fun n h0 h1 => ?_⟩
  | refine ⟨_, _, rfl, ?_⟩
  | refine ⟨Nat.le_of_ble_eq_true rfl, fun p hp => ?_⟩
  | refine ⟨rfl, ?_⟩
  | refine ⟨lim_flat _, ?_⟩
  | refine ⟨⟨by assumption, by assumption⟩, ?_⟩
  | refine And.intro (by assumption) ?_
  | refine ⟨Or.inl ⟨_, rfl⟩, ?_⟩
  | refine And.intro (by omega) (fun H1 s1 => ?_)
  | refine And.intro (by omega) ?_
  | refine iteF ?_
  | refine iteT ?_
  | refine iteSS ?_
  | refine iteIS ?_
  | refine iteEqI (fun _ => ?_) (fun _ => ?_)
  | refine iteNeI (fun _ => ?_) (fun _ => ?_)
  | refine iteD (fun _ => ?_) (fun _ => ?_)
  | refine ite2 (fun _ => ?_) (fun _ => ?_))
local macro_rules | `(tactic| walk_at "run0") => `(tactic| repeat' (walk_at "st0"))

/-! ### the promises -/
def spFault_init (K : PySem.W.Frag) : Sp := fun vs H Q E => spI K ["at"] vs H Q E
def sphalf_even (K : PySem.W.Frag) : Sp := fun vs H Q _ => ∃ a b : Int, vs = [.int a, .int b] ∧ (0 < b ∧ b < 1267650600228229401496703205376) ∧ ∀ H' : Hp, Same H H' → Q (.int (near a b)) H'
def spfitting (K : PySem.W.Frag) : Sp := fun vs H Q _ => ∃ m : Int, vs = [.int m] ∧ Q (lim m) H
def spread_amount (K : PySem.W.Frag) : Sp := fun vs H Q _ => ∃ z : Str, vs = [.str z] ∧ z.length ≤ 100000 ∧ ∀ H' : Hp, Same H H' → Q (readV z) H'
def spare_figures (K : PySem.W.Frag) : Sp := fun vs H Q _ => ∃ (z : Str) (most : Int), vs = [.str z, .int most] ∧ z.length ≤ 200000 ∧ Q (.bl (figs (tl z) most)) H
def spcapital (K : PySem.W.Frag) : Sp := fun vs H Q _ => ∃ z : Str, vs = [.str z] ∧ (z.length ≤ 10000 ∧ Asc z) ∧ ∀ H' : Hp, Same H H' → Q (.str (Txt.upper z)) H'
def spis_figure (K : PySem.W.Frag) : Sp := fun vs H Q _ => ∃ z : Str, vs = [.str z] ∧ z.length ≤ 1 ∧ Q (.bl (stands isD (tl z) 0)) H
def spis_letter (K : PySem.W.Frag) : Sp := fun vs H Q _ => ∃ z : Str, vs = [.str z] ∧ z.length ≤ 1 ∧ Q (.bl (stands isLt (tl z) 0)) H
def spblanks_end (K : PySem.W.Frag) : Sp := fun vs H Q _ => ∃ (z : Str) (i : Nat), vs = [.str z, .int (i : Nat)] ∧ (i ≤ z.length ∧ z.length ≤ 10000) ∧ Q (.int (runE (· == 32) (tl z) i : Nat)) H
def spfigures_end (K : PySem.W.Frag) : Sp := fun vs H Q _ => ∃ (z : Str) (i : Nat), vs = [.str z, .int (i : Nat)] ∧ (i ≤ z.length ∧ z.length ≤ 10000) ∧ Q (.int (runE isD (tl z) i : Nat)) H
def spmark_end (K : PySem.W.Frag) : Sp := fun vs H Q _ => ∃ (z : Str) (i : Nat), vs = [.str z, .int (i : Nat)] ∧ (i ≤ z.length ∧ z.length ≤ 10000) ∧ Q (.int (markE (tl z) i : Nat)) H
def sprow_end (K : PySem.W.Frag) : Sp := fun vs H Q _ => ∃ (z : Str) (i : Nat), vs = [.str z, .int (i : Nat)] ∧ (i ≤ z.length ∧ z.length ≤ 10000) ∧ ∀ H' : Hp, Same H H' → Q (optV (rowE (tl z) (markE (tl z) i))) H'
def spcolumn_end (K : PySem.W.Frag) : Sp := fun vs H Q _ => ∃ (z : Str) (i : Nat), vs = [.str z, .int (i : Nat)] ∧ (i ≤ z.length ∧ z.length ≤ 10000) ∧ CapL (tl z) ∧ ∀ H' : Hp, Same H H' → Q (optV (colE (tl z) i)) H'
def sppair_end (K : PySem.W.Frag) : Sp := fun vs H Q _ => ∃ (f : Addr) (g : List Nat → Nat → Option Nat) (z : Str) (i : Nat), vs = [.ref f, .str z, .int (i : Nat)] ∧ ((f = fnK K "row_end" ∧ g = fun l i => rowE l (markE l i)) ∨ (f = fnK K "column_end" ∧ g = colE)) ∧ (i ≤ z.length ∧ z.length ≤ 10000) ∧ CapL (tl z) ∧ ∀ H' : Hp, Same H H' → Q (optV (pairE g (tl z) i)) H'
def spmakes_word (K : PySem.W.Frag) : Sp := fun vs H Q _ => ∃ z : Str, vs = [.str z] ∧ z.length ≤ 1 ∧ ∀ H' : Hp, Same H H' → Q (.bl (stands mkW (tl z) 0)) H'
def sperror_end (K : PySem.W.Frag) : Sp := fun vs H Q _ => ∃ (z : Str) (i : Nat), vs = [.str z, .int (i : Nat)] ∧ (i ≤ z.length ∧ z.length ≤ 10000) ∧ ∀ H' : Hp, Same H H' → Q (optV (errE (tl z) i)) H'
def sprows_end (K : PySem.W.Frag) : Sp := fun vs H Q _ => ∃ (z : Str) (i : Nat), vs = [.str z, .int (i : Nat)] ∧ (i ≤ z.length ∧ z.length ≤ 10000) ∧ CapL (tl z) ∧ ∀ H' : Hp, Same H H' → Q (optV (rowsE (tl z) i)) H'
def spnumber_end (K : PySem.W.Frag) : Sp := fun vs H Q _ => ∃ (z : Str) (i : Nat), vs = [.str z, .int (i : Nat)] ∧ (i ≤ z.length ∧ z.length ≤ 10000) ∧ ∀ H' : Hp, Same H H' → Q (optV (numE (tl z) i)) H'
def spcell_end (K : PySem.W.Frag) : Sp := fun vs H Q _ => ∃ (z : Str) (i : Nat), vs = [.str z, .int (i : Nat)] ∧ (i ≤ z.length ∧ z.length ≤ 10000) ∧ CapL (tl z) ∧ ∀ H' : Hp, Same H H' → Q (optV (cellE (tl z) i)) H'
def spcolumns_end (K : PySem.W.Frag) : Sp := fun vs H Q _ => ∃ (z : Str) (i : Nat), vs = [.str z, .int (i : Nat)] ∧ (i ≤ z.length ∧ z.length ≤ 10000) ∧ CapL (tl z) ∧ ∀ H' : Hp, Same H H' → Q (optV (columnsE (tl z) i)) H'
def spgoes_on_word (K : PySem.W.Frag) : Sp := fun vs H Q _ => ∃ z : Str, vs = [.str z] ∧ z.length ≤ 1 ∧ ∀ H' : Hp, Same H H' → Q (.bl (stands gW (tl z) 0)) H'
def spword_end (K : PySem.W.Frag) : Sp := fun vs H Q _ => ∃ (z : Str) (i : Nat), vs = [.str z, .int (i : Nat)] ∧ (i ≤ z.length ∧ z.length ≤ 10000) ∧ ∀ H' : Hp, Same H H' → Q (optV (wordE (tl z) i)) H'
def spsign_end (K : PySem.W.Frag) : Sp := fun vs H Q _ => ∃ (z : Str) (i : Nat), vs = [.str z, .int (i : Nat)] ∧ (i ≤ z.length ∧ z.length ≤ 10000) ∧ (∀ c ∈ tl z, c < 128) ∧ ∀ H' : Hp, Same H H' → Q (optV (signE (tl z) i)) H'
def sptext_token (K : PySem.W.Frag) : Sp := fun vs H Q E => ∃ (z : Str) (i : Nat), vs = [.str z, .int (i : Nat)] ∧ (i ≤ z.length ∧ z.length ≤ 10000) ∧ stands (· == 34) (tl z) i = true ∧ TkQ K H Q E (quoteE (tl z) i)
def spis_at_fault (K : PySem.W.Frag) : Sp := fun vs H Q _ => ∃ k z : Str, vs = [.str k, .str z] ∧ z.length ≤ 10000 ∧ ∀ H' : Hp, Same H H' → Q (.bl (badK k (tl z))) H'
def sptoken_at (K : PySem.W.Frag) : Sp := fun vs H Q E => ∃ (z u : Str) (i : Nat), vs = [.str z, .str u, .int (i : Nat)] ∧ (i < z.length ∧ z.length ≤ 10000) ∧ u.length = z.length ∧ CapL (tl u) ∧ TkQ K H Q E (tokAt (tl z) (tl u) i)
def sptokens (K : PySem.W.Frag) : Sp := fun vs H Q E => ∃ z : Str, vs = [.str z] ∧ (1 ≤ z.length ∧ z.length ≤ 10000) ∧ Asc z ∧ (∀ ts, toksL (tl z) = (ts, none) → ∀ (p : Addr) (xs : List V) (H' : Hp), Same H H' → SqT K H' p xs → A2 (TkV K H') xs ts → Q (.ref p) H') ∧ ∀ ts a, toksL (tl z) = (ts, some a) → ∀ (d : Addr) (H' : Hp), Same H H' → H' d = some (.xd [("at", .int (a : Nat))]) → E (.ref (clK K "Fault")) (some d) H'
def sp_law_mixed (K : PySem.W.Frag) : Sp := fun vs H Q _ => ∃ x t m : Int, vs = [.int x, .int t, .int m] ∧ 0 < m ∧ ∀ n : Int, 0 ≤ n → n < m → Q (.int n) H
def sp_law_pool (K : PySem.W.Frag) : Sp := fun vs H Q _ => ∃ (a : Addr) (ns : List Int), vs = [.ref a] ∧ SqL K H a (ns.map V.int) ∧ ns.length ≤ 63 ∧ ∀ (b c : Addr) (H' : Hp), Same H H' → BoxP K b c H' → Q (.ref b) H'
def sp_law_take (K : PySem.W.Frag) : Sp := fun vs H Q _ => ∃ (b c : Addr) (m : Int), vs = [.ref b, .int m] ∧ BoxP K b c H ∧ (0 < m ∧ m ≤ 1000) ∧ ∀ (n : Int) (H' : Hp), Bp K b c H H' → 0 ≤ n → n < m → Q (.int n) H'
def sp_law_signs (K : PySem.W.Frag) : Sp := fun vs H Q _ => vs = [] ∧ ∀ z : Str, z.length = 94 → Asc z → Q (.str z) H
def sp_law_letters (K : PySem.W.Frag) : Sp := fun vs H Q _ => vs = [] ∧ Q (.str letS) H
def sp_law_stands (K : PySem.W.Frag) : Sp := fun vs H Q _ => ∃ (z s : Str) (a : Int), vs = [.str z, .int a, .str s] ∧ (z.length ≤ 10000 ∧ s.length ≤ 100) ∧ ((∃ i : Nat, a = (i : Int) ∧ Q (.bl (stands (stI s) (tl z) i)) H) ∨ ((a = -1 ∧ 1 ≤ z.length) ∧ ∀ r : Bool, Q (.bl r) H))
def sp_law_run (K : PySem.W.Frag) : Sp := fun vs H Q _ => ∃ (z s : Str) (i : Nat), vs = [.str z, .int (i : Nat), .str s] ∧ (i ≤ z.length ∧ z.length ≤ 10000 ∧ s.length ≤ 100) ∧ Q (.int (runE (stI s) (tl z) i : Nat)) H
def sp_law_dollar (K : PySem.W.Frag) : Sp := fun vs H Q _ => ∃ (z : Str) (i : Nat), vs = [.str z, .int (i : Nat)] ∧ (i ≤ z.length ∧ z.length ≤ 10000 ∧ Asc z) ∧ Q (.int (markE (tl z) i : Nat)) H
def sp_law_row (K : PySem.W.Frag) : Sp := fun vs H Q _ => ∃ (z : Str) (i : Nat), vs = [.str z, .int (i : Nat)] ∧ (i ≤ z.length ∧ z.length ≤ 10000 ∧ Asc z) ∧ Q (.int (encE (rowE (tl z) i))) H
def sp_law_rows (K : PySem.W.Frag) : Sp := fun vs H Q _ => ∃ (z : Str) (i : Nat), vs = [.str z, .int (i : Nat)] ∧ (i ≤ z.length ∧ z.length ≤ 10000 ∧ Asc z) ∧ Q (.int (encE (rowsE (tl z) i))) H
def sp_law_cell (K : PySem.W.Frag) : Sp := fun vs H Q _ => ∃ (z : Str) (i : Nat), vs = [.str z, .int (i : Nat)] ∧ (i ≤ z.length ∧ z.length ≤ 10000 ∧ Asc z) ∧ ∀ H' : Hp, Same H H' → Q (.int (encE (cellE (tl z) i))) H'
def sp_law_columns (K : PySem.W.Frag) : Sp := fun vs H Q _ => ∃ (z : Str) (i : Nat), vs = [.str z, .int (i : Nat)] ∧ (i ≤ z.length ∧ z.length ≤ 10000 ∧ Asc z) ∧ ∀ H' : Hp, Same H H' → Q (.int (encE (columnsE (tl z) i))) H'
def sp_law_number (K : PySem.W.Frag) : Sp := fun vs H Q _ => ∃ (z : Str) (i : Nat), vs = [.str z, .int (i : Nat)] ∧ (i ≤ z.length ∧ z.length ≤ 10000 ∧ Asc z) ∧ Q (.int ((numE (tl z) i).getD i : Nat)) H
def sp_law_is_amount (K : PySem.W.Frag) : Sp := fun vs H Q _ => ∃ (d e : List Nat) (p : Bool), vs = [.str (SX.S (amtL d e p))] ∧ ((∀ c ∈ d, isD c = true) ∧ (∀ c ∈ e, isD c = true) ∧ d ≠ [] ∧ e ≠ [] ∧ d.length ≤ 10000 ∧ e.length ≤ 10000) ∧ ∀ H' : Hp, Same H H' → Q (.bl (!decide (readV (SX.S (amtL d e p)) = .non))) H'
def sp_law_error (K : PySem.W.Frag) : Sp := fun vs H Q _ => ∃ (z : Str) (i : Nat), vs = [.str z, .int (i : Nat)] ∧ (i < z.length ∧ z.length ≤ 10000 ∧ Asc z) ∧ ∀ H' : Hp, Same H H' → Q (.int (encE (errE (upL (tl z)) i))) H'
def sp_law_word (K : PySem.W.Frag) : Sp := fun vs H Q _ => ∃ (z : Str) (i : Nat), vs = [.str z, .int (i : Nat)] ∧ (i ≤ z.length ∧ z.length ≤ 10000 ∧ Asc z) ∧ Q (.int (encE (wordE (tl z) i))) H
def sp_law_sign (K : PySem.W.Frag) : Sp := fun vs H Q _ => ∃ (z : Str) (i : Nat), vs = [.str z, .int (i : Nat)] ∧ (i < z.length ∧ z.length ≤ 10000 ∧ Asc z) ∧ ∀ H' : Hp, Same H H' → Q (.int ((signE (tl z) i).getD i : Nat)) H'
def sp_law_quoted (K : PySem.W.Frag) : Sp := fun vs H Q _ => ∃ (z : Str) (i : Nat), vs = [.str z, .int (i : Nat)] ∧ (i < z.length ∧ z.length ≤ 10000 ∧ Asc z) ∧ ∀ (p : Addr) (H' : Hp), Same H H' → SqT K H' p (lawTk (quoteE (tl z) i)) → Q (.ref p) H'
def sp_law_token (K : PySem.W.Frag) : Sp := fun vs H Q _ => ∃ (z : Str) (i : Nat), vs = [.str z, .int (i : Nat)] ∧ (i < z.length ∧ z.length ≤ 10000 ∧ Asc z) ∧ ∀ (p : Addr) (H' : Hp), Same H H' → SqT K H' p (lawTk (tokAt (tl z) (upL (tl z)) i)) → Q (.ref p) H'
def sp_law_formed (K : PySem.W.Frag) : Sp := fun vs H Q _ => ∃ (b c : Addr) (f : Str), vs = [.ref b, .str f] ∧ BoxP K b c H ∧ (Asc f ∧ f.length ≤ 40) ∧ ∀ (z : Str) (H' : Hp), Bp K b c H H' → Asc z → z.length ≤ 3 * f.length → Q (.str z) H'
def sp_law_text_piece (K : PySem.W.Frag) : Sp := fun vs H Q _ => ∃ (b c : Addr), vs = [.ref b] ∧ BoxP K b c H ∧ ∀ (z : Str) (H' : Hp), Bp K b c H H' → Asc z → z.length ≤ 150 → Q (.str z) H'
def sp_law_piece (K : PySem.W.Frag) : Sp := fun vs H Q _ => ∃ (b c : Addr), vs = [.ref b] ∧ BoxP K b c H ∧ ∀ (z : Str) (H' : Hp), Bp K b c H H' → Asc z → z.length ≤ 150 → Q (.str z) H'
def sp_law_is_integer (K : PySem.W.Frag) : Sp := fun vs H Q _ => ∃ i : Int, vs = [.int i] ∧ Q (.bl true) H
def sp_law_due (K : PySem.W.Frag) : Sp := fun vs H Q _ => ∃ z : Str, vs = [.str z] ∧ (1 ≤ z.length ∧ z.length ≤ 10000 ∧ Asc z) ∧ ∀ (p d : Addr) (xs : List V) (H' : Hp), Same H H' → SqT K H' p [.ref d, .int (encE (toksL (tl z)).2)] → H' d = some (.lst xs) → A2 (TkV K H') xs (toksL (tl z)).1 → Q (.ref p) H'
def sp_law_same (K : PySem.W.Frag) : Sp := fun vs H Q _ => ∃ (p d : Addr) (xs ys : List V) (ts : List (Str × Nat × Nat × List Nat)), vs = [.ref p, .ref d] ∧ SqT K H p xs ∧ H d = some (.lst ys) ∧ A2 (TkV K H) xs ts ∧ A2 (TkV K H) ys ts ∧ (ts.length ≤ 10000 ∧ ∀ t ∈ ts, TokOk t) ∧ ∀ H' : Hp, Same H H' → Q (.bl true) H'
def splaw (K : PySem.W.Frag) : Sp := fun vs H Q _ => ∃ (a : Addr) (ns : List Int), vs = [.ref a] ∧ SqL K H a (ns.map V.int) ∧ ns.length ≤ 63 ∧ ∀ H', Q (.bl true) H'
section
variable {P : Program} {w : World} {K : PySem.W.Frag} {mg : Str → Option Value} {base : Heap}
def gktokens_text {α : Type} : List α → List α := fun zs => match zs with | [z0] => [z0] | _ => zs
theorem krtokens_text : ∀ {zs : List V} {ws : List Value}, Vals zs ws → Vals (gktokens_text zs) (gktokens_text ws) := fun {zs ws} r => by
  rcases r with _ | ⟨r0, r⟩
  · exact .nil
  rcases r with _ | ⟨r1, r⟩
  · exact (.cons r0 .nil)
  exact (.cons r0 (.cons r1 r))
theorem kbtokens_text (T : Txt K mg w) : KB0 K T.dtokens Ptokens ["text"] gktokens_text gktokens_text := by
  obtain ⟨oc, od, kV, doc, pm, an, cdv, ct, osl, e, lk, hcd⟩ := T.Ftokens.ex
  refine ⟨fun s ws hl => ?_, krtokens_text⟩
  rw [e]
  match ws, hl with
  | [z0], _ => exact .of_eq rfl
theorem okFault_init (T : Txt K mg w) : FnOk P w K mg base CX0 1 T.aFault_init T.dFault_init PFault_init (spI K ["at"]) := by
  refine T.FFault_init.ok scFault_init (fun vs H Q E h => ?_) (fun cdv A outer s H vs Q E hr h => ?_)
  · obtain ⟨a, C, ys, rfl, hy, _⟩ := h
    exact congrArg Nat.succ hy
  · obtain ⟨a, C, ys, rfl, hy, hT, ht, ha, q⟩ := h
    refine ⟨_, (pss_one (ps_est (pv 0) (pv 1))), ?_⟩
    obtain ⟨y, rfl⟩ : ∃ y, ys = [y] := by
      rcases ys with _ | ⟨y, _ | ⟨z, r⟩⟩
      · cases hy
      · exact ⟨y, rfl⟩
      · cases hy
    refine ⟨_, rfl, _, rfl, a, C, rfl, hT, ht _ (by decide), Or.inl ⟨ha, fun dx hd hne => ?_⟩⟩
    exact q dx _ hne hd upd_same (by rw [upd_ne hne]; exact upd_same) (fun b b1 b2 => by rw [upd_ne b1, upd_ne b2])

theorem okhalf_even (T : Txt K mg w) : FnOk P w K mg base CX0 1 T.ahalf_even T.dhalf_even Phalf_even (sphalf_even K) := by
  refine T.Fhalf_even.ok schalf_even (fun vs H Q E h => ?_) (fun cdv A outer s H vs Q E hr h => ?_)
  · obtain ⟨a, b, rfl, _⟩ := h
    rfl
  · obtain ⟨a, b, rfl, hb, q⟩ := h
    refine ⟨_, (pss_cons (ps_asg (pe_callB call_divmodB (by rfl) T.z_divmod (by decide +kernel) (pa_cons (pv 0) (pa_cons (pv 1) pa_nil))) (pg_tup (by rfl) (pgs_cons (pg_name (i := 2) schalf_even.nd rfl (by first | exact Or.inl rfl | exact Or.inr rfl)) (pgs_cons (pg_name (i := 3) schalf_even.nd rfl (by first | exact Or.inl rfl | exact Or.inr rfl)) pgs_nil))))
    (pss_cons (ps_if (pt_cmpR op_gt (pe_op op_mul pe_int (pv 3)) (pv 1) (by first | exact nomark _ | rfl))
      (pss_one (ps_ret (pe_op op_add (pv 2) pe_int)))
      pss_nil)
    (pss_cons (ps_if (pt_cmpR op_eq (pe_op op_mul pe_int (pv 3)) (pv 1) (by first | exact nomark _ | rfl))
      (pss_one (ps_ret (pe_op op_add (pv 2) (pe_op op_mod (pv 2) pe_int))))
      pss_nil)
    (pss_one (ps_ret (pv 2)))))), ?_⟩
    refine ⟨_, rfl, _, rfl, _, _, rfl, hb, fun p hp => ?_⟩
    refine ⟨p, _, rfl, .inl (.inl upd_same), rfl, _, _, rfl, _, _, rfl, rfl, ?_⟩
    walk_at "run"
    all_goals refine (congrArg (fun z => Q (V.int z) _) ?_).mp (q _ (same_upd hp))
    all_goals (unfold near; (repeat' split) <;> omega)

theorem okfitting (T : Txt K mg w) : FnOk P w K mg base CX0 1 T.afitting T.dfitting Pfitting (spfitting K) := by
  refine T.Ffitting.ok scfitting (fun vs H Q E h => ?_) (fun cdv A outer s H vs Q E hr h => ?_)
  · obtain ⟨m, rfl, _⟩ := h
    rfl
  · obtain ⟨m, rfl, q⟩ := h
    refine ⟨_, (pss_cons (ps_if (pt_chain op_le op_le (pe_un un_neg (pe_glob (v := .int 999999999999999999999) (by rfl) T.m_GREATEST ⟨_, rfl⟩)) (pv 0) (pe_glob (v := .int 999999999999999999999) (by rfl) T.m_GREATEST ⟨_, rfl⟩))
      (pss_one (ps_ret (pv 0)))
      pss_nil)
    (pss_one (ps_ret pe_str))), ?_⟩
    walk_at "run"
    all_goals (try simp only [decide_eq_true_eq] at *)
    all_goals first
      | (rw [lim_in (by constructor <;> omega)] at q; exact q)
      | (rw [lim_out (by omega)] at q; exact q)

theorem okare_figures (T : Txt K mg w) : FnOk P w K mg base CX0 1 T.aare_figures T.dare_figures Pare_figures (spare_figures K) := by
  refine T.Fare_figures.ok scare_figures (fun vs H Q E h => ?_) (fun cdv A outer s H vs Q E hr h => ?_)
  · obtain ⟨z, most, rfl, _⟩ := h
    rfl
  · obtain ⟨z, most, rfl, hz, q⟩ := h
    refine ⟨_, (pss_one (ps_ret (pe_and (pe_bm0 PySem.F.plainAttrs_str PySem.F.slot_str_isascii PySem.F.type_str_isascii mt_isascii (pv 0)) (pe_and (pe_bm0 PySem.F.plainAttrs_str PySem.F.slot_str_isdigit PySem.F.type_str_isdigit mt_isdigit (pv 0)) (pe_one (pe_cmpR op_le (pe_callB call_len_str (by rfl) T.z_len (by decide +kernel) (pa_cons (pv 0) pa_nil)) (pv 1) (by first | exact nomark _ | rfl))))))), ?_⟩
    rw [← figs_code] at q
    walk_at "run"
    · rename_i a b
      rw [a, b] at q
      exact q
    · rename_i a b
      rw [a, Bool.eq_false_iff.mpr b] at q
      exact q
    · rename_i a
      rw [Bool.eq_false_iff.mpr a] at q
      exact q

theorem okread_amount (T : Txt K mg w) : FnOk P w K mg base CX0 2 T.aread_amount T.dread_amount Pread_amount (spread_amount K) := by
  refine T.Fread_amount.ok scread_amount (fun vs H Q E h => ?_) (fun cdv A outer s H vs Q E hr h => ?_)
  · obtain ⟨z, rfl, _⟩ := h
    rfl
  · obtain ⟨z, rfl, hz, q⟩ := h
    refine ⟨_, (pss_cons (ps_set (i := 1) scread_amount.nd rfl (by first | exact Or.inl rfl | exact Or.inr rfl) (pe_bm PySem.F.plainAttrs_str PySem.F.slot_str_strip PySem.F.type_str_strip mt_stripChars (pv 0) (pa_cons pe_str pa_nil)))
    (pss_cons (ps_set (i := 2) scread_amount.nd rfl (by first | exact Or.inl rfl | exact Or.inr rfl) (pe_bm PySem.F.plainAttrs_str PySem.F.slot_str_startswith PySem.F.type_str_startswith mt_startswith (pv 1) (pa_cons pe_str pa_nil)))
    (pss_cons (ps_if (PW.pt (pw_or (pt_val (pv 2)) (pw_or1 (pt_val (pe_bm PySem.F.plainAttrs_str PySem.F.slot_str_startswith PySem.F.type_str_startswith mt_startswith (pv 1) (pa_cons pe_str pa_nil))))))
      (pss_one (ps_set (i := 1) scread_amount.nd rfl (by first | exact Or.inl rfl | exact Or.inr rfl) (pe_slice sl_str (pv 1) (po_some pe_int) po_none)))
      pss_nil)
    (pss_cons (ps_asg (pe_bm PySem.F.plainAttrs_str PySem.F.slot_str_partition PySem.F.type_str_partition mt_partition (pv 1) (pa_cons pe_str pa_nil)) (pg_tup (by rfl) (pgs_cons (pg_name (i := 3) scread_amount.nd rfl (by first | exact Or.inl rfl | exact Or.inr rfl)) (pgs_cons (pg_name (i := 4) scread_amount.nd rfl (by first | exact Or.inl rfl | exact Or.inr rfl)) (pgs_cons (pg_name (i := 5) scread_amount.nd rfl (by first | exact Or.inl rfl | exact Or.inr rfl)) pgs_nil)))))
    (pss_cons (ps_if (pt_not (pt_val (pe_call (okare_figures T) (hr.mono (by decide)) (by rfl) T.gare_figures T.Fare_figures.kp (T.bare_figures) .nil pass0 (pa_cons (pv 3) (pa_cons (pe_glob (v := .int 15) (by rfl) T.m_FIGURES_AHEAD ⟨_, rfl⟩) pa_nil)))))
      (pss_one (ps_ret pe_non))
      pss_nil)
    (pss_cons (ps_if (PW.pt (pw_and (pt_cmpR op_ne (pv 4) pe_str (by first | exact nomark _ | rfl)) (pw_and1 (pt_not (pt_val (pe_call (okare_figures T) (hr.mono (by decide)) (by rfl) T.gare_figures T.Fare_figures.kp (T.bare_figures) .nil pass0 (pa_cons (pv 5) (pa_cons (pe_glob (v := .int 12) (by rfl) T.m_FIGURES_BEHIND ⟨_, rfl⟩) pa_nil))))))))
      (pss_one (ps_ret pe_non))
      pss_nil)
    (pss_cons (ps_set (i := 6) scread_amount.nd rfl (by first | exact Or.inl rfl | exact Or.inr rfl) (pe_callTy call_int_str (by rfl) T.z_int (by decide +kernel) (pa_cons (pe_op op_add_str (pv 3) (pe_bm PySem.F.plainAttrs_str PySem.F.slot_str_ljust PySem.F.type_str_ljust mt_ljustF (pv 5) (pa_cons (pe_glob (v := .int 12) (by rfl) T.m_FIGURES_BEHIND ⟨_, rfl⟩) (pa_cons pe_str pa_nil)))) pa_nil)))
    (pss_cons (ps_set (i := 7) scread_amount.nd rfl (by first | exact Or.inl rfl | exact Or.inr rfl) (pe_call (okhalf_even T) (hr.mono (by decide)) (by rfl) T.ghalf_even T.Fhalf_even.kp (T.bhalf_even) .nil pass0 (pa_cons (pv 6) (pa_cons (pe_powc (c := 1000000) (by decide) (by decide +kernel)) pa_nil))))
    (pss_cons (ps_if (pt_cmpR op_eq (pe_call (okfitting T) (hr.mono (by decide)) (by rfl) T.gfitting T.Ffitting.kp (T.bfitting) .nil pass0 (pa_cons (pv 7) pa_nil)) pe_str (by first | exact nomark _ | rfl))
      (pss_one (ps_ret pe_non))
      pss_nil)
    (pss_one (ps_ret (pe_ifExp (pt_val (pv 2)) (pe_un un_neg (pv 7)) (pv 7))))))))))))), ?_⟩
    refine' merge2 (C := fun U b => U.length ≤ 100000 ∧ ∀ H' : Hp, Same H H' → Q (readP b (Txt.partition U (S [46]))) H') _ ?tail ?rest
    case rest =>
      intro tail
      walk_at "run"
      · rename_i h
        rw [e_blank, e_minus] at h
        rw [readV_1 h] at q
        rw [e_blank, e_minus, h, e_dot]
        have hU : (cutS (Txt.stripChars z (S [32])) (some 1) none).length ≤ 100000 := hl4 (hl3 hz)
        generalize cutS (Txt.stripChars z (S [32])) (some 1) none = U at q hU ⊢
        generalize hv : V.bl true = vb
        exact tail U vb true hv.symm ⟨hU, q⟩
      · rename_i h h2
        rw [e_blank, e_minus] at h
        rw [e_blank, e_plus] at h2
        rw [readV_2 h h2] at q
        rw [e_blank, e_minus, Bool.eq_false_iff.mpr h, e_dot]
        exact tail _ _ false rfl ⟨hl4 (hl3 hz), q⟩
      · rename_i h h2
        rw [e_blank, e_minus] at h
        rw [e_blank, e_plus] at h2
        rw [readV_3 h h2] at q
        rw [e_blank, e_minus, Bool.eq_false_iff.mpr h, e_dot]
        exact tail _ _ false rfl ⟨hl3 hz, q⟩
    case tail =>
      intro U vb b hvb hC
      obtain ⟨lz, q⟩ := hC
      subst hvb
      have pc := part_cases U
      have pl := part_len U (S [46])
      generalize Txt.partition U (S [46]) = P at q pc pl ⊢
      have p1 : P.1.length ≤ 200000 := by omega
      have p2 : P.2.2.length ≤ 200000 := by omega
      intro p hp
      refine ⟨_, _, rfl, .inl (.inl upd_same), rfl, ?_⟩
      walk_at "run"
      · rename_i k
        rw [readP_bad1 (fun z => by rw [z] at k; cases k)] at q
        exact q _ (same_upd hp)
      · rename_i k1 k2 k3
        rw [readP_bad2 (ne_empty.mp k2) (fun z => by rw [z] at k3; cases k3)] at q
        exact q _ (same_upd hp)
      · rename_i k1 k2 k3
        have wt := worth_text pc (nots k1) (Or.inr (nots k3))
        rw [readP_good (nots k1) (Or.inr (nots k3))] at q
        obtain ⟨wt1, wt2, wt3, wt4⟩ := wt
        have nn := near_nn (a := (worthP P : Nat)) (Int.natCast_nonneg _)
        refine ⟨_, _, _, 48, rfl, rfl, (by decide +kernel), rfl, ?_⟩
        refine ⟨_, _, rfl, rfl, (by rw [sizeLine_eq]; omega), ?_⟩
        refine ⟨_, _, rfl, wt1, (by omega), ?_⟩
        walk_at "run"
        rename_i H1 s1
        by_cases c : near (worthP P : Nat) 1000000 < 1000000000000000000000
        · rw [lim_in (by constructor <;> omega)]
          rw [readN_in c] at q
          cases b
          all_goals walk_at "run"
          all_goals exact q _ (by walk_at "same")
        · rw [lim_out (by omega)]
          rw [readN_out c] at q
          walk_at "run"
          exact q _ (by walk_at "same")
      · rename_i k1 k2
        have k3 : P.2.1 = Str.empty := Decidable.byContradiction fun z => k2 (ne_empty.mpr z)
        have wt := worth_text pc (nots k1) (Or.inl k3)
        rw [readP_good (nots k1) (Or.inl k3)] at q
        obtain ⟨wt1, wt2, wt3, wt4⟩ := wt
        have nn := near_nn (a := (worthP P : Nat)) (Int.natCast_nonneg _)
        refine ⟨_, _, _, 48, rfl, rfl, (by decide +kernel), rfl, ?_⟩
        refine ⟨_, _, rfl, rfl, (by rw [sizeLine_eq]; omega), ?_⟩
        refine ⟨_, _, rfl, wt1, (by omega), ?_⟩
        walk_at "run"
        rename_i H1 s1
        by_cases c : near (worthP P : Nat) 1000000 < 1000000000000000000000
        · rw [lim_in (by constructor <;> omega)]
          rw [readN_in c] at q
          cases b
          all_goals walk_at "run"
          all_goals exact q _ (by walk_at "same")
        · rw [lim_out (by omega)]
          rw [readN_out c] at q
          walk_at "run"
          exact q _ (by walk_at "same")

theorem okcapital (T : Txt K mg w) : FnOk P w K mg base CX0 1 T.acapital T.dcapital Pcapital (spcapital K) := by
  refine T.Fcapital.ok sccapital (fun vs H Q E h => ?_) (fun cdv A outer s H vs Q E hr h => ?_)
  · obtain ⟨z, rfl, _⟩ := h
    rfl
  · obtain ⟨z, rfl, ⟨hl, ha⟩, q⟩ := h
    refine ⟨_, (pss_one (ps_ret (pe_bm PySem.F.plainAttrs_str PySem.F.slot_str_join PySem.F.type_str_join mt_join pe_str (pa_cons (pe_lc (own := [("sign", 1)]) (g := gName 1) (tt := tYes) rfl sccapital.nd (pi_str (pv 0)) (blkOk_by (N := Ncapital) (sc := defScope scapital) (by decide +kernel)) (fun _ _ _ _ _ => pg_name (i := 1) sccapital.nd rfl (Or.inl rfl)) (fun _ _ _ _ _ => pts_nil) (fun _ _ _ _ _ => (pe_ifExp (pt_chain op_le_str op_le_str pe_str (pv 1) pe_str) (pe_bm0k rfl PySem.F.plainAttrs_str PySem.F.slot_str_upper PySem.F.type_str_upper mt_upper (pv 1)) (pv 1)))) pa_nil)))), ?_⟩
    walk_at "run"
    intro D hD
    refine lc_it (walk_str (z := z)) (fun i H' => Same H H' ∧ H' D = some (.lst ((((tl z).take i).map fun c => (⟨#[PyProof.Rows.up1 c]⟩ : Str)).map V.str))) ⟨same_upd hD, upd_same⟩ (fun _ _ _ _ => trivial) (fun i x H1 H2 hi hp hy => ?_) (fun H' hp => ?_)
    · obtain ⟨s1, hz⟩ := hp
      obtain ⟨rfl, c, ec, rfl⟩ := hy
      have ec2 : (tl z)[i]? = some c := by rw [Array.getElem?_toList]; exact ec
      have hc := ha c (List.mem_of_getElem? ec2)
      have et : (tl z).take (i + 1) = (tl z).take i ++ [c] := by
        rw [List.take_add_one, ec2]
        rfl
      have el : ((((tl z).take i).map fun c => (⟨#[PyProof.Rows.up1 c]⟩ : Str)).map V.str).length ≤ 10000 := by
        rw [List.length_map, List.length_map, List.length_take, ← len_tl]
        omega
      have fin : ∀ d, d = PyProof.Rows.up1 c → Same H (upd H2 D (.lst (((((tl z).take i).map fun c => (⟨#[PyProof.Rows.up1 c]⟩ : Str)).map V.str) ++ [V.str ⟨#[d]⟩]))) ∧ (upd H2 D (.lst (((((tl z).take i).map fun c => (⟨#[PyProof.Rows.up1 c]⟩ : Str)).map V.str) ++ [V.str ⟨#[d]⟩]))) D = some (.lst ((((tl z).take (i + 1)).map fun c => (⟨#[PyProof.Rows.up1 c]⟩ : Str)).map V.str)) := fun d e => by
        refine ⟨same_put s1 hD, ?_⟩
        rw [upd_same, et, List.map_append, List.map_append, e]
        rfl
      walk_at "run"
      · refine And.intro (Nat.le_of_ble_eq_true rfl) ?_
        rw [upper_one hc]
        exact ⟨_, hz, Nat.lt_of_le_of_lt el (by decide), fin _ rfl⟩
      · rename_i a b
        rw [sg_le_z, decide_eq_true_eq] at b
        exact ⟨_, hz, Nat.lt_of_le_of_lt el (by decide), fin _ (up1_small_letter (by omega))⟩
      · rename_i a
        rw [sg_ge_a, decide_eq_true_eq] at a
        exact ⟨_, hz, Nat.lt_of_le_of_lt el (by decide), fin _ (up1_small_letter (by omega))⟩
    · obtain ⟨s1, hz⟩ := hp
      have e0 : (tl z).take z.cps.size = tl z := List.take_of_length_le (by simp [tl])
      rw [e0] at hz
      have ej := join_ones PyProof.Rows.up1 (tl z)
      rw [← upper_tl ha] at ej
      refine ⟨_, D, _, rfl, rfl, Or.inl (SqL.of hz), ?_, ?_⟩
      · refine Nat.le_trans (join_sum (n := 1) fun y hy => ?_) ?_
        · obtain ⟨c, _, rfl⟩ := List.mem_map.mp hy
          exact Nat.le_refl 1
        · rw [List.length_map, ← len_tl]
          omega
      · rw [ej]
        exact q _ s1

theorem okis_figure (T : Txt K mg w) : FnOk P w K mg base CX0 1 T.ais_figure T.dis_figure Pis_figure (spis_figure K) := by
  refine T.Fis_figure.ok scis_figure (fun vs H Q E h => ?_) (fun cdv A outer s H vs Q E hr h => ?_)
  · obtain ⟨z, rfl, _⟩ := h
    rfl
  · obtain ⟨z, rfl, hz, q⟩ := h
    refine ⟨_, (pss_one (ps_ret (pe_chain op_le_str op_le_str pe_str (pv 0) pe_str))), ?_⟩
    rcases sg_cases hz with rfl | ⟨c, rfl⟩
    · rw [show stands isD (tl (SX.S [])) 0 = false from rfl] at q
      walk_at "run"
      all_goals first
        | exact q
        | (rename_i h
           exact absurd h (by decide +kernel))
    · rw [show stands isD (tl (SX.S [c])) 0 = isD c from rfl] at q
      walk_at "run"
      · rename_i h
        rw [c_0, ge_sg, decide_eq_true_eq] at h
        rw [c_9, ge_sg]
        rw [isD_eq c h] at q
        exact q
      · rename_i h
        rw [c_0, ge_sg, decide_eq_true_eq] at h
        rw [isD_no c h] at q
        exact q

theorem okis_letter (T : Txt K mg w) : FnOk P w K mg base CX0 1 T.ais_letter T.dis_letter Pis_letter (spis_letter K) := by
  refine T.Fis_letter.ok scis_letter (fun vs H Q E h => ?_) (fun cdv A outer s H vs Q E hr h => ?_)
  · obtain ⟨z, rfl, _⟩ := h
    rfl
  · obtain ⟨z, rfl, hz, q⟩ := h
    refine ⟨_, (pss_one (ps_ret (pe_or (pe_chain op_le_str op_le_str pe_str (pv 0) pe_str) (pe_one (pe_chain op_le_str op_le_str pe_str (pv 0) pe_str))))), ?_⟩
    rcases sg_cases hz with rfl | ⟨c, rfl⟩
    · rw [show stands isLt (tl (SX.S [])) 0 = false from rfl] at q
      walk_at "run"
      all_goals first
        | exact q
        | (rename_i h _
           exact absurd h (by decide +kernel))
        | (rename_i h
           exact absurd h (by decide +kernel))
        | (rename_i h _ _
           exact absurd h (by decide +kernel))
    · rw [show stands isLt (tl (SX.S [c])) 0 = isLt c from rfl] at q
      unfold isLt isUp isLo at q
      walk_at "run"
      all_goals (simp only [c_A, c_Z, c_a, c_z, ge_c] at *)
      all_goals refine (congrArg (fun b => Q (V.bl b) H) ?_).mp q
      all_goals (clear q)
      all_goals (by_cases a1 : 65 ≤ c <;> by_cases a2 : c ≤ 90 <;> by_cases a3 : 97 ≤ c <;> by_cases a4 : c ≤ 122 <;> simp_all <;> omega)

theorem okblanks_end (T : Txt K mg w) : FnOk P w K mg base CX0 1 T.ablanks_end T.dblanks_end Pblanks_end (spblanks_end K) := by
  refine T.Fblanks_end.ok scblanks_end (fun vs H Q E h => ?_) (fun cdv A outer s H vs Q E hr h => ?_)
  · obtain ⟨z, i, rfl, _⟩ := h
    rfl
  · obtain ⟨z, i, rfl, ⟨hi, hl⟩, q⟩ := h
    refine ⟨_, (pss_cons (ps_set (i := 2) scblanks_end.nd rfl (by first | exact Or.inl rfl | exact Or.inr rfl) (pv 1))
    (pss_cons (ps_while PassesOwn.never (pt_cmpR op_eq (pe_slice sl_str (pv 0) (po_some (pv 2)) (po_some (pe_op op_add (pv 2) pe_int))) pe_str (by first | exact nomark _ | rfl))
      (pss_one (ps_aug (i := 2) scblanks_end.nd rfl (by first | exact Or.inl rfl | exact Or.inr rfl) pe_int ip_add)))
    (pss_one (ps_ret (pv 2))))), ?_⟩
    walk_at "run"
    refine while_at (fun n σ H' => H' = H ∧ ∃ k : Nat, n = z.length - k ∧ (i ≤ k ∧ k ≤ z.length) ∧ runE (· == 32) (tl z) k = runE (· == 32) (tl z) i ∧ σ = [some (.str z), some (.int (i : Nat)), some (.int (k : Nat))]) _ ⟨rfl, i, rfl, ⟨Nat.le_refl _, hi⟩, rfl, rfl⟩ (fun n σ H' hp => ?_)
    obtain ⟨rfl, k, rfl, ⟨k1, k2⟩, er, rfl⟩ := hp
    have hlt := len_tl z
    walk_at "run"
    · rename_i h
      have hs := sgn_of e_blank h
      have hs' := stands_lt hs
      refine ⟨fun σ' H'' => ∃ m', m' < z.length - k ∧ H'' = H' ∧ ∃ k : Nat, m' = z.length - k ∧ (i ≤ k ∧ k ≤ z.length) ∧ runE (· == 32) (tl z) k = runE (· == 32) (tl z) i ∧ σ' = [some (.str z), some (.int (i : Nat)), some (.int (k : Nat))], fun σ' H'' h => h, ?_⟩
      walk_at "run"
      refine ⟨_, ?_, rfl, k + 1, rfl, ⟨by omega, by omega⟩, (runE_step hs).symm.trans er, rfl⟩
      omega
    · rename_i h
      have hs := sgn_no e_blank h
      rw [← er, runE_stop hs] at q
      walk_at "run"
      exact q

theorem okfigures_end (T : Txt K mg w) : FnOk P w K mg base CX0 2 T.afigures_end T.dfigures_end Pfigures_end (spfigures_end K) := by
  refine T.Ffigures_end.ok scfigures_end (fun vs H Q E h => ?_) (fun cdv A outer s H vs Q E hr h => ?_)
  · obtain ⟨z, i, rfl, _⟩ := h
    rfl
  · obtain ⟨z, i, rfl, ⟨hi, hl⟩, q⟩ := h
    refine ⟨_, (pss_cons (ps_set (i := 2) scfigures_end.nd rfl (by first | exact Or.inl rfl | exact Or.inr rfl) (pv 1))
    (pss_cons (ps_while PassesOwn.never (pt_val (pe_call (okis_figure T) (hr.mono (by decide)) (by rfl) T.gis_figure T.Fis_figure.kp (T.bis_figure) .nil pass0 (pa_cons (pe_slice sl_str (pv 0) (po_some (pv 2)) (po_some (pe_op op_add (pv 2) pe_int))) pa_nil)))
      (pss_one (ps_aug (i := 2) scfigures_end.nd rfl (by first | exact Or.inl rfl | exact Or.inr rfl) pe_int ip_add)))
    (pss_one (ps_ret (pv 2))))), ?_⟩
    walk_at "run"
    refine while_at (fun n σ H' => H' = H ∧ ∃ k : Nat, n = z.length - k ∧ (i ≤ k ∧ k ≤ z.length) ∧ runE isD (tl z) k = runE isD (tl z) i ∧ σ = [some (.str z), some (.int (i : Nat)), some (.int (k : Nat))]) _ ⟨rfl, i, rfl, ⟨Nat.le_refl _, hi⟩, rfl, rfl⟩ (fun n σ H' hp => ?_)
    obtain ⟨rfl, k, rfl, ⟨k1, k2⟩, er, rfl⟩ := hp
    have hlt := len_tl z
    walk_at "run"
    refine And.intro (cut_st1 z k) ?_
    rw [cut_st]
    walk_at "run"
    · rename_i hs
      have hs' := stands_lt hs
      refine ⟨fun σ' H'' => ∃ m', m' < z.length - k ∧ H'' = H' ∧ ∃ k : Nat, m' = z.length - k ∧ (i ≤ k ∧ k ≤ z.length) ∧ runE isD (tl z) k = runE isD (tl z) i ∧ σ' = [some (.str z), some (.int (i : Nat)), some (.int (k : Nat))], fun σ' H'' h => h, ?_⟩
      walk_at "run"
      refine ⟨_, ?_, rfl, k + 1, rfl, ⟨by omega, by omega⟩, (runE_step hs).symm.trans er, rfl⟩
      omega
    · rename_i hs
      have hs := Bool.eq_false_iff.mpr hs
      rw [← er, runE_stop hs] at q
      walk_at "run"
      exact q

theorem okmark_end (T : Txt K mg w) : FnOk P w K mg base CX0 1 T.amark_end T.dmark_end Pmark_end (spmark_end K) := by
  refine T.Fmark_end.ok scmark_end (fun vs H Q E h => ?_) (fun cdv A outer s H vs Q E hr h => ?_)
  · obtain ⟨z, i, rfl, _⟩ := h
    rfl
  · obtain ⟨z, i, rfl, ⟨hi, hl⟩, q⟩ := h
    refine ⟨_, (pss_one (ps_ret (pe_ifExp (pt_cmpR op_eq (pe_slice sl_str (pv 0) (po_some (pv 1)) (po_some (pe_op op_add (pv 1) pe_int))) pe_str (by first | exact nomark _ | rfl)) (pe_op op_add (pv 1) pe_int) (pv 1)))), ?_⟩
    walk_at "run"
    · rename_i h
      rw [show markE (tl z) i = i + 1 from if_pos (sgn_of c_mark h)] at q
      exact q
    · rename_i h
      rw [show markE (tl z) i = i from if_neg (by rw [sgn_no c_mark h]; exact Bool.false_ne_true)] at q
      exact q

theorem okrow_end (T : Txt K mg w) : FnOk P w K mg base CX0 3 T.arow_end T.drow_end Prow_end (sprow_end K) := by
  refine T.Frow_end.ok scrow_end (fun vs H Q E h => ?_) (fun cdv A outer s H vs Q E hr h => ?_)
  · obtain ⟨z, i, rfl, _⟩ := h
    rfl
  · obtain ⟨z, i, rfl, ⟨hi, hl⟩, q⟩ := h
    refine ⟨_, (pss_cons (ps_set (i := 2) scrow_end.nd rfl (by first | exact Or.inl rfl | exact Or.inr rfl) (pe_call (okmark_end T) (hr.mono (by decide)) (by rfl) T.gmark_end T.Fmark_end.kp (T.bmark_end) .nil pass0 (pa_cons (pv 0) (pa_cons (pv 1) pa_nil))))
    (pss_cons (ps_set (i := 3) scrow_end.nd rfl (by first | exact Or.inl rfl | exact Or.inr rfl) (pe_call (okfigures_end T) (hr.mono (by decide)) (by rfl) T.gfigures_end T.Ffigures_end.kp (T.bfigures_end) .nil pass0 (pa_cons (pv 0) (pa_cons (pv 2) pa_nil))))
    (pss_cons (ps_set (i := 4) scrow_end.nd rfl (by first | exact Or.inl rfl | exact Or.inr rfl) (pe_slice sl_str (pv 0) (po_some (pv 2)) (po_some (pv 3))))
    (pss_cons (ps_if (PW.pt (pw_or (pt_cmpR op_eq (pv 4) pe_str (by first | exact nomark _ | rfl)) (pw_or (pt_cmpR op_eq (pe_ix ix_str (pv 4) pe_int (fun _ _ => rfl)) pe_str (by first | exact nomark _ | rfl)) (pw_or (pt_cmpR op_gt (pe_callB call_len_str (by rfl) T.z_len (by decide +kernel) (pa_cons (pv 4) pa_nil)) pe_int (by first | exact nomark _ | rfl)) (pw_or1 (pt_cmpR op_gt (pe_callTy call_int_str (by rfl) T.z_int (by decide +kernel) (pa_cons (pv 4) pa_nil)) (pe_glob (v := .int 20) (by rfl) T.m_LAST_ROW ⟨_, rfl⟩) (by first | exact nomark _ | rfl)))))))
      (pss_one (ps_ret pe_non))
      pss_nil)
    (pss_one (ps_ret (pv 3))))))), ?_⟩
    have hlt := len_tl z
    have hm : markE (tl z) i ≤ z.length := by rw [hlt]; exact markE_le (by omega)
    have hr1 := runE_ge isD (tl z) (markE (tl z) i)
    have hr2 : runE isD (tl z) (markE (tl z) i) ≤ z.length := by rw [hlt]; exact runE_le (by omega)
    have hd := sub_digits (l := tl z) (i := markE (tl z) i)
    have hsl := sub_len (l := tl z) hr1 (by omega)
    have hcl : (cutS z (some (markE (tl z) i : Int)) (some (runE isD (tl z) (markE (tl z) i) : Int))).length = runE isD (tl z) (markE (tl z) i) - markE (tl z) i := by
      rw [cut_sub, SX.S_len, hsl]
    walk_at "run"
    · rename_i h
      rw [cut_sub, ofS_none] at h
      rw [rowE_none (.inl (sub_nil.mp (SX.S_inj (V.str.inj h))))] at q
      exact q _ (Same.refl _)
    · rename_i h
      have hne : runE isD (tl z) (markE (tl z) i) ≠ markE (tl z) i := fun e => h (by rw [cut_sub, ofS_none, sub_nil.mpr e])
      obtain ⟨c, ec⟩ : ∃ c, (tl z)[markE (tl z) i]? = some c := ⟨_, List.getElem?_eq_getElem (by omega)⟩
      walk_at "run"
      refine ⟨_, _, c, rfl, rfl, by rw [hcl, sizeLine_eq]; omega, atI_at (n := 0) rfl (by rw [cut_sub]; exact head_sub (by omega) ec), ?_⟩
      walk_at "run"
      · rename_i h2
        rw [c_0] at h2
        have : c = 48 := (List.cons.inj (SX.S_inj (V.str.inj h2))).1
        rw [rowE_none (.inr (.inr (.inl (by rw [stands_some ec, this]; rfl))))] at q
        exact q _ (Same.refl _)
      · rename_i h2 h3
        rw [hcl] at h3
        rw [rowE_none (.inr (.inl (by omega)))] at q
        exact q _ (Same.refl _)
      · rename_i h2 h3
        rw [hcl] at h3
        have hc0 : stands (· == 48) (tl z) (markE (tl z) i) = false := by
          rw [stands_some ec]
          exact beq_eq_false_iff_ne.mpr fun e => h2 (by rw [e, c_0])
        rw [cut_sub]
        refine ⟨_, _, rfl, intT hd (fun e => hne (sub_nil.mp e)) (by rw [hsl]; omega), by rw [SX.S_len, hsl]; omega, ?_⟩
        walk_at "run"
        · rename_i h4
          rw [rowE_none (.inr (.inr (.inr (by omega))))] at q
          exact q _ (Same.refl _)
        · rename_i h4
          rw [rowE_some (fun hh => by rcases hh with hh | hh | hh | hh <;> first | omega | (rw [hc0] at hh; cases hh))] at q
          exact q _ (Same.refl _)

theorem okcolumn_end (T : Txt K mg w) : FnOk P w K mg base CX0 2 T.acolumn_end T.dcolumn_end Pcolumn_end (spcolumn_end K) := by
  refine T.Fcolumn_end.ok sccolumn_end (fun vs H Q E h => ?_) (fun cdv A outer s H vs Q E hr h => ?_)
  · obtain ⟨z, i, rfl, _⟩ := h
    rfl
  · obtain ⟨z, i, rfl, ⟨hi, hl⟩, hc, q⟩ := h
    refine ⟨_, (pss_cons (ps_set (i := 2) sccolumn_end.nd rfl (by first | exact Or.inl rfl | exact Or.inr rfl) (pe_call (okmark_end T) (hr.mono (by decide)) (by rfl) T.gmark_end T.Fmark_end.kp (T.bmark_end) .nil pass0 (pa_cons (pv 0) (pa_cons (pv 1) pa_nil))))
    (pss_cons (ps_if (pt_chain op_le_str op_le_str pe_str (pe_slice sl_str (pv 0) (po_some (pv 2)) (po_some (pe_op op_add (pv 2) pe_int))) (pe_glob (v := .str "J") (by rfl) T.m_LAST_COLUMN ⟨_, rfl⟩))
      (pss_one (ps_ret (pe_op op_add (pv 2) pe_int)))
      pss_nil)
    (pss_one (ps_ret pe_non)))), ?_⟩
    have hlt := len_tl z
    have hm : markE (tl z) i ≤ z.length := by rw [hlt]; exact markE_le (by omega)
    rcases cut_cases z (markE (tl z) i) with ⟨ec, en⟩ | ⟨c, ec, en⟩
    · rw [colE_none (by unfold stands; rw [en])] at q
      walk_at "run"
      all_goals first
        | exact q _ (Same.refl _)
        | (walk_at "run"; exact q _ (Same.refl _))
        | (rename_i h _
           rw [ec] at h
           exact absurd h (by decide +kernel))
        | (rename_i h
           rw [ec] at h
           exact absurd h (by decide +kernel))
    · have hcc := isCo_cap (hc c (List.mem_of_getElem? en)).2
      walk_at "run"
      · rename_i h1 h2
        rw [ec, c_A, ge_sg, decide_eq_true_eq] at h1
        rw [ec, c_J, ge_sg, decide_eq_true_eq] at h2
        rw [colE_some (by rw [stands_some en, hcc, decide_eq_true h1, decide_eq_true h2]; rfl)] at q
        exact q _ (Same.refl _)
      · rename_i h1 h2
        rw [ec, c_J, ge_sg, decide_eq_true_eq] at h2
        rw [colE_none (by rw [stands_some en, hcc, decide_eq_false h2, Bool.and_false])] at q
        walk_at "run"
        exact q _ (Same.refl _)
      · rename_i h1
        rw [ec, c_A, ge_sg, decide_eq_true_eq] at h1
        rw [colE_none (by rw [stands_some en, hcc, decide_eq_false h1, Bool.false_and])] at q
        walk_at "run"
        exact q _ (Same.refl _)

theorem okheld_pair_end (T : Txt K mg w) : ∀ (f : Addr) (sp : Sp), (fun f => if f = fnK K "row_end" then some (sprow_end K) else if f = fnK K "column_end" then some (spcolumn_end K) else none) f = some sp → Held P w K mg base 3 f sp := fun f sp h => by
  dsimp only at h
  by_cases erow_end : f = fnK K "row_end"
  · rw [if_pos erow_end] at h
    cases h
    subst erow_end
    exact ⟨T.drow_end, Prow_end, by rw [← T.ev_row_end]; exact (okrow_end (base := base) T).mono (by decide), by rw [← T.ev_row_end]; exact T.Frow_end.kp, T.brow_end⟩
  rw [if_neg erow_end] at h
  by_cases ecolumn_end : f = fnK K "column_end"
  · rw [if_pos ecolumn_end] at h
    cases h
    subst ecolumn_end
    exact ⟨T.dcolumn_end, Pcolumn_end, by rw [← T.ev_column_end]; exact (okcolumn_end (base := base) T).mono (by decide), by rw [← T.ev_column_end]; exact T.Fcolumn_end.kp, T.bcolumn_end⟩
  rw [if_neg ecolumn_end] at h
  cases h
theorem okheldS_pair_end_row_end (T : Txt K mg w) : (fun f => if f = fnK K "row_end" then some (sprow_end K) else if f = fnK K "column_end" then some (spcolumn_end K) else none) (fnK K "row_end") = some (sprow_end K) := if_pos rfl
theorem okheldS_pair_end_column_end (T : Txt K mg w) : (fun f => if f = fnK K "row_end" then some (sprow_end K) else if f = fnK K "column_end" then some (spcolumn_end K) else none) (fnK K "column_end") = some (spcolumn_end K) := (if_neg (fnK_ne T.Fcolumn_end T.Frow_end T.ev_column_end T.ev_row_end (by decide +kernel))).trans (if_pos rfl)
theorem okpair_end (T : Txt K mg w) : FnOk P w K mg base CX0 4 T.apair_end T.dpair_end Ppair_end (sppair_end K) := by
  refine T.Fpair_end.ok scpair_end (fun vs H Q E h => ?_) (fun cdv A outer s H vs Q E hr h => ?_)
  · obtain ⟨f, g, z, i, rfl, _⟩ := h
    rfl
  · obtain ⟨f, g, z, i, rfl, hf, ⟨hi, hl⟩, hc, q⟩ := h
    refine ⟨_, (pss_cons (ps_set (i := 3) scpair_end.nd rfl (by first | exact Or.inl rfl | exact Or.inr rfl) (pe_callA (i := 0) (S := fun f => if f = fnK K "row_end" then some (sprow_end K) else if f = fnK K "column_end" then some (spcolumn_end K) else none) (okheld_pair_end T) (hr.mono (by decide)) rfl (Or.inl rfl) (pa_cons (pv 1) (pa_cons (pv 2) pa_nil))))
    (pss_cons (ps_if (PW.pt (pw_or (pt_cmpR op_isN (pv 3) pe_non (by first | exact nomark _ | rfl)) (pw_or1 (pt_cmpR op_ne (pe_slice sl_str (pv 1) (po_some (pv 3)) (po_some (pe_op op_add (pv 3) pe_int))) pe_str (by first | exact nomark _ | rfl)))))
      (pss_one (ps_ret pe_non))
      pss_nil)
    (pss_one (ps_ret (pe_callA (i := 0) (S := fun f => if f = fnK K "row_end" then some (sprow_end K) else if f = fnK K "column_end" then some (spcolumn_end K) else none) (okheld_pair_end T) (hr.mono (by decide)) rfl (Or.inl rfl) (pa_cons (pv 1) (pa_cons (pe_op op_add (pv 3) pe_int) pa_nil))))))), ?_⟩
    have hlt := len_tl z
    rcases hf with ⟨rfl, rfl⟩ | ⟨rfl, rfl⟩
    · refine ⟨_, _, rfl, okheldS_pair_end_row_end T, ?_⟩
      walk_at "run"
      · rename_i H1 s1 h
        have e0 : pairE (fun l i => rowE l (markE l i)) (tl z) i = none := pairE_none (optV_non h)
        rw [e0] at q
        exact q _ s1
      · rename_i H1 s1 h
        obtain ⟨m, em⟩ := optV_some h
        have hm : m ≤ z.length := by rw [hlt]; exact rowE_le (markE_le (by omega)) em
        rw [em]
        refine ⟨(m : Int), rfl, ?_⟩
        walk_at "run"
        · rename_i h2
          have e0 : pairE (fun l i => rowE l (markE l i)) (tl z) i = none := pairE_no em (sgn_no c_colon (nb h2))
          rw [e0] at q
          exact q _ s1
        · rename_i h2
          have hs := sgn_of c_colon (nb2 h2)
          have hs2 := stands_lt hs
          have e0 : pairE (fun l i => rowE l (markE l i)) (tl z) i = (fun l i => rowE l (markE l i)) (tl z) (m + 1) := pairE_go em hs
          rw [e0] at q
          refine ⟨_, _, rfl, okheldS_pair_end_row_end T, ?_⟩
          refine ⟨_, rfl, ?_⟩
          walk_at "run"
          first
            | exact ⟨z, m + 1, rfl, ⟨by omega, hl⟩, fun H2 s2 => q _ (s1.trans s2)⟩
            | (rename_i H2 s2
               exact q _ (s1.trans s2))
    · refine ⟨_, _, rfl, okheldS_pair_end_column_end T, ?_⟩
      walk_at "run"
      · rename_i H1 s1 h
        have e0 : pairE colE (tl z) i = none := pairE_none (optV_non h)
        rw [e0] at q
        exact q _ s1
      · rename_i H1 s1 h
        obtain ⟨m, em⟩ := optV_some h
        have hm : m ≤ z.length := by rw [hlt]; exact colE_le em
        rw [em]
        refine ⟨(m : Int), rfl, ?_⟩
        walk_at "run"
        · rename_i h2
          have e0 : pairE colE (tl z) i = none := pairE_no em (sgn_no c_colon (nb h2))
          rw [e0] at q
          exact q _ s1
        · rename_i h2
          have hs := sgn_of c_colon (nb2 h2)
          have hs2 := stands_lt hs
          have e0 : pairE colE (tl z) i = colE (tl z) (m + 1) := pairE_go em hs
          rw [e0] at q
          refine ⟨_, _, rfl, okheldS_pair_end_column_end T, ?_⟩
          refine ⟨_, rfl, ?_⟩
          walk_at "run"
          first
            | exact ⟨z, m + 1, rfl, ⟨by omega, hl⟩, hc, fun H2 s2 => q _ (s1.trans s2)⟩
            | (rename_i H2 s2
               exact q _ (s1.trans s2))

theorem okmakes_word (T : Txt K mg w) : FnOk P w K mg base CX0 2 T.amakes_word T.dmakes_word Pmakes_word (spmakes_word K) := by
  refine T.Fmakes_word.ok scmakes_word (fun vs H Q E h => ?_) (fun cdv A outer s H vs Q E hr h => ?_)
  · obtain ⟨z, rfl, _⟩ := h
    rfl
  · obtain ⟨z, rfl, hz, q⟩ := h
    refine ⟨_, (pss_one (ps_ret (pe_or (pe_call (okis_letter T) (hr.mono (by decide)) (by rfl) T.gis_letter T.Fis_letter.kp (T.bis_letter) .nil pass0 (pa_cons (pv 0) pa_nil)) (pe_or (pe_call (okis_figure T) (hr.mono (by decide)) (by rfl) T.gis_figure T.Fis_figure.kp (T.bis_figure) .nil pass0 (pa_cons (pv 0) pa_nil)) (pe_one (pe_cmpR op_in_seq (pv 0) (pe_tup (pa_cons pe_str (pa_cons pe_str pa_nil))) (by first | exact nomark _ | rfl))))))), ?_⟩
    walk_at "run"
    · rename_i h
      rw [mkW_st, h, Bool.true_or] at q
      exact q _ (Same.refl _)
    · rename_i h1 h2
      rw [mkW_st, h2, Bool.true_or, Bool.or_true] at q
      exact q _ (Same.refl _)
    · rename_i h1 h2 p hp
      rw [mkW_st, Bool.eq_false_iff.mpr h1, Bool.eq_false_iff.mpr h2, Bool.false_or, Bool.false_or] at q
      show Q (.bl (inV (.str z) [.str (Str.ofString "_"), .str (Str.ofString "(")])) _
      rw [inV_sg2 hz c_under c_open]
      exact q _ (same_upd hp)

theorem okerror_end (T : Txt K mg w) : FnOk P w K mg base CX0 1 T.aerror_end T.derror_end Perror_end (sperror_end K) := by
  refine T.Ferror_end.ok scerror_end (fun vs H Q E h => ?_) (fun cdv A outer s H vs Q E hr h => ?_)
  · obtain ⟨z, i, rfl, _⟩ := h
    rfl
  · obtain ⟨z, i, rfl, ⟨hi, hl⟩, q⟩ := h
    refine ⟨_, (pss_cons (ps_for PassesOwn.never rfl (pi_tup (pe_glob (v := .ref T.o_ERRORS) (by rfl) T.m_ERRORS rfl)) (pg_name (i := 2) scerror_end.nd rfl (by first | exact Or.inl rfl | exact Or.inr rfl))
      (pss_cons (ps_set (i := 3) scerror_end.nd rfl (by first | exact Or.inl rfl | exact Or.inr rfl) (pe_op op_add_str (pe_op op_add_str pe_str (pv 2)) pe_str))
    (pss_one (ps_if (PW.pt (pw_and (pt_cmpR op_ne (pv 2) pe_str (by first | exact nomark _ | rfl)) (pw_and1 (pt_val (pe_bm PySem.F.plainAttrs_str PySem.F.slot_str_startswith PySem.F.type_str_startswith mt_startswith3 (pv 0) (pa_cons (pv 3) (pa_cons (pv 1) pa_nil)))))))
      (pss_one (ps_ret (pe_op op_add (pv 1) (pe_callB call_len_str (by rfl) T.z_len (by decide +kernel) (pa_cons (pv 3) pa_nil)))))
      pss_nil))))
    (pss_one (ps_ret pe_non))), ?_⟩
    have hlt := len_tl z
    walk_at "run"
    refine And.intro ⟨_, T.q_ERRORS _⟩ (for_it (walk_tup (xs := (ERW ++ (["CIRC"] : List Str)).map V.str)) (fun k σ H' => Hd (H' = H ∧ (∀ j, j < k → ∀ w, ERW[j]? = some w → TL.pre (errS w) ((tl z).drop i) = false) ∧ ∃ u v : Option V, σ = [some (.str z), some (.int (i : Nat)), u, v])) (.mk ⟨rfl, fun j h => absurd h (Nat.not_lt_zero j), none, none, rfl⟩) (fun k σ H' hk hp => T.q_ERRORS _) (fun k x σ H2 H3 hk hp hy => ?_) (fun σ H2 hp => ?_))
    · obtain ⟨rfl, hn, u, v, rfl⟩ := hp.get
      obtain ⟨rfl, ex⟩ := hy
      rw [List.getElem?_map] at ex
      obtain ⟨w, ew, rfl⟩ := Option.map_eq_some_iff.mp ex
      have hws := erw_short w (List.mem_of_getElem? ew)
      have h35 : (Str.ofString "#").length = 1 := rfl
      have h33 : (Str.ofString "!").length = 1 := rfl
      have hl5 : (Str.ofString "#" ++ w).length ≤ 6 := by rw [Str.length_append]; omega
      have hsn := starts3_pre z (Str.ofString "#" ++ w ++ Str.ofString "!") (by rw [err_tl]; exact List.cons_ne_nil _ _) i
      rw [err_tl] at hsn
      have hel := err_len w
      have nxt : (∀ w', ERW[k]? = some w' → TL.pre (errS w') ((tl z).drop i) = false) → ∀ v : V, Hd (H3 = H3 ∧ (∀ j, j < k + 1 → ∀ w, ERW[j]? = some w → TL.pre (errS w) ((tl z).drop i) = false) ∧ ∃ u v' : Option V, [some (V.str z), some (V.int (i : Nat)), some (V.str w), some v] = [some (.str z), some (.int (i : Nat)), u, v']) := fun h v => .mk ⟨rfl, fun j hj w' hw' => by
        by_cases e : j = k
        · subst e
          exact h w' hw'
        · exact hn j (by omega) w' hw', _, _, rfl⟩
      dsimp only [gName]
      walk_at "run"
      refine And.intro (by rw [sizeLine_eq]; omega) ?_
      walk_at "run"
      refine And.intro (by rw [sizeLine_eq]; omega) ?_
      walk_at "run"
      · rename_i h1 h2
        have ek := erw_at ew fun e => nb h1 (by rw [e])
        rw [hsn] at h2
        rw [show errE (tl z) i = some (i + (w.length + 2)) from congrArg (Option.map _) (find_at ek h2 hn)] at q
        rw [hel]
        exact q _ (Same.refl _)
      · rename_i h1 h2
        have ek := erw_at ew fun e => nb h1 (by rw [e])
        rw [hsn] at h2
        exact nxt (fun w' hw' => by rw [ek] at hw'; cases hw'; exact Bool.eq_false_iff.mpr h2) _
      · rename_i h1
        exact nxt (fun w' hw' => (erw_no ew (V.str.inj (nb2 h1)) hw').elim) _
    · obtain ⟨rfl, hn, u, v, rfl⟩ := hp.get
      rw [show errE (tl z) i = none from congrArg (Option.map _) (find_no fun j hj w hw => hn j (Nat.lt_trans hj (by decide)) w hw)] at q
      walk_at "run"
      exact q _ (Same.refl _)

theorem okrows_end (T : Txt K mg w) : FnOk P w K mg base CX0 5 T.arows_end T.drows_end Prows_end (sprows_end K) := by
  refine T.Frows_end.ok scrows_end (fun vs H Q E h => ?_) (fun cdv A outer s H vs Q E hr h => ?_)
  · obtain ⟨z, i, rfl, _⟩ := h
    rfl
  · obtain ⟨z, i, rfl, ⟨hi, hl⟩, hc, q⟩ := h
    refine ⟨_, (pss_one (ps_ret (pe_call (okpair_end T) (hr.mono (by decide)) (by rfl) T.gpair_end T.Fpair_end.kp (T.bpair_end) .nil pass0 (pa_cons (pe_glob (v := .ref (fnK K "row_end")) (by rfl) (T.gv_row_end) rfl) (pa_cons (pv 0) (pa_cons (pv 1) pa_nil)))))), ?_⟩
    walk_at "run"
    refine ⟨_, _, z, i, rfl, .inl ⟨rfl, rfl⟩, ⟨hi, hl⟩, hc, fun H1 s1 => ?_⟩
    exact q _ s1

theorem oknumber_end (T : Txt K mg w) : FnOk P w K mg base CX0 3 T.anumber_end T.dnumber_end Pnumber_end (spnumber_end K) := by
  refine T.Fnumber_end.ok scnumber_end (fun vs H Q E h => ?_) (fun cdv A outer s H vs Q E hr h => ?_)
  · obtain ⟨z, i, rfl, _⟩ := h
    rfl
  · obtain ⟨z, i, rfl, ⟨hi, hl⟩, q⟩ := h
    refine ⟨_, (pss_cons (ps_set (i := 2) scnumber_end.nd rfl (by first | exact Or.inl rfl | exact Or.inr rfl) (pe_call (okfigures_end T) (hr.mono (by decide)) (by rfl) T.gfigures_end T.Ffigures_end.kp (T.bfigures_end) .nil pass0 (pa_cons (pv 0) (pa_cons (pv 1) pa_nil))))
    (pss_cons (ps_if (pt_cmpR op_eq (pv 2) (pv 1) (by first | exact nomark _ | rfl))
      (pss_one (ps_ret pe_non))
      pss_nil)
    (pss_cons (ps_if (PW.pt (pw_and (pt_cmpR op_eq (pe_slice sl_str (pv 0) (po_some (pv 2)) (po_some (pe_op op_add (pv 2) pe_int))) pe_str (by first | exact nomark _ | rfl)) (pw_and1 (pt_val (pe_call (okis_figure T) (hr.mono (by decide)) (by rfl) T.gis_figure T.Fis_figure.kp (T.bis_figure) .nil pass0 (pa_cons (pe_slice sl_str (pv 0) (po_some (pe_op op_add (pv 2) pe_int)) (po_some (pe_op op_add (pv 2) pe_int))) pa_nil))))))
      (pss_one (ps_ret (pe_call (okfigures_end T) (hr.mono (by decide)) (by rfl) T.gfigures_end T.Ffigures_end.kp (T.bfigures_end) .nil pass0 (pa_cons (pv 0) (pa_cons (pe_op op_add (pv 2) pe_int) pa_nil)))))
      pss_nil)
    (pss_one (ps_ret (pv 2)))))), ?_⟩
    have hlt := len_tl z
    have hr1 := runE_ge isD (tl z) i
    have hr2 : runE isD (tl z) i ≤ z.length := by rw [hlt]; exact runE_le (by omega)
    walk_at "run"
    · rename_i h
      rw [show numE (tl z) i = none from if_pos (by omega)] at q
      exact q _ (Same.refl _)
    · rename_i h1 h2
      have e2 : ((runE isD (tl z) i : Nat) : Int) + 2 = ((runE isD (tl z) i + 1 : Nat) : Int) + 1 := by omega
      have e1 : ((runE isD (tl z) i : Nat) : Int) + 1 = ((runE isD (tl z) i + 1 : Nat) : Int) := by omega
      have hs := sgn_of c_dot h2
      rw [e2, e1]
      refine And.intro (cut_st1 z _) ?_
      rw [cut_st]
      walk_at "run"
      · rename_i h3
        rw [show numE (tl z) i = some (runE isD (tl z) (runE isD (tl z) i + 1)) from (if_neg (by omega)).trans (if_pos ⟨hs, h3⟩)] at q
        have hx : runE isD (tl z) i + 1 ≤ z.length := by
          rw [hlt]
          exact Nat.le_of_lt (stands_lt h3)
        exact And.intro ⟨hx, hl⟩ (q _ (Same.refl _))
      · rename_i h3
        rw [show numE (tl z) i = some (runE isD (tl z) i) from (if_neg (by omega)).trans (if_neg fun k => h3 k.2)] at q
        exact q _ (Same.refl _)
    · rename_i h1 h2
      have hs := sgn_no c_dot h2
      rw [show numE (tl z) i = some (runE isD (tl z) i) from (if_neg (by omega)).trans (if_neg fun k => by rw [hs] at k; cases k.1)] at q
      exact q _ (Same.refl _)

theorem okcell_end (T : Txt K mg w) : FnOk P w K mg base CX0 4 T.acell_end T.dcell_end Pcell_end (spcell_end K) := by
  refine T.Fcell_end.ok sccell_end (fun vs H Q E h => ?_) (fun cdv A outer s H vs Q E hr h => ?_)
  · obtain ⟨z, i, rfl, _⟩ := h
    rfl
  · obtain ⟨z, i, rfl, ⟨hi, hl⟩, hc, q⟩ := h
    refine ⟨_, (pss_cons (ps_set (i := 2) sccell_end.nd rfl (by first | exact Or.inl rfl | exact Or.inr rfl) (pe_call (okcolumn_end T) (hr.mono (by decide)) (by rfl) T.gcolumn_end T.Fcolumn_end.kp (T.bcolumn_end) .nil pass0 (pa_cons (pv 0) (pa_cons (pv 1) pa_nil))))
    (pss_cons (ps_if (pt_cmpR op_isN (pv 2) pe_non (by first | exact nomark _ | rfl))
      (pss_one (ps_ret pe_non))
      pss_nil)
    (pss_cons (ps_set (i := 3) sccell_end.nd rfl (by first | exact Or.inl rfl | exact Or.inr rfl) (pe_call (okrow_end T) (hr.mono (by decide)) (by rfl) T.grow_end T.Frow_end.kp (T.brow_end) .nil pass0 (pa_cons (pv 0) (pa_cons (pv 2) pa_nil))))
    (pss_cons (ps_if (PW.pt (pw_or (pt_cmpR op_isN (pv 3) pe_non (by first | exact nomark _ | rfl)) (pw_or1 (pt_val (pe_call (okmakes_word T) (hr.mono (by decide)) (by rfl) T.gmakes_word T.Fmakes_word.kp (T.bmakes_word) .nil pass0 (pa_cons (pe_slice sl_str (pv 0) (po_some (pv 3)) (po_some (pe_op op_add (pv 3) pe_int))) pa_nil))))))
      (pss_one (ps_ret pe_non))
      pss_nil)
    (pss_one (ps_ret (pv 3))))))), ?_⟩
    have hlt := len_tl z
    walk_at "run"
    · rename_i H1 s1 h
      rw [show cellE (tl z) i = none from by unfold cellE; rw [optV_non h]; rfl] at q
      exact q _ s1
    · rename_i H1 s1 h
      obtain ⟨m, em⟩ := optV_some h
      have hm : m ≤ z.length := by rw [hlt]; exact colE_le em
      rw [em]
      refine ⟨z, m, rfl, ⟨hm, hl⟩, fun H2 s2 => ?_⟩
      walk_at "run"
      · rename_i h2
        rw [show cellE (tl z) i = none from by unfold cellE; rw [em]; show (rowE (tl z) (markE (tl z) m)).bind _ = none; rw [optV_non h2]; rfl] at q
        exact q _ (s1.trans s2)
      · rename_i h2
        obtain ⟨e, ee⟩ := optV_some h2
        have hce : cellE (tl z) i = if stands mkW (tl z) e = true then none else some e := by
          unfold cellE
          rw [em]
          show (rowE (tl z) (markE (tl z) m)).bind _ = _
          rw [ee]
          rfl
        rw [hce] at q
        rw [ee]
        refine ⟨(e : Int), rfl, ?_⟩
        walk_at "run"
        refine And.intro (cut_st1 z e) (fun H3 s3 => ?_)
        rw [cut_st]
        walk_at "run"
        · rename_i h3
          rw [if_pos h3] at q
          exact q _ ((s1.trans s2).trans s3)
        · rename_i h3
          rw [if_neg h3] at q
          exact q _ ((s1.trans s2).trans s3)

theorem okcolumns_end (T : Txt K mg w) : FnOk P w K mg base CX0 5 T.acolumns_end T.dcolumns_end Pcolumns_end (spcolumns_end K) := by
  refine T.Fcolumns_end.ok sccolumns_end (fun vs H Q E h => ?_) (fun cdv A outer s H vs Q E hr h => ?_)
  · obtain ⟨z, i, rfl, _⟩ := h
    rfl
  · obtain ⟨z, i, rfl, ⟨hi, hl⟩, hc, q⟩ := h
    refine ⟨_, (pss_cons (ps_set (i := 2) sccolumns_end.nd rfl (by first | exact Or.inl rfl | exact Or.inr rfl) (pe_call (okpair_end T) (hr.mono (by decide)) (by rfl) T.gpair_end T.Fpair_end.kp (T.bpair_end) .nil pass0 (pa_cons (pe_glob (v := .ref (fnK K "column_end")) (by rfl) (T.gv_column_end) rfl) (pa_cons (pv 0) (pa_cons (pv 1) pa_nil)))))
    (pss_cons (ps_if (PW.pt (pw_or (pt_cmpR op_isN (pv 2) pe_non (by first | exact nomark _ | rfl)) (pw_or (pt_cmpR op_eq (pe_slice sl_str (pv 0) (po_some (pv 2)) (po_some (pe_op op_add (pv 2) pe_int))) pe_str (by first | exact nomark _ | rfl)) (pw_or1 (pt_val (pe_call (okmakes_word T) (hr.mono (by decide)) (by rfl) T.gmakes_word T.Fmakes_word.kp (T.bmakes_word) .nil pass0 (pa_cons (pe_slice sl_str (pv 0) (po_some (pv 2)) (po_some (pe_op op_add (pv 2) pe_int))) pa_nil)))))))
      (pss_one (ps_ret pe_non))
      pss_nil)
    (pss_one (ps_ret (pv 2))))), ?_⟩
    have hlt := len_tl z
    walk_at "run"
    refine ⟨_, colE, z, i, rfl, .inr ⟨rfl, rfl⟩, ⟨hi, hl⟩, hc, fun H1 s1 => ?_⟩
    rw [columnsE_pair] at q
    walk_at "run"
    · rename_i h
      rw [optV_non h] at q
      exact q _ s1
    · rename_i h
      obtain ⟨e, ee⟩ := optV_some h
      have q : ∀ H', Same H H' → Q (optV (if stands (fun c => c == 36 || mkW c) (tl z) e = true then none else some e)) H' := by
        rw [ee] at q
        exact q
      rw [ee]
      refine ⟨(e : Int), rfl, ?_⟩
      walk_at "run"
      · rename_i h2
        rw [if_pos (by rw [st_or2, sgn_of c_mark h2, Bool.true_or])] at q
        exact q _ s1
      · rename_i h2
        rw [st_or2, sgn_no c_mark h2, Bool.false_or] at q
        try (refine ⟨(e : Int), rfl, ?_⟩; walk_at "run")
        refine And.intro (cut_st1 z e) (fun H3 s3 => ?_)
        rw [cut_st]
        walk_at "run"
        · rename_i h3
          rw [if_pos h3] at q
          exact q _ (s1.trans s3)
        · rename_i h3
          rw [if_neg h3] at q
          exact q _ (s1.trans s3)

theorem okgoes_on_word (T : Txt K mg w) : FnOk P w K mg base CX0 2 T.agoes_on_word T.dgoes_on_word Pgoes_on_word (spgoes_on_word K) := by
  refine T.Fgoes_on_word.ok scgoes_on_word (fun vs H Q E h => ?_) (fun cdv A outer s H vs Q E hr h => ?_)
  · obtain ⟨z, rfl, _⟩ := h
    rfl
  · obtain ⟨z, rfl, hz, q⟩ := h
    refine ⟨_, (pss_one (ps_ret (pe_or (pe_call (okis_letter T) (hr.mono (by decide)) (by rfl) T.gis_letter T.Fis_letter.kp (T.bis_letter) .nil pass0 (pa_cons (pv 0) pa_nil)) (pe_or (pe_call (okis_figure T) (hr.mono (by decide)) (by rfl) T.gis_figure T.Fis_figure.kp (T.bis_figure) .nil pass0 (pa_cons (pv 0) pa_nil)) (pe_one (pe_cmpR op_in_seq (pv 0) (pe_tup (pa_cons pe_str (pa_cons pe_str pa_nil))) (by first | exact nomark _ | rfl))))))), ?_⟩
    walk_at "run"
    · rename_i h
      rw [gW_st, h, Bool.true_or] at q
      exact q _ (Same.refl _)
    · rename_i h1 h2
      rw [gW_st, h2, Bool.true_or, Bool.or_true] at q
      exact q _ (Same.refl _)
    · rename_i h1 h2 p hp
      rw [gW_st, Bool.eq_false_iff.mpr h1, Bool.eq_false_iff.mpr h2, Bool.false_or, Bool.false_or] at q
      show Q (.bl (inV (.str z) [.str (Str.ofString "_"), .str (Str.ofString ".")])) _
      rw [inV_sg2 hz c_under c_dot]
      exact q _ (same_upd hp)

theorem okword_end (T : Txt K mg w) : FnOk P w K mg base CX0 3 T.aword_end T.dword_end Pword_end (spword_end K) := by
  refine T.Fword_end.ok scword_end (fun vs H Q E h => ?_) (fun cdv A outer s H vs Q E hr h => ?_)
  · obtain ⟨z, i, rfl, _⟩ := h
    rfl
  · obtain ⟨z, i, rfl, ⟨hi, hl⟩, q⟩ := h
    refine ⟨_, (pss_cons (ps_if (pt_not (pt_val (pe_call (okis_letter T) (hr.mono (by decide)) (by rfl) T.gis_letter T.Fis_letter.kp (T.bis_letter) .nil pass0 (pa_cons (pe_slice sl_str (pv 0) (po_some (pv 1)) (po_some (pe_op op_add (pv 1) pe_int))) pa_nil))))
      (pss_one (ps_ret pe_non))
      pss_nil)
    (pss_cons (ps_set (i := 2) scword_end.nd rfl (by first | exact Or.inl rfl | exact Or.inr rfl) (pe_op op_add (pv 1) pe_int))
    (pss_cons (ps_while PassesOwn.never (pt_val (pe_call (okgoes_on_word T) (hr.mono (by decide)) (by rfl) T.ggoes_on_word T.Fgoes_on_word.kp (T.bgoes_on_word) .nil pass0 (pa_cons (pe_slice sl_str (pv 0) (po_some (pv 2)) (po_some (pe_op op_add (pv 2) pe_int))) pa_nil)))
      (pss_one (ps_aug (i := 2) scword_end.nd rfl (by first | exact Or.inl rfl | exact Or.inr rfl) pe_int ip_add)))
    (pss_one (ps_ret (pv 2)))))), ?_⟩
    have hlt := len_tl z
    walk_at "run"
    refine And.intro (cut_st1 z i) ?_
    rw [cut_st]
    walk_at "run"
    · rename_i h
      rw [show wordE (tl z) i = none from if_neg (by simpa using h)] at q
      exact q _ (Same.refl _)
    · rename_i h
      have hs : stands isLt (tl z) i = true := by simpa using h
      have hi1 := stands_lt hs
      rw [show wordE (tl z) i = some (runE gW (tl z) (i + 1)) from if_pos hs] at q
      refine while_at (fun n σ H' => Same H H' ∧ ∃ k : Nat, n = z.length - k ∧ (i + 1 ≤ k ∧ k ≤ z.length) ∧ runE gW (tl z) k = runE gW (tl z) (i + 1) ∧ σ = [some (.str z), some (.int (i : Nat)), some (.int (k : Nat))]) _ ⟨Same.refl _, i + 1, rfl, ⟨Nat.le_refl _, by omega⟩, rfl, rfl⟩ (fun n σ H' hp => ?_)
      obtain ⟨s1, k, rfl, ⟨k1, k2⟩, er, rfl⟩ := hp
      walk_at "run"
      refine And.intro (cut_st1 z k) (fun H2 s2 => ?_)
      rw [cut_st]
      walk_at "run"
      · rename_i hs2
        have hs' := stands_lt hs2
        refine ⟨fun σ' H'' => ∃ m', m' < z.length - k ∧ Same H H'' ∧ ∃ k : Nat, m' = z.length - k ∧ (i + 1 ≤ k ∧ k ≤ z.length) ∧ runE gW (tl z) k = runE gW (tl z) (i + 1) ∧ σ' = [some (.str z), some (.int (i : Nat)), some (.int (k : Nat))], fun σ' H'' h => h, ?_⟩
        walk_at "run"
        refine ⟨_, ?_, s1.trans s2, k + 1, rfl, ⟨by omega, by omega⟩, (runE_step hs2).symm.trans er, rfl⟩
        omega
      · rename_i hs2
        rw [← er, runE_stop (Bool.eq_false_iff.mpr hs2)] at q
        walk_at "run"
        exact q _ (s1.trans s2)

theorem oksign_end (T : Txt K mg w) : FnOk P w K mg base CX0 1 T.asign_end T.dsign_end Psign_end (spsign_end K) := by
  refine T.Fsign_end.ok scsign_end (fun vs H Q E h => ?_) (fun cdv A outer s H vs Q E hr h => ?_)
  · obtain ⟨z, i, rfl, _⟩ := h
    rfl
  · obtain ⟨z, i, rfl, ⟨hi, hl⟩, hc, q⟩ := h
    refine ⟨_, (pss_cons (ps_for PassesOwn.never rfl (pi_tup (pe_glob (v := .ref T.o_SIGNS) (by rfl) T.m_SIGNS rfl)) (pg_name (i := 2) scsign_end.nd rfl (by first | exact Or.inl rfl | exact Or.inr rfl))
      (pss_one (ps_if (pt_val (pe_bm PySem.F.plainAttrs_str PySem.F.slot_str_startswith PySem.F.type_str_startswith mt_startswith3 (pv 0) (pa_cons (pv 2) (pa_cons (pv 1) pa_nil))))
      (pss_one (ps_ret (pe_op op_add (pv 1) (pe_callB call_len_str (by rfl) T.z_len (by decide +kernel) (pa_cons (pv 2) pa_nil)))))
      pss_nil)))
    (pss_one (ps_ret pe_non))), ?_⟩
    have hlt := len_tl z
    walk_at "run"
    refine And.intro ⟨_, T.q_SIGNS _⟩ (for_it (walk_tup (xs := SGW.map V.str)) (fun k σ H' => Hd (H' = H ∧ (∀ j, j < k → ∀ w, SGW[j]? = some w → TL.pre (tl w) ((tl z).drop i) = false) ∧ ∃ u : Option V, σ = [some (.str z), some (.int (i : Nat)), u])) (.mk ⟨rfl, fun j h => absurd h (Nat.not_lt_zero j), none, rfl⟩) (fun k σ H' hk hp => T.q_SIGNS _) (fun k x σ H2 H3 hk hp hy => ?_) (fun σ H2 hp => ?_))
    · obtain ⟨rfl, hn, u, rfl⟩ := hp.get
      obtain ⟨rfl, ex⟩ := hy
      rw [List.getElem?_map] at ex
      obtain ⟨w, ew, rfl⟩ := Option.map_eq_some_iff.mp ex
      obtain ⟨wn, wl⟩ := sgw_ne w (List.mem_of_getElem? ew)
      have hsn := starts3_pre z w wn i
      dsimp only [gName]
      walk_at "run"
      · rename_i h
        rw [hsn] at h
        rw [sign_hit ew h hn] at q
        exact q _ (Same.refl _)
      · rename_i h
        rw [hsn] at h
        exact .mk ⟨rfl, fun j hj w' hw' => by
          by_cases e : j = k
          · subst e
            rw [ew] at hw'
            cases hw'
            exact Bool.eq_false_iff.mpr h
          · exact hn j (by omega) w' hw', _, rfl⟩
    · obtain ⟨rfl, hn, u, rfl⟩ := hp.get
      rw [sign_miss hc hn] at q
      walk_at "run"
      exact q _ (Same.refl _)

theorem oktext_token (T : Txt K mg w) : FnOk P w K mg base (L2N.CX P w) 3 T.atext_token T.dtext_token Ptext_token (sptext_token K) := by
  refine okXN T.Ftext_token sctext_token (fun vs H Q E h => ?_) (fun cdv A outer s H vs Q E hr h => ?_)
  · obtain ⟨z, i, rfl, _⟩ := h
    rfl
  · obtain ⟨z, i, rfl, ⟨hi, hl⟩, hs, q⟩ := h
    refine ⟨_, (pss_findT (i := 2) sctext_token.nd rfl (by first | exact Or.inl rfl | exact Or.inr rfl) (pv 0) (pa_cons pe_str (pa_cons (pe_op op_add (pv 1) pe_int) pa_nil))
    (psst_cons (PST.of (ps_while (passes_of rfl) (PW.pt (pw_and (pt_cmpR op_ge (pv 2) pe_int (by first | exact nomark _ | rfl)) (pw_and1 (pt_cmpR op_eq (pe_slice sl_str (pv 0) (po_some (pe_op op_add (pv 2) pe_int)) (po_some (pe_op op_add (pv 2) pe_int))) pe_str (by first | exact nomark _ | rfl)))))
      (pss_one (ps_set (i := 2) sctext_token.nd rfl (by first | exact Or.inl rfl | exact Or.inr rfl) (pe_bm PySem.F.plainAttrs_str PySem.F.slot_str_find PySem.F.type_str_find mt_find3 (pv 0) (pa_cons pe_str (pa_cons (pe_op op_add (pv 2) pe_int) pa_nil)))))))
    (psst_cons (PST.of (ps_if (pt_cmpR op_lt (pv 2) pe_int (by first | exact nomark _ | rfl))
      (pss_one (L2N.ps_raise rfl (L2N.takes_of rfl rfl rfl rfl) (pmk_val rfl (pe_mkF (ns := ["at"]) T.cs_Fault.ox (fun f hf => T.cs_Fault.tk f hf) (by decide) T.i_Fault T.ti_Fault (okFault_init T) (hr.mono (by decide)) T.bFault_init pass0 (by rfl) T.gc_Fault (pa_cons (pe_callB call_len_str (by rfl) T.z_len (by decide +kernel) (pa_cons (pv 0) pa_nil)) pa_nil)))))
      pss_nil))
    (psst_cons (pst_set (i := 3) sctext_token.nd rfl (by first | exact Or.inl rfl | exact Or.inr rfl) (CwR.pet_replC (pe_slice sl_str (pv 0) (po_some (pe_op op_add (pv 1) pe_int)) (po_some (pv 2)))))
    (psst_cons (PST.of (ps_if (pt_cmpR op_gt (pe_callB call_len_str (by rfl) T.z_len (by decide +kernel) (pa_cons (pv 3) pa_nil)) (pe_glob (v := .int 64) (by rfl) T.m_MOST_SIGNS ⟨_, rfl⟩) (by first | exact nomark _ | rfl))
      (pss_one (L2N.ps_raise rfl (L2N.takes_of rfl rfl rfl rfl) (pmk_val rfl (pe_mkF (ns := ["at"]) T.cs_Fault.ox (fun f hf => T.cs_Fault.tk f hf) (by decide) T.i_Fault T.ti_Fault (okFault_init T) (hr.mono (by decide)) T.bFault_init pass0 (by rfl) T.gc_Fault (pa_cons (pv 1) pa_nil)))))
      pss_nil))
    (CwR.psst_one (PST.of (ps_ret (pe_tup (pa_cons pe_str (pa_cons (pv 1) (pa_cons (pe_op op_add (pv 2) pe_int) (pa_cons (pv 3) pa_nil))))))))))))), ?_⟩
    have hlt := len_tl z
    have hsl := stands_lt hs
    walk_at "run"
    rw [show Txt.find3 z (Str.ofString "\"") ((i : Int) + 1) = Txt.find3 z ⟨#[34]⟩ ((i + 1 : Nat) : Int) from rfl, find3_q]
    refine while_at (fun n σ H' => H' = H ∧ ∃ c : Int, σ = [some (.str z), some (.int (i : Nat)), some (.int c), none] ∧ ((c = -1 ∧ n = 0 ∧ qScan ((tl z).drop (i + 1)) = none) ∨ ∃ (j : Nat) (s : List Nat), c = (j : Nat) ∧ n = z.length - j ∧ (i + 1 ≤ j ∧ j < z.length) ∧ stands (· == 34) (tl z) j = true ∧ Units (sub (tl z) (i + 1) j) s)) (if runE (· != 34) (tl z) (i + 1) < (tl z).length then z.length - runE (· != 34) (tl z) (i + 1) else 0) ⟨rfl, _, rfl, ?_⟩ (fun n σ H' hp => ?_)
    · have e := quote_next (l := tl z) (p := i + 1) (i := i + 1) (s := []) (Nat.le_refl _) (by omega) (by unfold sub; rw [Nat.sub_self, List.take_zero]; exact .nil)
      by_cases hr : runE (· != 34) (tl z) (i + 1) < (tl z).length
      · rw [if_pos hr, if_pos hr]
        rw [if_pos hr] at e
        exact .inr ⟨_, _, rfl, rfl, ⟨runE_ge _ _ _, by omega⟩, e.1, e.2⟩
      · rw [if_neg hr, if_neg hr]
        rw [if_neg hr] at e
        exact .inl ⟨rfl, rfl, e⟩
    obtain ⟨rfl, c, rfl, hcc⟩ := hp
    rcases hcc with ⟨rfl, rfl, hqn⟩ | ⟨j, s, rfl, rfl, ⟨j1, j2⟩, hj, un⟩
    · rw [quote_none hqn, ← hlt] at q
      walk_at "run"
      all_goals first
        | (exfalso; omega)
        | exact fun (a d : Addr) (H2 : Hp) na nd s1 ea ed => ⟨a, _, d, _, rfl, T.cs_Fault.ox, ea, ed, fr0_of (Same.refl _) na, q d _ (same_raised s1 na nd) upd_same⟩
    have e2 : ((j : Nat) : Int) + 2 = ((j + 1 : Nat) : Int) + 1 := by omega
    have e1 : ((j : Nat) : Int) + 1 = ((j + 1 : Nat) : Int) := by omega
    have hcl : (SX.S (sub (tl z) (i + 1) j)).length ≤ 10000 := by
      rw [SX.S_len, sub_len j1 (by omega)]
      omega
    walk_at "run"
    · rename_i h0 h
      rw [e2, e1] at h
      have hn := sgn_of c_quote h
      have hn2 := stands_lt hn
      have um := units_more j1 hj hn un
      have e := quote_next (l := tl z) (p := j + 2) (i := i + 1) (by omega) (by omega) um
      refine ⟨fun σ' H'' => ∃ m', m' < z.length - j ∧ H'' = H' ∧ ∃ c : Int, σ' = [some (.str z), some (.int (i : Nat)), some (.int c), none] ∧ ((c = -1 ∧ m' = 0 ∧ qScan ((tl z).drop (i + 1)) = none) ∨ ∃ (j : Nat) (s : List Nat), c = (j : Nat) ∧ m' = z.length - j ∧ (i + 1 ≤ j ∧ j < z.length) ∧ stands (· == 34) (tl z) j = true ∧ Units (sub (tl z) (i + 1) j) s), fun σ' H'' h => h, ?_⟩
      walk_at "run"
      rw [show Txt.find3 z (Str.ofString "\"") ((j : Int) + 2) = Txt.find3 z ⟨#[34]⟩ ((j + 2 : Nat) : Int) from rfl, find3_q]
      have hge := runE_ge (· != 34) (tl z) (j + 2)
      by_cases hr : runE (· != 34) (tl z) (j + 2) < (tl z).length
      · rw [if_pos hr]
        rw [if_pos hr] at e
        exact ⟨_, by omega, rfl, _, rfl, .inr ⟨_, _, rfl, rfl, ⟨by omega, by omega⟩, e.1, e.2⟩⟩
      · rw [if_neg hr]
        rw [if_neg hr] at e
        exact ⟨0, by omega, rfl, _, rfl, .inl ⟨rfl, rfl, e⟩⟩
    all_goals first
      | (exfalso; omega)
      | skip
    rename_i h
    rw [e2, e1] at h
    have hn := sgn_no c_quote h
    rw [quote_end j1 hj hn un] at q
    rw [show cutS z (some ((i : Int) + 1)) (some (j : Int)) = SX.S (sub (tl z) (i + 1) j) from cut_sub z (i + 1) j, undoubled (z := SX.S (sub (tl z) (i + 1) j)) un]
    refine And.intro (by rw [show (Str.ofString "\"").length = 1 from rfl]; omega) ?_
    have hsl2 : (SX.S s).length = s.length := SX.S_len s
    have hsl3 : s.length ≤ 10000 := by
      have := un.len
      rw [SX.S_len] at hcl
      omega
    walk_at "run"
    refine And.intro (by rw [sizeLine_eq]; omega) ?_
    walk_at "run"
    · rename_i h64
      rw [if_pos (by omega)] at q
      exact fun (a d : Addr) (H2 : Hp) na nd s1 ea ed => ⟨a, _, d, _, rfl, T.cs_Fault.ox, ea, ed, fr0_of (Same.refl _) na, q d _ (same_raised s1 na nd) upd_same⟩
    · rename_i h64 p hp
      rw [if_neg (by omega)] at q
      exact q _ _ (same_upd hp) (SqT.of upd_same)

theorem okis_at_fault (T : Txt K mg w) : FnOk P w K mg base CX0 3 T.ais_at_fault T.dis_at_fault Pis_at_fault (spis_at_fault K) := by
  refine T.Fis_at_fault.ok scis_at_fault (fun vs H Q E h => ?_) (fun cdv A outer s H vs Q E hr h => ?_)
  · obtain ⟨k, z, rfl, _⟩ := h
    rfl
  · obtain ⟨k, z, rfl, hl, q⟩ := h
    refine ⟨_, (pss_cons (ps_if (pt_cmpR op_eq (pv 0) pe_str (by first | exact nomark _ | rfl))
      (pss_one (ps_ret (pe_cmpR op_isN (pe_call (okread_amount T) (hr.mono (by decide)) (by rfl) T.gread_amount T.Fread_amount.kp (T.bread_amount) .nil pass0 (pa_cons (pv 1) pa_nil)) pe_non (by first | exact nomark _ | rfl))))
      pss_nil)
    (pss_one (ps_ret (pe_and (pe_cmpR op_eq (pv 0) pe_str (by first | exact nomark _ | rfl)) (pe_one (pe_cmpR op_gt (pe_callB call_len_str (by rfl) T.z_len (by decide +kernel) (pa_cons (pv 1) pa_nil)) (pe_glob (v := .int 12) (by rfl) T.m_MOST_SIGNS_OF_WORD ⟨_, rfl⟩) (by first | exact nomark _ | rfl))))))), ?_⟩
    walk_at "run"
    · rename_i h H1 s1
      obtain rfl : k = "number" := V.str.inj h
      rw [badK_num, show SX.S (tl z) = z from SX.S_tl z] at q
      exact q _ s1
    · rename_i h1 h2
      obtain rfl : k = "word" := V.str.inj h2
      rw [badK_word, ← len_tl] at q
      refine (congrArg (fun b => Q (V.bl b) H) ?_).mp (q _ (Same.refl _))
      exact decide_eq_decide.mpr ⟨fun h => by omega, fun h => by omega⟩
    · rename_i h1 h2
      rw [badK_no (fun e => h1 (by rw [e])) (fun e => h2 (by rw [e]))] at q
      exact q _ (Same.refl _)

theorem okheld_token_at (T : Txt K mg w) : ∀ (f : Addr) (sp : Sp), (fun f => if f = fnK K "error_end" then some (sperror_end K) else if f = fnK K "rows_end" then some (sprows_end K) else if f = fnK K "number_end" then some (spnumber_end K) else if f = fnK K "cell_end" then some (spcell_end K) else if f = fnK K "columns_end" then some (spcolumns_end K) else if f = fnK K "word_end" then some (spword_end K) else if f = fnK K "sign_end" then some (spsign_end K) else (none : Option Sp)) f = some sp → Held P w K mg base 5 f sp := fun f sp h => by
  dsimp only at h
  by_cases eerror_end : f = fnK K "error_end"
  · rw [if_pos eerror_end] at h
    cases h
    subst eerror_end
    exact ⟨T.derror_end, Perror_end, by rw [← T.ev_error_end]; exact (okerror_end (base := base) T).mono (by decide), by rw [← T.ev_error_end]; exact T.Ferror_end.kp, T.berror_end⟩
  rw [if_neg eerror_end] at h
  by_cases erows_end : f = fnK K "rows_end"
  · rw [if_pos erows_end] at h
    cases h
    subst erows_end
    exact ⟨T.drows_end, Prows_end, by rw [← T.ev_rows_end]; exact (okrows_end (base := base) T).mono (by decide), by rw [← T.ev_rows_end]; exact T.Frows_end.kp, T.brows_end⟩
  rw [if_neg erows_end] at h
  by_cases enumber_end : f = fnK K "number_end"
  · rw [if_pos enumber_end] at h
    cases h
    subst enumber_end
    exact ⟨T.dnumber_end, Pnumber_end, by rw [← T.ev_number_end]; exact (oknumber_end (base := base) T).mono (by decide), by rw [← T.ev_number_end]; exact T.Fnumber_end.kp, T.bnumber_end⟩
  rw [if_neg enumber_end] at h
  by_cases ecell_end : f = fnK K "cell_end"
  · rw [if_pos ecell_end] at h
    cases h
    subst ecell_end
    exact ⟨T.dcell_end, Pcell_end, by rw [← T.ev_cell_end]; exact (okcell_end (base := base) T).mono (by decide), by rw [← T.ev_cell_end]; exact T.Fcell_end.kp, T.bcell_end⟩
  rw [if_neg ecell_end] at h
  by_cases ecolumns_end : f = fnK K "columns_end"
  · rw [if_pos ecolumns_end] at h
    cases h
    subst ecolumns_end
    exact ⟨T.dcolumns_end, Pcolumns_end, by rw [← T.ev_columns_end]; exact (okcolumns_end (base := base) T).mono (by decide), by rw [← T.ev_columns_end]; exact T.Fcolumns_end.kp, T.bcolumns_end⟩
  rw [if_neg ecolumns_end] at h
  by_cases eword_end : f = fnK K "word_end"
  · rw [if_pos eword_end] at h
    cases h
    subst eword_end
    exact ⟨T.dword_end, Pword_end, by rw [← T.ev_word_end]; exact (okword_end (base := base) T).mono (by decide), by rw [← T.ev_word_end]; exact T.Fword_end.kp, T.bword_end⟩
  rw [if_neg eword_end] at h
  by_cases esign_end : f = fnK K "sign_end"
  · rw [if_pos esign_end] at h
    cases h
    subst esign_end
    exact ⟨T.dsign_end, Psign_end, by rw [← T.ev_sign_end]; exact (oksign_end (base := base) T).mono (by decide), by rw [← T.ev_sign_end]; exact T.Fsign_end.kp, T.bsign_end⟩
  rw [if_neg esign_end] at h
  cases h
theorem okheldS_token_at_error_end (T : Txt K mg w) : (fun f => if f = fnK K "error_end" then some (sperror_end K) else if f = fnK K "rows_end" then some (sprows_end K) else if f = fnK K "number_end" then some (spnumber_end K) else if f = fnK K "cell_end" then some (spcell_end K) else if f = fnK K "columns_end" then some (spcolumns_end K) else if f = fnK K "word_end" then some (spword_end K) else if f = fnK K "sign_end" then some (spsign_end K) else (none : Option Sp)) (fnK K "error_end") = some (sperror_end K) := if_pos rfl
theorem okheldS_token_at_rows_end (T : Txt K mg w) : (fun f => if f = fnK K "error_end" then some (sperror_end K) else if f = fnK K "rows_end" then some (sprows_end K) else if f = fnK K "number_end" then some (spnumber_end K) else if f = fnK K "cell_end" then some (spcell_end K) else if f = fnK K "columns_end" then some (spcolumns_end K) else if f = fnK K "word_end" then some (spword_end K) else if f = fnK K "sign_end" then some (spsign_end K) else (none : Option Sp)) (fnK K "rows_end") = some (sprows_end K) := (if_neg (fnK_ne T.Frows_end T.Ferror_end T.ev_rows_end T.ev_error_end (by decide +kernel))).trans (if_pos rfl)
theorem okheldS_token_at_number_end (T : Txt K mg w) : (fun f => if f = fnK K "error_end" then some (sperror_end K) else if f = fnK K "rows_end" then some (sprows_end K) else if f = fnK K "number_end" then some (spnumber_end K) else if f = fnK K "cell_end" then some (spcell_end K) else if f = fnK K "columns_end" then some (spcolumns_end K) else if f = fnK K "word_end" then some (spword_end K) else if f = fnK K "sign_end" then some (spsign_end K) else (none : Option Sp)) (fnK K "number_end") = some (spnumber_end K) := (if_neg (fnK_ne T.Fnumber_end T.Ferror_end T.ev_number_end T.ev_error_end (by decide +kernel))).trans ((if_neg (fnK_ne T.Fnumber_end T.Frows_end T.ev_number_end T.ev_rows_end (by decide +kernel))).trans (if_pos rfl))
theorem okheldS_token_at_cell_end (T : Txt K mg w) : (fun f => if f = fnK K "error_end" then some (sperror_end K) else if f = fnK K "rows_end" then some (sprows_end K) else if f = fnK K "number_end" then some (spnumber_end K) else if f = fnK K "cell_end" then some (spcell_end K) else if f = fnK K "columns_end" then some (spcolumns_end K) else if f = fnK K "word_end" then some (spword_end K) else if f = fnK K "sign_end" then some (spsign_end K) else (none : Option Sp)) (fnK K "cell_end") = some (spcell_end K) := (if_neg (fnK_ne T.Fcell_end T.Ferror_end T.ev_cell_end T.ev_error_end (by decide +kernel))).trans ((if_neg (fnK_ne T.Fcell_end T.Frows_end T.ev_cell_end T.ev_rows_end (by decide +kernel))).trans ((if_neg (fnK_ne T.Fcell_end T.Fnumber_end T.ev_cell_end T.ev_number_end (by decide +kernel))).trans (if_pos rfl)))
theorem okheldS_token_at_columns_end (T : Txt K mg w) : (fun f => if f = fnK K "error_end" then some (sperror_end K) else if f = fnK K "rows_end" then some (sprows_end K) else if f = fnK K "number_end" then some (spnumber_end K) else if f = fnK K "cell_end" then some (spcell_end K) else if f = fnK K "columns_end" then some (spcolumns_end K) else if f = fnK K "word_end" then some (spword_end K) else if f = fnK K "sign_end" then some (spsign_end K) else (none : Option Sp)) (fnK K "columns_end") = some (spcolumns_end K) := (if_neg (fnK_ne T.Fcolumns_end T.Ferror_end T.ev_columns_end T.ev_error_end (by decide +kernel))).trans ((if_neg (fnK_ne T.Fcolumns_end T.Frows_end T.ev_columns_end T.ev_rows_end (by decide +kernel))).trans ((if_neg (fnK_ne T.Fcolumns_end T.Fnumber_end T.ev_columns_end T.ev_number_end (by decide +kernel))).trans ((if_neg (fnK_ne T.Fcolumns_end T.Fcell_end T.ev_columns_end T.ev_cell_end (by decide +kernel))).trans (if_pos rfl))))
theorem okheldS_token_at_word_end (T : Txt K mg w) : (fun f => if f = fnK K "error_end" then some (sperror_end K) else if f = fnK K "rows_end" then some (sprows_end K) else if f = fnK K "number_end" then some (spnumber_end K) else if f = fnK K "cell_end" then some (spcell_end K) else if f = fnK K "columns_end" then some (spcolumns_end K) else if f = fnK K "word_end" then some (spword_end K) else if f = fnK K "sign_end" then some (spsign_end K) else (none : Option Sp)) (fnK K "word_end") = some (spword_end K) := (if_neg (fnK_ne T.Fword_end T.Ferror_end T.ev_word_end T.ev_error_end (by decide +kernel))).trans ((if_neg (fnK_ne T.Fword_end T.Frows_end T.ev_word_end T.ev_rows_end (by decide +kernel))).trans ((if_neg (fnK_ne T.Fword_end T.Fnumber_end T.ev_word_end T.ev_number_end (by decide +kernel))).trans ((if_neg (fnK_ne T.Fword_end T.Fcell_end T.ev_word_end T.ev_cell_end (by decide +kernel))).trans ((if_neg (fnK_ne T.Fword_end T.Fcolumns_end T.ev_word_end T.ev_columns_end (by decide +kernel))).trans (if_pos rfl)))))
theorem okheldS_token_at_sign_end (T : Txt K mg w) : (fun f => if f = fnK K "error_end" then some (sperror_end K) else if f = fnK K "rows_end" then some (sprows_end K) else if f = fnK K "number_end" then some (spnumber_end K) else if f = fnK K "cell_end" then some (spcell_end K) else if f = fnK K "columns_end" then some (spcolumns_end K) else if f = fnK K "word_end" then some (spword_end K) else if f = fnK K "sign_end" then some (spsign_end K) else (none : Option Sp)) (fnK K "sign_end") = some (spsign_end K) := (if_neg (fnK_ne T.Fsign_end T.Ferror_end T.ev_sign_end T.ev_error_end (by decide +kernel))).trans ((if_neg (fnK_ne T.Fsign_end T.Frows_end T.ev_sign_end T.ev_rows_end (by decide +kernel))).trans ((if_neg (fnK_ne T.Fsign_end T.Fnumber_end T.ev_sign_end T.ev_number_end (by decide +kernel))).trans ((if_neg (fnK_ne T.Fsign_end T.Fcell_end T.ev_sign_end T.ev_cell_end (by decide +kernel))).trans ((if_neg (fnK_ne T.Fsign_end T.Fcolumns_end T.ev_sign_end T.ev_columns_end (by decide +kernel))).trans ((if_neg (fnK_ne T.Fsign_end T.Fword_end T.ev_sign_end T.ev_word_end (by decide +kernel))).trans (if_pos rfl))))))
theorem oktoken_at (T : Txt K mg w) : FnOk P w K mg base (L2N.CX P w) 6 T.atoken_at T.dtoken_at Ptoken_at (sptoken_at K) := by
  refine okXN T.Ftoken_at sctoken_at (fun vs H Q E h => ?_) (fun cdv A outer s H vs Q E hr h => ?_)
  · obtain ⟨z, u, i, rfl, _⟩ := h
    rfl
  · obtain ⟨z, u, i, rfl, ⟨hi, hl⟩, hu, hc, q⟩ := h
    refine ⟨_, (pss_cons (ps_if (pt_cmpR op_eq (pe_slice sl_str (pv 0) (po_some (pv 2)) (po_some (pe_op op_add (pv 2) pe_int))) pe_str (by first | exact nomark _ | rfl))
      (pss_one (ps_ret (pe_call (E := E) (oktext_token T) (hr.mono (by decide)) (by rfl) T.gtext_token T.Ftext_token.kp (T.btext_token) .nil (L2N.passes_call (L2N.takes_of rfl rfl rfl rfl) (fun _ _ _ _ h => h)) (pa_cons (pv 0) (pa_cons (pv 2) pa_nil)))))
      pss_nil)
    (pss_cons (ps_for (passes_of rfl) rfl (pi_kkeys (pe_glob (v := .ref T.o_ENDS) (by rfl) T.m_ENDS rfl)) (pg_name (i := 3) sctoken_at.nd rfl (by first | exact Or.inl rfl | exact Or.inr rfl))
      (pss_cons (ps_set (i := 4) sctoken_at.nd rfl (by first | exact Or.inl rfl | exact Or.inr rfl) (pe_ix ix_kdict (pe_glob (v := .ref T.o_ENDS) (by rfl) T.m_ENDS rfl) (pv 3) (fun _ _ => rfl)))
    (pss_cons (ps_set (i := 5) sctoken_at.nd rfl (by first | exact Or.inl rfl | exact Or.inr rfl) (pe_callA (i := 4) (S := fun f => if f = fnK K "error_end" then some (sperror_end K) else if f = fnK K "rows_end" then some (sprows_end K) else if f = fnK K "number_end" then some (spnumber_end K) else if f = fnK K "cell_end" then some (spcell_end K) else if f = fnK K "columns_end" then some (spcolumns_end K) else if f = fnK K "word_end" then some (spword_end K) else if f = fnK K "sign_end" then some (spsign_end K) else (none : Option Sp)) (okheld_token_at T) (hr.mono (by decide)) rfl (Or.inl rfl) (pa_cons (pv 1) (pa_cons (pv 2) pa_nil))))
    (pss_one (ps_if (pt_cmpR op_notN (pv 5) pe_non (by first | exact nomark _ | rfl))
      (pss_cons (ps_set (i := 6) sctoken_at.nd rfl (by first | exact Or.inl rfl | exact Or.inr rfl) (pe_slice sl_str (pv 1) (po_some (pv 2)) (po_some (pv 5))))
    (pss_cons (ps_if (pt_val (pe_call (okis_at_fault T) (hr.mono (by decide)) (by rfl) T.gis_at_fault T.Fis_at_fault.kp (T.bis_at_fault) .nil pass0 (pa_cons (pv 3) (pa_cons (pv 6) pa_nil))))
      (pss_one (L2N.ps_raise rfl (L2N.takes_of rfl rfl rfl rfl) (pmk_val rfl (pe_mkF (ns := ["at"]) T.cs_Fault.ox (fun f hf => T.cs_Fault.tk f hf) (by decide) T.i_Fault T.ti_Fault (okFault_init T) (hr.mono (by decide)) T.bFault_init pass0 (by rfl) T.gc_Fault (pa_cons (pv 2) pa_nil)))))
      pss_nil)
    (pss_one (ps_ret (pe_tup (pa_cons (pv 3) (pa_cons (pv 2) (pa_cons (pv 5) (pa_cons (pv 6) pa_nil)))))))))
      pss_nil)))))
    (pss_one (L2N.ps_raise rfl (L2N.takes_of rfl rfl rfl rfl) (pmk_val rfl (pe_mkF (ns := ["at"]) T.cs_Fault.ox (fun f hf => T.cs_Fault.tk f hf) (by decide) T.i_Fault T.ti_Fault (okFault_init T) (hr.mono (by decide)) T.bFault_init pass0 (by rfl) T.gc_Fault (pa_cons (pv 2) pa_nil))))))), ?_⟩
    have hlt := len_tl z
    have hlu := len_tl u
    walk_at "run"
    · rename_i h
      have hs := sgn_of c_quote h
      rw [show tokAt (tl z) (tl u) i = quoteE (tl z) i from if_pos hs] at q
      exact ⟨hs, q⟩
    rename_i h
    have hs := sgn_no c_quote h
    rw [show tokAt (tl z) (tl u) i = pickE (tl u) i (endK (tl u) i) from if_neg (by rw [hs]; exact Bool.false_ne_true)] at q
    refine ⟨T.o_ENDS, _, rfl, T.k_ENDS, for_it walk_kkeys (fun k σ H' => Hd (Same H H' ∧ pickE (tl u) i (endK (tl u) i) = pickE (tl u) i ((endK (tl u) i).drop k) ∧ ∃ u1 u2 u3 u4 : Option V, σ = [some (.str z), some (.str u), some (.int (i : Nat)), u1, u2, u3, u4])) (.mk ⟨Same.refl _, rfl, none, none, none, none, rfl⟩) (fun k σ H' hk hp => trivial) (fun k x σ H2 H3 hk hp hy => ?_) (fun σ H2 hp => ?_)⟩
    · obtain ⟨s1, hpk, u1, u2, u3, u4, rfl⟩ := hp.get
      obtain ⟨rfl, kd, ek, rfl⟩ := hy
      dsimp only [gName]
      refine seq_merge2 (C := fun σ' H' => Hd (Same H H' ∧ ∃ (o : Option Nat) (f : V), (endK (tl u) i)[k]? = some (kd, o) ∧ σ' = [some (.str z), some (.str u), some (.int (i : Nat)), some (.str kd), some f, some (optV o), u4])) ?tail ?rest
      case rest =>
        intro R tail
        rcases k with _ | _ | _ | _ | _ | _ | _ | k
        · cases ek
          walk_at "run"
          refine ⟨_, _, _, rfl, rfl, T.k_ENDS_error, ?_⟩
          walk_at "run"
          refine ⟨_, _, rfl, okheldS_token_at_error_end T, ?_⟩
          walk_at "run"
          rename_i H5 s5
          exact tail _ _ (.mk ⟨s1.trans s5, _, _, rfl, rfl⟩)
        · cases ek
          walk_at "run"
          refine ⟨_, _, _, rfl, rfl, T.k_ENDS_rows, ?_⟩
          walk_at "run"
          refine ⟨_, _, rfl, okheldS_token_at_rows_end T, ?_⟩
          walk_at "run"
          rename_i H5 s5
          exact tail _ _ (.mk ⟨s1.trans s5, _, _, rfl, rfl⟩)
        · cases ek
          walk_at "run"
          refine ⟨_, _, _, rfl, rfl, T.k_ENDS_number, ?_⟩
          walk_at "run"
          refine ⟨_, _, rfl, okheldS_token_at_number_end T, ?_⟩
          walk_at "run"
          rename_i H5 s5
          exact tail _ _ (.mk ⟨s1.trans s5, _, _, rfl, rfl⟩)
        · cases ek
          walk_at "run"
          refine ⟨_, _, _, rfl, rfl, T.k_ENDS_cell, ?_⟩
          walk_at "run"
          refine ⟨_, _, rfl, okheldS_token_at_cell_end T, ?_⟩
          walk_at "run"
          rename_i H5 s5
          exact tail _ _ (.mk ⟨s1.trans s5, _, _, rfl, rfl⟩)
        · cases ek
          walk_at "run"
          refine ⟨_, _, _, rfl, rfl, T.k_ENDS_columns, ?_⟩
          walk_at "run"
          refine ⟨_, _, rfl, okheldS_token_at_columns_end T, ?_⟩
          walk_at "run"
          rename_i H5 s5
          exact tail _ _ (.mk ⟨s1.trans s5, _, _, rfl, rfl⟩)
        · cases ek
          walk_at "run"
          refine ⟨_, _, _, rfl, rfl, T.k_ENDS_word, ?_⟩
          walk_at "run"
          refine ⟨_, _, rfl, okheldS_token_at_word_end T, ?_⟩
          walk_at "run"
          rename_i H5 s5
          exact tail _ _ (.mk ⟨s1.trans s5, _, _, rfl, rfl⟩)
        · cases ek
          walk_at "run"
          refine ⟨_, _, _, rfl, rfl, T.k_ENDS_sign, ?_⟩
          walk_at "run"
          refine ⟨_, _, rfl, okheldS_token_at_sign_end T, ?_⟩
          walk_at "run"
          exact And.intro (fun c h => (hc c h).1) (fun H5 s5 => tail _ _ (.mk ⟨s1.trans s5, _, _, rfl, rfl⟩))
        · cases ek
      case tail =>
      intro σ5 H5 hc5
      obtain ⟨s5, o, f, eo, rfl⟩ := hc5.get
      cases o with
      | none =>
        walk_at "run"
        exact .mk ⟨s5, hpk.trans (pick_none eo), _, _, _, _, rfl⟩
      | some e =>
        have hb := endK_ok (u := tl u) (i := i) (by omega) kd e (List.mem_of_getElem? eo)
        rw [hpk, pick_some eo] at q
        walk_at "run"
        refine And.intro (by rw [sizeLine_eq]; omega) ?_
        rw [cut_sub]
        have hsl : (SX.S (sub (tl u) i e)).length ≤ 10000 := by
          rw [SX.S_len, sub_len (by omega) (by omega)]
          omega
        walk_at "run"
        · rename_i H6 s6 hbad
          rw [if_pos (show badK kd (sub (tl u) i e) = true from hbad)] at q
          exact fun (a d : Addr) (H7 : Hp) na nd s7 ea ed => ⟨a, _, d, _, rfl, T.cs_Fault.ox, ea, ed, fr0_of (s5.trans s6) na, q d _ ((s5.trans s6).trans (same_raised s7 na nd)) upd_same⟩
        · rename_i H6 s6 hok p hp
          rw [if_neg (show ¬ badK kd (sub (tl u) i e) = true from hok)] at q
          exact q _ _ ((s5.trans s6).trans (same_upd hp)) (SqT.of upd_same)
    · obtain ⟨s1, hpk, u1, u2, u3, u4, rfl⟩ := hp.get
      rw [hpk] at q
      walk_at "run"
      exact fun (a d : Addr) (H3 : Hp) na nd s2 ea ed => ⟨a, _, d, _, rfl, T.cs_Fault.ox, ea, ed, fr0_of s1 na, q d _ (s1.trans (same_raised s2 na nd)) upd_same⟩

theorem oktokens (T : Txt K mg w) : FnOk P w K mg base (L2N.CX P w) 7 T.atokens T.dtokens Ptokens (sptokens K) := by
  refine okXN T.Ftokens sctokens (fun vs H Q E h => ?_) (fun cdv A outer s H vs Q E hr h => ?_)
  · obtain ⟨z, rfl, _⟩ := h
    rfl
  · obtain ⟨z, rfl, ⟨h1, hl⟩, ha, q, qf⟩ := h
    refine ⟨_, (pss_cons (ps_set (i := 1) sctokens.nd rfl (by first | exact Or.inl rfl | exact Or.inr rfl) (pe_call (okcapital T) (hr.mono (by decide)) (by rfl) T.gcapital T.Fcapital.kp (T.bcapital) .nil pass0 (pa_cons (pv 0) pa_nil)))
    (pss_cons (ps_set (i := 2) sctokens.nd rfl (by first | exact Or.inl rfl | exact Or.inr rfl) (pe_lst pa_nil))
    (pss_cons (ps_set (i := 3) sctokens.nd rfl (by first | exact Or.inl rfl | exact Or.inr rfl) (pe_call (okblanks_end T) (hr.mono (by decide)) (by rfl) T.gblanks_end T.Fblanks_end.kp (T.bblanks_end) .nil pass0 (pa_cons (pv 0) (pa_cons pe_int pa_nil))))
    (pss_cons (ps_while (passes_of rfl) (pt_cmpR op_lt (pv 3) (pe_callB call_len_str (by rfl) T.z_len (by decide +kernel) (pa_cons (pv 0) pa_nil)) (by first | exact nomark _ | rfl))
      (pss_cons (ps_set (i := 4) sctokens.nd rfl (by first | exact Or.inl rfl | exact Or.inr rfl) (pe_call (E := E) (oktoken_at T) (hr.mono (by decide)) (by rfl) T.gtoken_at T.Ftoken_at.kp (T.btoken_at) .nil (L2N.passes_call (L2N.takes_of rfl rfl rfl rfl) (fun _ _ _ _ h => h)) (pa_cons (pv 0) (pa_cons (pv 1) (pa_cons (pv 3) pa_nil)))))
    (pss_cons (ps_expr (pe_bm PySem.F.plainAttrs_list PySem.F.slot_list_append PySem.F.type_list_append mt_append (pv 2) (pa_cons (pv 4) pa_nil)))
    (pss_one (ps_set (i := 3) sctokens.nd rfl (by first | exact Or.inl rfl | exact Or.inr rfl) (pe_call (okblanks_end T) (hr.mono (by decide)) (by rfl) T.gblanks_end T.Fblanks_end.kp (T.bblanks_end) .nil pass0 (pa_cons (pv 0) (pa_cons (pe_ix ix_tup (pv 4) pe_int (fun _ _ => rfl)) pa_nil))))))))
    (pss_one (ps_ret (pe_callTy call_tuple_of (by rfl) T.z_tuple (by decide +kernel) (pa_cons (pv 2) pa_nil)))))))), ?_⟩
    have hlt := len_tl z
    have hup : tl (Txt.upper z) = upL (tl z) := by rw [upper_tl ha]; rfl
    have hul := upper_len ha
    have hcap : CapL (tl (Txt.upper z)) := by rw [hup]; exact upL_cap ha
    walk_at "run"
    rename_i H1 s1 p hp
    have hp0 : H p = none := same_none s1 hp
    have hr0 : runE (· == 32) (tl z) 1 ≤ z.length := by rw [hlt]; exact runE_le (by omega)
    refine while_at (fun n σ H' => Hd (Same H H' ∧ ∃ (k : Nat) (ts : List (Str × Nat × Nat × List Nat)) (xs : List V) (u : Option V), σ = [some (.str z), some (.str (Txt.upper z)), some (.ref p), some (.int (k : Nat)), u] ∧ k ≤ z.length ∧ n = z.length - k ∧ H' p = some (.lst xs) ∧ A2 (TkV K H') xs ts ∧ ts.length ≤ k ∧ toksL (tl z) = (ts ++ (toks (tl z) (upL (tl z)) (z.length - k) k).1, (toks (tl z) (upL (tl z)) (z.length - k) k).2))) _ (.mk ⟨same_put s1 hp0, _, [], [], none, rfl, hr0, rfl, upd_same, .nil, Nat.zero_le _, ?_⟩) (fun n σ H' hq => ?_)
    · unfold toksL
      rw [toks_more (upL_len _) (n := z.length - runE (· == 32) (tl z) 1) (m := (tl z).length) (by omega) (by omega)]
      rfl
    obtain ⟨s2, k, ts, xs, u, rfl, hk, rfl, hx, ax, tk, et⟩ := hq.get
    walk_at "run"
    · rename_i hkl
      refine ⟨fun σ' H'' => ∃ m', m' < z.length - k ∧ Hd (Same H H'' ∧ ∃ (k : Nat) (ts : List (Str × Nat × Nat × List Nat)) (xs : List V) (u : Option V), σ' = [some (.str z), some (.str (Txt.upper z)), some (.ref p), some (.int (k : Nat)), u] ∧ k ≤ z.length ∧ m' = z.length - k ∧ H'' p = some (.lst xs) ∧ A2 (TkV K H'') xs ts ∧ ts.length ≤ k ∧ toksL (tl z) = (ts ++ (toks (tl z) (upL (tl z)) (z.length - k) k).1, (toks (tl z) (upL (tl z)) (z.length - k) k).2)), fun σ' H'' h => h, ?_⟩
      have hkl2 : k < (tl z).length := by omega
      have en : z.length - k = (z.length - k - 1) + 1 := by omega
      walk_at "run"
      refine ⟨z, Txt.upper z, k, rfl, ⟨by omega, hl⟩, hul, hcap, ?_⟩
      rw [hup]
      cases e : tokAt (tl z) (upL (tl z)) k with
      | fault a =>
        rw [en, toks_fault hkl2 e] at et
        exact fun d H2 s3 hd => qf _ a et d H2 (s2.trans s3) hd
      | tok kk a e2 w =>
        have hb := tokAt_ok hkl2 (upL_len _) e
        rw [en, toks_tok hkl2 e] at et
        intro p2 H2 s3 hp2
        have hx2 := s3 _ _ hx
        have lx := ax.len
        have hr := runE_ge (· == 32) (tl z) e2
        have hrl : runE (· == 32) (tl z) e2 ≤ (tl z).length := runE_le hb.2.2
        walk_at "run"
        refine ⟨.inl ⟨rfl, _, SqL.of hx2⟩, ?_⟩
        walk_at "run"
        refine ⟨_, _, _, rfl, rfl, hx2, small20000 (by omega), ?_⟩
        have tk2 := lst_tk (K := K) (zs := xs ++ [V.ref p2]) hx2
        have hp3 := tk2 _ _ hp2
        walk_at "run"
        refine ⟨_, ?_, .mk ⟨same_put (s2.trans s3) hp0, _, ts ++ [(kk, a, e2, w)], _, _, rfl, by omega, rfl, upd_same, A2.snoc (ax.imp fun x t h => h.keep ((same_tk s3).trans tk2)) ⟨p2, rfl, hp3⟩, ?_, ?_⟩⟩
        · omega
        · rw [List.length_append]
          show ts.length + 1 ≤ _
          omega
        · rw [et, toks_more (upL_len _) (n := z.length - runE (· == 32) (tl z) e2) (m := z.length - k - 1) (by omega) (by omega), List.append_assoc]
          rfl
    · rename_i hkl
      rw [toks_stop (by omega), List.append_nil] at et
      walk_at "run"
      refine ⟨_, _, rfl, .inl ⟨SqL.of hx, fun pt hpt => ?_⟩⟩
      exact q _ et _ _ _ (s2.trans (same_upd hpt)) (SqT.of upd_same) (ax.imp fun x t h => h.keep (same_tk (same_upd hpt)))

theorem ok_law_mixed (T : Txt K mg w) : FnOk P w K mg base CX0 1 T.a_law_mixed T.d_law_mixed P_law_mixed (sp_law_mixed K) := by
  refine T.F_law_mixed.ok sc_law_mixed (fun vs H Q E h => ?_) (fun cdv A outer s H vs Q E hr h => ?_)
  · obtain ⟨x, t, m, rfl, _⟩ := h
    rfl
  · obtain ⟨x, t, m, rfl, hm, q⟩ := h
    refine ⟨_, (pss_cons (ps_set (i := 3) sc_law_mixed.nd rfl (by first | exact Or.inl rfl | exact Or.inr rfl) pe_int)
    (pss_cons (ps_set (i := 4) sc_law_mixed.nd rfl (by first | exact Or.inl rfl | exact Or.inr rfl) (pe_op op_mod (pe_callTy call_int1 (by rfl) T.z_int (by decide +kernel) (pa_cons (pe_op op_add (pe_op op_add (pe_op op_mul (pv 0) pe_int) (pe_op op_mul (pv 1) pe_int)) pe_int) pa_nil)) (pv 3)))
    (pss_cons (ps_set (i := 5) sc_law_mixed.nd rfl (by first | exact Or.inl rfl | exact Or.inr rfl) (pe_op op_mod (pe_op op_mul (pe_callTy call_int1 (by rfl) T.z_int (by decide +kernel) (pa_cons (pe_op op_add (pe_op op_mul (pv 4) (pv 4)) (pv 1)) pa_nil)) pe_int) (pv 3)))
    (pss_one (ps_ret (pe_op op_mod (pe_op op_fdiv (pv 5) pe_int) (pv 2))))))), ?_⟩
    walk_at "run"
    exact q _ (Int.emod_nonneg _ (by omega)) (Int.emod_lt_of_pos _ hm)

theorem ok_law_pool (T : Txt K mg w) : FnOk P w K mg base CX0 1 T.a_law_pool T.d_law_pool P_law_pool (sp_law_pool K) := by
  refine T.F_law_pool.ok sc_law_pool (fun vs H Q E h => ?_) (fun cdv A outer s H vs Q E hr h => ?_)
  · obtain ⟨a, ns, rfl, _⟩ := h
    rfl
  · obtain ⟨a, ns, rfl, hS, hl, q⟩ := h
    refine ⟨_, (pss_cons (ps_set (i := 1) sc_law_pool.nd rfl (by first | exact Or.inl rfl | exact Or.inr rfl) pe_int)
    (pss_cons (ps_for PassesOwn.never rfl (pi_list (pv 0)) (pg_name (i := 2) sc_law_pool.nd rfl (by first | exact Or.inl rfl | exact Or.inr rfl))
      (pss_one (ps_set (i := 1) sc_law_pool.nd rfl (by first | exact Or.inl rfl | exact Or.inr rfl) (pe_op op_mod (pe_callTy call_int1 (by rfl) T.z_int (by decide +kernel) (pa_cons (pe_op op_add (pe_op op_mul (pv 1) pe_int) (pv 2)) pa_nil)) pe_int))))
    (pss_cons (ps_set (i := 3) sc_law_pool.nd rfl (by first | exact Or.inl rfl | exact Or.inr rfl) (pe_callTy call_list_of (by rfl) T.z_list (by decide +kernel) (pa_cons (pv 0) pa_nil)))
    (pss_cons (ps_if (PW.pt (pw_and (pt_cmpR op_gt (pe_callB call_len_seq (by rfl) T.z_len (by decide +kernel) (pa_cons (pv 3) pa_nil)) pe_int (by first | exact nomark _ | rfl)) (pw_and1 (pt_cmpR op_eq (pe_op op_mod (pe_callTy call_int1 (by rfl) T.z_int (by decide +kernel) (pa_cons (pe_ix ix_list (pv 3) pe_int (fun _ _ => rfl)) pa_nil)) pe_int) pe_int (by first | exact nomark _ | rfl)))))
      (pss_one (ps_set (i := 3) sc_law_pool.nd rfl (by first | exact Or.inl rfl | exact Or.inr rfl) (pe_lst pa_nil)))
      pss_nil)
    (pss_cons (ps_if (pt_cmpR op_gt (pe_callB call_len_seq (by rfl) T.z_len (by decide +kernel) (pa_cons (pv 3) pa_nil)) pe_int (by first | exact nomark _ | rfl))
      (pss_one (ps_asg (pe_op op_fdiv (pe_ix ix_list (pv 3) pe_int (fun _ _ => rfl)) pe_int) (pg_sub (pv 3) pe_int set_list)))
      pss_nil)
    (pss_one (ps_ret (pe_disp (pps_cons pe_str (pv 3) (pps_cons pe_str pe_int (pps_cons pe_str pe_int (pps_cons pe_str pe_int (pps_cons pe_str pe_bl (pps_cons pe_str (pv 1) (pps_cons pe_str pe_int pps_nil))))))) (by rfl) (by rfl) (fun z => by cases z) (by decide))))))))), ?_⟩
    walk_at "run"
    refine And.intro ⟨_, hS⟩ (for_it (walk_list (xs := ns.map V.int)) (fun k σ H' => Hd (H' = H ∧ ∃ (e : Int) (u v : Option V), σ = [some (.ref a), some (.int e), u, v])) (.mk ⟨rfl, _, _, _, rfl⟩) (fun _ _ _ _ h => by obtain ⟨rfl, _⟩ := h.get; exact hS) (fun k x σ H1 H2 hi hp hy => ?_) (fun σ H' hp => ?_))
    · obtain ⟨rfl, e, u, v, rfl⟩ := hp.get
      obtain ⟨rfl, ex⟩ := hy
      rw [List.getElem?_map] at ex
      obtain ⟨n, en, rfl⟩ := Option.map_eq_some_iff.mp ex
      dsimp only [gName]
      walk_at "run"
      exact .mk ⟨rfl, _, _, _, rfl⟩
    · obtain ⟨rfl, e, u, v, rfl⟩ := hp.get
      walk_at "run"
      intro d hd
      dsimp only [gName]
      refine seq_merge (C := fun σ' H'' => Hd (Same H' H'' ∧ ∃ (c : Addr) (ks : List Int), H'' c = some (.lst (ks.map V.int)) ∧ H' c = none ∧ σ' = [some (.ref a), some (.int e), u, some (.ref c)])) ?tail ?rest
      case rest =>
        intro R tail
        walk_at "run"
        refine ⟨d, _, rfl, .inl (SqL.of upd_same), ?_⟩
        walk_at "run"
        · rename_i h0
          obtain ⟨n0, ms, rfl⟩ : ∃ n0 ms, ns = n0 :: ms := by
            cases ns with
            | nil => exact absurd h0 (by decide)
            | cons n0 ms => exact ⟨n0, ms, rfl⟩
          refine ⟨d, _, 0, _, rfl, rfl, SqL.of upd_same, atI_at (n := 0) rfl rfl, ?_⟩
          walk_at "run"
          · rename_i p2 hp2
            exact tail _ _ (.mk ⟨(same_upd hd).trans (same_upd hp2), p2, [], upd_same, same_none (same_upd hd) hp2, rfl⟩)
          · exact tail _ _ (.mk ⟨same_upd hd, d, n0 :: ms, upd_same, hd, rfl⟩)
        · exact tail _ _ (.mk ⟨same_upd hd, d, ns, upd_same, hd, rfl⟩)
      case tail =>
        intro σ H2 hc
        obtain ⟨s2, c, ks, hck, hcn, rfl⟩ := hc.get
        refine seq_merge (C := fun σ' H'' => Hd (Same H' H'' ∧ ∃ (c : Addr) (ks : List Int), H'' c = some (.lst (ks.map V.int)) ∧ H' c = none ∧ σ' = [some (.ref a), some (.int e), u, some (.ref c)])) ?tail2 ?rest2
        case rest2 =>
          intro R tail
          walk_at "run"
          refine ⟨c, _, rfl, .inl (SqL.of hck), ?_⟩
          walk_at "run"
          · rename_i h0
            obtain ⟨n0, ms, rfl⟩ : ∃ n0 ms, ks = n0 :: ms := by
              cases ks with
              | nil => exact absurd h0 (by decide)
              | cons n0 ms => exact ⟨n0, ms, rfl⟩
            refine ⟨c, _, 0, _, rfl, rfl, SqL.of hck, atI_at (n := 0) rfl rfl, ?_⟩
            walk_at "run"
            refine ⟨c, _, 0, 0, rfl, rfl, hck, (by unfold ixN; simp), ?_⟩
            exact tail _ _ (.mk ⟨same_put s2 hcn, c, n0 / 2 :: ms, upd_same, hcn, rfl⟩)
          · exact tail _ _ (.mk ⟨s2, c, ks, hck, hcn, rfl⟩)
        case tail2 =>
          intro σ H3 hc3
          obtain ⟨s3, c, ks, hck, hcn, rfl⟩ := hc3.get
          refine fun p hp => ?_
          walk_at "run"
          have hcp : c ≠ p := fun z => by
            rw [z, hp] at hck
            cases hck
          refine ⟨upd_same, PS c 0 0 0 true e 0, rfl, by show 7 ≤ 15; decide, ?_⟩
          exact q p c _ (same_put (s3.trans (same_upd hp)) (same_none s3 hp)) ⟨⟨0, 0, 0, true, e, 0, upd_same, Int.le_refl _, Int.le_refl _⟩, ks, (upd_ne hcp).trans ((upd_ne hcp).trans hck)⟩

theorem ok_law_take (T : Txt K mg w) : FnOk P w K mg base CX0 2 T.a_law_take T.d_law_take P_law_take (sp_law_take K) := by
  refine T.F_law_take.ok sc_law_take (fun vs H Q E h => ?_) (fun cdv A outer s H vs Q E hr h => ?_)
  · obtain ⟨b, c, m, rfl, _⟩ := h
    rfl
  · obtain ⟨b, c, m, rfl, hb, hm, q⟩ := h
    refine ⟨_, (pss_cons (ps_dput (hu_of hr) (pv 0) pe_str (pe_op op_add (pe_dget (hu_of hr) (pv 0) pe_str (fun _ _ => rfl)) pe_int) rfl)
    (pss_cons (ps_if (PW.pt (pw_and (pt_cmpR op_eq (pe_dget (hu_of hr) (pv 0) pe_str (fun _ _ => rfl)) pe_int (by first | exact nomark _ | rfl)) (pw_and1 (pt_cmpR op_lt (pe_dget (hu_of hr) (pv 0) pe_str (fun _ _ => rfl)) (pe_callB call_len_seq (by rfl) T.z_len (by decide +kernel) (pa_cons (pe_dget (hu_of hr) (pv 0) pe_str (fun _ _ => rfl)) pa_nil)) (by first | exact nomark _ | rfl)))))
      (pss_cons (ps_dput (hu_of hr) (pv 0) pe_str (pe_ix ix_list (pe_dget (hu_of hr) (pv 0) pe_str (fun _ _ => rfl)) (pe_dget (hu_of hr) (pv 0) pe_str (fun _ _ => rfl)) (fun _ _ => rfl)) rfl)
    (pss_cons (ps_dput (hu_of hr) (pv 0) pe_str (pe_op op_add (pe_dget (hu_of hr) (pv 0) pe_str (fun _ _ => rfl)) pe_int) rfl)
    (pss_cons (ps_dput (hu_of hr) (pv 0) pe_str (pe_cmpR op_lt (pe_dget (hu_of hr) (pv 0) pe_str (fun _ _ => rfl)) (pe_powc (c := 1000000000000000000) (by decide) (by decide +kernel)) (by first | exact nomark _ | rfl)) rfl)
    (pss_one (ps_dput (hu_of hr) (pv 0) pe_str (pe_ix ix_list (pe_lst (pa_cons pe_int (pa_cons pe_int pa_nil))) (pe_callTy call_int1 (by rfl) T.z_int (by decide +kernel) (pa_cons (pe_dget (hu_of hr) (pv 0) pe_str (fun _ _ => rfl)) pa_nil)) (fun _ _ => rfl)) rfl)))))
      pss_nil)
    (pss_cons (ps_if (pt_cmpR op_eq (pe_dget (hu_of hr) (pv 0) pe_str (fun _ _ => rfl)) pe_int (by first | exact nomark _ | rfl))
      (pss_one (ps_ret (pe_call (ok_law_mixed T) (hr.mono (by decide)) (by rfl) T.g_law_mixed T.F_law_mixed.kp (T.b_law_mixed) .nil pass0 (pa_cons (pe_dget (hu_of hr) (pv 0) pe_str (fun _ _ => rfl)) (pa_cons (pe_dget (hu_of hr) (pv 0) pe_str (fun _ _ => rfl)) (pa_cons (pv 1) pa_nil))))))
      pss_nil)
    (pss_cons (ps_dput (hu_of hr) (pv 0) pe_str (pe_op op_sub (pe_dget (hu_of hr) (pv 0) pe_str (fun _ _ => rfl)) pe_int) rfl)
    (pss_cons (ps_if (pt_val (pe_dget (hu_of hr) (pv 0) pe_str (fun _ _ => rfl)))
      (pss_one (ps_ret (pe_call (ok_law_mixed T) (hr.mono (by decide)) (by rfl) T.g_law_mixed T.F_law_mixed.kp (T.b_law_mixed) .nil pass0 (pa_cons (pe_dget (hu_of hr) (pv 0) pe_str (fun _ _ => rfl)) (pa_cons (pe_dget (hu_of hr) (pv 0) pe_str (fun _ _ => rfl)) (pa_cons (pv 1) pa_nil))))))
      pss_nil)
    (pss_cons (ps_set (i := 2) sc_law_take.nd rfl (by first | exact Or.inl rfl | exact Or.inr rfl) (pe_op op_mod (pe_callTy call_int1 (by rfl) T.z_int (by decide +kernel) (pa_cons (pe_dget (hu_of hr) (pv 0) pe_str (fun _ _ => rfl)) pa_nil)) (pv 1)))
    (pss_cons (ps_dput (hu_of hr) (pv 0) pe_str (pe_op op_fdivB (pe_dget (hu_of hr) (pv 0) pe_str (fun _ _ => rfl)) (pv 1)) rfl)
    (pss_cons (ps_if (pt_cmpR op_eq (pe_dget (hu_of hr) (pv 0) pe_str (fun _ _ => rfl)) pe_int (by first | exact nomark _ | rfl))
      (pss_one (ps_dput (hu_of hr) (pv 0) pe_str pe_int rfl))
      pss_nil)
    (pss_one (ps_ret (pv 2))))))))))), ?_⟩
    obtain ⟨⟨a, r, l, s, e, t, eb, a0, l0⟩, ns, ec⟩ := id hb
    refine seq_merge2 (C := (fun σ' H' => Hd (∃ (a r l : Int) (s : Bool) (e t : Int), Bp K b c H H' ∧ H' b = some (.dK (PS c a r l s e t)) ∧ 0 ≤ a ∧ 0 ≤ l ∧ σ' = [some (.ref b), some (.int m), none]))) ?tail ?rest
    case rest =>
      intro R tail
      have hcb : c ≠ b := pool_ne eb ec
      have hc2 : ∀ {X : List (Key × V)}, upd H b (.dK X) c = some (.lst (ns.map V.int)) := fun {X} => (upd_ne (pool_ne eb ec)).trans ec
      walk_at "run"
      · refine ⟨_, _, rfl, Or.inl (SqL.of hc2), ?_⟩
        walk_at "run"
        · rename_i h
          refine atI_go (SqL.of hc2) a0 h fun v hv => ?_
          obtain ⟨n, _, rfl⟩ := List.mem_map.mp hv
          clear hv
          walk_at "run"
          refine atI_go (xs := [V.int 60, V.int 2]) (SqL.of upd_same) (by split <;> omega) (by show _ < (2 : Int); split <;> omega) fun v hv => ?_
          obtain ⟨k, hk, rfl⟩ : ∃ k : Int, 0 ≤ k ∧ V.int k = v := by
            rcases List.mem_cons.mp hv with rfl | hv
            · exact ⟨60, by decide, rfl⟩
            · exact ⟨2, by decide, (List.mem_singleton.mp hv).symm⟩
          clear hv
          walk_at "run"
          exact tail _ _ (.mk ⟨a + 1, _, _, _, e, t + 1, Bp.put (by walk_at "bk") (by first | exact upd_same | exact same_upd (by assumption) _ _ upd_same) (by walk_at "cc") (by omega) hk, upd_same, by omega, hk, rfl⟩)
        · exact tail _ _ (.mk ⟨a, r, l, s, e, t + 1, Bp.put (fun _ _ _ h => h) eb ec a0 l0, upd_same, a0, l0, rfl⟩)
      · exact tail _ _ (.mk ⟨a, r, l, s, e, t + 1, Bp.put (fun _ _ _ h => h) eb ec a0 l0, upd_same, a0, l0, rfl⟩)
    case tail =>
      intro σ H1 hc1
      obtain ⟨a, r, l, s, e, t, b1, e1, a0, l0, rfl⟩ := hc1.get
      obtain ⟨_, ns, ec⟩ := id b1.2
      have hcb : c ≠ b := pool_ne e1 ec
      walk_at "run"
      · refine ⟨_, _, _, rfl, hm.1, fun n n0 n1 => ?_⟩
        exact q _ _ b1 n0 n1
      · refine ⟨_, _, _, rfl, hm.1, fun n n0 n1 => ?_⟩
        exact q _ _ (Bp.put b1.1 e1 ec a0 (by omega)) n0 n1
      all_goals exact q _ _ (Bp.put (by walk_at "bk") upd_same (by walk_at "cc") a0 (by omega)) (Int.emod_nonneg _ (by omega)) (Int.emod_lt_of_pos _ hm.1)

theorem ok_law_signs (T : Txt K mg w) : FnOk P w K mg base CX0 1 T.a_law_signs T.d_law_signs P_law_signs (sp_law_signs K) := by
  refine T.F_law_signs.ok sc_law_signs (fun vs H Q E h => ?_) (fun cdv A outer s H vs Q E hr h => ?_)
  · obtain ⟨rfl, _⟩ := h
    rfl
  · obtain ⟨rfl, q⟩ := h
    refine ⟨_, (pss_cons (ps_set (i := 0) sc_law_signs.nd rfl (by first | exact Or.inl rfl | exact Or.inr rfl) pe_str)
    (pss_one (ps_ret (pe_op op_add_str (pv 0) pe_str)))), ?_⟩
    walk_at "run"
    exact And.intro (by decide +kernel) (q _ (by decide +kernel) (by unfold Asc; decide +kernel))

theorem ok_law_letters (T : Txt K mg w) : FnOk P w K mg base CX0 1 T.a_law_letters T.d_law_letters P_law_letters (sp_law_letters K) := by
  refine T.F_law_letters.ok sc_law_letters (fun vs H Q E h => ?_) (fun cdv A outer s H vs Q E hr h => ?_)
  · obtain ⟨rfl, _⟩ := h
    rfl
  · obtain ⟨rfl, q⟩ := h
    refine ⟨_, (pss_one (ps_ret pe_str)), ?_⟩
    exact q

theorem ok_law_stands (T : Txt K mg w) : FnOk P w K mg base CX0 1 T.a_law_stands T.d_law_stands P_law_stands (sp_law_stands K) := by
  refine T.F_law_stands.ok sc_law_stands (fun vs H Q E h => ?_) (fun cdv A outer s H vs Q E hr h => ?_)
  · obtain ⟨z, s, a, rfl, _⟩ := h
    rfl
  · obtain ⟨z, s, a, rfl, ⟨hl, hs⟩, q⟩ := h
    refine ⟨_, (pss_one (ps_ret (pe_and (pe_cmpR op_lt (pv 1) (pe_callB call_len_str (by rfl) T.z_len (by decide +kernel) (pa_cons (pv 0) pa_nil)) (by first | exact nomark _ | rfl)) (pe_one (pe_cmpR op_in_sign (pe_ix ix_str (pv 0) (pv 1) (fun _ _ => rfl)) (pv 2) (by first | exact nomark _ | rfl)))))), ?_⟩
    have hlt := len_tl z
    rcases q with ⟨i, rfl, q⟩ | ⟨⟨rfl, h1⟩, q⟩
    · walk_at "run"
      · rename_i h
        have ec : (tl z)[i]? = some ((tl z)[i]'(by omega)) := List.getElem?_eq_getElem (by omega)
        rw [stands_some ec] at q
        refine ⟨_, _, _, rfl, rfl, hl1 (by omega), atI_nat ec, ?_⟩
        walk_at "run"
        exact q
      · rename_i h
        rw [stands_none (by omega)] at q
        exact q
    · walk_at "run"
      · obtain ⟨ch, ec⟩ : ∃ ch, atI z.cps.toList (-1) = some ch := by
          have e0 : (tl z) ≠ [] := fun e => by rw [e] at hlt; simp at hlt; omega
          have := atI_last (tl z).dropLast ((tl z).getLast e0)
          rw [List.dropLast_concat_getLast] at this
          exact ⟨_, this⟩
        refine ⟨_, _, _, rfl, rfl, hl1 (by omega), ec, ?_⟩
        walk_at "run"
        exact q _

theorem ok_law_run (T : Txt K mg w) : FnOk P w K mg base CX0 1 T.a_law_run T.d_law_run P_law_run (sp_law_run K) := by
  refine T.F_law_run.ok sc_law_run (fun vs H Q E h => ?_) (fun cdv A outer s H vs Q E hr h => ?_)
  · obtain ⟨z, s, i, rfl, _⟩ := h
    rfl
  · obtain ⟨z, s, i, rfl, ⟨hi, hl, hs⟩, q⟩ := h
    refine ⟨_, (pss_cons (ps_for PassesOwn.never rfl (pi_range2 (by rfl) T.z_range (pa_cons (pv 1) (pa_cons (pe_callB call_len_str (by rfl) T.z_len (by decide +kernel) (pa_cons (pv 0) pa_nil)) pa_nil))) (pg_name (i := 3) sc_law_run.nd rfl (by first | exact Or.inl rfl | exact Or.inr rfl))
      (pss_one (ps_if (pt_cmpR op_notIn_sign (pe_ix ix_str (pv 0) (pv 3) (fun _ _ => rfl)) (pv 2) (by first | exact nomark _ | rfl))
      (pss_one (ps_ret (pv 3)))
      pss_nil)))
    (pss_one (ps_ret (pe_callB call_len_str (by rfl) T.z_len (by decide +kernel) (pa_cons (pv 0) pa_nil))))), ?_⟩
    have hlt := len_tl z
    walk_at "run"
    refine for_range (lo := (i : Int)) (n := ((z.length : Int) - (i : Int)).toNat) (fun k σ H' => Hd (H' = H ∧ (∀ j, i ≤ j → j < i + k → stands (stI s) (tl z) j = true) ∧ ∃ u, σ = [some (.str z), some (.int (i : Nat)), some (.str s), u])) (.mk ⟨rfl, fun j j1 j2 => by omega, _, rfl⟩) (fun k σ H' hi hp => ?_) (fun σ H' hp => ?_)
    · obtain ⟨rfl, hn, u, rfl⟩ := hp.get
      have ec : (tl z)[i + k]? = some ((tl z)[i + k]'(by omega)) := List.getElem?_eq_getElem (by omega)
      have e1 : (i : Int) + (k : Int) = ((i + k : Nat) : Int) := by omega
      rw [e1]
      dsimp only [gName]
      walk_at "run"
      refine ⟨z, _, _, rfl, rfl, hl1 (by omega), atI_nat ec, ?_⟩
      walk_at "run"
      · rename_i h
        have hs : stands (stI s) (tl z) (i + k) = false := by rw [stands_some ec]; exact decide_eq_false (by simpa using h)
        rw [runE_of (by omega) (fun j j1 j2 => hn j j1 j2) hs] at q
        exact q
      · rename_i h
        refine .mk ⟨rfl, fun j j1 j2 => ?_, _, rfl⟩
        by_cases e : j = i + k
        · subst e
          rw [stands_some ec]
          exact decide_eq_true (by simpa using h)
        · exact hn j j1 (by omega)
    · obtain ⟨rfl, hn, u, rfl⟩ := hp.get
      rw [runE_of (j := z.length) hi (fun j j1 j2 => hn j j1 (by omega)) (stands_none (by omega))] at q
      walk_at "run"
      first
        | exact q
        | exact And.intro (hl1 (by omega)) q
        | exact ⟨z, rfl, hl1 (by omega), q⟩

theorem ok_law_dollar (T : Txt K mg w) : FnOk P w K mg base CX0 2 T.a_law_dollar T.d_law_dollar P_law_dollar (sp_law_dollar K) := by
  refine T.F_law_dollar.ok sc_law_dollar (fun vs H Q E h => ?_) (fun cdv A outer s H vs Q E hr h => ?_)
  · obtain ⟨z, i, rfl, _⟩ := h
    rfl
  · obtain ⟨z, i, rfl, ⟨hi, hl, ha⟩, q⟩ := h
    refine ⟨_, (pss_one (ps_ret (pe_op op_add (pv 1) (pe_callTy call_int1 (by rfl) T.z_int (by decide +kernel) (pa_cons (pe_call (ok_law_stands T) (hr.mono (by decide)) (by rfl) T.g_law_stands T.F_law_stands.kp (T.b_law_stands) .nil pass0 (pa_cons (pv 0) (pa_cons (pv 1) (pa_cons pe_str pa_nil)))) pa_nil))))), ?_⟩
    walk_at "run"
    refine ⟨z, _, _, rfl, ⟨hl, by decide +kernel⟩, Or.inl ⟨i, rfl, ?_⟩⟩
    walk_at "run"
    unfold markE at q
    have e := stands_c ha sI_mark i
    rw [show stands (stI (Str.ofString "$")) (tl z) i = stands (· == 36) (tl z) i from e]
    cases h : stands (· == 36) (tl z) i
    · rw [h] at q
      exact q
    · rw [h] at q
      exact q

theorem ok_law_row (T : Txt K mg w) : FnOk P w K mg base CX0 2 T.a_law_row T.d_law_row P_law_row (sp_law_row K) := by
  refine T.F_law_row.ok sc_law_row (fun vs H Q E h => ?_) (fun cdv A outer s H vs Q E hr h => ?_)
  · obtain ⟨z, i, rfl, _⟩ := h
    rfl
  · obtain ⟨z, i, rfl, ⟨hi, hl, ha⟩, q⟩ := h
    refine ⟨_, (pss_cons (ps_set (i := 2) sc_law_row.nd rfl (by first | exact Or.inl rfl | exact Or.inr rfl) (pe_call (ok_law_run T) (hr.mono (by decide)) (by rfl) T.g_law_run T.F_law_run.kp (T.b_law_run) .nil pass0 (pa_cons (pv 0) (pa_cons (pv 1) (pa_cons pe_str pa_nil)))))
    (pss_cons (ps_if (PW.pt (pw_or (pt_cmpR op_eq (pv 2) (pv 1) (by first | exact nomark _ | rfl)) (pw_or (pt_cmpR op_gt (pv 2) (pe_op op_add (pv 1) pe_int) (by first | exact nomark _ | rfl)) (pw_or (pt_cmpR op_eq (pe_ix ix_str (pv 0) (pv 1) (fun _ _ => rfl)) pe_str (by first | exact nomark _ | rfl)) (pw_or1 (pt_cmpR op_gt (pe_callTy call_int_str (by rfl) T.z_int (by decide +kernel) (pa_cons (pe_slice sl_str (pv 0) (po_some (pv 1)) (po_some (pv 2))) pa_nil)) pe_int (by first | exact nomark _ | rfl)))))))
      (pss_one (ps_ret (pe_un un_neg pe_int)))
      pss_nil)
    (pss_one (ps_ret (pv 2))))), ?_⟩
    have hlt := len_tl z
    have hr1 := runE_ge isD (tl z) i
    have hr2 : runE isD (tl z) i ≤ z.length := by rw [hlt]; exact runE_le (by omega)
    have hd := sub_digits (l := tl z) (i := i)
    have hsl := sub_len (l := tl z) hr1 (by omega)
    walk_at "run"
    refine ⟨z, _, i, rfl, ⟨hi, hl, by decide +kernel⟩, ?_⟩
    rw [runE_c ha sI_D]
    walk_at "run"
    · rename_i h
      rw [rowE_none (.inl (by omega))] at q
      exact q
    · rename_i h0 h1
      rw [rowE_none (.inr (.inl (by omega)))] at q
      exact q
    · rename_i h0 h1
      have ec : (tl z)[i]? = some ((tl z)[i]'(by omega)) := List.getElem?_eq_getElem (by omega)
      generalize (tl z)[i]'(by omega) = ch at ec
      refine ⟨z, _, ch, rfl, rfl, hl1 (by omega), atI_nat ec, ?_⟩
      walk_at "run"
      · rename_i h2
        rw [c_0] at h2
        have : ch = 48 := (List.cons.inj (SX.S_inj (V.str.inj h2))).1
        rw [rowE_none (.inr (.inr (.inl (by rw [stands_some ec, this]; rfl))))] at q
        exact q
      · rename_i h2
        have hc0 : stands (· == 48) (tl z) i = false := by
          rw [stands_some ec]
          exact beq_eq_false_iff_ne.mpr fun e => h2 (by rw [e, c_0])
        rw [cut_sub]
        refine ⟨_, _, rfl, intT hd (fun e => h0 (by rw [sub_nil.mp e])) (by rw [hsl]; omega), by rw [SX.S_len, hsl]; omega, ?_⟩
        walk_at "run"
        · rename_i h4
          rw [rowE_none (.inr (.inr (.inr (by omega))))] at q
          exact q
        · rename_i h4
          rw [rowE_some (fun hh => by rcases hh with hh | hh | hh | hh <;> first | omega | (rw [hc0] at hh; cases hh))] at q
          exact q

theorem ok_law_rows (T : Txt K mg w) : FnOk P w K mg base CX0 3 T.a_law_rows T.d_law_rows P_law_rows (sp_law_rows K) := by
  refine T.F_law_rows.ok sc_law_rows (fun vs H Q E h => ?_) (fun cdv A outer s H vs Q E hr h => ?_)
  · obtain ⟨z, i, rfl, _⟩ := h
    rfl
  · obtain ⟨z, i, rfl, ⟨hi, hl, ha⟩, q⟩ := h
    refine ⟨_, (pss_cons (ps_set (i := 2) sc_law_rows.nd rfl (by first | exact Or.inl rfl | exact Or.inr rfl) (pe_call (ok_law_row T) (hr.mono (by decide)) (by rfl) T.g_law_row T.F_law_row.kp (T.b_law_row) .nil pass0 (pa_cons (pv 0) (pa_cons (pe_call (ok_law_dollar T) (hr.mono (by decide)) (by rfl) T.g_law_dollar T.F_law_dollar.kp (T.b_law_dollar) .nil pass0 (pa_cons (pv 0) (pa_cons (pv 1) pa_nil))) pa_nil))))
    (pss_cons (ps_if (PW.pt (pw_or (pt_cmpR op_lt (pv 2) pe_int (by first | exact nomark _ | rfl)) (pw_or1 (pt_not (pt_val (pe_call (ok_law_stands T) (hr.mono (by decide)) (by rfl) T.g_law_stands T.F_law_stands.kp (T.b_law_stands) .nil pass0 (pa_cons (pv 0) (pa_cons (pv 2) (pa_cons pe_str pa_nil)))))))))
      (pss_one (ps_ret (pe_un un_neg pe_int)))
      pss_nil)
    (pss_one (ps_ret (pe_call (ok_law_row T) (hr.mono (by decide)) (by rfl) T.g_law_row T.F_law_row.kp (T.b_law_row) .nil pass0 (pa_cons (pv 0) (pa_cons (pe_call (ok_law_dollar T) (hr.mono (by decide)) (by rfl) T.g_law_dollar T.F_law_dollar.kp (T.b_law_dollar) .nil pass0 (pa_cons (pv 0) (pa_cons (pe_op op_add (pv 2) pe_int) pa_nil))) pa_nil))))))), ?_⟩
    have hlt := len_tl z
    have hm : markE (tl z) i ≤ z.length := by rw [hlt]; exact markE_le (by omega)
    walk_at "run"
    refine And.intro ⟨hi, hl, ha⟩ ?_
    walk_at "run"
    refine And.intro ⟨hm, hl, ha⟩ ?_
    have hu : rowsE (tl z) i = (rowE (tl z) (markE (tl z) i)).bind fun m => if stands (· == 58) (tl z) m = true then rowE (tl z) (markE (tl z) (m + 1)) else none := rfl
    rw [hu] at q
    cases e : rowE (tl z) (markE (tl z) i) with
    | none =>
      rw [e] at q
      have q : Q (.int (-1)) H := q
      show (fun x H1 => _) (V.int (-1)) H
      walk_at "run"
      exact q
    | some m =>
      rw [e] at q
      have q : Q (.int (encE (if stands (· == 58) (tl z) m = true then rowE (tl z) (markE (tl z) (m + 1)) else none))) H := q
      have hem : encE (some m) = (m : Int) := rfl
      have hmz : m ≤ z.length := by rw [hlt]; exact rowE_le (by omega) e
      walk_at "run"
      all_goals first
        | (exfalso; omega)
        | skip
      refine ⟨z, _, _, rfl, ⟨hl, by decide +kernel⟩, Or.inl ⟨m, rfl, ?_⟩⟩
      rw [stands_c ha sI_colon]
      walk_at "run"
      · rename_i h
        rw [if_neg (by simpa using h)] at q
        exact q
      · rename_i h
        have hs : stands (· == 58) (tl z) m = true := by simpa using h
        have hs2 := stands_lt hs
        rw [if_pos hs] at q
        have hx : m + 1 ≤ z.length := by omega
        have hy : markE (tl z) (m + 1) ≤ z.length := by rw [hlt]; exact markE_le (by omega)
        refine And.intro ⟨hx, hl, ha⟩ ?_
        walk_at "run"
        exact And.intro ⟨hy, hl, ha⟩ q

theorem ok_law_cell (T : Txt K mg w) : FnOk P w K mg base CX0 3 T.a_law_cell T.d_law_cell P_law_cell (sp_law_cell K) := by
  refine T.F_law_cell.ok sc_law_cell (fun vs H Q E h => ?_) (fun cdv A outer s H vs Q E hr h => ?_)
  · obtain ⟨z, i, rfl, _⟩ := h
    rfl
  · obtain ⟨z, i, rfl, ⟨hi, hl, ha⟩, q⟩ := h
    refine ⟨_, (pss_cons (ps_set (i := 2) sc_law_cell.nd rfl (by first | exact Or.inl rfl | exact Or.inr rfl) (pe_call (ok_law_dollar T) (hr.mono (by decide)) (by rfl) T.g_law_dollar T.F_law_dollar.kp (T.b_law_dollar) .nil pass0 (pa_cons (pv 0) (pa_cons (pv 1) pa_nil))))
    (pss_cons (ps_if (pt_not (pt_val (pe_call (ok_law_stands T) (hr.mono (by decide)) (by rfl) T.g_law_stands T.F_law_stands.kp (T.b_law_stands) .nil pass0 (pa_cons (pv 0) (pa_cons (pv 2) (pa_cons pe_str pa_nil))))))
      (pss_one (ps_ret (pe_un un_neg pe_int)))
      pss_nil)
    (pss_cons (ps_set (i := 3) sc_law_cell.nd rfl (by first | exact Or.inl rfl | exact Or.inr rfl) (pe_call (ok_law_row T) (hr.mono (by decide)) (by rfl) T.g_law_row T.F_law_row.kp (T.b_law_row) .nil pass0 (pa_cons (pv 0) (pa_cons (pe_call (ok_law_dollar T) (hr.mono (by decide)) (by rfl) T.g_law_dollar T.F_law_dollar.kp (T.b_law_dollar) .nil pass0 (pa_cons (pv 0) (pa_cons (pe_op op_add (pv 2) pe_int) pa_nil))) pa_nil))))
    (pss_one (ps_ret (pe_ix ix_list (pe_lst (pa_cons (pv 3) (pa_cons (pe_un un_neg pe_int) pa_nil))) (pe_callTy call_int1 (by rfl) T.z_int (by decide +kernel) (pa_cons (pe_call (ok_law_stands T) (hr.mono (by decide)) (by rfl) T.g_law_stands T.F_law_stands.kp (T.b_law_stands) .nil pass0 (pa_cons (pv 0) (pa_cons (pv 3) (pa_cons (pe_op op_add_str (pe_call0 (ok_law_letters T) (hr.mono (by decide)) (by rfl) T.g_law_letters T.F_law_letters.kp (T.b_law_letters) .nil pass0) pe_str) pa_nil)))) pa_nil)) (fun _ _ => rfl))))))), ?_⟩
    have hlt := len_tl z
    have hm : markE (tl z) i ≤ z.length := by rw [hlt]; exact markE_le (by omega)
    walk_at "run"
    refine And.intro ⟨hi, hl, ha⟩ ?_
    walk_at "run"
    refine ⟨z, _, _, rfl, ⟨hl, by decide +kernel⟩, Or.inl ⟨markE (tl z) i, rfl, ?_⟩⟩
    rw [stands_c ha sI_co]
    walk_at "run"
    · rename_i h
      have hs : stands isCo (tl z) (markE (tl z) i) = false := by simpa using h
      rw [show cellE (tl z) i = none from by unfold cellE; rw [colE_none hs]; rfl] at q
      exact q _ (Same.refl _)
    · rename_i h
      have hs : stands isCo (tl z) (markE (tl z) i) = true := by simpa using h
      have hsl := stands_lt hs
      have hx : markE (tl z) i + 1 ≤ z.length := by omega
      have hy : markE (tl z) (markE (tl z) i + 1) ≤ z.length := by rw [hlt]; exact markE_le (by omega)
      refine And.intro ⟨hx, hl, ha⟩ ?_
      walk_at "run"
      refine And.intro ⟨hy, hl, ha⟩ ?_
      have hu : cellE (tl z) i = (rowE (tl z) (markE (tl z) (markE (tl z) i + 1))).bind fun e => if stands mkW (tl z) e = true then none else some e := by
        unfold cellE
        rw [colE_some hs]
        rfl
      rw [hu] at q
      cases e : rowE (tl z) (markE (tl z) (markE (tl z) i + 1)) with
      | none =>
        rw [e] at q
        have q : ∀ H', Same H H' → Q (.int (-1)) H' := q
        walk_at "run"
        rename_i p hp
        first
          | (refine And.intro (by decide +kernel) ?_
             walk_at "run")
          | skip
        refine ⟨z, _, _, rfl, ⟨hl, by decide +kernel⟩, Or.inr ⟨⟨rfl, by omega⟩, fun r => ?_⟩⟩
        walk_at "run"
        cases r <;> exact ⟨_, _, _, _, rfl, rfl, SqL.of upd_same, rfl, q _ (same_upd hp)⟩
      | some e1 =>
        rw [e] at q
        have q : ∀ H', Same H H' → Q (.int (encE (if stands mkW (tl z) e1 = true then none else some e1))) H' := q
        walk_at "run"
        rename_i p hp
        first
          | (refine And.intro (by decide +kernel) ?_
             walk_at "run")
          | skip
        have he := rowE_eq e
        have hw : stands (stI (letS ++ Str.ofString "_(")) (tl z) e1 = stands mkW (tl z) e1 := by
          rw [← stands_c ha sI_mk, stands_or, ← he, runE_fin, Bool.or_false]
        refine ⟨z, _, _, rfl, ⟨hl, by decide +kernel⟩, Or.inl ⟨e1, rfl, ?_⟩⟩
        rw [hw]
        walk_at "run"
        cases h4 : stands mkW (tl z) e1 <;> rw [h4] at q <;> exact ⟨_, _, _, _, rfl, rfl, SqL.of upd_same, rfl, q _ (same_upd hp)⟩

theorem ok_law_columns (T : Txt K mg w) : FnOk P w K mg base CX0 3 T.a_law_columns T.d_law_columns P_law_columns (sp_law_columns K) := by
  refine T.F_law_columns.ok sc_law_columns (fun vs H Q E h => ?_) (fun cdv A outer s H vs Q E hr h => ?_)
  · obtain ⟨z, i, rfl, _⟩ := h
    rfl
  · obtain ⟨z, i, rfl, ⟨hi, hl, ha⟩, q⟩ := h
    refine ⟨_, (pss_cons (ps_set (i := 2) sc_law_columns.nd rfl (by first | exact Or.inl rfl | exact Or.inr rfl) (pe_call (ok_law_dollar T) (hr.mono (by decide)) (by rfl) T.g_law_dollar T.F_law_dollar.kp (T.b_law_dollar) .nil pass0 (pa_cons (pv 0) (pa_cons (pv 1) pa_nil))))
    (pss_cons (ps_if (PW.pt (pw_or (pt_not (pt_val (pe_call (ok_law_stands T) (hr.mono (by decide)) (by rfl) T.g_law_stands T.F_law_stands.kp (T.b_law_stands) .nil pass0 (pa_cons (pv 0) (pa_cons (pv 2) (pa_cons pe_str pa_nil)))))) (pw_or1 (pt_not (pt_val (pe_call (ok_law_stands T) (hr.mono (by decide)) (by rfl) T.g_law_stands T.F_law_stands.kp (T.b_law_stands) .nil pass0 (pa_cons (pv 0) (pa_cons (pe_op op_add (pv 2) pe_int) (pa_cons pe_str pa_nil)))))))))
      (pss_one (ps_ret (pe_un un_neg pe_int)))
      pss_nil)
    (pss_cons (ps_set (i := 2) sc_law_columns.nd rfl (by first | exact Or.inl rfl | exact Or.inr rfl) (pe_call (ok_law_dollar T) (hr.mono (by decide)) (by rfl) T.g_law_dollar T.F_law_dollar.kp (T.b_law_dollar) .nil pass0 (pa_cons (pv 0) (pa_cons (pe_op op_add (pv 2) pe_int) pa_nil))))
    (pss_cons (ps_if (pt_not (pt_val (pe_call (ok_law_stands T) (hr.mono (by decide)) (by rfl) T.g_law_stands T.F_law_stands.kp (T.b_law_stands) .nil pass0 (pa_cons (pv 0) (pa_cons (pv 2) (pa_cons pe_str pa_nil))))))
      (pss_one (ps_ret (pe_un un_neg pe_int)))
      pss_nil)
    (pss_one (ps_ret (pe_ix ix_list (pe_lst (pa_cons (pe_op op_add (pv 2) pe_int) (pa_cons (pe_un un_neg pe_int) pa_nil))) (pe_callTy call_int1 (by rfl) T.z_int (by decide +kernel) (pa_cons (pe_call (ok_law_stands T) (hr.mono (by decide)) (by rfl) T.g_law_stands T.F_law_stands.kp (T.b_law_stands) .nil pass0 (pa_cons (pv 0) (pa_cons (pe_op op_add (pv 2) pe_int) (pa_cons (pe_op op_add_str (pe_call0 (ok_law_letters T) (hr.mono (by decide)) (by rfl) T.g_law_letters T.F_law_letters.kp (T.b_law_letters) .nil pass0) pe_str) pa_nil)))) pa_nil)) (fun _ _ => rfl)))))))), ?_⟩
    have hlt := len_tl z
    have hm : markE (tl z) i ≤ z.length := by rw [hlt]; exact markE_le (by omega)
    walk_at "run"
    refine And.intro ⟨hi, hl, ha⟩ ?_
    walk_at "run"
    refine ⟨z, _, _, rfl, ⟨hl, by decide +kernel⟩, Or.inl ⟨markE (tl z) i, rfl, ?_⟩⟩
    rw [stands_c ha sI_co]
    walk_at "run"
    · rename_i h
      have hs : stands isCo (tl z) (markE (tl z) i) = false := by simpa using h
      rw [show columnsE (tl z) i = none from by unfold columnsE; rw [colE_none hs]; rfl] at q
      exact q _ (Same.refl _)
    · rename_i h
      have hs : stands isCo (tl z) (markE (tl z) i) = true := by simpa using h
      have hsl := stands_lt hs
      have hu : columnsE (tl z) i = if stands (· == 58) (tl z) (markE (tl z) i + 1) = true then (colE (tl z) (markE (tl z) i + 2)).bind fun e => if stands (fun c => c == 36 || mkW c) (tl z) e = true then none else some e else none := by
        unfold columnsE
        rw [colE_some hs]
        rfl
      rw [hu] at q
      refine ⟨z, _, _, rfl, ⟨hl, by decide +kernel⟩, Or.inl ⟨markE (tl z) i + 1, rfl, ?_⟩⟩
      rw [stands_c ha sI_colon]
      walk_at "run"
      · rename_i h2
        rw [if_neg (by simpa using h2)] at q
        exact q _ (Same.refl _)
      · rename_i h2
        have hs2 : stands (· == 58) (tl z) (markE (tl z) i + 1) = true := by simpa using h2
        have hsl2 := stands_lt hs2
        rw [if_pos hs2] at q
        have hx : markE (tl z) i + 2 ≤ z.length := by omega
        refine And.intro ⟨hx, hl, ha⟩ ?_
        walk_at "run"
        refine ⟨z, _, _, rfl, ⟨hl, by decide +kernel⟩, Or.inl ⟨markE (tl z) (markE (tl z) i + 2), rfl, ?_⟩⟩
        rw [stands_c ha sI_co]
        walk_at "run"
        · rename_i h3
          have hs3 : stands isCo (tl z) (markE (tl z) (markE (tl z) i + 2)) = false := by simpa using h3
          rw [colE_none hs3] at q
          exact q _ (Same.refl _)
        · rename_i h3 p hp
          have hs3 : stands isCo (tl z) (markE (tl z) (markE (tl z) i + 2)) = true := by simpa using h3
          rw [colE_some hs3] at q
          have q : ∀ H', Same H H' → Q (.int (encE (if stands (fun c => c == 36 || mkW c) (tl z) (markE (tl z) (markE (tl z) i + 2) + 1) = true then none else some (markE (tl z) (markE (tl z) i + 2) + 1)))) H' := q
          first
            | (refine And.intro (by decide +kernel) ?_
               walk_at "run")
            | skip
          refine ⟨z, _, _, rfl, ⟨hl, by decide +kernel⟩, Or.inl ⟨markE (tl z) (markE (tl z) i + 2) + 1, rfl, ?_⟩⟩
          rw [stands_c ha sI_cw]
          walk_at "run"
          cases h4 : stands (fun c => c == 36 || mkW c) (tl z) (markE (tl z) (markE (tl z) i + 2) + 1) <;> rw [h4] at q <;> exact ⟨_, _, _, _, rfl, rfl, SqL.of upd_same, rfl, q _ (same_upd hp)⟩

theorem ok_law_number (T : Txt K mg w) : FnOk P w K mg base CX0 2 T.a_law_number T.d_law_number P_law_number (sp_law_number K) := by
  refine T.F_law_number.ok sc_law_number (fun vs H Q E h => ?_) (fun cdv A outer s H vs Q E hr h => ?_)
  · obtain ⟨z, i, rfl, _⟩ := h
    rfl
  · obtain ⟨z, i, rfl, ⟨hi, hl, ha⟩, q⟩ := h
    refine ⟨_, (pss_cons (ps_set (i := 2) sc_law_number.nd rfl (by first | exact Or.inl rfl | exact Or.inr rfl) (pe_call (ok_law_run T) (hr.mono (by decide)) (by rfl) T.g_law_run T.F_law_run.kp (T.b_law_run) .nil pass0 (pa_cons (pv 0) (pa_cons (pv 1) (pa_cons pe_str pa_nil)))))
    (pss_cons (ps_if (PW.pt (pw_and (pt_cmpR op_gt (pv 2) (pv 1) (by first | exact nomark _ | rfl)) (pw_and (pt_val (pe_call (ok_law_stands T) (hr.mono (by decide)) (by rfl) T.g_law_stands T.F_law_stands.kp (T.b_law_stands) .nil pass0 (pa_cons (pv 0) (pa_cons (pv 2) (pa_cons pe_str pa_nil))))) (pw_and1 (pt_val (pe_call (ok_law_stands T) (hr.mono (by decide)) (by rfl) T.g_law_stands T.F_law_stands.kp (T.b_law_stands) .nil pass0 (pa_cons (pv 0) (pa_cons (pe_op op_add (pv 2) pe_int) (pa_cons pe_str pa_nil)))))))))
      (pss_one (ps_ret (pe_call (ok_law_run T) (hr.mono (by decide)) (by rfl) T.g_law_run T.F_law_run.kp (T.b_law_run) .nil pass0 (pa_cons (pv 0) (pa_cons (pe_op op_add (pv 2) pe_int) (pa_cons pe_str pa_nil))))))
      pss_nil)
    (pss_one (ps_ret (pv 2))))), ?_⟩
    have hlt := len_tl z
    have hr1 := runE_ge isD (tl z) i
    have hr2 : runE isD (tl z) i ≤ z.length := by rw [hlt]; exact runE_le (by omega)
    walk_at "run"
    refine ⟨z, _, i, rfl, ⟨hi, hl, by decide +kernel⟩, ?_⟩
    rw [runE_c ha sI_D]
    walk_at "run"
    · rename_i h0
      refine ⟨z, _, _, rfl, ⟨hl, by decide +kernel⟩, Or.inl ⟨runE isD (tl z) i, rfl, ?_⟩⟩
      rw [stands_c ha sI_dot]
      walk_at "run"
      · rename_i h1
        refine ⟨z, _, _, rfl, ⟨hl, by decide +kernel⟩, Or.inl ⟨runE isD (tl z) i + 1, rfl, ?_⟩⟩
        rw [stands_c ha sI_D]
        walk_at "run"
        · rename_i h2
          have hx := stands_lt h2
          rw [show numE (tl z) i = some (runE isD (tl z) (runE isD (tl z) i + 1)) from (if_neg (by omega)).trans (if_pos ⟨h1, h2⟩)] at q
          refine ⟨z, _, runE isD (tl z) i + 1, rfl, ⟨by omega, hl, by decide +kernel⟩, ?_⟩
          rw [runE_c ha sI_D]
          exact q
        · rename_i h2
          rw [show numE (tl z) i = some (runE isD (tl z) i) from (if_neg (by omega)).trans (if_neg fun k => h2 k.2)] at q
          exact q
      · rename_i h1
        rw [show numE (tl z) i = some (runE isD (tl z) i) from (if_neg (by omega)).trans (if_neg fun k => h1 k.1)] at q
        exact q
    · rename_i h0
      have e : runE isD (tl z) i = i := by omega
      rw [show numE (tl z) i = none from if_pos e] at q
      have q : Q (V.int ((i : Nat) : Int)) H := q
      rw [← e] at q
      exact q

theorem ok_law_is_amount (T : Txt K mg w) : FnOk P w K mg base CX0 1 T.a_law_is_amount T.d_law_is_amount P_law_is_amount (sp_law_is_amount K) := by
  refine T.F_law_is_amount.ok sc_law_is_amount (fun vs H Q E h => ?_) (fun cdv A outer s H vs Q E hr h => ?_)
  · obtain ⟨d, e, p, rfl, _⟩ := h
    rfl
  · obtain ⟨d, e, p, rfl, ⟨hd, he, d0, e0, hdl, hel⟩, q⟩ := h
    refine ⟨_, (pss_cons (ps_asg (pe_bm PySem.F.plainAttrs_str PySem.F.slot_str_partition PySem.F.type_str_partition mt_partition (pv 0) (pa_cons pe_str pa_nil)) (pg_tup (by rfl) (pgs_cons (pg_name (i := 1) sc_law_is_amount.nd rfl (by first | exact Or.inl rfl | exact Or.inr rfl)) (pgs_cons (pg_name (i := 2) sc_law_is_amount.nd rfl (by first | exact Or.inl rfl | exact Or.inr rfl)) (pgs_cons (pg_name (i := 3) sc_law_is_amount.nd rfl (by first | exact Or.inl rfl | exact Or.inr rfl)) pgs_nil)))))
    (pss_cons (ps_if (PW.pt (pw_or (pt_cmpR op_gt (pe_callB call_len_str (by rfl) T.z_len (by decide +kernel) (pa_cons (pv 1) pa_nil)) pe_int (by first | exact nomark _ | rfl)) (pw_or1 (pt_cmpR op_gt (pe_callB call_len_str (by rfl) T.z_len (by decide +kernel) (pa_cons (pv 3) pa_nil)) pe_int (by first | exact nomark _ | rfl)))))
      (pss_one (ps_ret pe_bl))
      pss_nil)
    (pss_one (ps_ret (pe_cmpR op_lt (pe_callTy call_int_str (by rfl) T.z_int (by decide +kernel) (pa_cons (pe_op op_add_str (pv 1) (pe_bm PySem.F.plainAttrs_str PySem.F.slot_str_ljust PySem.F.type_str_ljust mt_ljustF (pv 3) (pa_cons pe_int (pa_cons pe_str pa_nil)))) pa_nil)) (pe_op op_sub (pe_powc (c := 1000000000000000000000000000) (by decide) (by decide +kernel)) pe_int) (by first | exact nomark _ | rfl)))))), ?_⟩
    walk_at "run"
    rw [e_dot, part_amt hd]
    refine And.intro (by rw [SX.S_len, sizeLine_eq]; unfold amtL; rw [List.length_append]; split <;> simp only [List.length_cons, List.length_nil] <;> omega) (fun p0 hp0 => ?_)
    have l1 : (parP d e p).1.length = d.length := SX.S_len d
    have l2 : (parP d e p).2.2.length = if p = true then e.length else 0 := by
      cases p
      · rfl
      · exact SX.S_len e
    have l3 : (parP d e p).2.2.length ≤ 10000 := by rw [l2]; split <;> omega
    have good := amt_good (p := p) hd he d0 e0
    have bad := amt_bad (p := p) hd he d0
    walk_at "run"
    refine And.intro (by rw [l1, sizeLine_eq]; omega) ?_
    walk_at "run"
    · rename_i h
      rw [bad (.inl (by omega))] at q
      exact q _ (same_upd hp0)
    · rename_i h h2
      have h3 : p = true ∧ 12 < e.length := by
        rw [l2] at h2
        cases p
        · exfalso
          rw [if_neg Bool.false_ne_true] at h2
          omega
        · exact ⟨rfl, by rw [if_pos rfl] at h2; omega⟩
      rw [bad (.inr h3)] at q
      exact q _ (same_upd hp0)
    · rename_i h h2
      obtain ⟨g1, g2, g3, g4, g5⟩ := good (by omega) (fun hpt => by rw [l2, if_pos hpt] at h2; omega)
      rw [g5] at q
      refine ⟨_, _, _, 48, rfl, rfl, rfl, rfl, ?_⟩
      walk_at "run"
      refine ⟨_, _, rfl, g1, by omega, ?_⟩
      walk_at "run"
      rw [lt_le] at q
      exact q _ (same_upd hp0)

theorem ok_law_error (T : Txt K mg w) : FnOk P w K mg base CX0 1 T.a_law_error T.d_law_error P_law_error (sp_law_error K) := by
  refine T.F_law_error.ok sc_law_error (fun vs H Q E h => ?_) (fun cdv A outer s H vs Q E hr h => ?_)
  · obtain ⟨z, i, rfl, _⟩ := h
    rfl
  · obtain ⟨z, i, rfl, ⟨hi, hl, ha⟩, q⟩ := h
    refine ⟨_, (pss_cons (ps_if (pt_cmpR op_eq (pe_ix ix_str (pv 0) (pv 1) (fun _ _ => rfl)) pe_str (by first | exact nomark _ | rfl))
      (pss_one (ps_for PassesOwn.never rfl (pi_list (pe_lst (pa_cons pe_str (pa_cons pe_str (pa_cons pe_str (pa_cons pe_str (pa_cons pe_str (pa_cons pe_str (pa_cons pe_str (pa_cons pe_str (pa_cons pe_str pa_nil))))))))))) (pg_name (i := 2) sc_law_error.nd rfl (by first | exact Or.inl rfl | exact Or.inr rfl))
      (pss_one (ps_if (pt_cmpR op_eq (pe_bm0 PySem.F.plainAttrs_str PySem.F.slot_str_upper PySem.F.type_str_upper mt_upper (pe_slice sl_str (pv 0) (po_some (pe_op op_add (pv 1) pe_int)) (po_some (pe_op op_add (pe_op op_add (pv 1) pe_int) (pe_callB call_len_str (by rfl) T.z_len (by decide +kernel) (pa_cons (pv 2) pa_nil)))))) (pe_op op_add_str (pv 2) pe_str) (by first | exact nomark _ | rfl))
      (pss_one (ps_ret (pe_op op_add (pe_op op_add (pv 1) pe_int) (pe_callB call_len_str (by rfl) T.z_len (by decide +kernel) (pa_cons (pv 2) pa_nil)))))
      pss_nil))))
      pss_nil)
    (pss_one (ps_ret (pe_un un_neg pe_int)))), ?_⟩
    have hlt := len_tl z
    have ec : (tl z)[i]? = some ((tl z)[i]'(by omega)) := List.getElem?_eq_getElem (by omega)
    generalize (tl z)[i]'(by omega) = ch at ec
    have eu : (upL (tl z))[i]? = some (up1 ch) := by rw [upL_at, ec]; rfl
    walk_at "run"
    refine ⟨z, _, ch, rfl, rfl, hl1 (by omega), atI_nat ec, ?_⟩
    walk_at "run"
    · rename_i h p hp
      have hch : ch = 35 := (List.cons.inj (SX.S_inj (V.str.inj h))).1
      subst hch
      refine And.intro ⟨_, SqL.of upd_same⟩ (for_it (walk_list (xs := ERW.map V.str)) (fun k σ H' => Hd (Same H H' ∧ H' = upd H p (.lst (ERW.map V.str)) ∧ (∀ j, j < k → ∀ w, ERW[j]? = some w → TL.pre (errS w) ((upL (tl z)).drop i) = false) ∧ ∃ u, σ = [some (.str z), some (.int (i : Nat)), u])) (.mk ⟨same_upd hp, rfl, fun j hj => by omega, _, rfl⟩) (fun _ _ _ _ h => by obtain ⟨_, rfl, _⟩ := h.get; exact SqL.of upd_same) (fun k x σ H1 H2 hi hp hy => ?_) (fun σ H' hp => ?_))
      · obtain ⟨s1, rfl, hn, u, rfl⟩ := hp.get
        obtain ⟨rfl, ex⟩ := hy
        rw [List.getElem?_map] at ex
        obtain ⟨w, ew, rfl⟩ := Option.map_eq_some_iff.mp ex
        dsimp only [gName]
        walk_at "run"
        have hws : w.length ≤ 5 := erw_short w (List.mem_append_left _ (List.mem_of_getElem? ew))
        refine And.intro (by rw [sizeLine_eq]; omega) ?_
        walk_at "run"
        have hsub : ∀ c ∈ sub (tl z) (i + 1) (i + 2 + w.length), c < 128 := fun c hc => ha c (List.mem_of_mem_drop (List.mem_of_mem_take hc))
        have hcut : Txt.upper (cutS z (some ((i : Int) + 1)) (some ((i : Int) + 2 + (w.length : Int)))) = SX.S (sub (upL (tl z)) (i + 1) (i + 2 + w.length)) := by
          rw [show (i : Int) + 1 = ((i + 1 : Nat) : Int) from by omega, show (i : Int) + 2 + (w.length : Int) = ((i + 2 + w.length : Nat) : Int) from by omega, cut_sub, upper_tl (z := SX.S (sub (tl z) (i + 1) (i + 2 + w.length))) hsub, upL_sub]
          rfl
        have hwe : w ++ Str.ofString "!" = SX.S (tl w ++ [33]) := ext_tl (TL.tl_append _ _)
        have hat := errE_at w _ eu
        refine And.intro (Nat.le_trans (cutS_length _ _ _) (by omega)) ?_
        rw [hcut]
        walk_at "run"
        refine And.intro (by rw [show (Str.ofString "!").length = 1 from rfl, sizeLine_eq]; omega) ?_
        rw [hwe]
        walk_at "run"
        · rename_i h2
          have hh : sub (upL (tl z)) (i + 1) (i + 2 + w.length) = tl w ++ [33] := SX.S_inj (V.str.inj h2)
          have q2 := q _ s1
          rw [show errE (upL (tl z)) i = some (i + (w.length + 2)) from congrArg (Option.map _) (find_at ew (by rw [hat, decide_eq_true hh]; rfl) hn), show encE (some (i + (w.length + 2))) = (i : Int) + 2 + (w.length : Int) from by show ((i + (w.length + 2) : Nat) : Int) = _; omega] at q2
          exact q2
        · rename_i h2
          refine Hd.mk ⟨s1, rfl, fun j hj w' hw' => ?_, _, rfl⟩
          by_cases e : j = k
          · subst e
            rw [ew] at hw'
            cases hw'
            rw [hat, decide_eq_false (show ¬ sub (upL (tl z)) (i + 1) (i + 2 + w.length) = tl w ++ [33] from fun hh => h2 (by rw [hh])), Bool.and_false]
          · exact hn j (by omega) w' hw'
      · obtain ⟨s1, rfl, hn, u, rfl⟩ := hp.get
        rw [show errE (upL (tl z)) i = none from congrArg (Option.map _) (find_no fun j hj w hw => hn j (by rw [List.length_map]; exact hj) w hw)] at q
        walk_at "run"
        exact q _ s1
    · rename_i h
      have hch : ¬ ch = 35 := fun e => h (by rw [e]; rfl)
      rw [show errE (upL (tl z)) i = none from congrArg (Option.map _) (find_no fun j hj w hw => by
        rw [errE_at w _ eu, decide_eq_false (fun e => hch (up_eq (.inl (by decide)) e)), Bool.false_and])] at q
      walk_at "run"
      exact q _ (Same.refl _)

theorem ok_law_word (T : Txt K mg w) : FnOk P w K mg base CX0 2 T.a_law_word T.d_law_word P_law_word (sp_law_word K) := by
  refine T.F_law_word.ok sc_law_word (fun vs H Q E h => ?_) (fun cdv A outer s H vs Q E hr h => ?_)
  · obtain ⟨z, i, rfl, _⟩ := h
    rfl
  · obtain ⟨z, i, rfl, ⟨hi, hl, ha⟩, q⟩ := h
    refine ⟨_, (pss_cons (ps_if (pt_not (pt_val (pe_call (ok_law_stands T) (hr.mono (by decide)) (by rfl) T.g_law_stands T.F_law_stands.kp (T.b_law_stands) .nil pass0 (pa_cons (pv 0) (pa_cons (pv 1) (pa_cons (pe_call0 (ok_law_letters T) (hr.mono (by decide)) (by rfl) T.g_law_letters T.F_law_letters.kp (T.b_law_letters) .nil pass0) pa_nil))))))
      (pss_one (ps_ret (pe_un un_neg pe_int)))
      pss_nil)
    (pss_one (ps_ret (pe_call (ok_law_run T) (hr.mono (by decide)) (by rfl) T.g_law_run T.F_law_run.kp (T.b_law_run) .nil pass0 (pa_cons (pv 0) (pa_cons (pv 1) (pa_cons (pe_op op_add_str (pe_call0 (ok_law_letters T) (hr.mono (by decide)) (by rfl) T.g_law_letters T.F_law_letters.kp (T.b_law_letters) .nil pass0) pe_str) pa_nil))))))), ?_⟩
    have hlt := len_tl z
    walk_at "run"
    refine ⟨z, _, _, rfl, ⟨hl, by decide +kernel⟩, Or.inl ⟨i, rfl, ?_⟩⟩
    rw [stands_c ha sI_lt]
    walk_at "run"
    · rename_i h
      rw [show wordE (tl z) i = none from if_neg (by simpa using h)] at q
      exact q
    · rename_i h
      have hs : stands isLt (tl z) i = true := by simpa using h
      rw [show wordE (tl z) i = some (runE gW (tl z) (i + 1)) from if_pos hs, ← runE_step (show stands gW (tl z) i = true from by rw [gW_st, hs]; rfl)] at q
      first
        | (refine And.intro (by decide +kernel) ?_
           walk_at "run")
        | skip
      refine ⟨z, _, i, rfl, ⟨hi, hl, by decide +kernel⟩, ?_⟩
      rw [runE_c ha sI_gW]
      exact q

theorem ok_law_sign (T : Txt K mg w) : FnOk P w K mg base CX0 1 T.a_law_sign T.d_law_sign P_law_sign (sp_law_sign K) := by
  refine T.F_law_sign.ok sc_law_sign (fun vs H Q E h => ?_) (fun cdv A outer s H vs Q E hr h => ?_)
  · obtain ⟨z, i, rfl, _⟩ := h
    rfl
  · obtain ⟨z, i, rfl, ⟨hi, hl, ha⟩, q⟩ := h
    refine ⟨_, (pss_cons (ps_if (pt_cmpR op_in_seq (pe_slice sl_str (pv 0) (po_some (pv 1)) (po_some (pe_op op_add (pv 1) pe_int))) (pe_lst (pa_cons pe_str (pa_cons pe_str (pa_cons pe_str pa_nil)))) (by first | exact nomark _ | rfl))
      (pss_one (ps_ret (pe_op op_add (pv 1) pe_int)))
      pss_nil)
    (pss_one (ps_ret (pe_op op_add (pv 1) (pe_callTy call_int1 (by rfl) T.z_int (by decide +kernel) (pa_cons (pe_cmpR op_in_sign (pe_ix ix_str (pv 0) (pv 1) (fun _ _ => rfl)) pe_str (by first | exact nomark _ | rfl)) pa_nil)))))), ?_⟩
    have hlt := len_tl z
    have ec : (tl z)[i]? = some ((tl z)[i]'(by omega)) := List.getElem?_eq_getElem (by omega)
    generalize (tl z)[i]'(by omega) = ch at ec
    walk_at "run"
    rename_i p hp
    refine ⟨_, _, rfl, .inl (SqL.of upd_same), rfl, rfl, ?_⟩
    have e2 : cutS z (some (i : Int)) (some ((i : Int) + 2)) = SX.S ((((tl z).drop i).take 2)) := by
      rw [show (i : Int) + 2 = ((i + 2 : Nat) : Int) from by omega, cut_sub]
      unfold sub
      rw [Nat.add_sub_cancel_left]
    have hin : inV (.str (cutS z (some (i : Int)) (some ((i : Int) + 2)))) [V.str (Str.ofString "<>"), V.str (Str.ofString "<="), V.str (Str.ofString ">=")] = decide (((tl z).drop i).take 2 = [60, 62] ∨ ((tl z).drop i).take 2 = [60, 61] ∨ ((tl z).drop i).take 2 = [62, 61]) := by
      rw [e2]
      refine (inV_S _ [Str.ofString "<>", Str.ofString "<=", Str.ofString ">="]).trans (decide_eq_decide.mpr ?_)
      have a1 : tl (Str.ofString "<>") = [60, 62] := by decide +kernel
      have a2 : tl (Str.ofString "<=") = [60, 61] := by decide +kernel
      have a3 : tl (Str.ofString ">=") = [62, 61] := by decide +kernel
      constructor
      · rintro ⟨w, hw, h⟩
        rcases List.mem_cons.mp hw with rfl | hw
        · exact .inl (h.symm.trans a1)
        rcases List.mem_cons.mp hw with rfl | hw
        · exact .inr (.inl (h.symm.trans a2))
        · cases List.mem_singleton.mp hw
          exact .inr (.inr (h.symm.trans a3))
      · rintro (h | h | h)
        · exact ⟨_, List.mem_cons_self .., a1.trans h.symm⟩
        · exact ⟨_, List.mem_cons_of_mem _ (List.mem_cons_self ..), a2.trans h.symm⟩
        · exact ⟨_, List.mem_cons_of_mem _ (List.mem_cons_of_mem _ (List.mem_cons_self ..)), a3.trans h.symm⟩
    refine ⟨_, rfl, ?_⟩
    show if (inV (.str (cutS z (some (i : Int)) (some ((i : Int) + 2)))) [V.str (Str.ofString "<>"), V.str (Str.ofString "<="), V.str (Str.ofString ">=")]) = true then _ else _
    rw [hin]
    refine ite2 (fun h1 => ?_) (fun h1 => ?_)
    · rw [show signE (tl z) i = some (i + 2) from if_pos (of_decide_eq_true h1)] at q
      walk_at "run"
      exact q _ (same_upd hp)
    · walk_at "run"
      refine ⟨z, _, ch, rfl, rfl, hl1 (by omega), atI_nat ec, ?_⟩
      walk_at "run"
      have hs : stands isSg (tl z) i = decide (ch ∈ (Str.ofString "+-*/^&=<>(){},;:!").cps.toList) := by
        rw [stands_some ec]
        exact (sI_sg ch (ha ch (List.mem_of_getElem? ec))).symm
      cases h : decide (ch ∈ (Str.ofString "+-*/^&=<>(){},;:!").cps.toList)
      · rw [h] at hs
        rw [show signE (tl z) i = none from (if_neg (by simpa using h1)).trans (if_neg (by rw [hs]; exact Bool.false_ne_true))] at q
        exact q _ (same_upd hp)
      · rw [h] at hs
        rw [show signE (tl z) i = some (i + 1) from (if_neg (by simpa using h1)).trans (if_pos hs)] at q
        exact q _ (same_upd hp)

theorem ok_law_quoted (T : Txt K mg w) : FnOk P w K mg base CX0 2 T.a_law_quoted T.d_law_quoted P_law_quoted (sp_law_quoted K) := by
  refine T.F_law_quoted.ok sc_law_quoted (fun vs H Q E h => ?_) (fun cdv A outer s H vs Q E hr h => ?_)
  · obtain ⟨z, i, rfl, _⟩ := h
    rfl
  · obtain ⟨z, i, rfl, ⟨hi, hl, ha⟩, q⟩ := h
    refine ⟨_, (pss_cons (ps_set (i := 2) sc_law_quoted.nd rfl (by first | exact Or.inl rfl | exact Or.inr rfl) pe_str)
    (pss_cons (ps_set (i := 3) sc_law_quoted.nd rfl (by first | exact Or.inl rfl | exact Or.inr rfl) (pe_op op_add (pv 1) pe_int))
    (pss_cons (ps_for PassesOwn.never rfl (pi_range1 (by rfl) T.z_range (pa_cons (pe_callB call_len_str (by rfl) T.z_len (by decide +kernel) (pa_cons (pv 0) pa_nil)) pa_nil)) (pg_name (i := 4) sc_law_quoted.nd rfl (by first | exact Or.inl rfl | exact Or.inr rfl))
      (pss_cons (ps_if (pt_cmpR op_ge (pv 3) (pe_callB call_len_str (by rfl) T.z_len (by decide +kernel) (pa_cons (pv 0) pa_nil)) (by first | exact nomark _ | rfl))
      (pss_one (ps_ret (pe_tup (pa_cons pe_str (pa_cons (pe_callB call_len_str (by rfl) T.z_len (by decide +kernel) (pa_cons (pv 0) pa_nil)) (pa_cons (pe_callB call_len_str (by rfl) T.z_len (by decide +kernel) (pa_cons (pv 0) pa_nil)) (pa_cons pe_str pa_nil)))))))
      pss_nil)
    (pss_one (ps_if (pt_cmpR op_ne (pe_ix ix_str (pv 0) (pv 3) (fun _ _ => rfl)) pe_str (by first | exact nomark _ | rfl))
      (pss_cons (ps_set (i := 2) sc_law_quoted.nd rfl (by first | exact Or.inl rfl | exact Or.inr rfl) (pe_op op_add_str (pv 2) (pe_ix ix_str (pv 0) (pv 3) (fun _ _ => rfl))))
    (pss_one (ps_set (i := 3) sc_law_quoted.nd rfl (by first | exact Or.inl rfl | exact Or.inr rfl) (pe_op op_add (pv 3) pe_int))))
      (pss_one (ps_if (pt_val (pe_call (ok_law_stands T) (hr.mono (by decide)) (by rfl) T.g_law_stands T.F_law_stands.kp (T.b_law_stands) .nil pass0 (pa_cons (pv 0) (pa_cons (pe_op op_add (pv 3) pe_int) (pa_cons pe_str pa_nil)))))
      (pss_cons (ps_set (i := 2) sc_law_quoted.nd rfl (by first | exact Or.inl rfl | exact Or.inr rfl) (pe_op op_add_str (pv 2) pe_str))
    (pss_one (ps_set (i := 3) sc_law_quoted.nd rfl (by first | exact Or.inl rfl | exact Or.inr rfl) (pe_op op_add (pv 3) pe_int))))
      (pss_one (ps_ret (pe_ix ix_list (pe_lst (pa_cons (pe_tup (pa_cons pe_str (pa_cons (pv 1) (pa_cons (pe_op op_add (pv 3) pe_int) (pa_cons (pv 2) pa_nil))))) (pa_cons (pe_tup (pa_cons pe_str (pa_cons (pv 1) (pa_cons (pv 1) (pa_cons pe_str pa_nil))))) pa_nil))) (pe_callTy call_int1 (by rfl) T.z_int (by decide +kernel) (pa_cons (pe_cmpR op_gt (pe_callB call_len_str (by rfl) T.z_len (by decide +kernel) (pa_cons (pv 2) pa_nil)) pe_int (by first | exact nomark _ | rfl)) pa_nil)) (fun _ _ => rfl))))))))))
    (pss_one (ps_ret (pe_tup (pa_cons pe_str (pa_cons (pe_callB call_len_str (by rfl) T.z_len (by decide +kernel) (pa_cons (pv 0) pa_nil)) (pa_cons (pe_callB call_len_str (by rfl) T.z_len (by decide +kernel) (pa_cons (pv 0) pa_nil)) (pa_cons pe_str pa_nil)))))))))), ?_⟩
    have hlt := len_tl z
    walk_at "run"
    refine for_range (lo := 0) (n := (z.length : Int).toNat) (fun k σ H' => Hd (H' = H ∧ ∃ (p : Nat) (s : List Nat) (u : Option V), σ = [some (.str z), some (.int (i : Nat)), some (.str (SX.S s)), some (.int (p : Nat)), u] ∧ (i + 1 + k ≤ p ∧ p ≤ z.length) ∧ Units (sub (tl z) (i + 1) p) s)) (.mk ⟨rfl, i + 1, [], none, rfl, ⟨by omega, by omega⟩, by unfold sub; rw [Nat.sub_self, List.take_zero]; exact .nil⟩) (fun k σ H' hk hp => ?_) (fun σ H' hp => ?_)
    · obtain ⟨rfl, p, s, u, rfl, ⟨p1, p2⟩, un⟩ := hp.get
      have usl := un.len
      have hsl : (SX.S s).length ≤ 10000 := by
        rw [sub_len (by omega) (by omega)] at usl
        rw [SX.S_len]
        omega
      dsimp only [gName]
      walk_at "run"
      · rename_i h pt hpt
        rw [quote_none (qs_end (by omega) (by omega) un), ← hlt] at q
        exact q _ _ (same_upd hpt) (SqT.of upd_same)
      · rename_i h
        have ec : (tl z)[p]? = some ((tl z)[p]'(by omega)) := List.getElem?_eq_getElem (by omega)
        generalize (tl z)[p]'(by omega) = ch at ec
        refine ⟨z, _, ch, rfl, rfl, hl1 (by omega), atI_nat ec, ?_⟩
        walk_at "run"
        · rename_i h2
          refine ⟨z, _, ch, rfl, rfl, hl1 (by omega), atI_nat ec, ?_⟩
          walk_at "run"
          have hc : ch ≠ 34 := fun e => nb h2 (by rw [e, c_quote])
          refine Hd.mk ⟨rfl, p + 1, s ++ [ch], _, by rw [S_snoc]; rfl, ⟨by omega, by omega⟩, ?_⟩
          rw [sub_snoc (by omega) ec]
          exact un.app (.one hc .nil)
        · rename_i h2
          have hc : ch = 34 := (List.cons.inj (SX.S_inj (V.str.inj ((nb2 h2).trans (by rw [c_quote]))))).1
          have hs : stands (· == 34) (tl z) p = true := by
            rw [stands_some ec, hc]
            rfl
          walk_at "run"
          refine ⟨z, _, _, rfl, ⟨hl, by decide +kernel⟩, Or.inl ⟨p + 1, rfl, ?_⟩⟩
          rw [stands_c ha sI_quote]
          walk_at "run"
          · rename_i h3
            have h3l := stands_lt h3
            first
              | (refine And.intro (by rw [c_quote, show (SX.S [34]).length = 1 from rfl, sizeLine_eq]; omega) ?_
                 walk_at "run")
              | skip
            refine Hd.mk ⟨rfl, p + 2, s ++ [34], _, by rw [c_quote, show SX.S s ++ SX.S [34] = SX.S (s ++ [34]) from S_cat _ _]; rfl, ⟨by omega, by omega⟩, ?_⟩
            exact units_more (by omega) hs h3 un
          · rename_i h3 p3 hp3 p4 hp4 p5 hp5
            rw [quote_end (by omega) hs (by simpa using h3) un] at q
            have hsl2 : (SX.S s).length = s.length := SX.S_len s
            by_cases h64 : 64 < s.length
            · rw [if_pos h64] at q
              rw [decide_eq_true (show (64 : Int) < ((SX.S s).length : Int) by omega)]
              exact ⟨_, _, _, _, rfl, rfl, SqL.of upd_same, rfl, q _ _ (((same_upd hp3).trans (same_upd hp4)).trans (same_upd hp5)) (same_tk (same_upd hp5) _ _ (SqT.of upd_same))⟩
            · rw [if_neg h64] at q
              rw [decide_eq_false (show ¬ (64 : Int) < ((SX.S s).length : Int) by omega)]
              exact ⟨_, _, _, _, rfl, rfl, SqL.of upd_same, rfl, q _ _ (((same_upd hp3).trans (same_upd hp4)).trans (same_upd hp5)) (same_tk (same_upd hp5) _ _ (same_tk (same_upd hp4) _ _ (SqT.of upd_same)))⟩
    · obtain ⟨rfl, p, s, u, rfl, ⟨p1, p2⟩, un⟩ := hp.get
      exfalso
      omega

theorem ok_law_token (T : Txt K mg w) : FnOk P w K mg base CX0 4 T.a_law_token T.d_law_token P_law_token (sp_law_token K) := by
  refine T.F_law_token.ok sc_law_token (fun vs H Q E h => ?_) (fun cdv A outer s H vs Q E hr h => ?_)
  · obtain ⟨z, i, rfl, _⟩ := h
    rfl
  · obtain ⟨z, i, rfl, ⟨hi, hl, ha⟩, q⟩ := h
    refine ⟨_, (pss_cons (ps_if (pt_cmpR op_eq (pe_ix ix_str (pv 0) (pv 1) (fun _ _ => rfl)) pe_str (by first | exact nomark _ | rfl))
      (pss_one (ps_ret (pe_call (ok_law_quoted T) (hr.mono (by decide)) (by rfl) T.g_law_quoted T.F_law_quoted.kp (T.b_law_quoted) .nil pass0 (pa_cons (pv 0) (pa_cons (pv 1) pa_nil)))))
      pss_nil)
    (pss_cons (ps_set (i := 2) sc_law_token.nd rfl (by first | exact Or.inl rfl | exact Or.inr rfl) (pe_lst (pa_cons (pe_tup (pa_cons pe_str (pa_cons (pe_call (ok_law_error T) (hr.mono (by decide)) (by rfl) T.g_law_error T.F_law_error.kp (T.b_law_error) .nil pass0 (pa_cons (pv 0) (pa_cons (pv 1) pa_nil))) pa_nil))) (pa_cons (pe_tup (pa_cons pe_str (pa_cons (pe_call (ok_law_rows T) (hr.mono (by decide)) (by rfl) T.g_law_rows T.F_law_rows.kp (T.b_law_rows) .nil pass0 (pa_cons (pv 0) (pa_cons (pv 1) pa_nil))) pa_nil))) (pa_cons (pe_tup (pa_cons pe_str (pa_cons (pe_call (ok_law_number T) (hr.mono (by decide)) (by rfl) T.g_law_number T.F_law_number.kp (T.b_law_number) .nil pass0 (pa_cons (pv 0) (pa_cons (pv 1) pa_nil))) pa_nil))) pa_nil)))))
    (pss_cons (ps_set (i := 2) sc_law_token.nd rfl (by first | exact Or.inl rfl | exact Or.inr rfl) (pe_op op_cat (pv 2) (pe_lst (pa_cons (pe_tup (pa_cons pe_str (pa_cons (pe_call (ok_law_cell T) (hr.mono (by decide)) (by rfl) T.g_law_cell T.F_law_cell.kp (T.b_law_cell) .nil pass0 (pa_cons (pv 0) (pa_cons (pv 1) pa_nil))) pa_nil))) (pa_cons (pe_tup (pa_cons pe_str (pa_cons (pe_call (ok_law_columns T) (hr.mono (by decide)) (by rfl) T.g_law_columns T.F_law_columns.kp (T.b_law_columns) .nil pass0 (pa_cons (pv 0) (pa_cons (pv 1) pa_nil))) pa_nil))) (pa_cons (pe_tup (pa_cons pe_str (pa_cons (pe_call (ok_law_word T) (hr.mono (by decide)) (by rfl) T.g_law_word T.F_law_word.kp (T.b_law_word) .nil pass0 (pa_cons (pv 0) (pa_cons (pv 1) pa_nil))) pa_nil))) pa_nil))))))
    (pss_cons (ps_for PassesOwn.never rfl (pi_list (pe_op op_cat (pv 2) (pe_lst (pa_cons (pe_tup (pa_cons pe_str (pa_cons (pe_call (ok_law_sign T) (hr.mono (by decide)) (by rfl) T.g_law_sign T.F_law_sign.kp (T.b_law_sign) .nil pass0 (pa_cons (pv 0) (pa_cons (pv 1) pa_nil))) pa_nil))) pa_nil)))) (pg_tup (by rfl) (pgs_cons (pg_name (i := 3) sc_law_token.nd rfl (by first | exact Or.inl rfl | exact Or.inr rfl)) (pgs_cons (pg_name (i := 4) sc_law_token.nd rfl (by first | exact Or.inl rfl | exact Or.inr rfl)) pgs_nil)))
      (pss_one (ps_if (pt_cmpR op_gt (pv 4) (pv 1) (by first | exact nomark _ | rfl))
      (pss_cons (ps_if (PW.pt (pw_or (PW.pt (pw_and (pt_cmpR op_eq (pv 3) pe_str (by first | exact nomark _ | rfl)) (pw_and1 (pt_not (pt_val (pe_call (ok_law_is_amount T) (hr.mono (by decide)) (by rfl) T.g_law_is_amount T.F_law_is_amount.kp (T.b_law_is_amount) .nil pass0 (pa_cons (pe_slice sl_str (pv 0) (po_some (pv 1)) (po_some (pv 4))) pa_nil))))))) (pw_or1 (PW.pt (pw_and (pt_cmpR op_eq (pv 3) pe_str (by first | exact nomark _ | rfl)) (pw_and1 (pt_cmpR op_gt (pv 4) (pe_op op_add (pv 1) pe_int) (by first | exact nomark _ | rfl))))))))
      (pss_one (ps_ret (pe_tup (pa_cons pe_str (pa_cons (pv 1) (pa_cons (pv 1) (pa_cons pe_str pa_nil)))))))
      pss_nil)
    (pss_one (ps_ret (pe_tup (pa_cons (pv 3) (pa_cons (pv 1) (pa_cons (pv 4) (pa_cons (pe_bm0 PySem.F.plainAttrs_str PySem.F.slot_str_upper PySem.F.type_str_upper mt_upper (pe_slice sl_str (pv 0) (po_some (pv 1)) (po_some (pv 4)))) pa_nil))))))))
      pss_nil)))
    (pss_one (ps_ret (pe_tup (pa_cons pe_str (pa_cons (pv 1) (pa_cons (pv 1) (pa_cons pe_str pa_nil))))))))))), ?_⟩
    have hlt := len_tl z
    have ec : (tl z)[i]? = some ((tl z)[i]'(by omega)) := List.getElem?_eq_getElem (by omega)
    generalize (tl z)[i]'(by omega) = ch at ec
    have hi2 : i ≤ z.length := Nat.le_of_lt hi
    walk_at "run"
    refine ⟨z, _, ch, rfl, rfl, hl1 (by omega), atI_nat ec, ?_⟩
    walk_at "run"
    · rename_i h
      have hc : ch = 34 := (List.cons.inj (SX.S_inj (V.str.inj (h.trans (by rw [c_quote]))))).1
      rw [show tokAt (tl z) (upL (tl z)) i = quoteE (tl z) i from if_pos (by rw [stands_some ec, hc]; rfl)] at q
      exact And.intro ⟨hi, hl, ha⟩ q
    · rename_i h
      have hc : ch ≠ 34 := fun e => h (by rw [e, c_quote])
      rw [show tokAt (tl z) (upL (tl z)) i = pickE (upL (tl z)) i (endK (upL (tl z)) i) from if_neg (by rw [stands_some ec]; simpa using hc)] at q
      refine And.intro ⟨hi, hl, ha⟩ (fun H1 s1 => ?_)
      walk_at "run"
      rename_i pe hpe
      refine And.intro ⟨hi2, hl, ha⟩ ?_
      walk_at "run"
      rename_i pr hpr
      refine And.intro ⟨hi2, hl, ha⟩ ?_
      walk_at "run"
      rename_i pn hpn L1 hL1
      refine And.intro ⟨hi2, hl, ha⟩ (fun H2 s2 => ?_)
      walk_at "run"
      rename_i pc hpc
      refine And.intro ⟨hi2, hl, ha⟩ (fun H3 s3 => ?_)
      walk_at "run"
      rename_i po hpo
      refine And.intro ⟨hi2, hl, ha⟩ ?_
      walk_at "run"
      rename_i pw hpw L2 hL2
      refine ⟨L1, L2, [.ref pe, .ref pr, .ref pn], [.ref pc, .ref po, .ref pw], rfl, rfl, same_upd hL2 _ _ (same_upd hpw _ _ (same_upd hpo _ _ (s3 _ _ (same_upd hpc _ _ (s2 _ _ upd_same))))), upd_same, ?_⟩
      walk_at "run"
      rename_i L3 hL3
      refine And.intro ⟨hi, hl, ha⟩ (fun H4 s4 => ?_)
      walk_at "run"
      rename_i ps hps L4 hL4
      refine ⟨L3, L4, [.ref pe, .ref pr, .ref pn, .ref pc, .ref po, .ref pw], [.ref ps], rfl, rfl, same_upd hL4 _ _ (same_upd hps _ _ (s4 _ _ upd_same)), upd_same, ?_⟩
      walk_at "run"
      rename_i L5 hL5
      have y7 := fun (o : HO) => (same_upd hL4).trans (same_upd (o := o) hL5)
      have y6 := fun (o : HO) => (same_upd hL3).trans (s4.trans ((same_upd hps).trans (y7 o)))
      have y5 := fun (o : HO) => (same_upd hpw).trans ((same_upd hL2).trans (y6 o))
      have y4 := fun (o : HO) => s3.trans ((same_upd hpo).trans (y5 o))
      have y3 := fun (o : HO) => (same_upd hL1).trans (s2.trans ((same_upd hpc).trans (y4 o)))
      have y2 := fun (o : HO) => (same_upd hpn).trans (y3 o)
      have y1 := fun (o : HO) => (same_upd hpr).trans (y2 o)
      have y0 := fun (o : HO) => s1.trans ((same_upd hpe).trans (y1 o))
      have g0 := fun (o : HO) => evq (i := i) (t := ("error", errE (upL (tl z)) i)) (same_tk (K := K) (y1 o) _ _ (SqT.of upd_same)) (ev_enc)
      have g1 := fun (o : HO) => evq (i := i) (t := ("rows", rowsE (upL (tl z)) i)) (same_tk (K := K) (y2 o) _ _ (SqT.of upd_same)) (by rw [rowsE_up ha]; exact ev_enc)
      have g2 := fun (o : HO) => evq (i := i) (t := ("number", numE (upL (tl z)) i)) (same_tk (K := K) (y3 o) _ _ (SqT.of upd_same)) (by rw [numE_up ha]; exact ev_get)
      have g3 := fun (o : HO) => evq (i := i) (t := ("cell", cellE (upL (tl z)) i)) (same_tk (K := K) (y4 o) _ _ (SqT.of upd_same)) (by rw [cellE_up ha]; exact ev_enc)
      have g4 := fun (o : HO) => evq (i := i) (t := ("columns", columnsE (upL (tl z)) i)) (same_tk (K := K) (y5 o) _ _ (SqT.of upd_same)) (by rw [columnsE_up ha]; exact ev_enc)
      have g5 := fun (o : HO) => evq (i := i) (t := ("word", wordE (upL (tl z)) i)) (same_tk (K := K) ((same_upd hL2).trans (y6 o)) _ _ (SqT.of upd_same)) (by rw [wordE_up ha]; exact ev_enc)
      have g6 := fun (o : HO) => evq (i := i) (t := ("sign", signE (upL (tl z)) i)) (same_tk (K := K) (y7 o) _ _ (SqT.of upd_same)) (by rw [signE_up ha]; exact ev_get)
      have hA := fun (o : HO) => A2.cons (g0 o) (A2.cons (g1 o) (A2.cons (g2 o) (A2.cons (g3 o) (A2.cons (g4 o) (A2.cons (g5 o) (A2.cons (g6 o) A2.nil))))))
      refine And.intro ⟨_, SqL.of upd_same⟩ (for_it (walk_list (xs := [.ref pe, .ref pr, .ref pn, .ref pc, .ref po, .ref pw, .ref ps])) (fun k σ H' => Hd (Same H H' ∧ SqL K H' L5 [.ref pe, .ref pr, .ref pn, .ref pc, .ref po, .ref pw, .ref ps] ∧ A2 (EvQ K H' i) [.ref pe, .ref pr, .ref pn, .ref pc, .ref po, .ref pw, .ref ps] (endK (upL (tl z)) i) ∧ pickE (upL (tl z)) i (endK (upL (tl z)) i) = pickE (upL (tl z)) i ((endK (upL (tl z)) i).drop k) ∧ ∃ u1 u2 u3 : Option V, σ = [some (.str z), some (.int (i : Nat)), u1, u2, u3])) (.mk ⟨y0 _, SqL.of upd_same, hA _, rfl, _, _, _, rfl⟩) (fun _ _ _ _ h => h.get.2.1) (fun k x σ H5 H6 hk hp hy => ?_) (fun σ H' hp => ?_))
      · obtain ⟨sH, hLs, hAA, hpk, u1, u2, u3, rfl⟩ := hp.get
        obtain ⟨rfl, ex⟩ := hy
        obtain ⟨⟨kd, o⟩, et, p, v, rfl, hp2, hv⟩ := A2.get hAA ex
        clear hA g0 g1 g2 g3 g4 g5 g6 y0 y1 y2 y3 y4 y5 y6 y7
        have hp2 : SqT K H6 p [.str kd, .int v] := hp2
        have hlu : (upL (tl z)).length = (tl z).length := upL_len _
        refine ⟨p, _, rfl, hp2, rfl, ?_⟩
        cases o with
        | none =>
          have hv : v ≤ (i : Int) := hv
          clear q
          walk_at "run"
          all_goals first
            | (exfalso; omega)
            | exact .mk ⟨sH, hLs, hAA, hpk.trans (pick_none et), _, _, _, rfl⟩
        | some e =>
          have hv : v = (e : Int) := hv
          subst hv
          have hb := endK_ok (u := upL (tl z)) (i := i) (by omega) kd e (List.mem_of_getElem? et)
          rw [hpk, pick_some et] at q
          have hup : Txt.upper (cutS z (some (i : Int)) (some (e : Int))) = SX.S (sub (upL (tl z)) i e) := by
            rw [cut_sub, upper_tl (z := SX.S (sub (tl z) i e)) (fun c hc => ha c (List.mem_of_mem_drop (List.mem_of_mem_take hc))), upL_sub]
            rfl
          have hul : (sub (upL (tl z)) i e).length = e - i := sub_len (by omega) (by omega)
          have tok : badK kd (sub (upL (tl z)) i e) = false → ∀ (pt : Addr) (H' : Hp), Same H H' → SqT K H' pt [.str kd, .int (i : Nat), .int (e : Nat), .str (Txt.upper (cutS z (some (i : Int)) (some (e : Int))))] → Q (.ref pt) H' := fun hb' pt H' s h => by
            rw [if_neg (by rw [hb']; exact Bool.false_ne_true)] at q
            rw [hup] at h
            exact q pt H' s h
          have flt : badK kd (sub (upL (tl z)) i e) = true → ∀ (pt : Addr) (H' : Hp), Same H H' → SqT K H' pt [.str (Str.ofString "fault"), .int (i : Nat), .int (i : Nat), .str (Str.ofString "")] → Q (.ref pt) H' := fun hb' pt H' s h => by
            rw [if_pos hb'] at q
            exact q pt H' s h
          have hcl : (cutS z (some (i : Int)) (some (e : Int))).length ≤ 5592405 := Nat.le_trans (cutS_length _ _ _) (by omega)
          clear q hpk hAA hLs hp2
          walk_at "run"
          · rename_i h0 h
            obtain rfl : kd = Str.ofString "number" := V.str.inj h
            have hn : numE (tl z) i = some e := by
              rw [← numE_up ha]
              exact endK_num (List.mem_of_getElem? et)
            obtain ⟨d, e', p', hs, hd, he, d0, e0, dl, el⟩ := num_parts (by omega) hn
            rw [cut_sub, hs]
            have hbk : badK (Str.ofString "number") (sub (upL (tl z)) i e) = decide (readV (SX.S (amtL d e' p')) = .non) := by
              rw [upL_sub, hs, upL_amt hd he]
              exact badK_num
            refine ⟨d, e', p', rfl, ⟨hd, he, d0, e0, by omega, by omega⟩, fun H7 s7 => ?_⟩
            cases hr : decide (readV (SX.S (amtL d e' p')) = .non)
            · rw [hr] at hbk
              walk_at "run"
              rename_i pt hpt
              exact tok hbk _ _ ((sH.trans s7).trans (same_upd hpt)) (SqT.of upd_same)
            · rw [hr] at hbk
              walk_at "run"
              rename_i pt hpt
              exact flt hbk _ _ ((sH.trans s7).trans (same_upd hpt)) (SqT.of upd_same)
          · rename_i h0 h1 h2 h3 pt hpt
            obtain rfl : kd = Str.ofString "word" := V.str.inj h2
            exact flt (badK_word.trans (decide_eq_true (by omega))) _ _ (sH.trans (same_upd hpt)) (SqT.of upd_same)
          · rename_i h0 h1 h2 h3 pt hpt
            obtain rfl : kd = Str.ofString "word" := V.str.inj h2
            exact tok (badK_word.trans (decide_eq_false (by omega))) _ _ (sH.trans (same_upd hpt)) (SqT.of upd_same)
          · rename_i h0 h1 h2 pt hpt
            exact tok (badK_no (fun e => h1 (congrArg V.str e)) (fun e => h2 (congrArg V.str e))) _ _ (sH.trans (same_upd hpt)) (SqT.of upd_same)
          · exfalso
            omega
      · obtain ⟨sH, hLs, hAA, hpk, u1, u2, u3, rfl⟩ := hp.get
        walk_at "run"
        rename_i pt hpt
        rw [hpk] at q
        have q : ∀ (p : Addr) (H' : Hp), Same H H' → SqT K H' p (lawTk (.fault i)) → Q (.ref p) H' := q
        exact q pt _ (sH.trans (same_upd hpt)) (SqT.of upd_same)

theorem ok_law_formed (T : Txt K mg w) : FnOk P w K mg base CX0 3 T.a_law_formed T.d_law_formed P_law_formed (sp_law_formed K) := by
  refine T.F_law_formed.ok sc_law_formed (fun vs H Q E h => ?_) (fun cdv A outer s H vs Q E hr h => ?_)
  · obtain ⟨b, c, f, rfl, _⟩ := h
    rfl
  · obtain ⟨b, c, f, rfl, hb, hf, q⟩ := h
    refine ⟨_, (pss_cons (ps_set (i := 2) sc_law_formed.nd rfl (by first | exact Or.inl rfl | exact Or.inr rfl) pe_str)
    (pss_cons (ps_for PassesOwn.never rfl (pi_str (pv 1)) (pg_name (i := 3) sc_law_formed.nd rfl (by first | exact Or.inl rfl | exact Or.inr rfl))
      (pss_one (ps_if (pt_cmpR op_eq (pv 3) pe_str (by first | exact nomark _ | rfl))
      (pss_one (ps_set (i := 2) sc_law_formed.nd rfl (by first | exact Or.inl rfl | exact Or.inr rfl) (pe_op op_add_str (pv 2) (pe_ix ix_str (pe_call0 (ok_law_signs T) (hr.mono (by decide)) (by rfl) T.g_law_signs T.F_law_signs.kp (T.b_law_signs) .nil pass0) (pe_call (ok_law_take T) (hr.mono (by decide)) (by rfl) T.g_law_take T.F_law_take.kp (T.b_law_take) .nil pass0 (pa_cons (pv 0) (pa_cons pe_int pa_nil))) (fun _ _ => rfl)))))
      (pss_one (ps_if (pt_cmpR op_eq (pv 3) pe_str (by first | exact nomark _ | rfl))
      (pss_one (ps_set (i := 2) sc_law_formed.nd rfl (by first | exact Or.inl rfl | exact Or.inr rfl) (pe_op op_add_str (pv 2) (pe_ix ix_str (pe_op op_add_str (pe_call0 (ok_law_letters T) (hr.mono (by decide)) (by rfl) T.g_law_letters T.F_law_letters.kp (T.b_law_letters) .nil pass0) pe_str) (pe_call (ok_law_take T) (hr.mono (by decide)) (by rfl) T.g_law_take T.F_law_take.kp (T.b_law_take) .nil pass0 (pa_cons (pv 0) (pa_cons pe_int pa_nil))) (fun _ _ => rfl)))))
      (pss_one (ps_if (pt_cmpR op_eq (pv 3) pe_str (by first | exact nomark _ | rfl))
      (pss_one (ps_set (i := 2) sc_law_formed.nd rfl (by first | exact Or.inl rfl | exact Or.inr rfl) (pe_op op_add_str (pv 2) (pe_ix ix_str pe_str (pe_call (ok_law_take T) (hr.mono (by decide)) (by rfl) T.g_law_take T.F_law_take.kp (T.b_law_take) .nil pass0 (pa_cons (pv 0) (pa_cons pe_int pa_nil))) (fun _ _ => rfl)))))
      (pss_one (ps_if (pt_cmpR op_eq (pv 3) pe_str (by first | exact nomark _ | rfl))
      (pss_one (ps_set (i := 2) sc_law_formed.nd rfl (by first | exact Or.inl rfl | exact Or.inr rfl) (pe_op op_add_str (pv 2) (pe_ix ix_str (pe_call0 (ok_law_letters T) (hr.mono (by decide)) (by rfl) T.g_law_letters T.F_law_letters.kp (T.b_law_letters) .nil pass0) (pe_call (ok_law_take T) (hr.mono (by decide)) (by rfl) T.g_law_take T.F_law_take.kp (T.b_law_take) .nil pass0 (pa_cons (pv 0) (pa_cons pe_int pa_nil))) (fun _ _ => rfl)))))
      (pss_one (ps_if (pt_cmpR op_eq (pv 3) pe_str (by first | exact nomark _ | rfl))
      (pss_one (ps_set (i := 2) sc_law_formed.nd rfl (by first | exact Or.inl rfl | exact Or.inr rfl) (pe_op op_add_str (pv 2) (pe_ix ix_str pe_str (pe_call (ok_law_take T) (hr.mono (by decide)) (by rfl) T.g_law_take T.F_law_take.kp (T.b_law_take) .nil pass0 (pa_cons (pv 0) (pa_cons pe_int pa_nil))) (fun _ _ => rfl)))))
      (pss_one (ps_if (pt_cmpR op_eq (pv 3) pe_str (by first | exact nomark _ | rfl))
      (pss_one (ps_set (i := 2) sc_law_formed.nd rfl (by first | exact Or.inl rfl | exact Or.inr rfl) (pe_op op_add_str (pv 2) (pe_ix ix_list (pe_lst (pa_cons pe_str (pa_cons pe_str pa_nil))) (pe_call (ok_law_take T) (hr.mono (by decide)) (by rfl) T.g_law_take T.F_law_take.kp (T.b_law_take) .nil pass0 (pa_cons (pv 0) (pa_cons pe_int pa_nil))) (fun _ _ => rfl)))))
      (pss_one (ps_if (pt_cmpR op_eq (pv 3) pe_str (by first | exact nomark _ | rfl))
      (pss_one (ps_set (i := 2) sc_law_formed.nd rfl (by first | exact Or.inl rfl | exact Or.inr rfl) (pe_op op_add_str (pe_op op_add_str (pv 2) (pe_ix ix_list (pe_lst (pa_cons pe_str (pa_cons pe_str (pa_cons pe_str (pa_cons pe_str pa_nil))))) (pe_call (ok_law_take T) (hr.mono (by decide)) (by rfl) T.g_law_take T.F_law_take.kp (T.b_law_take) .nil pass0 (pa_cons (pv 0) (pa_cons pe_int pa_nil))) (fun _ _ => rfl))) (pe_callTy call_str_int (by rfl) T.z_str (by decide +kernel) (pa_cons (pe_call (ok_law_take T) (hr.mono (by decide)) (by rfl) T.g_law_take T.F_law_take.kp (T.b_law_take) .nil pass0 (pa_cons (pv 0) (pa_cons pe_int pa_nil))) pa_nil)))))
      (pss_one (ps_set (i := 2) sc_law_formed.nd rfl (by first | exact Or.inl rfl | exact Or.inr rfl) (pe_op op_add_str (pv 2) (pv 3)))))))))))))))))))
    (pss_one (ps_ret (pv 2))))), ?_⟩
    walk_at "run"
    refine for_it (walk_str (z := f)) (fun k σ H' => Hd (Bp K b c H H' ∧ ∃ (s : Str) (u : Option V), σ = [some (.ref b), some (.str f), some (.str s), u] ∧ Asc s ∧ s.length ≤ 3 * k)) (.mk ⟨Bp.refl hb, _, none, rfl, by unfold Asc; decide +kernel, by decide +kernel⟩) (fun _ _ _ _ _ => trivial) (fun k x σ H1 H2 hk hp hy => ?_) (fun σ H' hp => ?_)
    · obtain ⟨b0, s, u, rfl, ha, hl⟩ := hp.get
      obtain ⟨rfl, ch, ech, rfl⟩ := hy
      have hk2 : k < 40 := Nat.lt_of_lt_of_le hk hf.2
      have hch : ch < 128 := hf.1 ch (List.mem_of_getElem? (by rw [← Array.getElem?_toList] at ech; exact ech))
      dsimp only [gName]
      walk_at "run"
      · intro zs lzs azs
        walk_at "run"
        rename_i n3 H3 b3 h30 h31
        refine ixS_asc azs (by omega) h30 (by omega) fun c' hc' => ?_
        have hz : s.length + (SX.S [c']).length ≤ sizeLine := by rw [sizeLine_eq]; show _ + 1 ≤ _; omega
        walk_at "run"
        exact Hd.mk ⟨b0.trans b3, _, _, rfl, Asc.cat (a := s) ha (Asc.one hc'), by rw [Str.length_append]; show _ + 1 ≤ _; omega⟩
      · refine And.intro (by decide +kernel) ?_
        walk_at "run"
        rename_i n3 H3 b3 h30 h31
        refine ixS_asc (by unfold Asc; decide +kernel) (by decide +kernel) h30 (by rw [show (letS ++ Str.ofString "0123456789_.").length = 64 from by decide +kernel]; exact h31) fun c' hc' => ?_
        have hz : s.length + (SX.S [c']).length ≤ sizeLine := by rw [sizeLine_eq]; show _ + 1 ≤ _; omega
        walk_at "run"
        exact Hd.mk ⟨b0.trans b3, _, _, rfl, Asc.cat (a := s) ha (Asc.one hc'), by rw [Str.length_append]; show _ + 1 ≤ _; omega⟩
      · rename_i n3 H3 b3 h30 h31
        refine ixS_asc (by unfold Asc; decide +kernel) (by decide +kernel) h30 (by rw [show (Str.ofString "0123456789").length = 10 from by decide +kernel]; exact h31) fun c' hc' => ?_
        have hz : s.length + (SX.S [c']).length ≤ sizeLine := by rw [sizeLine_eq]; show _ + 1 ≤ _; omega
        walk_at "run"
        exact Hd.mk ⟨b0.trans b3, _, _, rfl, Asc.cat (a := s) ha (Asc.one hc'), by rw [Str.length_append]; show _ + 1 ≤ _; omega⟩
      · rename_i n3 H3 b3 h30 h31
        refine ixS_asc (by unfold Asc; decide +kernel) (by decide +kernel) h30 (by rw [show letS.length = 52 from by decide +kernel]; exact h31) fun c' hc' => ?_
        have hz : s.length + (SX.S [c']).length ≤ sizeLine := by rw [sizeLine_eq]; show _ + 1 ≤ _; omega
        walk_at "run"
        exact Hd.mk ⟨b0.trans b3, _, _, rfl, Asc.cat (a := s) ha (Asc.one hc'), by rw [Str.length_append]; show _ + 1 ≤ _; omega⟩
      · rename_i n3 H3 b3 h30 h31
        refine ixS_asc (by unfold Asc; decide +kernel) (by decide +kernel) h30 (by rw [show (Str.ofString "ABCDEFGHIJKZabcdefghijkz").length = 24 from by decide +kernel]; exact h31) fun c' hc' => ?_
        have hz : s.length + (SX.S [c']).length ≤ sizeLine := by rw [sizeLine_eq]; show _ + 1 ≤ _; omega
        walk_at "run"
        exact Hd.mk ⟨b0.trans b3, _, _, rfl, Asc.cat (a := s) ha (Asc.one hc'), by rw [Str.length_append]; show _ + 1 ≤ _; omega⟩
      · rename_i p hp n3 H3 b3 h30 h31
        refine pick (zs := [Str.ofString "", Str.ofString "$"]) (m := 1) (b3.lst (by walk_at "bat") upd_same) h30 h31 (by unfold Asc; decide +kernel) fun w aw lw => ?_
        have hz : s.length + w.length ≤ sizeLine := by rw [sizeLine_eq]; omega
        walk_at "run"
        exact Hd.mk ⟨(b0.new hp).trans b3, _, _, rfl, Asc.cat (a := s) ha aw, by rw [Str.length_append]; omega⟩
      · rename_i p hp n3 H3 b3 h30 h31
        refine pick (zs := [Str.ofString "", Str.ofString "", Str.ofString "", Str.ofString "0"]) (m := 1) (b3.lst (by walk_at "bat") upd_same) h30 h31 (by unfold Asc; decide +kernel) fun w aw lw => ?_
        have hz : s.length + w.length ≤ sizeLine := by rw [sizeLine_eq]; omega
        walk_at "run"
        rename_i n4 H4 b4 h40 h41
        obtain ⟨an, ln⟩ := asc_num2 h40 (by omega)
        refine And.intro (by rw [Str.length_append, sizeLine_eq]; omega) ?_
        walk_at "run"
        exact Hd.mk ⟨((b0.new hp).trans b3).trans b4, _, _, rfl, Asc.cat (Asc.cat (a := s) ha aw) an, by rw [Str.length_append, Str.length_append]; omega⟩
      · exact Hd.mk ⟨b0, _, _, rfl, Asc.cat (a := s) ha (Asc.one hch), by rw [Str.length_append]; show _ + 1 ≤ _; omega⟩
    · obtain ⟨b0, s, u, rfl, ha, hl⟩ := hp.get
      walk_at "run"
      exact q _ _ b0 ha hl

theorem ok_law_text_piece (T : Txt K mg w) : FnOk P w K mg base CX0 3 T.a_law_text_piece T.d_law_text_piece P_law_text_piece (sp_law_text_piece K) := by
  refine T.F_law_text_piece.ok sc_law_text_piece (fun vs H Q E h => ?_) (fun cdv A outer s H vs Q E hr h => ?_)
  · obtain ⟨b, c, rfl, _⟩ := h
    rfl
  · obtain ⟨b, c, rfl, hb, q⟩ := h
    refine ⟨_, (pss_cons (ps_set (i := 1) sc_law_text_piece.nd rfl (by first | exact Or.inl rfl | exact Or.inr rfl) (pe_call (ok_law_take T) (hr.mono (by decide)) (by rfl) T.g_law_take T.F_law_take.kp (T.b_law_take) .nil pass0 (pa_cons (pv 0) (pa_cons pe_int pa_nil))))
    (pss_cons (ps_if (pt_cmpR op_eq (pe_call (ok_law_take T) (hr.mono (by decide)) (by rfl) T.g_law_take T.F_law_take.kp (T.b_law_take) .nil pass0 (pa_cons (pv 0) (pa_cons pe_int pa_nil))) pe_int (by first | exact nomark _ | rfl))
      (pss_one (ps_set (i := 1) sc_law_text_piece.nd rfl (by first | exact Or.inl rfl | exact Or.inr rfl) (pe_call (ok_law_take T) (hr.mono (by decide)) (by rfl) T.g_law_take T.F_law_take.kp (T.b_law_take) .nil pass0 (pa_cons (pv 0) (pa_cons pe_int pa_nil)))))
      pss_nil)
    (pss_cons (ps_set (i := 2) sc_law_text_piece.nd rfl (by first | exact Or.inl rfl | exact Or.inr rfl) pe_str)
    (pss_cons (ps_for PassesOwn.never rfl (pi_range1 (by rfl) T.z_range (pa_cons (pv 1) pa_nil)) (pg_name (i := 3) sc_law_text_piece.nd rfl (by first | exact Or.inl rfl | exact Or.inr rfl))
      (pss_cons (ps_set (i := 4) sc_law_text_piece.nd rfl (by first | exact Or.inl rfl | exact Or.inr rfl) (pe_ix ix_str (pe_call0 (ok_law_signs T) (hr.mono (by decide)) (by rfl) T.g_law_signs T.F_law_signs.kp (T.b_law_signs) .nil pass0) (pe_call (ok_law_take T) (hr.mono (by decide)) (by rfl) T.g_law_take T.F_law_take.kp (T.b_law_take) .nil pass0 (pa_cons (pv 0) (pa_cons pe_int pa_nil))) (fun _ _ => rfl)))
    (pss_cons (ps_if (pt_cmpR op_eq (pv 4) pe_str (by first | exact nomark _ | rfl))
      (pss_one (ps_set (i := 4) sc_law_text_piece.nd rfl (by first | exact Or.inl rfl | exact Or.inr rfl) pe_str))
      pss_nil)
    (pss_one (ps_set (i := 2) sc_law_text_piece.nd rfl (by first | exact Or.inl rfl | exact Or.inr rfl) (pe_op op_add_str (pv 2) (pv 4)))))))
    (pss_one (ps_ret (pe_op op_add_str (pv 2) (pe_ix ix_list (pe_lst (pa_cons pe_str (pa_cons pe_str pa_nil))) (pe_callTy call_int1 (by rfl) T.z_int (by decide +kernel) (pa_cons (pe_cmpR op_gt (pe_call (ok_law_take T) (hr.mono (by decide)) (by rfl) T.g_law_take T.F_law_take.kp (T.b_law_take) .nil pass0 (pa_cons (pv 0) (pa_cons pe_int pa_nil))) pe_int (by first | exact nomark _ | rfl)) pa_nil)) (fun _ _ => rfl))))))))), ?_⟩
    refine seq_merge2 (C := (fun σ' H' => Hd (∃ n : Int, Bp K b c H H' ∧ (0 ≤ n ∧ n ≤ 67) ∧ σ' = [some (.ref b), some (.int n), none, none, none]))) ?tail ?rest
    case rest =>
      intro R tail
      walk_at "run"
      all_goals exact tail _ _ (.mk ⟨_, by walk_at "bx", ⟨by omega, by omega⟩, rfl⟩)
    case tail =>
      intro σ H1 hc
      obtain ⟨n, b1, hn, rfl⟩ := hc.get
      walk_at "run"
      refine for_range (lo := 0) (n := n.toNat) (fun k σ H' => Hd (Bp K b c H H' ∧ ∃ (s : Str) (u v : Option V), σ = [some (.ref b), some (.int n), some (.str s), u, v] ∧ Asc s ∧ s.length ≤ 1 + 2 * k)) (.mk ⟨b1, _, none, none, rfl, by unfold Asc; decide +kernel, by decide +kernel⟩) (fun k σ H' hk hp => ?_) (fun σ H' hp => ?_)
      · obtain ⟨b2, s, u, v, rfl, ha, hl⟩ := hp.get
        dsimp only [gName]
        walk_at "run"
        intro zs lzs azs
        walk_at "run"
        rename_i n3 H3 b3 h30 h31
        refine ixS_asc azs (by omega) h30 (by omega) fun ch hch => ?_
        walk_at "run"
        · refine And.intro (by rw [c_quotes, show (SX.S [34, 34]).length = 2 from rfl, sizeLine_eq]; omega) ?_
          walk_at "run"
          exact Hd.mk ⟨b2.trans b3, _, _, _, rfl, Asc.cat (a := s) ha (by unfold Asc; decide +kernel), by rw [Str.length_append, c_quotes]; show _ + 2 ≤ _; omega⟩
        · exact Hd.mk ⟨b2.trans b3, _, _, _, rfl, Asc.cat (a := s) ha (Asc.one hch), by rw [Str.length_append]; show _ + 1 ≤ _; omega⟩
      · obtain ⟨b2, s, u, v, rfl, ha, hl⟩ := hp.get
        walk_at "run"
        rename_i p hp n3 H3 b3 h30 h31
        refine atI_go (SqL.of (b3.lst (by walk_at "bat") upd_same)) (by split <;> omega) (by show _ < (2 : Int); split <;> omega) fun v hv => ?_
        obtain ⟨w, ⟨hw, lw⟩, rfl⟩ : ∃ w : Str, (Asc w ∧ w.length ≤ 1) ∧ V.str w = v := by
          rcases List.mem_cons.mp hv with rfl | hv
          · exact ⟨_, ⟨by unfold Asc; decide +kernel, by decide +kernel⟩, rfl⟩
          · exact ⟨_, ⟨by unfold Asc; decide +kernel, by decide +kernel⟩, (List.mem_singleton.mp hv).symm⟩
        clear hv
        have hz : s.length + w.length ≤ sizeLine := by rw [sizeLine_eq]; omega
        walk_at "run"
        exact q _ _ (by walk_at "bx") (Asc.cat (a := s) ha hw) (by rw [Str.length_append]; omega)

theorem ok_law_piece (T : Txt K mg w) : FnOk P w K mg base CX0 4 T.a_law_piece T.d_law_piece P_law_piece (sp_law_piece K) := by
  refine T.F_law_piece.ok sc_law_piece (fun vs H Q E h => ?_) (fun cdv A outer s H vs Q E hr h => ?_)
  · obtain ⟨b, c, rfl, _⟩ := h
    rfl
  · obtain ⟨b, c, rfl, hb, q⟩ := h
    refine ⟨_, (pss_cons (ps_set (i := 1) sc_law_piece.nd rfl (by first | exact Or.inl rfl | exact Or.inr rfl) (pe_call (ok_law_take T) (hr.mono (by decide)) (by rfl) T.g_law_take T.F_law_take.kp (T.b_law_take) .nil pass0 (pa_cons (pv 0) (pa_cons pe_int pa_nil))))
    (pss_cons (ps_if (pt_cmpR op_eq (pv 1) pe_int (by first | exact nomark _ | rfl))
      (pss_one (ps_ret (pe_call (ok_law_formed T) (hr.mono (by decide)) (by rfl) T.g_law_formed T.F_law_formed.kp (T.b_law_formed) .nil pass0 (pa_cons (pv 0) (pa_cons pe_str pa_nil)))))
      pss_nil)
    (pss_cons (ps_if (pt_cmpR op_eq (pv 1) pe_int (by first | exact nomark _ | rfl))
      (pss_one (ps_ret (pe_call (ok_law_formed T) (hr.mono (by decide)) (by rfl) T.g_law_formed T.F_law_formed.kp (T.b_law_formed) .nil pass0 (pa_cons (pv 0) (pa_cons (pe_op op_add_str pe_str (pe_op op_repS pe_str (pe_call (ok_law_take T) (hr.mono (by decide)) (by rfl) T.g_law_take T.F_law_take.kp (T.b_law_take) .nil pass0 (pa_cons (pv 0) (pa_cons pe_int pa_nil))))) pa_nil)))))
      pss_nil)
    (pss_cons (ps_if (pt_cmpR op_eq (pv 1) pe_int (by first | exact nomark _ | rfl))
      (pss_cons (ps_set (i := 2) sc_law_piece.nd rfl (by first | exact Or.inl rfl | exact Or.inr rfl) (pe_op op_repS pe_str (pe_op op_add pe_int (pe_call (ok_law_take T) (hr.mono (by decide)) (by rfl) T.g_law_take T.F_law_take.kp (T.b_law_take) .nil pass0 (pa_cons (pv 0) (pa_cons pe_int pa_nil))))))
    (pss_cons (ps_if (pt_cmpR op_eq (pe_call (ok_law_take T) (hr.mono (by decide)) (by rfl) T.g_law_take T.F_law_take.kp (T.b_law_take) .nil pass0 (pa_cons (pv 0) (pa_cons pe_int pa_nil))) pe_int (by first | exact nomark _ | rfl))
      (pss_one (ps_set (i := 2) sc_law_piece.nd rfl (by first | exact Or.inl rfl | exact Or.inr rfl) (pe_op op_add_str (pe_op op_add_str (pv 2) pe_str) (pe_op op_repS pe_str (pe_call (ok_law_take T) (hr.mono (by decide)) (by rfl) T.g_law_take T.F_law_take.kp (T.b_law_take) .nil pass0 (pa_cons (pv 0) (pa_cons pe_int pa_nil)))))))
      pss_nil)
    (pss_one (ps_ret (pe_call (ok_law_formed T) (hr.mono (by decide)) (by rfl) T.g_law_formed T.F_law_formed.kp (T.b_law_formed) .nil pass0 (pa_cons (pv 0) (pa_cons (pv 2) pa_nil)))))))
      pss_nil)
    (pss_cons (ps_if (pt_cmpR op_eq (pv 1) pe_int (by first | exact nomark _ | rfl))
      (pss_one (ps_ret (pe_op op_add_str (pe_op op_add_str pe_str (pe_op op_repS pe_str (pe_op op_add pe_int (pe_call (ok_law_take T) (hr.mono (by decide)) (by rfl) T.g_law_take T.F_law_take.kp (T.b_law_take) .nil pass0 (pa_cons (pv 0) (pa_cons pe_int pa_nil)))))) (pe_callTy call_str_int (by rfl) T.z_str (by decide +kernel) (pa_cons (pe_call (ok_law_take T) (hr.mono (by decide)) (by rfl) T.g_law_take T.F_law_take.kp (T.b_law_take) .nil pass0 (pa_cons (pv 0) (pa_cons pe_int pa_nil))) pa_nil)))))
      pss_nil)
    (pss_cons (ps_if (pt_cmpR op_lt (pv 1) pe_int (by first | exact nomark _ | rfl))
      (pss_one (ps_ret (pe_call (ok_law_formed T) (hr.mono (by decide)) (by rfl) T.g_law_formed T.F_law_formed.kp (T.b_law_formed) .nil pass0 (pa_cons (pv 0) (pa_cons (pe_ix ix_list (pe_lst (pa_cons pe_str (pa_cons pe_str (pa_cons pe_str (pa_cons pe_str (pa_cons pe_str (pa_cons pe_str pa_nil))))))) (pe_call (ok_law_take T) (hr.mono (by decide)) (by rfl) T.g_law_take T.F_law_take.kp (T.b_law_take) .nil pass0 (pa_cons (pv 0) (pa_cons pe_int pa_nil))) (fun _ _ => rfl)) pa_nil)))))
      pss_nil)
    (pss_cons (ps_if (pt_cmpR op_eq (pv 1) pe_int (by first | exact nomark _ | rfl))
      (pss_one (ps_ret (pe_call (ok_law_text_piece T) (hr.mono (by decide)) (by rfl) T.g_law_text_piece T.F_law_text_piece.kp (T.b_law_text_piece) .nil pass0 (pa_cons (pv 0) pa_nil))))
      pss_nil)
    (pss_cons (ps_if (pt_cmpR op_eq (pv 1) pe_int (by first | exact nomark _ | rfl))
      (pss_cons (ps_set (i := 3) sc_law_piece.nd rfl (by first | exact Or.inl rfl | exact Or.inr rfl) (pe_lst (pa_cons pe_str (pa_cons pe_str (pa_cons pe_str (pa_cons pe_str (pa_cons pe_str (pa_cons pe_str (pa_cons pe_str (pa_cons pe_str (pa_cons pe_str (pa_cons pe_str (pa_cons pe_str (pa_cons pe_str (pa_cons pe_str pa_nil)))))))))))))))
    (pss_one (ps_ret (pe_op op_add_str (pe_op op_add_str pe_str (pe_ix ix_list (pv 3) (pe_call (ok_law_take T) (hr.mono (by decide)) (by rfl) T.g_law_take T.F_law_take.kp (T.b_law_take) .nil pass0 (pa_cons (pv 0) (pa_cons pe_int pa_nil))) (fun _ _ => rfl))) (pe_ix ix_list (pe_lst (pa_cons pe_str (pa_cons pe_str (pa_cons pe_str (pa_cons pe_str pa_nil))))) (pe_call (ok_law_take T) (hr.mono (by decide)) (by rfl) T.g_law_take T.F_law_take.kp (T.b_law_take) .nil pass0 (pa_cons (pv 0) (pa_cons pe_int pa_nil))) (fun _ _ => rfl))))))
      pss_nil)
    (pss_cons (ps_if (pt_cmpR op_eq (pv 1) pe_int (by first | exact nomark _ | rfl))
      (pss_one (ps_ret (pe_op op_repS pe_str (pe_op op_add pe_int (pe_call (ok_law_take T) (hr.mono (by decide)) (by rfl) T.g_law_take T.F_law_take.kp (T.b_law_take) .nil pass0 (pa_cons (pv 0) (pa_cons pe_int pa_nil)))))))
      pss_nil)
    (pss_cons (ps_set (i := 4) sc_law_piece.nd rfl (by first | exact Or.inl rfl | exact Or.inr rfl) (pe_lst (pa_cons pe_str (pa_cons pe_str (pa_cons pe_str (pa_cons pe_str (pa_cons pe_str (pa_cons pe_str (pa_cons pe_str (pa_cons pe_str (pa_cons pe_str (pa_cons pe_str (pa_cons pe_str (pa_cons pe_str (pa_cons pe_str (pa_cons pe_str (pa_cons pe_str (pa_cons pe_str (pa_cons pe_str (pa_cons pe_str (pa_cons pe_str (pa_cons pe_str pa_nil))))))))))))))))))))))
    (pss_one (ps_ret (pe_ix ix_list (pv 4) (pe_call (ok_law_take T) (hr.mono (by decide)) (by rfl) T.g_law_take T.F_law_take.kp (T.b_law_take) .nil pass0 (pa_cons (pv 0) (pa_cons pe_int pa_nil))) (fun _ _ => rfl)))))))))))))), ?_⟩
    walk_at "run"
    · refine ⟨_, _, _, rfl, (by walk_at "bat"), ⟨by unfold Asc; decide +kernel, by decide +kernel⟩, fun z H' b2 az lz => ?_⟩
      exact q _ _ (by walk_at "bx") az (Nat.le_trans lz (by decide +kernel))
    · rename_i n2 H2 b2 h20 h21
      have hr : (repS (Str.ofString "w") n2.toNat).length = n2.toNat := rep_one (c := 119)
      have h1 : (Str.ofString "l").length = 1 := rfl
      refine And.intro (by rw [hr, h1, sizeLine_eq]; omega) ?_
      walk_at "run"
      refine ⟨_, _, _, rfl, (by walk_at "bat"), ⟨Asc.cat (by unfold Asc; decide +kernel) (Asc.rep (by unfold Asc; decide +kernel)), by rw [Str.length_append, hr, h1]; omega⟩, fun z H' b3 az lz => ?_⟩
      exact q _ _ (by walk_at "bx") az (by rw [Str.length_append, hr, h1] at lz; omega)
    · rename_i n2 H2 b2 h20 h21 n3 H3 b3 h30 h31 hx
      have hr : (repS (Str.ofString "f") (1 + n2).toNat).length = (1 + n2).toNat := rep_one (c := 102)
      have h1 : (Str.ofString ".").length = 1 := rfl
      refine And.intro (by rw [hr, h1, sizeLine_eq]; omega) ?_
      walk_at "run"
      rename_i n4 H4 b4 h40 h41
      have hr2 : (repS (Str.ofString "f") n4.toNat).length = n4.toNat := rep_one (c := 102)
      have h2 : (repS (Str.ofString "f") (1 + n2).toNat ++ Str.ofString ".").length = (1 + n2).toNat + 1 := by rw [Str.length_append, hr, h1]
      refine And.intro (by rw [h2, hr2, sizeLine_eq]; omega) ?_
      walk_at "run"
      refine ⟨_, _, _, rfl, (by walk_at "bat"), ⟨Asc.cat (Asc.cat (Asc.rep (by unfold Asc; decide +kernel)) (by unfold Asc; decide +kernel)) (Asc.rep (by unfold Asc; decide +kernel)), by rw [Str.length_append, h2, hr2]; omega⟩, fun z H' b5 az lz => ?_⟩
      exact q _ _ (by walk_at "bx") az (by rw [Str.length_append, h2, hr2] at lz; omega)
    · rename_i n2 H2 b2 h20 h21 n3 H3 b3 h30 h31 hx
      have hr : (repS (Str.ofString "f") (1 + n2).toNat).length = (1 + n2).toNat := rep_one (c := 102)
      refine ⟨_, _, _, rfl, (by walk_at "bat"), ⟨Asc.rep (by unfold Asc; decide +kernel), by rw [hr]; omega⟩, fun z H' b4 az lz => ?_⟩
      exact q _ _ (by walk_at "bx") az (by rw [hr] at lz; omega)
    · rename_i n2 H2 b2 h20 h21
      have hr : (repS (Str.ofString "9") (5 + n2).toNat).length = (5 + n2).toNat := rep_one (c := 57)
      have h1 : (Str.ofString "999999999999999.").length = 16 := by decide +kernel
      refine And.intro (by rw [hr, h1, sizeLine_eq]; omega) ?_
      walk_at "run"
      rename_i n4 H4 b4 h40 h41
      obtain ⟨an, ln⟩ := asc_num h40 (by omega)
      have h2 : (Str.ofString "999999999999999." ++ repS (Str.ofString "9") (5 + n2).toNat).length = 16 + (5 + n2).toNat := by rw [Str.length_append, hr, h1]
      refine And.intro (by rw [h2, sizeLine_eq]; omega) ?_
      exact q _ _ (by walk_at "bx") (Asc.cat (Asc.cat (by unfold Asc; decide +kernel) (Asc.rep (by unfold Asc; decide +kernel))) an) (by rw [Str.length_append, h2]; omega)
    · rename_i p hp n2 H2 b2 h20 h21
      refine pick (zs := [Str.ofString "dadn", Str.ofString "dn:dn", Str.ofString "da:da", Str.ofString "n", Str.ofString "a", Str.ofString "a:dadn"]) (m := 6) (b2.lst (by walk_at "bat") upd_same) h20 h21 (by unfold Asc; decide +kernel) fun w aw lw => ?_
      walk_at "run"
      first
        | (rename_i z H' b5 az lz
           exact q _ _ (by walk_at "bx") az (by omega))
        | (refine ⟨_, _, _, rfl, (by walk_at "bat"), ⟨aw, by omega⟩, fun z H' b5 az lz => ?_⟩
           exact q _ _ (by walk_at "bx") az (by omega))
    · rename_i z H2 b2 az lz
      exact q _ _ (by walk_at "bx") az lz
    · rename_i p hp n2 H2 b2 h20 h21
      refine pick (zs := [Str.ofString "DIV", Str.ofString "VALUE", Str.ofString "REF", Str.ofString "NAME", Str.ofString "NUM", Str.ofString "NA", Str.ofString "CALC", Str.ofString "SIZE", Str.ofString "LIMIT", Str.ofString "CIRC", Str.ofString "div", Str.ofString "Na", Str.ofString "N"]) (m := 5) (b2.lst (by walk_at "bat") upd_same) h20 h21 (by unfold Asc; decide +kernel) fun w aw lw => ?_
      have h1 : (Str.ofString "#").length = 1 := rfl
      have hz : (Str.ofString "#").length + w.length ≤ sizeLine := by rw [h1, sizeLine_eq]; omega
      walk_at "run"
      rename_i p4 hp4 n4 H4 b4 h40 h41
      refine pick (zs := [Str.ofString "!", Str.ofString "!", Str.ofString "!", Str.ofString ""]) (m := 1) (b4.lst (by walk_at "bat") upd_same) h40 h41 (by unfold Asc; decide +kernel) fun w2 aw2 lw2 => ?_
      have hz2 : (Str.ofString "#" ++ w).length + w2.length ≤ sizeLine := by rw [Str.length_append, h1, sizeLine_eq]; omega
      walk_at "run"
      exact q _ _ (by walk_at "bx") (Asc.cat (Asc.cat (by unfold Asc; decide +kernel) aw) aw2) (by rw [Str.length_append, Str.length_append, h1]; omega)
    · rename_i n2 H2 b2 h20 h21
      have hr : (repS (Str.ofString " ") (1 + n2).toNat).length = (1 + n2).toNat := rep_one (c := 32)
      exact q _ _ (by walk_at "bx") (Asc.rep (by unfold Asc; decide +kernel)) (by rw [hr]; omega)
    · rename_i p hp n2 H2 b2 h20 h21
      refine pick (zs := [Str.ofString "+", Str.ofString "-", Str.ofString "*", Str.ofString "/", Str.ofString "^", Str.ofString "&", Str.ofString "=", Str.ofString "<", Str.ofString ">", Str.ofString "<>", Str.ofString "<=", Str.ofString ">=", Str.ofString "(", Str.ofString ")", Str.ofString "{", Str.ofString "}", Str.ofString ",", Str.ofString ";", Str.ofString ":", Str.ofString "!"]) (m := 2) (b2.lst (by walk_at "bat") upd_same) h20 h21 (by unfold Asc; decide +kernel) fun w aw lw => ?_
      exact q _ _ (by walk_at "bx") aw (by omega)

theorem ok_law_is_integer (T : Txt K mg w) : FnOk P w K mg base CX0 1 T.a_law_is_integer T.d_law_is_integer P_law_is_integer (sp_law_is_integer K) := by
  refine T.F_law_is_integer.ok sc_law_is_integer (fun vs H Q E h => ?_) (fun cdv A outer s H vs Q E hr h => ?_)
  · obtain ⟨i, rfl, _⟩ := h
    rfl
  · obtain ⟨i, rfl, q⟩ := h
    refine ⟨_, (pss_one (ps_ret (pe_and (pe_callB call_isiV (by rfl) T.z_isinstance (by decide +kernel) (pa_cons (pv 0) (pa_cons (pe_bltn (v := .ty "int") (by rfl) T.z_int (by decide +kernel) rfl) pa_nil))) (pe_one (pe_not (pe_callB call_isiV (by rfl) T.z_isinstance (by decide +kernel) (pa_cons (pv 0) (pa_cons (pe_bltn (v := .ty "bool") (by rfl) T.z_bool (by decide +kernel) rfl) pa_nil)))))))), ?_⟩
    walk_at "run"
    exact q
theorem okH_law_is_integer (T : Txt K mg w) : L2H.FnH P w K mg base CX0 1 T.a_law_is_integer T.d_law_is_integer P_law_is_integer (sp_law_is_integer K) := by
  refine okHot T.F_law_is_integer sc_law_is_integer (fun vs H Q E h => ?_) (fun cdv A outer s H vs Q E p hot hr h => ?_)
  · obtain ⟨i, rfl, _⟩ := h
    rfl
  · obtain ⟨i, rfl, q⟩ := h
    refine ⟨_, (pss_one (ps_ret (pe_and (pe_callB call_isiV (by rfl) T.z_isinstance (by decide +kernel) (pa_cons (pv 0) (pa_cons (pe_bltn (v := .ty "int") (by rfl) T.z_int (by decide +kernel) rfl) pa_nil))) (pe_one (pe_not (pe_callB call_isiV (by rfl) T.z_isinstance (by decide +kernel) (pa_cons (pv 0) (pa_cons (pe_bltn (v := .ty "bool") (by rfl) T.z_bool (by decide +kernel) rfl) pa_nil)))))))), ?_⟩
    walk_at "run"
    exact q

theorem ok_law_due (T : Txt K mg w) : FnOk P w K mg base CX0 5 T.a_law_due T.d_law_due P_law_due (sp_law_due K) := by
  refine T.F_law_due.ok sc_law_due (fun vs H Q E h => ?_) (fun cdv A outer s H vs Q E hr h => ?_)
  · obtain ⟨z, rfl, _⟩ := h
    rfl
  · obtain ⟨z, rfl, ⟨h1, hl, ha⟩, q⟩ := h
    refine ⟨_, (pss_cons (ps_set (i := 1) sc_law_due.nd rfl (by first | exact Or.inl rfl | exact Or.inr rfl) (pe_lst pa_nil))
    (pss_cons (ps_set (i := 2) sc_law_due.nd rfl (by first | exact Or.inl rfl | exact Or.inr rfl) (pe_call (ok_law_run T) (hr.mono (by decide)) (by rfl) T.g_law_run T.F_law_run.kp (T.b_law_run) .nil pass0 (pa_cons (pv 0) (pa_cons pe_int (pa_cons pe_str pa_nil)))))
    (pss_cons (ps_for PassesOwn.never rfl (pi_range1 (by rfl) T.z_range (pa_cons (pe_callB call_len_str (by rfl) T.z_len (by decide +kernel) (pa_cons (pv 0) pa_nil)) pa_nil)) (pg_name (i := 3) sc_law_due.nd rfl (by first | exact Or.inl rfl | exact Or.inr rfl))
      (pss_cons (ps_if (pt_cmpR op_ge (pv 2) (pe_callB call_len_str (by rfl) T.z_len (by decide +kernel) (pa_cons (pv 0) pa_nil)) (by first | exact nomark _ | rfl))
      (pss_one (ps_ret (pe_tup (pa_cons (pv 1) (pa_cons (pe_un un_neg pe_int) pa_nil)))))
      pss_nil)
    (pss_cons (ps_set (i := 4) sc_law_due.nd rfl (by first | exact Or.inl rfl | exact Or.inr rfl) (pe_call (ok_law_token T) (hr.mono (by decide)) (by rfl) T.g_law_token T.F_law_token.kp (T.b_law_token) .nil pass0 (pa_cons (pv 0) (pa_cons (pv 2) pa_nil))))
    (pss_cons (ps_if (pt_cmpR op_eq (pe_ix ix_tup (pv 4) pe_int (fun _ _ => rfl)) pe_str (by first | exact nomark _ | rfl))
      (pss_one (ps_ret (pe_tup (pa_cons (pv 1) (pa_cons (pe_ix ix_tup (pv 4) pe_int (fun _ _ => rfl)) pa_nil)))))
      pss_nil)
    (pss_cons (ps_expr (pe_bm PySem.F.plainAttrs_list PySem.F.slot_list_append PySem.F.type_list_append mt_append (pv 1) (pa_cons (pv 4) pa_nil)))
    (pss_one (ps_set (i := 2) sc_law_due.nd rfl (by first | exact Or.inl rfl | exact Or.inr rfl) (pe_call (ok_law_run T) (hr.mono (by decide)) (by rfl) T.g_law_run T.F_law_run.kp (T.b_law_run) .nil pass0 (pa_cons (pv 0) (pa_cons (pe_ix ix_tup (pv 4) pe_int (fun _ _ => rfl)) (pa_cons pe_str pa_nil)))))))))))
    (pss_one (ps_ret (pe_tup (pa_cons (pv 1) (pa_cons (pe_un un_neg pe_int) pa_nil)))))))), ?_⟩
    have hlt := len_tl z
    walk_at "run"
    rename_i d hd
    refine ⟨z, _, 1, rfl, ⟨h1, hl, by decide +kernel⟩, ?_⟩
    rw [runE_c ha sI_blank]
    have hr0 : runE (· == 32) (tl z) 1 ≤ z.length := by rw [hlt]; exact runE_le (by omega)
    walk_at "run"
    refine for_range (lo := 0) (n := (z.length : Int).toNat) (fun i σ H' => Hd (Same H H' ∧ ∃ (k : Nat) (ts : List (Str × Nat × Nat × List Nat)) (xs : List V) (u v : Option V), σ = [some (.str z), some (.ref d), some (.int (k : Nat)), u, v] ∧ (i ≤ k ∧ k ≤ z.length) ∧ H' d = some (.lst xs) ∧ A2 (TkV K H') xs ts ∧ ts.length ≤ i ∧ toksL (tl z) = (ts ++ (toks (tl z) (upL (tl z)) (z.length - i) k).1, (toks (tl z) (upL (tl z)) (z.length - i) k).2))) (.mk ⟨same_upd hd, runE (· == 32) (tl z) 1, [], [], none, none, rfl, ⟨Nat.zero_le _, hr0⟩, upd_same, A2.nil, Nat.le_refl _, ?_⟩) (fun i σ H' hi hp => ?_) (fun σ H' hp => ?_)
    · rw [hlt]
      rfl
    · obtain ⟨s1, k, ts, xs, u, v, rfl, ⟨k1, k2⟩, hx, ax, tk, et⟩ := hp.get
      dsimp only [gName]
      walk_at "run"
      · rename_i h pt hpt
        rw [toks_stop (by omega), List.append_nil] at et
        rw [et] at q
        exact q _ d xs _ (s1.trans (same_upd hpt)) (SqT.of upd_same) (same_upd hpt _ _ hx) (ax.imp fun x t h => h.keep (same_tk (same_upd hpt)))
      · rename_i h
        have hkl : k < (tl z).length := by omega
        have hil : i < z.length := by omega
        have en : z.length - i = (z.length - i - 1) + 1 := by omega
        refine And.intro ⟨by omega, hl, ha⟩ (fun p H2 s2 hp2 => ?_)
        cases e : tokAt (tl z) (upL (tl z)) k with
        | fault a =>
          rw [en, toks_fault hkl e, List.append_nil] at et
          rw [et] at q
          rw [e] at hp2
          have hp2 : SqT K H2 p [.str (Str.ofString "fault"), .int (a : Nat), .int (a : Nat), .str (Str.ofString "")] := hp2
          walk_at "run"
          rename_i pt hpt
          exact q _ d xs _ ((s1.trans s2).trans (same_upd hpt)) (SqT.of upd_same) (same_upd hpt _ _ (s2 _ _ hx)) (ax.imp fun x t h => h.keep ((same_tk s2).trans (same_tk (same_upd hpt))))
        | tok kk a e2 w =>
          have hb := tokAt_ok hkl (upL_len _) e
          have hkk := tokAt_kind e
          rw [en, toks_tok hkl e] at et
          rw [e] at hp2
          have hp2 : SqT K H2 p [.str kk, .int (a : Nat), .int (e2 : Nat), .str (SX.S w)] := hp2
          walk_at "run"
          · rename_i h _ _
            exact absurd (V.str.inj h) hkk
          have hx2 := s2 _ _ hx
          have hr := runE_ge (· == 32) (tl z) e2
          have hrl : runE (· == 32) (tl z) e2 ≤ (tl z).length := runE_le hb.2.2
          have lx := ax.len
          refine ⟨.inl ⟨rfl, _, SqL.of hx2⟩, ?_⟩
          walk_at "run"
          refine ⟨_, _, _, rfl, rfl, hx2, small20000 (by omega), ?_⟩
          have tk2 := lst_tk (K := K) (zs := xs ++ [V.ref p]) hx2
          have hp3 := tk2 _ _ hp2
          walk_at "run"
          refine ⟨z, _, e2, rfl, ⟨by omega, hl, by decide +kernel⟩, ?_⟩
          rw [runE_c ha sI_blank]
          walk_at "run"
          refine .mk ⟨same_put (s1.trans s2) hd, _, ts ++ [(kk, a, e2, w)], _, _, _, rfl, ⟨by omega, by omega⟩, upd_same, A2.snoc (ax.imp fun x t h => h.keep ((same_tk s2).trans tk2)) ⟨p, rfl, hp3⟩, ?_, ?_⟩
          · rw [List.length_append]
            show ts.length + 1 ≤ _
            omega
          · rw [et, show z.length - i - 1 = z.length - (i + 1) from by omega, List.append_assoc]
            rfl
    · obtain ⟨s1, k, ts, xs, u, v, rfl, ⟨k1, k2⟩, hx, ax, tk, et⟩ := hp.get
      rw [toks_stop (by omega), List.append_nil] at et
      rw [et] at q
      walk_at "run"
      rename_i pt hpt
      exact q _ d xs _ (s1.trans (same_upd hpt)) (SqT.of upd_same) (same_upd hpt _ _ hx) (ax.imp fun x t h => h.keep (same_tk (same_upd hpt)))

theorem ok_law_same (T : Txt K mg w) : FnOk P w K mg base CX0 2 T.a_law_same T.d_law_same P_law_same (sp_law_same K) := by
  refine T.F_law_same.ok sc_law_same (fun vs H Q E h => ?_) (fun cdv A outer s H vs Q E hr h => ?_)
  · obtain ⟨p, d, xs, ys, ts, rfl, _⟩ := h
    rfl
  · obtain ⟨p, d, xs, ys, ts, rfl, hp, hd, ax, ay, ⟨hn, hok⟩, q⟩ := h
    refine ⟨_, (pss_cons (ps_if (PW.pt (pw_or (pt_not (pt_val (pe_callB call_isiR (by rfl) T.z_isinstance (by decide +kernel) (pa_cons (pv 0) (pa_cons (pe_bltn (v := .ty "tuple") (by rfl) T.z_tuple (by decide +kernel) rfl) pa_nil))))) (pw_or1 (pt_cmpR op_ne (pe_callB call_len_seq (by rfl) T.z_len (by decide +kernel) (pa_cons (pv 0) pa_nil)) (pe_callB call_len_seq (by rfl) T.z_len (by decide +kernel) (pa_cons (pv 1) pa_nil)) (by first | exact nomark _ | rfl)))))
      (pss_one (ps_ret pe_bl))
      pss_nil)
    (pss_cons (ps_for PassesOwn.never rfl (pi_range1 (by rfl) T.z_range (pa_cons (pe_callB call_len_seq (by rfl) T.z_len (by decide +kernel) (pa_cons (pv 1) pa_nil)) pa_nil)) (pg_name (i := 2) sc_law_same.nd rfl (by first | exact Or.inl rfl | exact Or.inr rfl))
      (pss_cons (ps_set (i := 3) sc_law_same.nd rfl (by first | exact Or.inl rfl | exact Or.inr rfl) (pe_ix ix_tup (pv 0) (pv 2) (fun _ _ => rfl)))
    (pss_cons (ps_if (PW.pt (pw_or (pt_not (pt_val (pe_callB call_isiR (by rfl) T.z_isinstance (by decide +kernel) (pa_cons (pv 3) (pa_cons (pe_bltn (v := .ty "tuple") (by rfl) T.z_tuple (by decide +kernel) rfl) pa_nil))))) (pw_or1 (pt_cmpR op_ne (pe_callB call_len_seq (by rfl) T.z_len (by decide +kernel) (pa_cons (pv 3) pa_nil)) pe_int (by first | exact nomark _ | rfl)))))
      (pss_one (ps_ret pe_bl))
      pss_nil)
    (pss_cons (ps_if (PW.pt (pw_or (pt_not (pt_val (pe_callB call_isiR (by rfl) T.z_isinstance (by decide +kernel) (pa_cons (pe_ix ix_tup (pv 3) pe_int (fun _ _ => rfl)) (pa_cons (pe_bltn (v := .ty "str") (by rfl) T.z_str (by decide +kernel) rfl) pa_nil))))) (pw_or1 (pt_not (pt_val (pe_callB call_isiR (by rfl) T.z_isinstance (by decide +kernel) (pa_cons (pe_ix ix_tup (pv 3) pe_int (fun _ _ => rfl)) (pa_cons (pe_bltn (v := .ty "str") (by rfl) T.z_str (by decide +kernel) rfl) pa_nil))))))))
      (pss_one (ps_ret pe_bl))
      pss_nil)
    (pss_one (ps_if (PW.pt (pw_or (pt_not (pt_val (pe_call (ok_law_is_integer T) (hr.mono (by decide)) (by rfl) T.g_law_is_integer T.F_law_is_integer.kp (T.b_law_is_integer) .nil pass0 (pa_cons (pe_ix ix_tup (pv 3) pe_int (fun _ _ => rfl)) pa_nil)))) (pw_or (pt_not (pt_val (pe_call (ok_law_is_integer T) (hr.mono (by decide)) (by rfl) T.g_law_is_integer T.F_law_is_integer.kp (T.b_law_is_integer) .nil pass0 (pa_cons (pe_ix ix_tup (pv 3) pe_int (fun _ _ => rfl)) pa_nil)))) (pw_or1 (pt_cmpR (op_neD hr.units) (pv 3) (pe_ix ix_list (pv 1) (pv 2) (fun _ _ => rfl)) (by first | exact nomark _ | rfl))))))
      (pss_one (ps_ret pe_bl))
      pss_nil))))))
    (pss_one (ps_ret pe_bl)))), ?_⟩
    have lx := ax.len
    have ly := ay.len
    walk_at "run"
    refine ⟨d, ys, rfl, .inl (SqL.of hd), ?_⟩
    rw [lx, ly]
    walk_at "run"
    all_goals first
      | (rename_i h; exact absurd rfl h)
      | skip
    refine ⟨d, ys, rfl, .inl (SqL.of hd), ?_⟩
    rw [ly]
    walk_at "run"
    refine for_range (lo := 0) (n := ((ts.length : Nat) : Int).toNat) (fun k σ H' => Hd (H' = H ∧ ∃ u v : Option V, σ = [some (.ref p), some (.ref d), u, v])) (.mk ⟨rfl, none, none, rfl⟩) (fun k σ H' hk hq => ?_) (fun σ H' hq => ?_)
    · obtain ⟨rfl, u, v, rfl⟩ := hq.get
      obtain ⟨x, ex⟩ : ∃ x, xs[k]? = some x := ⟨_, List.getElem?_eq_getElem (by omega)⟩
      obtain ⟨y, ey⟩ : ∃ y, ys[k]? = some y := ⟨_, List.getElem?_eq_getElem (by omega)⟩
      obtain ⟨t, et, px, rfl, hpx⟩ := A2.get ax ex
      obtain ⟨t2, et2, py, rfl, hpy⟩ := A2.get ay ey
      rw [et] at et2
      cases et2
      dsimp only [gName]
      walk_at "run"
      refine ⟨p, xs, _, _, rfl, rfl, hp, atI_at (n := k) (by omega) ex, ?_⟩
      walk_at "run"
      refine ⟨d, ys, _, _, rfl, rfl, SqL.of hd, atI_at (n := k) (by omega) ey, ?_⟩
      refine ⟨tkD t, tkD t, dp_tk hpx, dp_tk hpy, shp_tk (hok t (List.mem_of_getElem? et)), shp_tk (hok t (List.mem_of_getElem? et)), ?_⟩
      rw [eqv_tk]
      walk_at "run"
      exact .mk ⟨rfl, _, _, rfl⟩
    · obtain ⟨rfl, u, v, rfl⟩ := hq.get
      walk_at "run"
      exact q _ (Same.refl _)

theorem oklaw (T : Txt K mg w) : FnOk P w K mg base CX0 8 T.alaw T.dlaw Plaw (splaw K) := by
  refine T.Flaw.ok sclaw (fun vs H Q E h => ?_) (fun cdv A outer s H vs Q E hr h => ?_)
  · obtain ⟨_, _, rfl, _⟩ := h
    rfl
  · obtain ⟨a, ns, rfl, hS, hl, q⟩ := h
    refine ⟨_, (pss_cons (ps_set (i := 1) sclaw.nd rfl (by first | exact Or.inl rfl | exact Or.inr rfl) (pe_call (ok_law_pool T) (hr.mono (by decide)) (by rfl) T.g_law_pool T.F_law_pool.kp (T.b_law_pool) .nil pass0 (pa_cons (pv 0) pa_nil)))
    (pss_cons (ps_set (i := 2) sclaw.nd rfl (by first | exact Or.inl rfl | exact Or.inr rfl) (pe_call (ok_law_take T) (hr.mono (by decide)) (by rfl) T.g_law_take T.F_law_take.kp (T.b_law_take) .nil pass0 (pa_cons (pv 1) (pa_cons (pe_ix ix_list (pe_lst (pa_cons pe_int (pa_cons pe_int (pa_cons pe_int pa_nil)))) (pe_call (ok_law_take T) (hr.mono (by decide)) (by rfl) T.g_law_take T.F_law_take.kp (T.b_law_take) .nil pass0 (pa_cons (pv 1) (pa_cons pe_int pa_nil))) (fun _ _ => rfl)) pa_nil))))
    (pss_cons (ps_set (i := 3) sclaw.nd rfl (by first | exact Or.inl rfl | exact Or.inr rfl) pe_str)
    (pss_cons (ps_for PassesOwn.never rfl (pi_range1 (by rfl) T.z_range (pa_cons (pv 2) pa_nil)) (pg_name (i := 4) sclaw.nd rfl (by first | exact Or.inl rfl | exact Or.inr rfl))
      (pss_one (ps_set (i := 3) sclaw.nd rfl (by first | exact Or.inl rfl | exact Or.inr rfl) (pe_op op_add_str (pv 3) (pe_call (ok_law_piece T) (hr.mono (by decide)) (by rfl) T.g_law_piece T.F_law_piece.kp (T.b_law_piece) .nil pass0 (pa_cons (pv 1) pa_nil))))))
    (pss_cons (ps_asg (pe_call (ok_law_due T) (hr.mono (by decide)) (by rfl) T.g_law_due T.F_law_due.kp (T.b_law_due) .nil pass0 (pa_cons (pv 3) pa_nil)) (pg_tup (by rfl) (pgs_cons (pg_name (i := 5) sclaw.nd rfl (by first | exact Or.inl rfl | exact Or.inr rfl)) (pgs_cons (pg_name (i := 6) sclaw.nd rfl (by first | exact Or.inl rfl | exact Or.inr rfl)) pgs_nil))))
    (pss_cons (ps_set (i := 7) sclaw.nd rfl (by first | exact Or.inl rfl | exact Or.inr rfl) (pe_cmpR op_eq (pe_call (ok_law_take T) (hr.mono (by decide)) (by rfl) T.g_law_take T.F_law_take.kp (T.b_law_take) .nil pass0 (pa_cons (pv 1) (pa_cons pe_int pa_nil))) pe_int (by first | exact nomark _ | rfl)))
    (pss_cons (ps_try_asM (tb := _) rfl rfl sclaw.nd takes0N (fun W pn xe tk hown => (pss_one (ps_if (pt_val (pv 7))
      (pss_one (ps_set (i := 8) sclaw.nd rfl (by first | exact Or.inl rfl | exact Or.inr rfl) (pe_callK0S (oktokens T) (hr.mono (by decide)) (by rfl) T.gtokens T.Ftokens.kp (kbtokens_text T) (fun σ => passAtN tk σ) (pk_cons (pv 3) pk_nil))))
      (pss_one (ps_set (i := 8) sclaw.nd rfl (by first | exact Or.inl rfl | exact Or.inr rfl) (pe_callS (oktokens T) (hr.mono (by decide)) (by rfl) T.gtokens T.Ftokens.kp T.btokens (fun σ => passAtN tk σ) (pa_cons (pv 3) pa_nil)))))))
      (.cons (i := 9) rfl rfl ⟨rfl, by decide, Or.inl T.gc_Fault⟩ (fun a oe cls dd pn hz hf => (pss_one (ps_ret (pe_and (pe_callB (call_isX hz.zc hf) (by rfl) T.z_isinstance (by decide +kernel) (pa_cons (pv 9) (pa_cons (pe_glob (v := .ref (clK K "WorkError")) (by rfl) T.gc_WorkError rfl) pa_nil))) (pe_and (L2H.pe_callH (E := fun _ => E0) (okH_law_is_integer T) (room_suite hr (by decide)) (hotC_suite hz hf) (by rfl) T.g_law_is_integer T.F_law_is_integer.kp T.b_law_is_integer (fun _ => pass0A) (pa_cons (pe_xf T.cs_Fault.ox.xf (T.cs_Fault.no "at" (by decide)) hz.zc hf (pv 9)) pa_nil)) (pe_and (pe_cmpR op_ge (pv 6) pe_int (by first | exact nomark _ | rfl)) (pe_one (pe_cmpR op_eq (pe_xf T.cs_Fault.ox.xf (T.cs_Fault.no "at" (by decide)) hz.zc hf (pv 9)) (pv 6) (by first | exact nomark _ | rfl)))))))))
      .nil))
    (pss_one (ps_ret (pe_and (pe_cmpR op_lt (pv 6) pe_int (by first | exact nomark _ | rfl)) (pe_one (pe_call (ok_law_same T) (hr.mono (by decide)) (by rfl) T.g_law_same T.F_law_same.kp (T.b_law_same) .nil pass0 (pa_cons (pv 8) (pa_cons (pv 5) pa_nil)))))))))))))), ?_⟩
    walk_at "run"
    refine ⟨a, ns, rfl, hS, hl, fun b c H1 s1 bx => ?_⟩
    walk_at "run"
    rename_i p hp n1 H2 b2 h0 h1
    refine atI_go (xs := [V.int 4, V.int 12, V.int 61]) (SqL.of (b2.lst (by walk_at "bat") upd_same)) h0 (by show _ < (3 : Int); exact h1) fun v hv => ?_
    obtain ⟨m, ⟨m1, m2⟩, rfl⟩ : ∃ m : Int, (1 ≤ m ∧ m ≤ 61) ∧ V.int m = v := by
      rcases List.mem_cons.mp hv with rfl | hv
      · exact ⟨4, by decide, rfl⟩
      rcases List.mem_cons.mp hv with rfl | hv
      · exact ⟨12, by decide, rfl⟩
      · exact ⟨61, by decide, (List.mem_singleton.mp hv).symm⟩
    clear hv
    walk_at "run"
    rename_i n2 H3 b3 h20 h21
    have bx3 := b3.xd
    clear hp b2 b3 bx
    refine for_range (lo := 0) (n := n2.toNat) (fun k σ H' => Hd (Bp K b c H3 H' ∧ ∃ (s : Str) (u : Option V), σ = [some (.ref a), some (.ref b), some (.int n2), some (.str s), u, none, none, none, none, none] ∧ Asc s ∧ 1 ≤ s.length ∧ s.length ≤ 1 + 150 * k)) (.mk ⟨Bp.refl bx3, _, none, rfl, by unfold Asc; decide +kernel, by decide +kernel, by decide +kernel⟩) (fun k σ H' hk hp => ?_) (fun σ H' hp => ?_)
    · obtain ⟨b4, s, u, rfl, az, l1, l2⟩ := hp.get
      dsimp only [gName]
      walk_at "run"
      rename_i z5 H5 b5 az5 lz5
      have hz : s.length + z5.length ≤ sizeLine := by rw [sizeLine_eq]; omega
      try walk_at "run"
      exact Hd.mk ⟨b4.trans b5, _, _, rfl, Asc.cat (a := s) az az5, by rw [Str.length_append]; omega, by rw [Str.length_append]; omega⟩
    · obtain ⟨b4, z, u, rfl, az, l1, l2⟩ := hp.get
      have l3 : z.length ≤ 10000 := by omega
      walk_at "run"
      refine And.intro ⟨l1, l3, az⟩ (fun p d ys H5 s5 hp5 hd5 ay5 => ?_)
      refine ⟨p, _, rfl, hp5, rfl, ?_⟩
      have bx5 : BoxP K b c H5 := b4.xd.same s5
      clear bx3
      walk_at "run"
      all_goals
        rename_i n6 H6 b6 n60 n61 hx
        have tk6 := b6.tk bx5
        have hd6 : H6 d = some (.lst ys) := b6.lst bx5 hd5
        have ay6 : A2 (TkV K H6) ys (toksL (tl z)).1 := ay5.imp fun x t h => h.keep tk6
        refine And.intro (fun ts et p2 xs H7 s7 hp7 ax7 => ?_) (fun ts at2 et d2 H7 s7 hd7 => ?_)
        · have hlen : ts.length ≤ 10000 := by
            have e1 : ts = (toksL (tl z)).1 := by rw [et]
            have := len_tl z
            rw [e1]
            exact Nat.le_trans toks_len (by omega)
          have hok : ∀ t ∈ ts, TokOk t := by
            have e1 : ts = (toksL (tl z)).1 := by rw [et]
            rw [e1]
            exact toks_okA az (fun c hc => (upL_cap az c hc).1)
          rw [et] at ay6
          rw [et]
          walk_at "run"
          refine ⟨p2, d, xs, ys, ts, rfl, hp7, s7 _ _ hd6, ax7, ay6.imp fun x t h => h.keep (same_tk s7), ⟨hlen, hok⟩, fun H8 s8 => q H8⟩
        · rw [et]
          refine ⟨true, T.cs_Fault.ex, fun _ a7 ha7 => ?_, fun h => by cases h⟩
          walk_at "run"
          refine ⟨clK K "Fault", d2, _, .ref (clK K "WorkError"), .ref (clK K "WorkError"), true, rfl, rfl, rfl, T.cs_Fault.ox, hd7, fun u h => h, T.cs_Fault.kb _ (List.mem_singleton.mpr rfl), ?_⟩
          walk_at "run"
          refine ⟨d2, _, _, rfl, hd7, look1 _ _, ?_⟩
          walk_at "run"
          have hem : encE (ts, some at2).2 = (at2 : Int) := rfl
          all_goals first
            | (exfalso; omega)
            | skip
          refine ⟨d2, _, _, rfl, hd7, look1 _ _, ?_⟩
          walk_at "run"
          rw [hem, show decide (V.int (at2 : Int) = V.int (at2 : Int)) = true from decide_eq_true rfl]
          exact q _

end
/-! ### the top -/
theorem all_mk {l : PySem.W.OpenLaw} {w : World} {K : PySem.W.Frag} {h : Heap} {mg : Str → Option Value} {fa : Addr} (X : K.In h) (G : h.Ns mainGlobals mg) (hfa : mg "law" = some (.ref fa))
    {E_WorkError E_Fault : Addr}
    (vWE : PySem.W.nsIn K mainGlobals "WorkError" = some (some (.ref E_WorkError)))
    (hWE : PySem.W.hasDictIn K E_WorkError = true)
    (tWE : PySem.W.typeIn K (.ref E_WorkError) = some (.type "type"))
    (cnE : PySem.W.specialIn K (.builtin "object.__class__") "__get__" = some (some (.builtin "getset_descriptor.__get__")))
    (ctE : PySem.W.takesIn K (.builtin "object.__class__") = some true)
    (vFault : PySem.W.nsIn K mainGlobals "Fault" = some (some (.ref E_Fault)))
    (iniFault : PySem.W.excInitIn K E_Fault [.type "Exception", .type "BaseException", .type "object"] "Exception.__new__" = true)
    (ovFault : PySem.W.excOver K E_Fault [.type "Exception", .type "BaseException", .type "object"] = true)
    (hdFault : PySem.W.hasDictIn K E_Fault = true)
    (saFault : PySem.W.findIn K (.ref E_Fault) "__setattr__" = some (some (.builtin "object.__setattr__")))
    (gaFault : PySem.W.findIn K (.ref E_Fault) "__getattribute__" = some (some (.builtin "BaseException.__getattribute__")))
    (ggFault : PySem.W.findIn K (.ref E_Fault) "__getattr__" = some none)
    (xbFault : PySem.W.subIn K (.ref E_Fault) (.type "BaseException") = some true)
    (tyFault : PySem.W.typeIn K (.ref E_Fault) = some (.type "type"))
    (kpFault : PySem.W.keepIn K (.ref E_Fault) = true)
    (caFault : PySem.W.findIn K (.ref E_Fault) "__class__" = some (some (.builtin "object.__class__")))
    (cmFault : PySem.W.mroIn K E_Fault (.type "object") = some true)
    (xwFault : PySem.W.subIn K (.ref E_Fault) (.ref E_WorkError) = some true)
    (xxFault : PySem.W.subIn K (.ref E_Fault) (.ref E_Fault) = some true)
    (tkFaultat : PySem.W.takerIn K E_Fault "at" = some none)
    (noFaultat : PySem.W.findIn K (.ref E_Fault) "at" = some none)
    {od0 an0 : Option Addr} {sl0 : Array (Option Value)} {oc0 kV0 dc0 pm0 cd0 ct0 : Value} {f0 : Addr}
    (a0 : PySem.W.findIn K (.ref E_Fault) "__init__" = some (some (.ref f0))) (tf0 : PySem.W.typeIn K (.ref f0) = some (.type "function")) (l0 : K.lookup f0 = some ⟨oc0, od0, .func (PySem.W.fnOf "__init__" "Fault.__init__" (defArgs sFault_init) (defBody sFault_init) (defScope sFault_init) .none kV0 dc0 pm0 an0 cd0 ct0), sl0⟩) (c0 : PySem.W.codeIn K cd0 "Fault.__init__" = true) (k0 : PySem.W.keepIn K (.ref f0) = true)
    {od1 an1 : Option Addr} {sl1 : Array (Option Value)} {oc1 kV1 dc1 pm1 cd1 ct1 : Value} {f1 : Addr}
    (a1 : PySem.W.nsIn K mainGlobals "half_even" = some (some (.ref f1))) (l1 : K.lookup f1 = some ⟨oc1, od1, .func (PySem.W.fnOf "half_even" "half_even" (defArgs shalf_even) (defBody shalf_even) (defScope shalf_even) .none kV1 dc1 pm1 an1 cd1 ct1), sl1⟩) (c1 : PySem.W.codeIn K cd1 "half_even" = true) (k1 : PySem.W.keepIn K (.ref f1) = true)
    {od2 an2 : Option Addr} {sl2 : Array (Option Value)} {oc2 kV2 dc2 pm2 cd2 ct2 : Value} {f2 : Addr}
    (a2 : PySem.W.nsIn K mainGlobals "fitting" = some (some (.ref f2))) (l2 : K.lookup f2 = some ⟨oc2, od2, .func (PySem.W.fnOf "fitting" "fitting" (defArgs sfitting) (defBody sfitting) (defScope sfitting) .none kV2 dc2 pm2 an2 cd2 ct2), sl2⟩) (c2 : PySem.W.codeIn K cd2 "fitting" = true) (k2 : PySem.W.keepIn K (.ref f2) = true)
    {od3 an3 : Option Addr} {sl3 : Array (Option Value)} {oc3 kV3 dc3 pm3 cd3 ct3 : Value} {f3 : Addr}
    (a3 : PySem.W.nsIn K mainGlobals "read_amount" = some (some (.ref f3))) (l3 : K.lookup f3 = some ⟨oc3, od3, .func (PySem.W.fnOf "read_amount" "read_amount" (defArgs sread_amount) (defBody sread_amount) (defScope sread_amount) .none kV3 dc3 pm3 an3 cd3 ct3), sl3⟩) (c3 : PySem.W.codeIn K cd3 "read_amount" = true) (k3 : PySem.W.keepIn K (.ref f3) = true)
    {od4 an4 : Option Addr} {sl4 : Array (Option Value)} {oc4 kV4 dc4 pm4 cd4 ct4 : Value} {f4 : Addr}
    (a4 : PySem.W.nsIn K mainGlobals "are_figures" = some (some (.ref f4))) (l4 : K.lookup f4 = some ⟨oc4, od4, .func (PySem.W.fnOf "are_figures" "are_figures" (defArgs sare_figures) (defBody sare_figures) (defScope sare_figures) .none kV4 dc4 pm4 an4 cd4 ct4), sl4⟩) (c4 : PySem.W.codeIn K cd4 "are_figures" = true) (k4 : PySem.W.keepIn K (.ref f4) = true)
    {od5 an5 : Option Addr} {sl5 : Array (Option Value)} {oc5 kV5 dc5 pm5 cd5 ct5 : Value} {f5 : Addr}
    (a5 : PySem.W.nsIn K mainGlobals "capital" = some (some (.ref f5))) (l5 : K.lookup f5 = some ⟨oc5, od5, .func (PySem.W.fnOf "capital" "capital" (defArgs scapital) (defBody scapital) (defScope scapital) .none kV5 dc5 pm5 an5 cd5 ct5), sl5⟩) (c5 : PySem.W.codeIn K cd5 "capital" = true) (k5 : PySem.W.keepIn K (.ref f5) = true)
    {od6 an6 : Option Addr} {sl6 : Array (Option Value)} {oc6 kV6 dc6 pm6 cd6 ct6 : Value} {f6 : Addr}
    (a6 : PySem.W.nsIn K mainGlobals "is_figure" = some (some (.ref f6))) (l6 : K.lookup f6 = some ⟨oc6, od6, .func (PySem.W.fnOf "is_figure" "is_figure" (defArgs sis_figure) (defBody sis_figure) (defScope sis_figure) .none kV6 dc6 pm6 an6 cd6 ct6), sl6⟩) (c6 : PySem.W.codeIn K cd6 "is_figure" = true) (k6 : PySem.W.keepIn K (.ref f6) = true)
    {od7 an7 : Option Addr} {sl7 : Array (Option Value)} {oc7 kV7 dc7 pm7 cd7 ct7 : Value} {f7 : Addr}
    (a7 : PySem.W.nsIn K mainGlobals "is_letter" = some (some (.ref f7))) (l7 : K.lookup f7 = some ⟨oc7, od7, .func (PySem.W.fnOf "is_letter" "is_letter" (defArgs sis_letter) (defBody sis_letter) (defScope sis_letter) .none kV7 dc7 pm7 an7 cd7 ct7), sl7⟩) (c7 : PySem.W.codeIn K cd7 "is_letter" = true) (k7 : PySem.W.keepIn K (.ref f7) = true)
    {od8 an8 : Option Addr} {sl8 : Array (Option Value)} {oc8 kV8 dc8 pm8 cd8 ct8 : Value} {f8 : Addr}
    (a8 : PySem.W.nsIn K mainGlobals "blanks_end" = some (some (.ref f8))) (l8 : K.lookup f8 = some ⟨oc8, od8, .func (PySem.W.fnOf "blanks_end" "blanks_end" (defArgs sblanks_end) (defBody sblanks_end) (defScope sblanks_end) .none kV8 dc8 pm8 an8 cd8 ct8), sl8⟩) (c8 : PySem.W.codeIn K cd8 "blanks_end" = true) (k8 : PySem.W.keepIn K (.ref f8) = true)
    {od9 an9 : Option Addr} {sl9 : Array (Option Value)} {oc9 kV9 dc9 pm9 cd9 ct9 : Value} {f9 : Addr}
    (a9 : PySem.W.nsIn K mainGlobals "figures_end" = some (some (.ref f9))) (l9 : K.lookup f9 = some ⟨oc9, od9, .func (PySem.W.fnOf "figures_end" "figures_end" (defArgs sfigures_end) (defBody sfigures_end) (defScope sfigures_end) .none kV9 dc9 pm9 an9 cd9 ct9), sl9⟩) (c9 : PySem.W.codeIn K cd9 "figures_end" = true) (k9 : PySem.W.keepIn K (.ref f9) = true)
    {od10 an10 : Option Addr} {sl10 : Array (Option Value)} {oc10 kV10 dc10 pm10 cd10 ct10 : Value} {f10 : Addr}
    (a10 : PySem.W.nsIn K mainGlobals "mark_end" = some (some (.ref f10))) (l10 : K.lookup f10 = some ⟨oc10, od10, .func (PySem.W.fnOf "mark_end" "mark_end" (defArgs smark_end) (defBody smark_end) (defScope smark_end) .none kV10 dc10 pm10 an10 cd10 ct10), sl10⟩) (c10 : PySem.W.codeIn K cd10 "mark_end" = true) (k10 : PySem.W.keepIn K (.ref f10) = true)
    {od11 an11 : Option Addr} {sl11 : Array (Option Value)} {oc11 kV11 dc11 pm11 cd11 ct11 : Value} {f11 : Addr}
    (a11 : PySem.W.nsIn K mainGlobals "row_end" = some (some (.ref f11))) (l11 : K.lookup f11 = some ⟨oc11, od11, .func (PySem.W.fnOf "row_end" "row_end" (defArgs srow_end) (defBody srow_end) (defScope srow_end) .none kV11 dc11 pm11 an11 cd11 ct11), sl11⟩) (c11 : PySem.W.codeIn K cd11 "row_end" = true) (k11 : PySem.W.keepIn K (.ref f11) = true)
    {od12 an12 : Option Addr} {sl12 : Array (Option Value)} {oc12 kV12 dc12 pm12 cd12 ct12 : Value} {f12 : Addr}
    (a12 : PySem.W.nsIn K mainGlobals "column_end" = some (some (.ref f12))) (l12 : K.lookup f12 = some ⟨oc12, od12, .func (PySem.W.fnOf "column_end" "column_end" (defArgs scolumn_end) (defBody scolumn_end) (defScope scolumn_end) .none kV12 dc12 pm12 an12 cd12 ct12), sl12⟩) (c12 : PySem.W.codeIn K cd12 "column_end" = true) (k12 : PySem.W.keepIn K (.ref f12) = true)
    {od13 an13 : Option Addr} {sl13 : Array (Option Value)} {oc13 kV13 dc13 pm13 cd13 ct13 : Value} {f13 : Addr}
    (a13 : PySem.W.nsIn K mainGlobals "pair_end" = some (some (.ref f13))) (l13 : K.lookup f13 = some ⟨oc13, od13, .func (PySem.W.fnOf "pair_end" "pair_end" (defArgs spair_end) (defBody spair_end) (defScope spair_end) .none kV13 dc13 pm13 an13 cd13 ct13), sl13⟩) (c13 : PySem.W.codeIn K cd13 "pair_end" = true) (k13 : PySem.W.keepIn K (.ref f13) = true)
    {od14 an14 : Option Addr} {sl14 : Array (Option Value)} {oc14 kV14 dc14 pm14 cd14 ct14 : Value} {f14 : Addr}
    (a14 : PySem.W.nsIn K mainGlobals "makes_word" = some (some (.ref f14))) (l14 : K.lookup f14 = some ⟨oc14, od14, .func (PySem.W.fnOf "makes_word" "makes_word" (defArgs smakes_word) (defBody smakes_word) (defScope smakes_word) .none kV14 dc14 pm14 an14 cd14 ct14), sl14⟩) (c14 : PySem.W.codeIn K cd14 "makes_word" = true) (k14 : PySem.W.keepIn K (.ref f14) = true)
    {od15 an15 : Option Addr} {sl15 : Array (Option Value)} {oc15 kV15 dc15 pm15 cd15 ct15 : Value} {f15 : Addr}
    (a15 : PySem.W.nsIn K mainGlobals "error_end" = some (some (.ref f15))) (l15 : K.lookup f15 = some ⟨oc15, od15, .func (PySem.W.fnOf "error_end" "error_end" (defArgs serror_end) (defBody serror_end) (defScope serror_end) .none kV15 dc15 pm15 an15 cd15 ct15), sl15⟩) (c15 : PySem.W.codeIn K cd15 "error_end" = true) (k15 : PySem.W.keepIn K (.ref f15) = true)
    {od16 an16 : Option Addr} {sl16 : Array (Option Value)} {oc16 kV16 dc16 pm16 cd16 ct16 : Value} {f16 : Addr}
    (a16 : PySem.W.nsIn K mainGlobals "rows_end" = some (some (.ref f16))) (l16 : K.lookup f16 = some ⟨oc16, od16, .func (PySem.W.fnOf "rows_end" "rows_end" (defArgs srows_end) (defBody srows_end) (defScope srows_end) .none kV16 dc16 pm16 an16 cd16 ct16), sl16⟩) (c16 : PySem.W.codeIn K cd16 "rows_end" = true) (k16 : PySem.W.keepIn K (.ref f16) = true)
    {od17 an17 : Option Addr} {sl17 : Array (Option Value)} {oc17 kV17 dc17 pm17 cd17 ct17 : Value} {f17 : Addr}
    (a17 : PySem.W.nsIn K mainGlobals "number_end" = some (some (.ref f17))) (l17 : K.lookup f17 = some ⟨oc17, od17, .func (PySem.W.fnOf "number_end" "number_end" (defArgs snumber_end) (defBody snumber_end) (defScope snumber_end) .none kV17 dc17 pm17 an17 cd17 ct17), sl17⟩) (c17 : PySem.W.codeIn K cd17 "number_end" = true) (k17 : PySem.W.keepIn K (.ref f17) = true)
    {od18 an18 : Option Addr} {sl18 : Array (Option Value)} {oc18 kV18 dc18 pm18 cd18 ct18 : Value} {f18 : Addr}
    (a18 : PySem.W.nsIn K mainGlobals "cell_end" = some (some (.ref f18))) (l18 : K.lookup f18 = some ⟨oc18, od18, .func (PySem.W.fnOf "cell_end" "cell_end" (defArgs scell_end) (defBody scell_end) (defScope scell_end) .none kV18 dc18 pm18 an18 cd18 ct18), sl18⟩) (c18 : PySem.W.codeIn K cd18 "cell_end" = true) (k18 : PySem.W.keepIn K (.ref f18) = true)
    {od19 an19 : Option Addr} {sl19 : Array (Option Value)} {oc19 kV19 dc19 pm19 cd19 ct19 : Value} {f19 : Addr}
    (a19 : PySem.W.nsIn K mainGlobals "columns_end" = some (some (.ref f19))) (l19 : K.lookup f19 = some ⟨oc19, od19, .func (PySem.W.fnOf "columns_end" "columns_end" (defArgs scolumns_end) (defBody scolumns_end) (defScope scolumns_end) .none kV19 dc19 pm19 an19 cd19 ct19), sl19⟩) (c19 : PySem.W.codeIn K cd19 "columns_end" = true) (k19 : PySem.W.keepIn K (.ref f19) = true)
    {od20 an20 : Option Addr} {sl20 : Array (Option Value)} {oc20 kV20 dc20 pm20 cd20 ct20 : Value} {f20 : Addr}
    (a20 : PySem.W.nsIn K mainGlobals "goes_on_word" = some (some (.ref f20))) (l20 : K.lookup f20 = some ⟨oc20, od20, .func (PySem.W.fnOf "goes_on_word" "goes_on_word" (defArgs sgoes_on_word) (defBody sgoes_on_word) (defScope sgoes_on_word) .none kV20 dc20 pm20 an20 cd20 ct20), sl20⟩) (c20 : PySem.W.codeIn K cd20 "goes_on_word" = true) (k20 : PySem.W.keepIn K (.ref f20) = true)
    {od21 an21 : Option Addr} {sl21 : Array (Option Value)} {oc21 kV21 dc21 pm21 cd21 ct21 : Value} {f21 : Addr}
    (a21 : PySem.W.nsIn K mainGlobals "word_end" = some (some (.ref f21))) (l21 : K.lookup f21 = some ⟨oc21, od21, .func (PySem.W.fnOf "word_end" "word_end" (defArgs sword_end) (defBody sword_end) (defScope sword_end) .none kV21 dc21 pm21 an21 cd21 ct21), sl21⟩) (c21 : PySem.W.codeIn K cd21 "word_end" = true) (k21 : PySem.W.keepIn K (.ref f21) = true)
    {od22 an22 : Option Addr} {sl22 : Array (Option Value)} {oc22 kV22 dc22 pm22 cd22 ct22 : Value} {f22 : Addr}
    (a22 : PySem.W.nsIn K mainGlobals "sign_end" = some (some (.ref f22))) (l22 : K.lookup f22 = some ⟨oc22, od22, .func (PySem.W.fnOf "sign_end" "sign_end" (defArgs ssign_end) (defBody ssign_end) (defScope ssign_end) .none kV22 dc22 pm22 an22 cd22 ct22), sl22⟩) (c22 : PySem.W.codeIn K cd22 "sign_end" = true) (k22 : PySem.W.keepIn K (.ref f22) = true)
    {od23 an23 : Option Addr} {sl23 : Array (Option Value)} {oc23 kV23 dc23 pm23 cd23 ct23 : Value} {f23 : Addr}
    (a23 : PySem.W.nsIn K mainGlobals "text_token" = some (some (.ref f23))) (l23 : K.lookup f23 = some ⟨oc23, od23, .func (PySem.W.fnOf "text_token" "text_token" (defArgs stext_token) (defBody stext_token) (defScope stext_token) .none kV23 dc23 pm23 an23 cd23 ct23), sl23⟩) (c23 : PySem.W.codeIn K cd23 "text_token" = true) (k23 : PySem.W.keepIn K (.ref f23) = true)
    {od24 an24 : Option Addr} {sl24 : Array (Option Value)} {oc24 kV24 dc24 pm24 cd24 ct24 : Value} {f24 : Addr}
    (a24 : PySem.W.nsIn K mainGlobals "is_at_fault" = some (some (.ref f24))) (l24 : K.lookup f24 = some ⟨oc24, od24, .func (PySem.W.fnOf "is_at_fault" "is_at_fault" (defArgs sis_at_fault) (defBody sis_at_fault) (defScope sis_at_fault) .none kV24 dc24 pm24 an24 cd24 ct24), sl24⟩) (c24 : PySem.W.codeIn K cd24 "is_at_fault" = true) (k24 : PySem.W.keepIn K (.ref f24) = true)
    {od25 an25 : Option Addr} {sl25 : Array (Option Value)} {oc25 kV25 dc25 pm25 cd25 ct25 : Value} {f25 : Addr}
    (a25 : PySem.W.nsIn K mainGlobals "token_at" = some (some (.ref f25))) (l25 : K.lookup f25 = some ⟨oc25, od25, .func (PySem.W.fnOf "token_at" "token_at" (defArgs stoken_at) (defBody stoken_at) (defScope stoken_at) .none kV25 dc25 pm25 an25 cd25 ct25), sl25⟩) (c25 : PySem.W.codeIn K cd25 "token_at" = true) (k25 : PySem.W.keepIn K (.ref f25) = true)
    {od26 an26 : Option Addr} {sl26 : Array (Option Value)} {oc26 kV26 dc26 pm26 cd26 ct26 : Value} {f26 : Addr}
    (a26 : PySem.W.nsIn K mainGlobals "tokens" = some (some (.ref f26))) (l26 : K.lookup f26 = some ⟨oc26, od26, .func (PySem.W.fnOf "tokens" "tokens" (defArgs stokens) (defBody stokens) (defScope stokens) .none kV26 dc26 pm26 an26 cd26 ct26), sl26⟩) (c26 : PySem.W.codeIn K cd26 "tokens" = true) (k26 : PySem.W.keepIn K (.ref f26) = true)
    {od27 an27 : Option Addr} {sl27 : Array (Option Value)} {oc27 kV27 dc27 pm27 cd27 ct27 : Value} {f27 : Addr}
    (a27 : PySem.W.nsIn K mainGlobals "_law_mixed" = some (some (.ref f27))) (l27 : K.lookup f27 = some ⟨oc27, od27, .func (PySem.W.fnOf "_law_mixed" "_law_mixed" (defArgs s_law_mixed) (defBody s_law_mixed) (defScope s_law_mixed) .none kV27 dc27 pm27 an27 cd27 ct27), sl27⟩) (c27 : PySem.W.codeIn K cd27 "_law_mixed" = true) (k27 : PySem.W.keepIn K (.ref f27) = true)
    {od28 an28 : Option Addr} {sl28 : Array (Option Value)} {oc28 kV28 dc28 pm28 cd28 ct28 : Value} {f28 : Addr}
    (a28 : PySem.W.nsIn K mainGlobals "_law_pool" = some (some (.ref f28))) (l28 : K.lookup f28 = some ⟨oc28, od28, .func (PySem.W.fnOf "_law_pool" "_law_pool" (defArgs s_law_pool) (defBody s_law_pool) (defScope s_law_pool) .none kV28 dc28 pm28 an28 cd28 ct28), sl28⟩) (c28 : PySem.W.codeIn K cd28 "_law_pool" = true) (k28 : PySem.W.keepIn K (.ref f28) = true)
    {od29 an29 : Option Addr} {sl29 : Array (Option Value)} {oc29 kV29 dc29 pm29 cd29 ct29 : Value} {f29 : Addr}
    (a29 : PySem.W.nsIn K mainGlobals "_law_take" = some (some (.ref f29))) (l29 : K.lookup f29 = some ⟨oc29, od29, .func (PySem.W.fnOf "_law_take" "_law_take" (defArgs s_law_take) (defBody s_law_take) (defScope s_law_take) .none kV29 dc29 pm29 an29 cd29 ct29), sl29⟩) (c29 : PySem.W.codeIn K cd29 "_law_take" = true) (k29 : PySem.W.keepIn K (.ref f29) = true)
    {od30 an30 : Option Addr} {sl30 : Array (Option Value)} {oc30 kV30 dc30 pm30 cd30 ct30 : Value} {f30 : Addr}
    (a30 : PySem.W.nsIn K mainGlobals "_law_signs" = some (some (.ref f30))) (l30 : K.lookup f30 = some ⟨oc30, od30, .func (PySem.W.fnOf "_law_signs" "_law_signs" (defArgs s_law_signs) (defBody s_law_signs) (defScope s_law_signs) .none kV30 dc30 pm30 an30 cd30 ct30), sl30⟩) (c30 : PySem.W.codeIn K cd30 "_law_signs" = true) (k30 : PySem.W.keepIn K (.ref f30) = true)
    {od31 an31 : Option Addr} {sl31 : Array (Option Value)} {oc31 kV31 dc31 pm31 cd31 ct31 : Value} {f31 : Addr}
    (a31 : PySem.W.nsIn K mainGlobals "_law_letters" = some (some (.ref f31))) (l31 : K.lookup f31 = some ⟨oc31, od31, .func (PySem.W.fnOf "_law_letters" "_law_letters" (defArgs s_law_letters) (defBody s_law_letters) (defScope s_law_letters) .none kV31 dc31 pm31 an31 cd31 ct31), sl31⟩) (c31 : PySem.W.codeIn K cd31 "_law_letters" = true) (k31 : PySem.W.keepIn K (.ref f31) = true)
    {od32 an32 : Option Addr} {sl32 : Array (Option Value)} {oc32 kV32 dc32 pm32 cd32 ct32 : Value} {f32 : Addr}
    (a32 : PySem.W.nsIn K mainGlobals "_law_stands" = some (some (.ref f32))) (l32 : K.lookup f32 = some ⟨oc32, od32, .func (PySem.W.fnOf "_law_stands" "_law_stands" (defArgs s_law_stands) (defBody s_law_stands) (defScope s_law_stands) .none kV32 dc32 pm32 an32 cd32 ct32), sl32⟩) (c32 : PySem.W.codeIn K cd32 "_law_stands" = true) (k32 : PySem.W.keepIn K (.ref f32) = true)
    {od33 an33 : Option Addr} {sl33 : Array (Option Value)} {oc33 kV33 dc33 pm33 cd33 ct33 : Value} {f33 : Addr}
    (a33 : PySem.W.nsIn K mainGlobals "_law_run" = some (some (.ref f33))) (l33 : K.lookup f33 = some ⟨oc33, od33, .func (PySem.W.fnOf "_law_run" "_law_run" (defArgs s_law_run) (defBody s_law_run) (defScope s_law_run) .none kV33 dc33 pm33 an33 cd33 ct33), sl33⟩) (c33 : PySem.W.codeIn K cd33 "_law_run" = true) (k33 : PySem.W.keepIn K (.ref f33) = true)
    {od34 an34 : Option Addr} {sl34 : Array (Option Value)} {oc34 kV34 dc34 pm34 cd34 ct34 : Value} {f34 : Addr}
    (a34 : PySem.W.nsIn K mainGlobals "_law_dollar" = some (some (.ref f34))) (l34 : K.lookup f34 = some ⟨oc34, od34, .func (PySem.W.fnOf "_law_dollar" "_law_dollar" (defArgs s_law_dollar) (defBody s_law_dollar) (defScope s_law_dollar) .none kV34 dc34 pm34 an34 cd34 ct34), sl34⟩) (c34 : PySem.W.codeIn K cd34 "_law_dollar" = true) (k34 : PySem.W.keepIn K (.ref f34) = true)
    {od35 an35 : Option Addr} {sl35 : Array (Option Value)} {oc35 kV35 dc35 pm35 cd35 ct35 : Value} {f35 : Addr}
    (a35 : PySem.W.nsIn K mainGlobals "_law_row" = some (some (.ref f35))) (l35 : K.lookup f35 = some ⟨oc35, od35, .func (PySem.W.fnOf "_law_row" "_law_row" (defArgs s_law_row) (defBody s_law_row) (defScope s_law_row) .none kV35 dc35 pm35 an35 cd35 ct35), sl35⟩) (c35 : PySem.W.codeIn K cd35 "_law_row" = true) (k35 : PySem.W.keepIn K (.ref f35) = true)
    {od36 an36 : Option Addr} {sl36 : Array (Option Value)} {oc36 kV36 dc36 pm36 cd36 ct36 : Value} {f36 : Addr}
    (a36 : PySem.W.nsIn K mainGlobals "_law_rows" = some (some (.ref f36))) (l36 : K.lookup f36 = some ⟨oc36, od36, .func (PySem.W.fnOf "_law_rows" "_law_rows" (defArgs s_law_rows) (defBody s_law_rows) (defScope s_law_rows) .none kV36 dc36 pm36 an36 cd36 ct36), sl36⟩) (c36 : PySem.W.codeIn K cd36 "_law_rows" = true) (k36 : PySem.W.keepIn K (.ref f36) = true)
    {od37 an37 : Option Addr} {sl37 : Array (Option Value)} {oc37 kV37 dc37 pm37 cd37 ct37 : Value} {f37 : Addr}
    (a37 : PySem.W.nsIn K mainGlobals "_law_cell" = some (some (.ref f37))) (l37 : K.lookup f37 = some ⟨oc37, od37, .func (PySem.W.fnOf "_law_cell" "_law_cell" (defArgs s_law_cell) (defBody s_law_cell) (defScope s_law_cell) .none kV37 dc37 pm37 an37 cd37 ct37), sl37⟩) (c37 : PySem.W.codeIn K cd37 "_law_cell" = true) (k37 : PySem.W.keepIn K (.ref f37) = true)
    {od38 an38 : Option Addr} {sl38 : Array (Option Value)} {oc38 kV38 dc38 pm38 cd38 ct38 : Value} {f38 : Addr}
    (a38 : PySem.W.nsIn K mainGlobals "_law_columns" = some (some (.ref f38))) (l38 : K.lookup f38 = some ⟨oc38, od38, .func (PySem.W.fnOf "_law_columns" "_law_columns" (defArgs s_law_columns) (defBody s_law_columns) (defScope s_law_columns) .none kV38 dc38 pm38 an38 cd38 ct38), sl38⟩) (c38 : PySem.W.codeIn K cd38 "_law_columns" = true) (k38 : PySem.W.keepIn K (.ref f38) = true)
    {od39 an39 : Option Addr} {sl39 : Array (Option Value)} {oc39 kV39 dc39 pm39 cd39 ct39 : Value} {f39 : Addr}
    (a39 : PySem.W.nsIn K mainGlobals "_law_number" = some (some (.ref f39))) (l39 : K.lookup f39 = some ⟨oc39, od39, .func (PySem.W.fnOf "_law_number" "_law_number" (defArgs s_law_number) (defBody s_law_number) (defScope s_law_number) .none kV39 dc39 pm39 an39 cd39 ct39), sl39⟩) (c39 : PySem.W.codeIn K cd39 "_law_number" = true) (k39 : PySem.W.keepIn K (.ref f39) = true)
    {od40 an40 : Option Addr} {sl40 : Array (Option Value)} {oc40 kV40 dc40 pm40 cd40 ct40 : Value} {f40 : Addr}
    (a40 : PySem.W.nsIn K mainGlobals "_law_is_amount" = some (some (.ref f40))) (l40 : K.lookup f40 = some ⟨oc40, od40, .func (PySem.W.fnOf "_law_is_amount" "_law_is_amount" (defArgs s_law_is_amount) (defBody s_law_is_amount) (defScope s_law_is_amount) .none kV40 dc40 pm40 an40 cd40 ct40), sl40⟩) (c40 : PySem.W.codeIn K cd40 "_law_is_amount" = true) (k40 : PySem.W.keepIn K (.ref f40) = true)
    {od41 an41 : Option Addr} {sl41 : Array (Option Value)} {oc41 kV41 dc41 pm41 cd41 ct41 : Value} {f41 : Addr}
    (a41 : PySem.W.nsIn K mainGlobals "_law_error" = some (some (.ref f41))) (l41 : K.lookup f41 = some ⟨oc41, od41, .func (PySem.W.fnOf "_law_error" "_law_error" (defArgs s_law_error) (defBody s_law_error) (defScope s_law_error) .none kV41 dc41 pm41 an41 cd41 ct41), sl41⟩) (c41 : PySem.W.codeIn K cd41 "_law_error" = true) (k41 : PySem.W.keepIn K (.ref f41) = true)
    {od42 an42 : Option Addr} {sl42 : Array (Option Value)} {oc42 kV42 dc42 pm42 cd42 ct42 : Value} {f42 : Addr}
    (a42 : PySem.W.nsIn K mainGlobals "_law_word" = some (some (.ref f42))) (l42 : K.lookup f42 = some ⟨oc42, od42, .func (PySem.W.fnOf "_law_word" "_law_word" (defArgs s_law_word) (defBody s_law_word) (defScope s_law_word) .none kV42 dc42 pm42 an42 cd42 ct42), sl42⟩) (c42 : PySem.W.codeIn K cd42 "_law_word" = true) (k42 : PySem.W.keepIn K (.ref f42) = true)
    {od43 an43 : Option Addr} {sl43 : Array (Option Value)} {oc43 kV43 dc43 pm43 cd43 ct43 : Value} {f43 : Addr}
    (a43 : PySem.W.nsIn K mainGlobals "_law_sign" = some (some (.ref f43))) (l43 : K.lookup f43 = some ⟨oc43, od43, .func (PySem.W.fnOf "_law_sign" "_law_sign" (defArgs s_law_sign) (defBody s_law_sign) (defScope s_law_sign) .none kV43 dc43 pm43 an43 cd43 ct43), sl43⟩) (c43 : PySem.W.codeIn K cd43 "_law_sign" = true) (k43 : PySem.W.keepIn K (.ref f43) = true)
    {od44 an44 : Option Addr} {sl44 : Array (Option Value)} {oc44 kV44 dc44 pm44 cd44 ct44 : Value} {f44 : Addr}
    (a44 : PySem.W.nsIn K mainGlobals "_law_quoted" = some (some (.ref f44))) (l44 : K.lookup f44 = some ⟨oc44, od44, .func (PySem.W.fnOf "_law_quoted" "_law_quoted" (defArgs s_law_quoted) (defBody s_law_quoted) (defScope s_law_quoted) .none kV44 dc44 pm44 an44 cd44 ct44), sl44⟩) (c44 : PySem.W.codeIn K cd44 "_law_quoted" = true) (k44 : PySem.W.keepIn K (.ref f44) = true)
    {od45 an45 : Option Addr} {sl45 : Array (Option Value)} {oc45 kV45 dc45 pm45 cd45 ct45 : Value} {f45 : Addr}
    (a45 : PySem.W.nsIn K mainGlobals "_law_token" = some (some (.ref f45))) (l45 : K.lookup f45 = some ⟨oc45, od45, .func (PySem.W.fnOf "_law_token" "_law_token" (defArgs s_law_token) (defBody s_law_token) (defScope s_law_token) .none kV45 dc45 pm45 an45 cd45 ct45), sl45⟩) (c45 : PySem.W.codeIn K cd45 "_law_token" = true) (k45 : PySem.W.keepIn K (.ref f45) = true)
    {od46 an46 : Option Addr} {sl46 : Array (Option Value)} {oc46 kV46 dc46 pm46 cd46 ct46 : Value} {f46 : Addr}
    (a46 : PySem.W.nsIn K mainGlobals "_law_formed" = some (some (.ref f46))) (l46 : K.lookup f46 = some ⟨oc46, od46, .func (PySem.W.fnOf "_law_formed" "_law_formed" (defArgs s_law_formed) (defBody s_law_formed) (defScope s_law_formed) .none kV46 dc46 pm46 an46 cd46 ct46), sl46⟩) (c46 : PySem.W.codeIn K cd46 "_law_formed" = true) (k46 : PySem.W.keepIn K (.ref f46) = true)
    {od47 an47 : Option Addr} {sl47 : Array (Option Value)} {oc47 kV47 dc47 pm47 cd47 ct47 : Value} {f47 : Addr}
    (a47 : PySem.W.nsIn K mainGlobals "_law_text_piece" = some (some (.ref f47))) (l47 : K.lookup f47 = some ⟨oc47, od47, .func (PySem.W.fnOf "_law_text_piece" "_law_text_piece" (defArgs s_law_text_piece) (defBody s_law_text_piece) (defScope s_law_text_piece) .none kV47 dc47 pm47 an47 cd47 ct47), sl47⟩) (c47 : PySem.W.codeIn K cd47 "_law_text_piece" = true) (k47 : PySem.W.keepIn K (.ref f47) = true)
    {od48 an48 : Option Addr} {sl48 : Array (Option Value)} {oc48 kV48 dc48 pm48 cd48 ct48 : Value} {f48 : Addr}
    (a48 : PySem.W.nsIn K mainGlobals "_law_piece" = some (some (.ref f48))) (l48 : K.lookup f48 = some ⟨oc48, od48, .func (PySem.W.fnOf "_law_piece" "_law_piece" (defArgs s_law_piece) (defBody s_law_piece) (defScope s_law_piece) .none kV48 dc48 pm48 an48 cd48 ct48), sl48⟩) (c48 : PySem.W.codeIn K cd48 "_law_piece" = true) (k48 : PySem.W.keepIn K (.ref f48) = true)
    {od49 an49 : Option Addr} {sl49 : Array (Option Value)} {oc49 kV49 dc49 pm49 cd49 ct49 : Value} {f49 : Addr}
    (a49 : PySem.W.nsIn K mainGlobals "_law_is_integer" = some (some (.ref f49))) (l49 : K.lookup f49 = some ⟨oc49, od49, .func (PySem.W.fnOf "_law_is_integer" "_law_is_integer" (defArgs s_law_is_integer) (defBody s_law_is_integer) (defScope s_law_is_integer) .none kV49 dc49 pm49 an49 cd49 ct49), sl49⟩) (c49 : PySem.W.codeIn K cd49 "_law_is_integer" = true) (k49 : PySem.W.keepIn K (.ref f49) = true)
    {od50 an50 : Option Addr} {sl50 : Array (Option Value)} {oc50 kV50 dc50 pm50 cd50 ct50 : Value} {f50 : Addr}
    (a50 : PySem.W.nsIn K mainGlobals "_law_due" = some (some (.ref f50))) (l50 : K.lookup f50 = some ⟨oc50, od50, .func (PySem.W.fnOf "_law_due" "_law_due" (defArgs s_law_due) (defBody s_law_due) (defScope s_law_due) .none kV50 dc50 pm50 an50 cd50 ct50), sl50⟩) (c50 : PySem.W.codeIn K cd50 "_law_due" = true) (k50 : PySem.W.keepIn K (.ref f50) = true)
    {od51 an51 : Option Addr} {sl51 : Array (Option Value)} {oc51 kV51 dc51 pm51 cd51 ct51 : Value} {f51 : Addr}
    (a51 : PySem.W.nsIn K mainGlobals "_law_same" = some (some (.ref f51))) (l51 : K.lookup f51 = some ⟨oc51, od51, .func (PySem.W.fnOf "_law_same" "_law_same" (defArgs s_law_same) (defBody s_law_same) (defScope s_law_same) .none kV51 dc51 pm51 an51 cd51 ct51), sl51⟩) (c51 : PySem.W.codeIn K cd51 "_law_same" = true) (k51 : PySem.W.keepIn K (.ref f51) = true)
    {od52 an52 : Option Addr} {sl52 : Array (Option Value)} {oc52 kV52 dc52 pm52 cd52 ct52 : Value} {f52 : Addr}
    (a52 : PySem.W.nsIn K mainGlobals "law" = some (some (.ref f52))) (l52 : K.lookup f52 = some ⟨oc52, od52, .func (PySem.W.fnOf "law" "law" (defArgs slaw) (defBody slaw) (defScope slaw) .none kV52 dc52 pm52 an52 cd52 ct52), sl52⟩) (c52 : PySem.W.codeIn K cd52 "law" = true) (k52 : PySem.W.keepIn K (.ref f52) = true)
    {t_GREATEST : Tok} (v_GREATEST : PySem.W.nsIn K mainGlobals "GREATEST" = some (some (.int 999999999999999999999 t_GREATEST)))
    {t_FIGURES_AHEAD : Tok} (v_FIGURES_AHEAD : PySem.W.nsIn K mainGlobals "FIGURES_AHEAD" = some (some (.int 15 t_FIGURES_AHEAD)))
    {t_FIGURES_BEHIND : Tok} (v_FIGURES_BEHIND : PySem.W.nsIn K mainGlobals "FIGURES_BEHIND" = some (some (.int 12 t_FIGURES_BEHIND)))
    {o_ERRORS : Addr} {od_ERRORS : Option Addr} {n_ERRORS : Nat} {sl_ERRORS : Array (Option Value)} {t0_ERRORS t1_ERRORS t2_ERRORS t3_ERRORS t4_ERRORS t5_ERRORS t6_ERRORS t7_ERRORS t8_ERRORS t9_ERRORS : Tok} (v_ERRORS : PySem.W.nsIn K mainGlobals "ERRORS" = some (some (.ref o_ERRORS))) (u_ERRORS : K.lookup o_ERRORS = some ⟨.type "tuple", od_ERRORS, .seq #[.str "DIV" t0_ERRORS, .str "VALUE" t1_ERRORS, .str "REF" t2_ERRORS, .str "NAME" t3_ERRORS, .str "NUM" t4_ERRORS, .str "NA" t5_ERRORS, .str "CALC" t6_ERRORS, .str "SIZE" t7_ERRORS, .str "LIMIT" t8_ERRORS, .str "CIRC" t9_ERRORS] n_ERRORS, sl_ERRORS⟩)
    {t_MOST_SIGNS : Tok} (v_MOST_SIGNS : PySem.W.nsIn K mainGlobals "MOST_SIGNS" = some (some (.int 64 t_MOST_SIGNS)))
    {t_LAST_COLUMN : Tok} (v_LAST_COLUMN : PySem.W.nsIn K mainGlobals "LAST_COLUMN" = some (some (.str "J" t_LAST_COLUMN)))
    {t_LAST_ROW : Tok} (v_LAST_ROW : PySem.W.nsIn K mainGlobals "LAST_ROW" = some (some (.int 20 t_LAST_ROW)))
    {t_MOST_SIGNS_OF_WORD : Tok} (v_MOST_SIGNS_OF_WORD : PySem.W.nsIn K mainGlobals "MOST_SIGNS_OF_WORD" = some (some (.int 12 t_MOST_SIGNS_OF_WORD)))
    {o_SIGNS : Addr} {od_SIGNS : Option Addr} {n_SIGNS : Nat} {sl_SIGNS : Array (Option Value)} {t0_SIGNS t1_SIGNS t2_SIGNS t3_SIGNS t4_SIGNS t5_SIGNS t6_SIGNS t7_SIGNS t8_SIGNS t9_SIGNS t10_SIGNS t11_SIGNS t12_SIGNS t13_SIGNS t14_SIGNS t15_SIGNS t16_SIGNS t17_SIGNS t18_SIGNS t19_SIGNS : Tok} (v_SIGNS : PySem.W.nsIn K mainGlobals "SIGNS" = some (some (.ref o_SIGNS))) (u_SIGNS : K.lookup o_SIGNS = some ⟨.type "tuple", od_SIGNS, .seq #[.str "<>" t0_SIGNS, .str "<=" t1_SIGNS, .str ">=" t2_SIGNS, .str "+" t3_SIGNS, .str "-" t4_SIGNS, .str "*" t5_SIGNS, .str "/" t6_SIGNS, .str "^" t7_SIGNS, .str "&" t8_SIGNS, .str "=" t9_SIGNS, .str "<" t10_SIGNS, .str ">" t11_SIGNS, .str "(" t12_SIGNS, .str ")" t13_SIGNS, .str "{" t14_SIGNS, .str "}" t15_SIGNS, .str "," t16_SIGNS, .str ";" t17_SIGNS, .str ":" t18_SIGNS, .str "!" t19_SIGNS] n_SIGNS, sl_SIGNS⟩)
    {o_ENDS : Addr} {ep_ENDS : Nat} {es_ENDS : Array DictEntry} (v_ENDS : PySem.W.nsIn K mainGlobals "ENDS" = some (some (.ref o_ENDS))) (u_ENDS : K.lookup o_ENDS = some ⟨.type "dict", none, .dict es_ENDS ep_ENDS, #[]⟩) (y_ENDS : PySem.W.KeysLit w.params es_ENDS.toList) (x_ENDS : (o_ENDS == sysModules) = false) (n_ENDS : es_ENDS.size = 7) (w0_ENDS : ∃ (en : DictEntry) (t : Tok), es_ENDS[0]? = some en ∧ en.key = .str "error" t) (z0_ENDS : PySem.W.nsIn K o_ENDS "error" = some (some (.ref f15))) (w1_ENDS : ∃ (en : DictEntry) (t : Tok), es_ENDS[1]? = some en ∧ en.key = .str "rows" t) (z1_ENDS : PySem.W.nsIn K o_ENDS "rows" = some (some (.ref f16))) (w2_ENDS : ∃ (en : DictEntry) (t : Tok), es_ENDS[2]? = some en ∧ en.key = .str "number" t) (z2_ENDS : PySem.W.nsIn K o_ENDS "number" = some (some (.ref f17))) (w3_ENDS : ∃ (en : DictEntry) (t : Tok), es_ENDS[3]? = some en ∧ en.key = .str "cell" t) (z3_ENDS : PySem.W.nsIn K o_ENDS "cell" = some (some (.ref f18))) (w4_ENDS : ∃ (en : DictEntry) (t : Tok), es_ENDS[4]? = some en ∧ en.key = .str "columns" t) (z4_ENDS : PySem.W.nsIn K o_ENDS "columns" = some (some (.ref f19))) (w5_ENDS : ∃ (en : DictEntry) (t : Tok), es_ENDS[5]? = some en ∧ en.key = .str "word" t) (z5_ENDS : PySem.W.nsIn K o_ENDS "word" = some (some (.ref f21))) (w6_ENDS : ∃ (en : DictEntry) (t : Tok), es_ENDS[6]? = some en ∧ en.key = .str "sign" t) (z6_ENDS : PySem.W.nsIn K o_ENDS "sign" = some (some (.ref f22)))
    (z_bool : PySem.W.nsIn K mainGlobals "bool" = some none)
    (z_divmod : PySem.W.nsIn K mainGlobals "divmod" = some none)
    (z_int : PySem.W.nsIn K mainGlobals "int" = some none)
    (z_isinstance : PySem.W.nsIn K mainGlobals "isinstance" = some none)
    (z_len : PySem.W.nsIn K mainGlobals "len" = some none)
    (z_list : PySem.W.nsIn K mainGlobals "list" = some none)
    (z_range : PySem.W.nsIn K mainGlobals "range" = some none)
    (z_str : PySem.W.nsIn K mainGlobals "str" = some none)
    (z_tuple : PySem.W.nsIn K mainGlobals "tuple" = some none) :
    ∃ fd : FuncData, (∀ (s : Shared) (v : Value), BindsTo s fd ⟨[v], []⟩ [("script", v)]) ∧ ∀ base : Heap, K.In base → base.Ns mainGlobals mg → FnOk l.prog w K mg base CX0 8 fa fd ["script"] (splaw K) := by
  have e := hfa.symm.trans (PySem.W.mg_of X G a52)
  cases e
  have F0 := fun_mk (st := sFault_init) l0 c0 k0
  have b0 := F0.binds (ps := PFault_init) fun _ _ _ _ _ _ us hl => match us, hl with | [_, _], _ => rfl
  have F1 := fun_mk (st := shalf_even) l1 c1 k1
  have b1 := F1.binds (ps := Phalf_even) fun _ _ _ _ _ _ us hl => match us, hl with | [_, _], _ => rfl
  have F2 := fun_mk (st := sfitting) l2 c2 k2
  have b2 := F2.binds (ps := Pfitting) fun _ _ _ _ _ _ us hl => match us, hl with | [_], _ => rfl
  have F3 := fun_mk (st := sread_amount) l3 c3 k3
  have b3 := F3.binds (ps := Pread_amount) fun _ _ _ _ _ _ us hl => match us, hl with | [_], _ => rfl
  have F4 := fun_mk (st := sare_figures) l4 c4 k4
  have b4 := F4.binds (ps := Pare_figures) fun _ _ _ _ _ _ us hl => match us, hl with | [_, _], _ => rfl
  have F5 := fun_mk (st := scapital) l5 c5 k5
  have b5 := F5.binds (ps := Pcapital) fun _ _ _ _ _ _ us hl => match us, hl with | [_], _ => rfl
  have F6 := fun_mk (st := sis_figure) l6 c6 k6
  have b6 := F6.binds (ps := Pis_figure) fun _ _ _ _ _ _ us hl => match us, hl with | [_], _ => rfl
  have F7 := fun_mk (st := sis_letter) l7 c7 k7
  have b7 := F7.binds (ps := Pis_letter) fun _ _ _ _ _ _ us hl => match us, hl with | [_], _ => rfl
  have F8 := fun_mk (st := sblanks_end) l8 c8 k8
  have b8 := F8.binds (ps := Pblanks_end) fun _ _ _ _ _ _ us hl => match us, hl with | [_, _], _ => rfl
  have F9 := fun_mk (st := sfigures_end) l9 c9 k9
  have b9 := F9.binds (ps := Pfigures_end) fun _ _ _ _ _ _ us hl => match us, hl with | [_, _], _ => rfl
  have F10 := fun_mk (st := smark_end) l10 c10 k10
  have b10 := F10.binds (ps := Pmark_end) fun _ _ _ _ _ _ us hl => match us, hl with | [_, _], _ => rfl
  have F11 := fun_mk (st := srow_end) l11 c11 k11
  have b11 := F11.binds (ps := Prow_end) fun _ _ _ _ _ _ us hl => match us, hl with | [_, _], _ => rfl
  have F12 := fun_mk (st := scolumn_end) l12 c12 k12
  have b12 := F12.binds (ps := Pcolumn_end) fun _ _ _ _ _ _ us hl => match us, hl with | [_, _], _ => rfl
  have F13 := fun_mk (st := spair_end) l13 c13 k13
  have b13 := F13.binds (ps := Ppair_end) fun _ _ _ _ _ _ us hl => match us, hl with | [_, _, _], _ => rfl
  have F14 := fun_mk (st := smakes_word) l14 c14 k14
  have b14 := F14.binds (ps := Pmakes_word) fun _ _ _ _ _ _ us hl => match us, hl with | [_], _ => rfl
  have F15 := fun_mk (st := serror_end) l15 c15 k15
  have b15 := F15.binds (ps := Perror_end) fun _ _ _ _ _ _ us hl => match us, hl with | [_, _], _ => rfl
  have F16 := fun_mk (st := srows_end) l16 c16 k16
  have b16 := F16.binds (ps := Prows_end) fun _ _ _ _ _ _ us hl => match us, hl with | [_, _], _ => rfl
  have F17 := fun_mk (st := snumber_end) l17 c17 k17
  have b17 := F17.binds (ps := Pnumber_end) fun _ _ _ _ _ _ us hl => match us, hl with | [_, _], _ => rfl
  have F18 := fun_mk (st := scell_end) l18 c18 k18
  have b18 := F18.binds (ps := Pcell_end) fun _ _ _ _ _ _ us hl => match us, hl with | [_, _], _ => rfl
  have F19 := fun_mk (st := scolumns_end) l19 c19 k19
  have b19 := F19.binds (ps := Pcolumns_end) fun _ _ _ _ _ _ us hl => match us, hl with | [_, _], _ => rfl
  have F20 := fun_mk (st := sgoes_on_word) l20 c20 k20
  have b20 := F20.binds (ps := Pgoes_on_word) fun _ _ _ _ _ _ us hl => match us, hl with | [_], _ => rfl
  have F21 := fun_mk (st := sword_end) l21 c21 k21
  have b21 := F21.binds (ps := Pword_end) fun _ _ _ _ _ _ us hl => match us, hl with | [_, _], _ => rfl
  have F22 := fun_mk (st := ssign_end) l22 c22 k22
  have b22 := F22.binds (ps := Psign_end) fun _ _ _ _ _ _ us hl => match us, hl with | [_, _], _ => rfl
  have F23 := fun_mk (st := stext_token) l23 c23 k23
  have b23 := F23.binds (ps := Ptext_token) fun _ _ _ _ _ _ us hl => match us, hl with | [_, _], _ => rfl
  have F24 := fun_mk (st := sis_at_fault) l24 c24 k24
  have b24 := F24.binds (ps := Pis_at_fault) fun _ _ _ _ _ _ us hl => match us, hl with | [_, _], _ => rfl
  have F25 := fun_mk (st := stoken_at) l25 c25 k25
  have b25 := F25.binds (ps := Ptoken_at) fun _ _ _ _ _ _ us hl => match us, hl with | [_, _, _], _ => rfl
  have F26 := fun_mk (st := stokens) l26 c26 k26
  have b26 := F26.binds (ps := Ptokens) fun _ _ _ _ _ _ us hl => match us, hl with | [_], _ => rfl
  have F27 := fun_mk (st := s_law_mixed) l27 c27 k27
  have b27 := F27.binds (ps := P_law_mixed) fun _ _ _ _ _ _ us hl => match us, hl with | [_, _, _], _ => rfl
  have F28 := fun_mk (st := s_law_pool) l28 c28 k28
  have b28 := F28.binds (ps := P_law_pool) fun _ _ _ _ _ _ us hl => match us, hl with | [_], _ => rfl
  have F29 := fun_mk (st := s_law_take) l29 c29 k29
  have b29 := F29.binds (ps := P_law_take) fun _ _ _ _ _ _ us hl => match us, hl with | [_, _], _ => rfl
  have F30 := fun_mk (st := s_law_signs) l30 c30 k30
  have b30 := F30.binds (ps := P_law_signs) fun _ _ _ _ _ _ us hl => match us, hl with | [], _ => rfl
  have F31 := fun_mk (st := s_law_letters) l31 c31 k31
  have b31 := F31.binds (ps := P_law_letters) fun _ _ _ _ _ _ us hl => match us, hl with | [], _ => rfl
  have F32 := fun_mk (st := s_law_stands) l32 c32 k32
  have b32 := F32.binds (ps := P_law_stands) fun _ _ _ _ _ _ us hl => match us, hl with | [_, _, _], _ => rfl
  have F33 := fun_mk (st := s_law_run) l33 c33 k33
  have b33 := F33.binds (ps := P_law_run) fun _ _ _ _ _ _ us hl => match us, hl with | [_, _, _], _ => rfl
  have F34 := fun_mk (st := s_law_dollar) l34 c34 k34
  have b34 := F34.binds (ps := P_law_dollar) fun _ _ _ _ _ _ us hl => match us, hl with | [_, _], _ => rfl
  have F35 := fun_mk (st := s_law_row) l35 c35 k35
  have b35 := F35.binds (ps := P_law_row) fun _ _ _ _ _ _ us hl => match us, hl with | [_, _], _ => rfl
  have F36 := fun_mk (st := s_law_rows) l36 c36 k36
  have b36 := F36.binds (ps := P_law_rows) fun _ _ _ _ _ _ us hl => match us, hl with | [_, _], _ => rfl
  have F37 := fun_mk (st := s_law_cell) l37 c37 k37
  have b37 := F37.binds (ps := P_law_cell) fun _ _ _ _ _ _ us hl => match us, hl with | [_, _], _ => rfl
  have F38 := fun_mk (st := s_law_columns) l38 c38 k38
  have b38 := F38.binds (ps := P_law_columns) fun _ _ _ _ _ _ us hl => match us, hl with | [_, _], _ => rfl
  have F39 := fun_mk (st := s_law_number) l39 c39 k39
  have b39 := F39.binds (ps := P_law_number) fun _ _ _ _ _ _ us hl => match us, hl with | [_, _], _ => rfl
  have F40 := fun_mk (st := s_law_is_amount) l40 c40 k40
  have b40 := F40.binds (ps := P_law_is_amount) fun _ _ _ _ _ _ us hl => match us, hl with | [_], _ => rfl
  have F41 := fun_mk (st := s_law_error) l41 c41 k41
  have b41 := F41.binds (ps := P_law_error) fun _ _ _ _ _ _ us hl => match us, hl with | [_, _], _ => rfl
  have F42 := fun_mk (st := s_law_word) l42 c42 k42
  have b42 := F42.binds (ps := P_law_word) fun _ _ _ _ _ _ us hl => match us, hl with | [_, _], _ => rfl
  have F43 := fun_mk (st := s_law_sign) l43 c43 k43
  have b43 := F43.binds (ps := P_law_sign) fun _ _ _ _ _ _ us hl => match us, hl with | [_, _], _ => rfl
  have F44 := fun_mk (st := s_law_quoted) l44 c44 k44
  have b44 := F44.binds (ps := P_law_quoted) fun _ _ _ _ _ _ us hl => match us, hl with | [_, _], _ => rfl
  have F45 := fun_mk (st := s_law_token) l45 c45 k45
  have b45 := F45.binds (ps := P_law_token) fun _ _ _ _ _ _ us hl => match us, hl with | [_, _], _ => rfl
  have F46 := fun_mk (st := s_law_formed) l46 c46 k46
  have b46 := F46.binds (ps := P_law_formed) fun _ _ _ _ _ _ us hl => match us, hl with | [_, _], _ => rfl
  have F47 := fun_mk (st := s_law_text_piece) l47 c47 k47
  have b47 := F47.binds (ps := P_law_text_piece) fun _ _ _ _ _ _ us hl => match us, hl with | [_], _ => rfl
  have F48 := fun_mk (st := s_law_piece) l48 c48 k48
  have b48 := F48.binds (ps := P_law_piece) fun _ _ _ _ _ _ us hl => match us, hl with | [_], _ => rfl
  have F49 := fun_mk (st := s_law_is_integer) l49 c49 k49
  have b49 := F49.binds (ps := P_law_is_integer) fun _ _ _ _ _ _ us hl => match us, hl with | [_], _ => rfl
  have F50 := fun_mk (st := s_law_due) l50 c50 k50
  have b50 := F50.binds (ps := P_law_due) fun _ _ _ _ _ _ us hl => match us, hl with | [_], _ => rfl
  have F51 := fun_mk (st := s_law_same) l51 c51 k51
  have b51 := F51.binds (ps := P_law_same) fun _ _ _ _ _ _ us hl => match us, hl with | [_, _], _ => rfl
  have F52 := fun_mk (st := slaw) l52 c52 k52
  have b52 := F52.binds (ps := Plaw) fun _ _ _ _ _ _ us hl => match us, hl with | [_], _ => rfl
  have qWE : clK K "WorkError" = E_WorkError := clK_of vWE
  have qFault : clK K "Fault" = E_Fault := clK_of vFault
  have csFault : ClsF K "Fault" ["at"] ["WorkError"] := by
    refine { ox := ?_, tk := fun f hf => ?_, no := fun f hf => ?_, kb := fun b hb => ?_, ex := ?_ }
    · rw [qFault]; exact ⟨iniFault, ovFault, hdFault, saFault, gaFault, ggFault, xbFault, tyFault, kpFault, caFault, cnE, ctE, cmFault⟩
    · have hf2 : f ∈ (["at"] : List Str) := hf
      simp only [List.mem_cons, List.not_mem_nil, or_false] at hf2
      rcases hf2 with rfl
      · rw [qFault]; exact tkFaultat
    · have hf2 : f ∈ (["at"] : List Str) := hf
      simp only [List.mem_cons, List.not_mem_nil, or_false] at hf2
      rcases hf2 with rfl
      · rw [qFault]; exact noFaultat
    · obtain rfl : b = "WorkError" := List.mem_singleton.mp hb
      rw [qFault, qWE]; exact ekit_sub hWE tWE xwFault (fun _ => rfl)
    · rw [qFault]; exact PySem.W.exm_ref xbFault hdFault tyFault xxFault
  have erow_end : fnK K "row_end" = f11 := clK_of a11
  have ecolumn_end : fnK K "column_end" = f12 := clK_of a12
  have eerror_end : fnK K "error_end" = f15 := clK_of a15
  have erows_end : fnK K "rows_end" = f16 := clK_of a16
  have enumber_end : fnK K "number_end" = f17 := clK_of a17
  have ecell_end : fnK K "cell_end" = f18 := clK_of a18
  have ecolumns_end : fnK K "columns_end" = f19 := clK_of a19
  have eword_end : fnK K "word_end" = f21 := clK_of a21
  have esign_end : fnK K "sign_end" = f22 := clK_of a22
  let T : Txt K mg w := { gc_WorkError := (by rw [qWE]; exact PySem.W.mg_of X G vWE), cs_Fault := csFault, gc_Fault := (by rw [qFault]; exact PySem.W.mg_of X G vFault), i_Fault := (by rw [qFault]; exact a0), ti_Fault := tf0, ev_row_end := erow_end.symm, gv_row_end := (by rw [erow_end]; exact PySem.W.mg_of X G a11), ev_column_end := ecolumn_end.symm, gv_column_end := (by rw [ecolumn_end]; exact PySem.W.mg_of X G a12), ev_error_end := eerror_end.symm, gv_error_end := (by rw [eerror_end]; exact PySem.W.mg_of X G a15), ev_rows_end := erows_end.symm, gv_rows_end := (by rw [erows_end]; exact PySem.W.mg_of X G a16), ev_number_end := enumber_end.symm, gv_number_end := (by rw [enumber_end]; exact PySem.W.mg_of X G a17), ev_cell_end := ecell_end.symm, gv_cell_end := (by rw [ecell_end]; exact PySem.W.mg_of X G a18), ev_columns_end := ecolumns_end.symm, gv_columns_end := (by rw [ecolumns_end]; exact PySem.W.mg_of X G a19), ev_word_end := eword_end.symm, gv_word_end := (by rw [eword_end]; exact PySem.W.mg_of X G a21), ev_sign_end := esign_end.symm, gv_sign_end := (by rw [esign_end]; exact PySem.W.mg_of X G a22), aFault_init := f0, dFault_init := _, FFault_init := F0, bFault_init := b0, ahalf_even := f1, dhalf_even := _, Fhalf_even := F1, ghalf_even := PySem.W.mg_of X G a1, bhalf_even := b1, afitting := f2, dfitting := _, Ffitting := F2, gfitting := PySem.W.mg_of X G a2, bfitting := b2, aread_amount := f3, dread_amount := _, Fread_amount := F3, gread_amount := PySem.W.mg_of X G a3, bread_amount := b3, aare_figures := f4, dare_figures := _, Fare_figures := F4, gare_figures := PySem.W.mg_of X G a4, bare_figures := b4, acapital := f5, dcapital := _, Fcapital := F5, gcapital := PySem.W.mg_of X G a5, bcapital := b5, ais_figure := f6, dis_figure := _, Fis_figure := F6, gis_figure := PySem.W.mg_of X G a6, bis_figure := b6, ais_letter := f7, dis_letter := _, Fis_letter := F7, gis_letter := PySem.W.mg_of X G a7, bis_letter := b7, ablanks_end := f8, dblanks_end := _, Fblanks_end := F8, gblanks_end := PySem.W.mg_of X G a8, bblanks_end := b8, afigures_end := f9, dfigures_end := _, Ffigures_end := F9, gfigures_end := PySem.W.mg_of X G a9, bfigures_end := b9, amark_end := f10, dmark_end := _, Fmark_end := F10, gmark_end := PySem.W.mg_of X G a10, bmark_end := b10, arow_end := f11, drow_end := _, Frow_end := F11, grow_end := PySem.W.mg_of X G a11, brow_end := b11, acolumn_end := f12, dcolumn_end := _, Fcolumn_end := F12, gcolumn_end := PySem.W.mg_of X G a12, bcolumn_end := b12, apair_end := f13, dpair_end := _, Fpair_end := F13, gpair_end := PySem.W.mg_of X G a13, bpair_end := b13, amakes_word := f14, dmakes_word := _, Fmakes_word := F14, gmakes_word := PySem.W.mg_of X G a14, bmakes_word := b14, aerror_end := f15, derror_end := _, Ferror_end := F15, gerror_end := PySem.W.mg_of X G a15, berror_end := b15, arows_end := f16, drows_end := _, Frows_end := F16, grows_end := PySem.W.mg_of X G a16, brows_end := b16, anumber_end := f17, dnumber_end := _, Fnumber_end := F17, gnumber_end := PySem.W.mg_of X G a17, bnumber_end := b17, acell_end := f18, dcell_end := _, Fcell_end := F18, gcell_end := PySem.W.mg_of X G a18, bcell_end := b18, acolumns_end := f19, dcolumns_end := _, Fcolumns_end := F19, gcolumns_end := PySem.W.mg_of X G a19, bcolumns_end := b19, agoes_on_word := f20, dgoes_on_word := _, Fgoes_on_word := F20, ggoes_on_word := PySem.W.mg_of X G a20, bgoes_on_word := b20, aword_end := f21, dword_end := _, Fword_end := F21, gword_end := PySem.W.mg_of X G a21, bword_end := b21, asign_end := f22, dsign_end := _, Fsign_end := F22, gsign_end := PySem.W.mg_of X G a22, bsign_end := b22, atext_token := f23, dtext_token := _, Ftext_token := F23, gtext_token := PySem.W.mg_of X G a23, btext_token := b23, ais_at_fault := f24, dis_at_fault := _, Fis_at_fault := F24, gis_at_fault := PySem.W.mg_of X G a24, bis_at_fault := b24, atoken_at := f25, dtoken_at := _, Ftoken_at := F25, gtoken_at := PySem.W.mg_of X G a25, btoken_at := b25, atokens := f26, dtokens := _, Ftokens := F26, gtokens := PySem.W.mg_of X G a26, btokens := b26, a_law_mixed := f27, d_law_mixed := _, F_law_mixed := F27, g_law_mixed := PySem.W.mg_of X G a27, b_law_mixed := b27, a_law_pool := f28, d_law_pool := _, F_law_pool := F28, g_law_pool := PySem.W.mg_of X G a28, b_law_pool := b28, a_law_take := f29, d_law_take := _, F_law_take := F29, g_law_take := PySem.W.mg_of X G a29, b_law_take := b29, a_law_signs := f30, d_law_signs := _, F_law_signs := F30, g_law_signs := PySem.W.mg_of X G a30, b_law_signs := b30, a_law_letters := f31, d_law_letters := _, F_law_letters := F31, g_law_letters := PySem.W.mg_of X G a31, b_law_letters := b31, a_law_stands := f32, d_law_stands := _, F_law_stands := F32, g_law_stands := PySem.W.mg_of X G a32, b_law_stands := b32, a_law_run := f33, d_law_run := _, F_law_run := F33, g_law_run := PySem.W.mg_of X G a33, b_law_run := b33, a_law_dollar := f34, d_law_dollar := _, F_law_dollar := F34, g_law_dollar := PySem.W.mg_of X G a34, b_law_dollar := b34, a_law_row := f35, d_law_row := _, F_law_row := F35, g_law_row := PySem.W.mg_of X G a35, b_law_row := b35, a_law_rows := f36, d_law_rows := _, F_law_rows := F36, g_law_rows := PySem.W.mg_of X G a36, b_law_rows := b36, a_law_cell := f37, d_law_cell := _, F_law_cell := F37, g_law_cell := PySem.W.mg_of X G a37, b_law_cell := b37, a_law_columns := f38, d_law_columns := _, F_law_columns := F38, g_law_columns := PySem.W.mg_of X G a38, b_law_columns := b38, a_law_number := f39, d_law_number := _, F_law_number := F39, g_law_number := PySem.W.mg_of X G a39, b_law_number := b39, a_law_is_amount := f40, d_law_is_amount := _, F_law_is_amount := F40, g_law_is_amount := PySem.W.mg_of X G a40, b_law_is_amount := b40, a_law_error := f41, d_law_error := _, F_law_error := F41, g_law_error := PySem.W.mg_of X G a41, b_law_error := b41, a_law_word := f42, d_law_word := _, F_law_word := F42, g_law_word := PySem.W.mg_of X G a42, b_law_word := b42, a_law_sign := f43, d_law_sign := _, F_law_sign := F43, g_law_sign := PySem.W.mg_of X G a43, b_law_sign := b43, a_law_quoted := f44, d_law_quoted := _, F_law_quoted := F44, g_law_quoted := PySem.W.mg_of X G a44, b_law_quoted := b44, a_law_token := f45, d_law_token := _, F_law_token := F45, g_law_token := PySem.W.mg_of X G a45, b_law_token := b45, a_law_formed := f46, d_law_formed := _, F_law_formed := F46, g_law_formed := PySem.W.mg_of X G a46, b_law_formed := b46, a_law_text_piece := f47, d_law_text_piece := _, F_law_text_piece := F47, g_law_text_piece := PySem.W.mg_of X G a47, b_law_text_piece := b47, a_law_piece := f48, d_law_piece := _, F_law_piece := F48, g_law_piece := PySem.W.mg_of X G a48, b_law_piece := b48, a_law_is_integer := f49, d_law_is_integer := _, F_law_is_integer := F49, g_law_is_integer := PySem.W.mg_of X G a49, b_law_is_integer := b49, a_law_due := f50, d_law_due := _, F_law_due := F50, g_law_due := PySem.W.mg_of X G a50, b_law_due := b50, a_law_same := f51, d_law_same := _, F_law_same := F51, g_law_same := PySem.W.mg_of X G a51, b_law_same := b51, alaw := fa, dlaw := _, Flaw := F52, glaw := PySem.W.mg_of X G a52, blaw := b52, t_GREATEST := t_GREATEST, m_GREATEST := PySem.W.mg_of X G v_GREATEST, t_FIGURES_AHEAD := t_FIGURES_AHEAD, m_FIGURES_AHEAD := PySem.W.mg_of X G v_FIGURES_AHEAD, t_FIGURES_BEHIND := t_FIGURES_BEHIND, m_FIGURES_BEHIND := PySem.W.mg_of X G v_FIGURES_BEHIND, o_ERRORS := o_ERRORS, m_ERRORS := PySem.W.mg_of X G v_ERRORS, q_ERRORS := fun _ => .inr ⟨_, _, _, u_ERRORS, rfl, rfl, (show 10 ≤ sizeLine by decide), (.cons ⟨_, rfl⟩ (.cons ⟨_, rfl⟩ (.cons ⟨_, rfl⟩ (.cons ⟨_, rfl⟩ (.cons ⟨_, rfl⟩ (.cons ⟨_, rfl⟩ (.cons ⟨_, rfl⟩ (.cons ⟨_, rfl⟩ (.cons ⟨_, rfl⟩ (.cons ⟨_, rfl⟩ .nil))))))))))⟩, t_MOST_SIGNS := t_MOST_SIGNS, m_MOST_SIGNS := PySem.W.mg_of X G v_MOST_SIGNS, t_LAST_COLUMN := t_LAST_COLUMN, m_LAST_COLUMN := PySem.W.mg_of X G v_LAST_COLUMN, t_LAST_ROW := t_LAST_ROW, m_LAST_ROW := PySem.W.mg_of X G v_LAST_ROW, t_MOST_SIGNS_OF_WORD := t_MOST_SIGNS_OF_WORD, m_MOST_SIGNS_OF_WORD := PySem.W.mg_of X G v_MOST_SIGNS_OF_WORD, o_SIGNS := o_SIGNS, m_SIGNS := PySem.W.mg_of X G v_SIGNS, q_SIGNS := fun _ => .inr ⟨_, _, _, u_SIGNS, rfl, rfl, (show 20 ≤ sizeLine by decide), (.cons ⟨_, rfl⟩ (.cons ⟨_, rfl⟩ (.cons ⟨_, rfl⟩ (.cons ⟨_, rfl⟩ (.cons ⟨_, rfl⟩ (.cons ⟨_, rfl⟩ (.cons ⟨_, rfl⟩ (.cons ⟨_, rfl⟩ (.cons ⟨_, rfl⟩ (.cons ⟨_, rfl⟩ (.cons ⟨_, rfl⟩ (.cons ⟨_, rfl⟩ (.cons ⟨_, rfl⟩ (.cons ⟨_, rfl⟩ (.cons ⟨_, rfl⟩ (.cons ⟨_, rfl⟩ (.cons ⟨_, rfl⟩ (.cons ⟨_, rfl⟩ (.cons ⟨_, rfl⟩ (.cons ⟨_, rfl⟩ .nil))))))))))))))))))))⟩, o_ENDS := o_ENDS, m_ENDS := PySem.W.mg_of X G v_ENDS, k_ENDS := ⟨es_ENDS, ep_ENDS, u_ENDS, x_ENDS, n_ENDS, fun i k e => match i, e with | 0, e => (Option.some.inj e) ▸ w0_ENDS | 1, e => (Option.some.inj e) ▸ w1_ENDS | 2, e => (Option.some.inj e) ▸ w2_ENDS | 3, e => (Option.some.inj e) ▸ w3_ENDS | 4, e => (Option.some.inj e) ▸ w4_ENDS | 5, e => (Option.some.inj e) ▸ w5_ENDS | 6, e => (Option.some.inj e) ▸ w6_ENDS | i + 7, e => nomatch e⟩, k_ENDS_error := ⟨es_ENDS, ep_ENDS, _, u_ENDS, y_ENDS, z0_ENDS, (by rw [eerror_end]; rfl)⟩, k_ENDS_rows := ⟨es_ENDS, ep_ENDS, _, u_ENDS, y_ENDS, z1_ENDS, (by rw [erows_end]; rfl)⟩, k_ENDS_number := ⟨es_ENDS, ep_ENDS, _, u_ENDS, y_ENDS, z2_ENDS, (by rw [enumber_end]; rfl)⟩, k_ENDS_cell := ⟨es_ENDS, ep_ENDS, _, u_ENDS, y_ENDS, z3_ENDS, (by rw [ecell_end]; rfl)⟩, k_ENDS_columns := ⟨es_ENDS, ep_ENDS, _, u_ENDS, y_ENDS, z4_ENDS, (by rw [ecolumns_end]; rfl)⟩, k_ENDS_word := ⟨es_ENDS, ep_ENDS, _, u_ENDS, y_ENDS, z5_ENDS, (by rw [eword_end]; rfl)⟩, k_ENDS_sign := ⟨es_ENDS, ep_ENDS, _, u_ENDS, y_ENDS, z6_ENDS, (by rw [esign_end]; rfl)⟩, z_bool := PySem.W.mg_none_of X G z_bool, z_divmod := PySem.W.mg_none_of X G z_divmod, z_int := PySem.W.mg_none_of X G z_int, z_isinstance := PySem.W.mg_none_of X G z_isinstance, z_len := PySem.W.mg_none_of X G z_len, z_list := PySem.W.mg_none_of X G z_list, z_range := PySem.W.mg_none_of X G z_range, z_str := PySem.W.mg_none_of X G z_str, z_tuple := PySem.W.mg_none_of X G z_tuple }
  exact ⟨T.dlaw, fun s v => .of_eq rfl, fun base _ _ => oklaw T⟩

end Mysheetworks_k10_tokens_put_together
open PySem PySem.W PyProof.Rows
set_option maxHeartbeats 0 in
theorem PySem.Challenge.cw_sheetworks_k10_tokens_put_together_holds : PySem.Challenge.rw_sheetworks_k10_tokens_put_together.Holds := by
  w_on; o_law; k_head; (case hw => w_witness2)
  k_fill
  refine L2.walk_of (l := PySem.Challenge.rw_sheetworks_k10_tokens_put_together) (n := 63) (k := 8) (x := "script") (CX := fun _ => L2.CX0) (sp := fun w => Mysheetworks_k10_tokens_put_together.splaw _) rfl (by decide) rfl ⟨rfl, by decide, by decide⟩ (fun w h Y => PySem.W.kIn_of Y) ?F (fun _ _ a ns hl _ hS => ⟨a, ns, rfl, hS, hl, fun _ => rfl⟩) (fun _ _ _ _ _ h => h)
  case F =>
    intro w mg fa h KX G hmg
    refine' Mysheetworks_k10_tokens_put_together.all_mk KX G hmg ?vWE ?hWE ?tWE ?cnE ?ctE ?vFault ?iniFault ?ovFault ?hdFault ?saFault ?gaFault ?ggFault ?xbFault ?tyFault ?kpFault ?caFault ?cmFault ?xwFault ?xxFault ?tkFaultat ?noFaultat ?a0 ?tf0 ?l0 ?c0 ?k0 ?a1 ?l1 ?c1 ?k1 ?a2 ?l2 ?c2 ?k2 ?a3 ?l3 ?c3 ?k3 ?a4 ?l4 ?c4 ?k4 ?a5 ?l5 ?c5 ?k5 ?a6 ?l6 ?c6 ?k6 ?a7 ?l7 ?c7 ?k7 ?a8 ?l8 ?c8 ?k8 ?a9 ?l9 ?c9 ?k9 ?a10 ?l10 ?c10 ?k10 ?a11 ?l11 ?c11 ?k11 ?a12 ?l12 ?c12 ?k12 ?a13 ?l13 ?c13 ?k13 ?a14 ?l14 ?c14 ?k14 ?a15 ?l15 ?c15 ?k15 ?a16 ?l16 ?c16 ?k16 ?a17 ?l17 ?c17 ?k17 ?a18 ?l18 ?c18 ?k18 ?a19 ?l19 ?c19 ?k19 ?a20 ?l20 ?c20 ?k20 ?a21 ?l21 ?c21 ?k21 ?a22 ?l22 ?c22 ?k22 ?a23 ?l23 ?c23 ?k23 ?a24 ?l24 ?c24 ?k24 ?a25 ?l25 ?c25 ?k25 ?a26 ?l26 ?c26 ?k26 ?a27 ?l27 ?c27 ?k27 ?a28 ?l28 ?c28 ?k28 ?a29 ?l29 ?c29 ?k29 ?a30 ?l30 ?c30 ?k30 ?a31 ?l31 ?c31 ?k31 ?a32 ?l32 ?c32 ?k32 ?a33 ?l33 ?c33 ?k33 ?a34 ?l34 ?c34 ?k34 ?a35 ?l35 ?c35 ?k35 ?a36 ?l36 ?c36 ?k36 ?a37 ?l37 ?c37 ?k37 ?a38 ?l38 ?c38 ?k38 ?a39 ?l39 ?c39 ?k39 ?a40 ?l40 ?c40 ?k40 ?a41 ?l41 ?c41 ?k41 ?a42 ?l42 ?c42 ?k42 ?a43 ?l43 ?c43 ?k43 ?a44 ?l44 ?c44 ?k44 ?a45 ?l45 ?c45 ?k45 ?a46 ?l46 ?c46 ?k46 ?a47 ?l47 ?c47 ?k47 ?a48 ?l48 ?c48 ?k48 ?a49 ?l49 ?c49 ?k49 ?a50 ?l50 ?c50 ?k50 ?a51 ?l51 ?c51 ?k51 ?a52 ?l52 ?c52 ?k52 ?v_GREATEST ?v_FIGURES_AHEAD ?v_FIGURES_BEHIND ?v_ERRORS ?u_ERRORS ?v_MOST_SIGNS ?v_LAST_COLUMN ?v_LAST_ROW ?v_MOST_SIGNS_OF_WORD ?v_SIGNS ?u_SIGNS ?v_ENDS ?u_ENDS ?y_ENDS ?x_ENDS ?n_ENDS ?w0_ENDS ?z0_ENDS ?w1_ENDS ?z1_ENDS ?w2_ENDS ?z2_ENDS ?w3_ENDS ?z3_ENDS ?w4_ENDS ?z4_ENDS ?w5_ENDS ?z5_ENDS ?w6_ENDS ?z6_ENDS ?z_bool ?z_divmod ?z_int ?z_isinstance ?z_len ?z_list ?z_range ?z_str ?z_tuple
    (case vWE => k_is); (case hWE => k_is); (case tWE => k_is); (case cnE => k_is); (case ctE => k_is); (case vFault => k_is); (case iniFault => kx_is); (case ovFault => kx_is); (case hdFault => k_is); (case saFault => k_is); (case gaFault => k_is); (case ggFault => k_is); (case xbFault => k_is); (case tyFault => k_is); (case kpFault => k_is); (case caFault => k_is); (case cmFault => k_is); (case xwFault => k_is); (case xxFault => k_is); (case tkFaultat => k_is); (case noFaultat => k_is); (case a0 => k_is); (case tf0 => k_is); (case l0 => k_is); (case c0 => k_is); (case k0 => k_is); (case a1 => k_is); (case l1 => k_is); (case c1 => k_is); (case k1 => k_is); (case a2 => k_is); (case l2 => k_is); (case c2 => k_is); (case k2 => k_is); (case a3 => k_is); (case l3 => k_is); (case c3 => k_is); (case k3 => k_is); (case a4 => k_is); (case l4 => k_is); (case c4 => k_is); (case k4 => k_is); (case a5 => k_is); (case l5 => k_is); (case c5 => k_is); (case k5 => k_is); (case a6 => k_is); (case l6 => k_is); (case c6 => k_is); (case k6 => k_is); (case a7 => k_is); (case l7 => k_is); (case c7 => k_is); (case k7 => k_is); (case a8 => k_is); (case l8 => k_is); (case c8 => k_is); (case k8 => k_is); (case a9 => k_is); (case l9 => k_is); (case c9 => k_is); (case k9 => k_is); (case a10 => k_is); (case l10 => k_is); (case c10 => k_is); (case k10 => k_is); (case a11 => k_is); (case l11 => k_is); (case c11 => k_is); (case k11 => k_is); (case a12 => k_is); (case l12 => k_is); (case c12 => k_is); (case k12 => k_is); (case a13 => k_is); (case l13 => k_is); (case c13 => k_is); (case k13 => k_is); (case a14 => k_is); (case l14 => k_is); (case c14 => k_is); (case k14 => k_is); (case a15 => k_is); (case l15 => k_is); (case c15 => k_is); (case k15 => k_is); (case a16 => k_is); (case l16 => k_is); (case c16 => k_is); (case k16 => k_is); (case a17 => k_is); (case l17 => k_is); (case c17 => k_is); (case k17 => k_is); (case a18 => k_is); (case l18 => k_is); (case c18 => k_is); (case k18 => k_is); (case a19 => k_is); (case l19 => k_is); (case c19 => k_is); (case k19 => k_is); (case a20 => k_is); (case l20 => k_is); (case c20 => k_is); (case k20 => k_is); (case a21 => k_is); (case l21 => k_is); (case c21 => k_is); (case k21 => k_is); (case a22 => k_is); (case l22 => k_is); (case c22 => k_is); (case k22 => k_is); (case a23 => k_is); (case l23 => k_is); (case c23 => k_is); (case k23 => k_is); (case a24 => k_is); (case l24 => k_is); (case c24 => k_is); (case k24 => k_is); (case a25 => k_is); (case l25 => k_is); (case c25 => k_is); (case k25 => k_is); (case a26 => k_is); (case l26 => k_is); (case c26 => k_is); (case k26 => k_is); (case a27 => k_is); (case l27 => k_is); (case c27 => k_is); (case k27 => k_is); (case a28 => k_is); (case l28 => k_is); (case c28 => k_is); (case k28 => k_is); (case a29 => k_is); (case l29 => k_is); (case c29 => k_is); (case k29 => k_is); (case a30 => k_is); (case l30 => k_is); (case c30 => k_is); (case k30 => k_is); (case a31 => k_is); (case l31 => k_is); (case c31 => k_is); (case k31 => k_is); (case a32 => k_is); (case l32 => k_is); (case c32 => k_is); (case k32 => k_is); (case a33 => k_is); (case l33 => k_is); (case c33 => k_is); (case k33 => k_is); (case a34 => k_is); (case l34 => k_is); (case c34 => k_is); (case k34 => k_is); (case a35 => k_is); (case l35 => k_is); (case c35 => k_is); (case k35 => k_is); (case a36 => k_is); (case l36 => k_is); (case c36 => k_is); (case k36 => k_is); (case a37 => k_is); (case l37 => k_is); (case c37 => k_is); (case k37 => k_is); (case a38 => k_is); (case l38 => k_is); (case c38 => k_is); (case k38 => k_is); (case a39 => k_is); (case l39 => k_is); (case c39 => k_is); (case k39 => k_is); (case a40 => k_is); (case l40 => k_is); (case c40 => k_is); (case k40 => k_is); (case a41 => k_is); (case l41 => k_is); (case c41 => k_is); (case k41 => k_is); (case a42 => k_is); (case l42 => k_is); (case c42 => k_is); (case k42 => k_is); (case a43 => k_is); (case l43 => k_is); (case c43 => k_is); (case k43 => k_is); (case a44 => k_is); (case l44 => k_is); (case c44 => k_is); (case k44 => k_is); (case a45 => k_is); (case l45 => k_is); (case c45 => k_is); (case k45 => k_is); (case a46 => k_is); (case l46 => k_is); (case c46 => k_is); (case k46 => k_is); (case a47 => k_is); (case l47 => k_is); (case c47 => k_is); (case k47 => k_is); (case a48 => k_is); (case l48 => k_is); (case c48 => k_is); (case k48 => k_is); (case a49 => k_is); (case l49 => k_is); (case c49 => k_is); (case k49 => k_is); (case a50 => k_is); (case l50 => k_is); (case c50 => k_is); (case k50 => k_is); (case a51 => k_is); (case l51 => k_is); (case c51 => k_is); (case k51 => k_is); (case a52 => k_is); (case l52 => k_is); (case c52 => k_is); (case k52 => k_is); (case v_GREATEST => k_is); (case v_FIGURES_AHEAD => k_is); (case v_FIGURES_BEHIND => k_is); (case v_ERRORS => k_is); (case u_ERRORS => k_is); (case v_MOST_SIGNS => k_is); (case v_LAST_COLUMN => k_is); (case v_LAST_ROW => k_is); (case v_MOST_SIGNS_OF_WORD => k_is); (case v_SIGNS => k_is); (case u_SIGNS => k_is); (case v_ENDS => k_is); (case u_ENDS => k_is); (case y_ENDS => k_keys); (case x_ENDS => decide); (case n_ENDS => rfl); (case w0_ENDS => exact ⟨_, _, rfl, rfl⟩); (case z0_ENDS => k_is); (case w1_ENDS => exact ⟨_, _, rfl, rfl⟩); (case z1_ENDS => k_is); (case w2_ENDS => exact ⟨_, _, rfl, rfl⟩); (case z2_ENDS => k_is); (case w3_ENDS => exact ⟨_, _, rfl, rfl⟩); (case z3_ENDS => k_is); (case w4_ENDS => exact ⟨_, _, rfl, rfl⟩); (case z4_ENDS => k_is); (case w5_ENDS => exact ⟨_, _, rfl, rfl⟩); (case z5_ENDS => k_is); (case w6_ENDS => exact ⟨_, _, rfl, rfl⟩); (case z6_ENDS => k_is); (case z_bool => k_is); (case z_divmod => k_is); (case z_int => k_is); (case z_isinstance => k_is); (case z_len => k_is); (case z_list => k_is); (case z_range => k_is); (case z_str => k_is); (case z_tuple => k_is)

