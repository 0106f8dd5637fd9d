/- The law ParseTells of layer 12, at every formula and text that hold together at most 1048576 values and letters (what the reading takes of the variables included): the row, and its card, tied to the program's text. -/
import Derived.Test.YtojbhlbknjnioaaGreatDoorPt28
import Derived.Test.YtojbhlbknjnioaaGreatDoorCards
import Derived.Test.YtojbhlbknjnioaaGreatDoorTie
import Derived.ChangeMaps5
import Derived.ProofKit
import Derived.OpenShut
import Derived.Deep.DeepHandedRow
import Derived.Lay
import Derived.LaidOnce
import Derived.SevenTiedAt
import Derived.Stop.LaidErr
namespace Go.Proofs.YtojbhlbknjnioaaGreatDoor
open Go.ChangeShapes Go.WideShapes Go.ChangeAt Go.RowKit

theorem gEST : Tryz.prog.globalNamed "strconv.ErrSyntax" = some 4 := by kernel_rfl
theorem gERT : Tryz.prog.globalNamed "strconv.ErrRange" = some 5 := by kernel_rfl
theorem gESTypeT : (Tryz.prog.globals[4]?).map (·.type) = some 81 := by kernel_rfl
theorem gERTypeT : (Tryz.prog.globals[5]?).map (·.type) = some 81 := by kernel_rfl
theorem cellsEST : Tryz.prog.cellsOf 150 = 1 := by kernel_rfl
theorem cellsST : Tryz.prog.cellsOf 9 = 1 := by kernel_rfl
theorem starEST : "*" ++ "errors.errorString" = "*errors.errorString" := by decide
theorem rowEST (u : TypeId) (h : Tryz.prog.typeName? 3 u = some "*errors.errorString") : u = 148 :=
  typeName_ptr_named (nm := "errors.errorString") (by rw [starEST]; kernel_rfl) (by kernel_rfl) (by decide) u (by rw [starEST]; exact h)

/-- What the row's list gives: strconv's two errors. -/
theorem vars_of_laidT {W : World} (h : laidMetH Tryz.prog Rows.parseTellsUptoRow.laid W) : VarsAt W := by
  rw [MakeChecks.laidMetH_plain _ _ _ (by kernel_rfl)] at h
  have h0 : laidMet Tryz.prog [("math/bits.deBruijn32tab", Rows.laid_math_bits_deBruijn32tab), ("math/bits.deBruijn64tab", Rows.laid_math_bits_deBruijn64tab), ("internal/strconv.uint64pow10", Rows.laid_internal_strconv_uint64pow10), ("unicode/utf8.acceptRanges", Rows.laid_unicode_utf8_acceptRanges), ("strconv.ErrRange", Rows.laid_strconv_ErrRange), ("strconv.ErrSyntax", Rows.laid_strconv_ErrSyntax), ("unicode/utf8.first", Rows.laid_unicode_utf8_first)] W := h
  have h4 := h0.tail.tail.tail.tail
  obtain ⟨a0, s0, hv0, -, -, -⟩ := laid_sentinel h4 gERT gERTypeT Tryz.underlying81 rowEST Tryz.underlying148 Tryz.underlying150 rfl rfl Tryz.underlying9 cellsEST cellsST
  obtain ⟨a1, s1, hv1, -, -, -⟩ := laid_sentinel h4.tail gEST gESTypeT Tryz.underlying81 rowEST Tryz.underlying148 Tryz.underlying150 rfl rfl Tryz.underlying9 cellsEST cellsST
  exact ⟨⟨_, by have h0 := World.var?_cell gEST hv1 0; simpa using h0, .inr ⟨_, _, rfl⟩⟩, ⟨_, by have h0 := World.var?_cell gERT hv0 0; simpa using h0, .inr ⟨_, _, rfl⟩⟩⟩

/-- A world for the witness: the variables as they are laid. -/
noncomputable abbrev laidWT (os : Os) : World := World.laidAll Tryz.prog os Rows.parseTellsUptoRow.laid
theorem laidW_metT (os : Os) (args : Array Value) : laidMetH Tryz.prog Rows.parseTellsUptoRow.laid ((laidWT os).forCall (fun _ _ => 0) ⟨#[], args, []⟩).memory := by
  rw [MakeChecks.laidMetH_plain _ _ _ (by kernel_rfl)]
  exact laidMet_laidAll _ (by kernel_rfl) (by kernel_rfl)
theorem laidW_shapedT (os : Os) (args : Array Value) : ((laidWT os).forCall (fun _ _ => 0) ⟨#[], args, []⟩).Shaped Tryz.prog := World.shaped_of_ZipB (by kernel_rfl) (by kernel_rfl)

abbrev tellsArgs : Array Value := #[.agg #[.int .i64 0, .int .i64 0, .string ⟨#[]⟩, .string ⟨#[]⟩, .slice none 0 0], .string ⟨#[]⟩]
theorem tells_reads (os : Os) {H : Type} (enc : TypeId × Value → H) : ∃ places, DataW.whole enc Tryz.prog ((laidWT os).forCall (fun _ _ => 0) ⟨#[], tellsArgs, []⟩).memory Tryz.f3.params.toList Rows.parseTellsSpec.vars false tellsArgs.toList 8 = some ([.agg [.lit (.int .i64 0), .lit (.int .i64 0), .agg [.lit (.string []), .lit (.string [])], .nil], .lit (.string [])], [], places) :=
  ⟨[], by kernel_rfl⟩

set_option maxRecDepth 100000 in
theorem parseTells_lifted (os : Os) (started : os.Started) (H : Type) (enc : TypeId × Value → H) (F : Stop.Interp) :
    ReturnsInHanded {} Tryz.checked os 3 .any ((Rows.OpenSpec.upto Rows.parseTellsSpec).preRow enc Tryz.prog Tryz.f3 Rows.parseTellsUptoRow.domain false Rows.parseTellsUptoRow.laid) (((Rows.OpenSpec.upto Rows.parseTellsSpec).at F).post enc Tryz.prog Tryz.f3 false true false false) := by
  obtain ⟨places, hx⟩ := tells_reads os enc
  have hok : Input.okWideB Tryz.prog ((laidWT os).forCall (fun _ _ => 0) ⟨#[], tellsArgs, []⟩) 3 ⟨#[], tellsArgs, []⟩ = true := by kernel_rfl
  refine returnsInHanded_of_row (C := Tryz.checked) (s := Rows.OpenSpec.upto Rows.parseTellsSpec) Tryz.own started (by kernel_rfl) Tryz.func3
    ⟨laidWT os, fun _ _ => 0, ⟨#[], tellsArgs, []⟩, World.laidAll_os _ _ _, laidW_shapedT os _, (Input.okWide_of_okWideB (base := 0) hok).1, (Input.okWide_of_okWideB hok).2,
      OpenSpec.preRow_of_cond 8 hx (by kernel_rfl) (fun k hk => by cases hk; kernel_rfl) (by kernel_rfl) (laidW_metT os _), by
        simp only [Assume.holds]
        exact ⟨by simp, by simp, fun _ => Modest.zero, by simp, by simp⟩⟩ ?_
  intro W base args ds gs before hval0 hW _ hcond _ hL _ _
  have hk : Rows.uptoSmall H (ds ++ gs) = true := hcond _ rfl
  have hval : ∀ (j : Nat) t v, Tryz.f3.params[j]? = some t → args[j]? = some v → Value.okWide Tryz.prog W .any base t v := hval0
  have hW' := hW
  obtain ⟨p, q, hA0, hV, rfl, hfz, hnd⟩ := hW
  have hA : DataW.TrodAll enc Tryz.prog W 0 (fun _ => true) true Tryz.f3.params.toList args.toList ds p := hA0
  rw [Tryz.params3] at hA hval
  obtain ⟨v0, v1, d0, d1, p0, p1, rfl, rfl, rfl, h0, h1⟩ := trodAll_two hA
  obtain ⟨rfl, rfl⟩ := trodVars_none hV
  have k0 := h0
  have k1 := h1
  have lt0 : ∀ x ∈ p0, x.block < W.heap.size := by obtain ⟨m, hm⟩ := k0; exact DataW.trod_lt m _ _ _ hm
  have lt1 : ∀ x ∈ p1, x.block < W.heap.size := by obtain ⟨m, hm⟩ := k1; exact DataW.trod_lt m _ _ _ hm
  have hk' := of_decide_eq_true hk
  simp only [List.append_nil, Rows.uptoBulkAll] at hk'
  obtain ⟨cs0, rfl, _⟩ := okWide_struct Tryz.underlying26 (hval 0 26 v0 rfl rfl)
  obtain ⟨fuel0, hf0⟩ := h0
  obtain ⟨f, ao, cp, hcs0, hfm, hok, hz, hg⟩ := open_fm 1048576 (x := (d0, p0)) (by dsimp only; omega) hf0
  have hcs1 : cs0.toList = fmCells f ao cp := hcs0
  have hcs2 : cs0 = (fmCells f ao cp).toArray := by rw [← hcs1]
  subst hcs2
  obtain ⟨s, rfl, rfl, rfl, hs⟩ := Go.ChangeMaps.open_string Tryz.underlying9 (hval 1 9 v1 rfl rfl) h1
  simp only [Rows.uptoBulk] at hk'
  dsimp only at hg
  clear hA0 hval0
  refine (ptells_main 1048576 f ao cp s.data.toList W hfm hok hz (fun _ h => h) (by omega) (by omega) (vars_of_laidT hL)).mono fun e W' ⟨he, hc⟩ => ?_
  subst he
  have bel : Below W.heap.size W W' := hc.below (Nat.le_refl _) (fun _ _ => id)
  exact ⟨_, rfl, _, _, _, [], _, [], hW', trodAll_mk1 (shut_bool Tryz.underlying4 _), (trodAll_cons_mk (Below.trod Tryz.laidOut (by kernel_rfl) (of_decide_eq_true (by kernel_rfl)) k0 bel lt0) (trodAll_cons_mk (Below.trod Tryz.laidOut (by kernel_rfl) (of_decide_eq_true (by kernel_rfl)) k1 bel lt1) trodAll_mk0)), rfl, bel.frame _, fun h => by cases h⟩

theorem parseTells_upto : Rows.ParseTellsUptoSaid :=
  OpenClaim.holds_of_cond 3 Tryz.f3 rfl rfl rfl rfl rfl rfl rfl ⟨rfl, rfl, rfl, rfl, rfl⟩ rfl rfl rfl rfl rfl (by kernel_rfl) Tryz.func3 (by kernel_rfl)
    (of_decide_eq_true (by kernel_rfl)) (by unfold Func.isWrapper; first | (rw [if_pos (by decide +kernel)]; kernel_rfl) | (rw [if_neg (by decide +kernel)]; exact ⟨rfl, rfl⟩))
    (fun os started H enc _ F => by rw [OpenClaim.pre_eq_preRow]; exact parseTells_lifted os started H enc F)

/-- No parameter wants a stand-in; the program's own looks. -/
theorem parseTells_plain (f : FuncId) (fn : Func) (hf : Tryz.pinned.checked.prog.funcNamed "entente/ententelaw12.ParseTells" = some f) (hfn : Tryz.pinned.checked.prog.funcs[f]? = some fn) :
    true = Tryz.pinned.checked.prog.looks [] ∧ ∀ (j : Nat) t, fn.params[j]? = some t → Tryz.pinned.checked.prog.wantsStandIn t = false := by
  obtain rfl : f = 3 := Option.some.inj ((show Tryz.prog.funcNamed "entente/ententelaw12.ParseTells" = some 3 by kernel_rfl).symm.trans hf) |>.symm
  obtain rfl : fn = Tryz.f3 := (Option.some.inj (Tryz.func3.symm.trans hfn)).symm
  refine ⟨by kernel_rfl, fun j t ht => ?_⟩
  rw [Tryz.params3] at ht
  match j, ht with
  | 0, ht => cases ht; exact (show Tryz.prog.wantsStandIn 26 = false by kernel_rfl)
  | 1, ht => cases ht; exact (show Tryz.prog.wantsStandIn 9 = false by kernel_rfl)
  | n + 2, ht => simp at ht

theorem parseTells_card : Rows.ParseTellsUptoCardSaid :=
  Claim7.holds_tied_plain_at .later [] _ _ _ _ parseTells_upto (fun _ h => by cases h) (by kernel_rfl) (fun _ h => by cases h) parseTellsUpto_row_tie rfl ⟨rfl, rfl⟩ (by kernel_rfl) rfl parseTells_plain (by kernel_rfl)
end Go.Proofs.YtojbhlbknjnioaaGreatDoor
