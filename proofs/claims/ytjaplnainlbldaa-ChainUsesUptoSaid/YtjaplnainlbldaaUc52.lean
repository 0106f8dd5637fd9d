/- Texts that the proof leans on, in one: ChUses, RoleCells, CredOpen, StepOpen, ChOpen, CondOpen. -/
import Derived.Test.YtjaplnainlbldaaUc50
import Derived.Test.YtjaplnainlbldaaUc51
import Derived.Test.YtjaplnainlbldaaUc11
import Derived.Test.YtjaplnainlbldaaUc2
import Derived.Test.YtjaplnainlbldaaUc46
import Derived.Test.YtjaplnainlbldaaUc48
import Derived.ChangeMaps5
import Derived.ProofKit
import Derived.OpenShut
import Derived.JoinedCond
/- The law ChainUses, walked. -/
namespace Go.Proofs.Ytjaplnainlbldaa
open Go.RowKit

set_option maxRecDepth 100000 in
set_option maxHeartbeats 4000000 in
theorem chuses_main {D : Nat → Prop} (ao : Option Addr) (cp : Nat) (lss : List (List StepB)) (w : World) (hn : totalR lss ≤ 33554432) (hl1 : lss.length ≤ 1048576) (hl2 : (lss.map List.length).sum ≤ 1048576) (h : RowsAt D w ao lss) :
    Calls Try.prog 4 #[.slice ao lss.length cp] w fun e w' => e = .returned (.bool true) ∧ Chg (fun _ => False) w w' := by
  have HF := hid (fun w => ch_first w)
  have HX := hid h
  clear h
  go_enter Try.func4, Try.ntmps4
  go_wp2_with fail
  refine (HF.out _).mono ?_
  rintro e w1 ⟨rfl, hc1⟩
  have HC1 := hid hc1
  clear hc1 HF
  go_wp2
  go_loopw [3, 4, 11] (fun t v i wr => ∃ (j : Nat) (o : Value), j ≤ lss.length ∧ i = .int .i64 j ∧ t = .int .i64 (totalR (lss.take j) : Nat) ∧ v = o ∧ Hid (OwnSt w.heap.size wr o (lss.take j).flatten ∧ Chg (fun _ => False) w wr)) (fun _ _ i _ => lss.length - (intOf i).toNat)
  case atStart => exact ⟨0, _, Nat.zero_le _, rfl, rfl, rfl, hid ⟨World.ownsRow_nil _ _ _ _, HC1.out⟩⟩
  case round =>
    obtain ⟨j, o, hj, rfl, rfl, rfl, hrel⟩ := hrel
    by_cases hlt : j < lss.length
    · obtain ⟨b, off, ai, ci, hao, hD, hcell0, hst, hz⟩ := HX.out j hlt
      have hcell := hrel.out.2.cell hcell0 id
      have htk : totalR (lss.take (j + 1)) = totalR (lss.take j) + (20 + totalSt lss[j]) := by rw [List.take_succ_eq_append_getElem hlt, totalR_snoc]
      have hfl : (lss.take (j + 1)).flatten = (lss.take j).flatten ++ lss[j] := by rw [List.take_succ_eq_append_getElem hlt, List.flatten_append]; simp
      have hle := totalR_take lss (j + 1)
      have hlen : ((lss.take (j + 1)).flatten).length * 20 ≤ totalR (lss.take (j + 1)) := by rw [flatR_len]; exact (totalR_len _).2
      rw [hfl, List.length_append] at hlen
      generalize lss[j] = l at *
      have HG := hid (great9 ai ci l wr (by omega) (hst.keep hrel.out.2 (fun _ _ => id)))
      have HREL := hid hrel.out
      have HST := hid (And.intro hst hz)
      have HFL := hid hfl
      obtain ⟨T0, hT0⟩ : ∃ T0, T0 = totalR (lss.take j) := ⟨_, rfl⟩
      rw [← hT0] at htk ⊢
      have HTK := hid htk
      have hTb : T0 + (20 + totalSt l) ≤ 33554432 := by omega
      have HLEN : Hid ((lss.take j).flatten.length + l.length ≤ 33554432) := hid (by omega)
      have HLT := hid hlt
      subst hao
      clear hrel hst hz hcell0 htk hT0 hfl hle hlen
      go_wp2_with fail
      refine HG.out.mono ?_
      rintro e w3 ⟨rfl, hc3⟩
      have ho3 := HREL.out.1.keep hc3 (fun _ _ => id)
      have hc13 := HREL.out.2.trans hc3 (fun _ _ h => h)
      have hst3 := HST.out.1.keep hc13 (fun _ _ => id)
      obtain ⟨v5, w5, hap, ho5, hall⟩ := run_append_steps 29 ho3 hst3 HST.out.2 HLEN.out hc13.size
      have hc5 : Chg (fun _ => False) w w5 := hc13.trans (hall (fun k => w.heap.size ≤ k) (fun _ h => h)) (fun i hi h => by have h : w.heap.size ≤ i := h; omega)
      have HN : Hid (OwnSt w.heap.size w5 v5 (lss.take (j + 1)).flatten ∧ Chg (fun _ => False) w w5) := hid ⟨by rw [HFL.out]; exact ho5, hc5⟩
      clear hc3 ho3 hc13 hst3 ho5 hall hc5 HG
      go_wp2_with (at_builtin; refine wpList_append_run rfl (.tmp 20) (.tmp 21) 29 rfl rfl rfl hap ?_)
      go_roundw
      case rel => exact ⟨j + 1, v5, HLT.out, by go_num, by rw [HTK.out]; go_num, rfl, HN⟩
      case measure => have := HLT.out; simp [intOf]; omega
    · have hje : j = lss.length := by omega
      have hr := hrel.out
      rw [hje, List.take_length] at hr
      have hshort : ∀ x ∈ lss.flatten, stepShort x 9223372036854775807 := fun x hx => by
        obtain ⟨m, hm, hxm⟩ := List.mem_flatten.1 hx
        obtain ⟨q, hq, rfl⟩ := List.getElem_of_mem hm
        obtain ⟨_, _, _, _, _, _, _, h4, _⟩ := HX.out q hq
        exact steps_short h4 x hxm
      have hmsh : ∀ x ∈ mergeL lss, stepShort x 9223372036854775807 := fun x hx => by
        obtain ⟨m, hm, hxm⟩ := mergeL_mem _ _ hx
        exact hshort x (List.mem_flatten.2 ⟨m, hm, hxm⟩)
      have hfl : lss.flatten.length ≤ 1048576 := by rw [flatR_len]; omega
      have hml : (mergeL lss).length ≤ 1048576 := Nat.le_trans (mergeL_len lss) (by omega)
      obtain ⟨ao3, cap3, rfl, hst3, _⟩ := hr.1.steps hshort
      obtain ⟨F, hF⟩ : ∃ F, F = lss.flatten := ⟨_, rfl⟩
      rw [← hF] at hst3 hfl ⊢
      rw [hje, List.take_length]
      obtain ⟨T0, hT0⟩ : ∃ T0, T0 = totalR lss := ⟨_, rfl⟩
      have HCW := hid hr.2
      have HST := hid hst3
      have HMS := hid hmsh
      have HFL := hid (And.intro hfl hml)
      have HSUM : Hid ((lss.map List.length).sum ≤ 1048576 ∧ lss.length ≤ 1048576) := hid (by omega)
      rw [← hT0] at hn ⊢
      clear hrel hr hshort hmsh hst3 hfl hml hje hT0 hl1 hl2 hF
      by_cases hg : T0 ≤ 3000
      · have z1 : decide ((3000 : Int) < (T0 : Int)) = false := decide_eq_false (by omega)
        have HU := hid (ch_used ao3 cap3 F wr HFL.out.1 HST.out)
        go_wp2_with fail
        refine HU.out.mono ?_
        rintro e w3 ⟨o5, ao5, cap5, rfl, hs5, hcr5, hc3, _⟩
        have HC3 := hid (HCW.out.trans hc3 (fun _ _ h => h))
        have HU2 := hid (rch_used ao3 cap3 F w3 HFL.out.1 (HST.out.keep hc3 (fun _ _ => id)))
        have HS5 := hid (And.intro hs5 hcr5)
        have HLN : Hid (o5.length ≤ 4611686018427387904) := hid (by have h1 := SetG.len ltC_ord hs5; rw [List.length_map] at h1; have := HFL.out.1; omega)
        clear HU hs5 hcr5 hc3 HCW HST
        obtain ⟨L5, hL5⟩ : ∃ L5, L5 = o5.length := ⟨_, rfl⟩
        simp only [← hL5]
        have HL5 := hid hL5
        clear hL5
        go_wp2_with fail
        refine HU2.out.mono ?_
        rintro e w4 ⟨o6, ao6, cap6, rfl, hs6, hcr6, hc4, _⟩
        have he : o6 = o5 := hs6.one HS5.out.1
        subst he
        have HC4 := hid (HC3.out.trans hc4 (fun _ _ h => h))
        have HQ := hid (csame_ref ao5 ao6 cap5 cap6 o6 o6 w4 HLN.out HLN.out (HS5.out.2.keep hc4 (fun _ _ => id)) hcr6)
        rw [← HL5.out] at HQ
        simp only [← HL5.out]
        clear HU2 hs6 hcr6 hc4 HC3 HS5 HL5
        go_wp2_with fail
        refine HQ.out.mono ?_
        rintro e w5 ⟨rfl, nn, hw5⟩
        have hc5 : Chg (fun _ => False) w4 w5 := by rw [hw5]; exact ⟨rfl, rfl, rfl, Nat.le_refl _, fun _ _ _ => rfl⟩
        have hsame : sameC o6 o6 = true := by simp [sameC]
        rw [hsame]
        have HC5 := hid (HC4.out.trans hc5 (fun _ _ h => h))
        have HM := hid (ch_merge ao cp lss w5 HSUM.out.2 HSUM.out.1 (HX.out.keep HC5.out (fun _ _ => id)))
        clear HQ hw5 hc5 HC4 hsame
        go_wp2_with fail
        refine HM.out.mono ?_
        rintro e w6 ⟨v6, rfl, ho6, hc6⟩
        have HC6 := hid (HC5.out.trans hc6 (fun _ _ h => h))
        obtain ⟨ao7, cap7, rfl, hst7, _⟩ := ho6.steps HMS.out
        have HM2 := hid (rch_merge ao cp lss w6 HSUM.out.2 HSUM.out.1 (HX.out.keep HC6.out (fun _ _ => id)))
        have HST7 := hid hst7
        clear HM hc6 HC5 ho6 hst7
        go_wp2_with fail
        refine HM2.out.mono ?_
        rintro e w7 ⟨v7, rfl, ho7, hc7⟩
        have HC7 := hid (HC6.out.trans hc7 (fun _ _ h => h))
        obtain ⟨ao8, cap8, rfl, hst8, _⟩ := ho7.steps HMS.out
        have HQ := hid (rksame ao7 ao8 cap7 cap8 (mergeL lss) (mergeL lss) w7 (by have := HFL.out.2; omega) (by have := HFL.out.2; omega) (HST7.out.keep hc7 (fun _ _ => id)) hst8)
        clear HM2 hc7 HC6 ho7 hst8 HST7
        go_wp2_with fail
        refine HQ.out.mono ?_
        rintro e w8 ⟨rfl, hc8⟩
        have hsame : sameK (mergeL lss) (mergeL lss) = true := by simp [sameK]
        rw [hsame]
        have HC8 := hid (HC7.out.trans hc8 (fun _ _ h => h))
        clear HQ hc8 HC7 hsame
        go_wp2
        go_ret
        exact ⟨rfl, HC8.out⟩
      · have z1 : decide ((3000 : Int) < (T0 : Int)) = true := decide_eq_true (by omega)
        go_wp2
        go_ret
        exact ⟨rfl, HCW.out⟩
end Go.Proofs.Ytjaplnainlbldaa

/- A role that came in, opened to its cells. -/
namespace Go.Proofs.Ytjaplnainlbldaa
open Go.ChangeShapes Go.WideShapes Go.ChangeAt Go.RowKit Go.Deep

theorem choose_roles {α : Type} (n : Nat) (p : Nat → α → Prop) (h : ∀ i, i < n → ∃ x, p i x) : ∃ l : List α, l.length = n ∧ ∀ i (hi : i < l.length), p i l[i] := by
  induction n with
  | zero => exact ⟨[], rfl, fun i hi => by simp at hi⟩
  | succ n ih =>
    obtain ⟨l, hl, hp⟩ := ih (fun i hi => h i (by omega))
    obtain ⟨x, hx⟩ := h n (by omega)
    refine ⟨l ++ [x], by simp [hl], fun i hi => ?_⟩
    by_cases hin : i < l.length
    · rw [List.getElem_append_left hin]
      exact hp i hin
    · have : i = n := by simp [hl] at hi; omega
      subst this
      rw [List.getElem_append_right (by omega)]
      simpa [hl] using hx

section
variable {H : Type} {enc : TypeId × Value → H} {w : World} {base : Nat} {held : Bool} {fuel : Nat}

set_option maxRecDepth 100000 in
/-- Two cells that are read as a role. -/
theorem open_role_cells {spare : Nat → Bool} {cs : List Value} {x : DataW H × List MemPlace} (h : DataW.trod enc Try.prog w base spare held fuel 24 cs = some x) :
    ∃ r : RoleB, cs = roleCells r ∧ r.1.length ≤ 9223372036854775807 ∧ r.2.length ≤ 9223372036854775807 ∧ 1 + r.1.length + r.2.length ≤ Rows.uptoBulk x.1 := by
  obtain ⟨y0, y1, n, rfl, hl, h0, h1⟩ := trod_struct2 Try.underlying24 h
  have hc : Try.prog.cellsOf 24 = 2 := by kernel_rfl
  rw [hc] at hl
  match cs, hl with
  | [c0, c1], _ =>
    have e0 : DataW.trod enc Try.prog w base spare held n 9 [c0] = some y0 := h0
    have e1 : DataW.trod enc Try.prog w base spare held n 9 [c1] = some y1 := h1
    obtain ⟨s0, hs0, rfl, hm0⟩ := DataW.trod_string Try.underlying9 e0
    obtain ⟨s1, hs1, rfl, hm1⟩ := DataW.trod_string Try.underlying9 e1
    simp only [List.cons.injEq, and_true] at hs0 hs1
    subst hs0
    subst hs1
    unfold maxLen at hm0 hm1
    refine ⟨(s0.data.toList, s1.data.toList), rfl, hm0, hm1, ?_⟩
    simp [Rows.uptoBulk, Rows.uptoBulkAll]
    omega

end
end Go.Proofs.Ytjaplnainlbldaa

/- Credentials that came in, one or a list, opened to cells; how much they hold. -/
namespace Go.Proofs.Ytjaplnainlbldaa
open Go.ChangeShapes Go.WideShapes Go.ChangeAt Go.RowKit Go.Deep

section
variable {H : Type} {enc : TypeId × Value → H} {w : World} {base : Nat} {held : Bool} {fuel : Nat}

set_option maxRecDepth 100000 in
/-- Nine cells that are read as a credential. -/
theorem open_cred_cells {spare : Nat → Bool} {cs : List Value} {x : DataW H × List MemPlace} (h : DataW.trod enc Try.prog w base spare held fuel 36 cs = some x) :
    ∃ c : CredB, cs = credCells c ∧ credShort c 9223372036854775807 ∧ sizeC c ≤ 3 * Rows.uptoBulk x.1 := by
  obtain ⟨xs, n, _, rfl, hl, hlen, hf⟩ := DataW.trod_struct Try.underlying36 h
  have hc : Try.prog.cellsOf 36 = 9 := by kernel_rfl
  have hr : Try.prog.cellsOf 24 = 2 := by kernel_rfl
  rw [hc] at hl
  match cs, hl, xs, hlen with
  | [c0, c1, c2, c3, c4, c5, c6, c7, c8], _, [y0, y1, y2, y3, y4, y5], _ =>
    have e0 : DataW.trod enc Try.prog w base spare held n 3 [c0] = some y0 := hf 0 _ rfl
    have e1 : DataW.trod enc Try.prog w base spare held n 24 [c1, c2] = some y1 := hf 1 _ rfl
    have e2 : DataW.trod enc Try.prog w base spare held n 9 [c3] = some y2 := hf 2 _ rfl
    have e3 : DataW.trod enc Try.prog w base spare held n 24 [c4, c5] = some y3 := hf 3 _ rfl
    have e4 : DataW.trod enc Try.prog w base spare held n 24 [c6, c7] = some y4 := hf 4 _ rfl
    have e5 : DataW.trod enc Try.prog w base spare held n 9 [c8] = some y5 := hf 5 _ rfl
    obtain ⟨k, hk, rfl, _⟩ := DataW.trod_int Try.underlying3 e0
    obtain ⟨hd, h1, a1, a2, a3⟩ := open_role_cells e1
    obtain ⟨s2, hs2, rfl, hm2⟩ := DataW.trod_string Try.underlying9 e2
    obtain ⟨b, h3, b1, b2, b3⟩ := open_role_cells e3
    obtain ⟨c, h4, d1, d2, d3⟩ := open_role_cells e4
    obtain ⟨s5, hs5, rfl, hm5⟩ := DataW.trod_string Try.underlying9 e5
    simp only [roleCells, List.cons.injEq, and_true] at hk h1 hs2 h3 h4 hs5
    obtain ⟨h1a, h1b⟩ := h1
    obtain ⟨h3a, h3b⟩ := h3
    obtain ⟨h4a, h4b⟩ := h4
    subst hk h1a h1b hs2 h3a h3b h4a h4b hs5
    unfold maxLen at hm2 hm5
    refine ⟨⟨k, hd, s2.data.toList, b, c, s5.data.toList⟩, rfl, ⟨a1, a2, hm2, b1, b2, d1, d2, hm5⟩, ?_⟩
    simp only [sizeC, Rows.uptoBulk, Rows.uptoBulkAll, List.map_cons, List.map_nil]
    omega

end
end Go.Proofs.Ytjaplnainlbldaa

/- Steps that came in, opened to cells; how much they hold. -/
namespace Go.Proofs.Ytjaplnainlbldaa
open Go.ChangeShapes Go.WideShapes Go.ChangeAt Go.RowKit Go.Deep

theorem step_at_cells {w : World} {g o : Nat} {s : StepB} (h : ∀ j, j < 12 → w.cell? ⟨g, o + j, none⟩ = (stepCells s)[j]?) : StepAt w g o s :=
  ⟨⟨h 0 (by omega), h 1 (by omega), h 2 (by omega), h 3 (by omega), h 4 (by omega), h 5 (by omega), h 6 (by omega), h 7 (by omega), h 8 (by omega)⟩, ⟨h 9 (by omega), h 10 (by omega), h 11 (by omega)⟩⟩

section
variable {H : Type} {enc : TypeId × Value → H} {w : World} {base : Nat} {held : Bool} {fuel : Nat}

set_option maxRecDepth 100000 in
/-- Three cells that are read as a fact. -/
theorem open_fact_cells {spare : Nat → Bool} {cs : List Value} {x : DataW H × List MemPlace} (h : DataW.trod enc Try.prog w base spare held fuel 26 cs = some x) :
    ∃ f : FactB, cs = factCells f ∧ factShort f 9223372036854775807 ∧ f.1.1.length + f.1.2.length + f.2.length ≤ Rows.uptoBulk x.1 := by
  obtain ⟨xs, n, _, rfl, hl, hlen, hf⟩ := DataW.trod_struct Try.underlying26 h
  have hc : Try.prog.cellsOf 26 = 3 := by kernel_rfl
  rw [hc] at hl
  match cs, hl, xs, hlen with
  | [c0, c1, c2], _, [y0, y1], _ =>
    have e0 : DataW.trod enc Try.prog w base spare held n 24 [c0, c1] = some y0 := hf 0 _ rfl
    have e1 : DataW.trod enc Try.prog w base spare held n 9 [c2] = some y1 := hf 1 _ rfl
    obtain ⟨r, h1, a1, a2, a3⟩ := open_role_cells e0
    obtain ⟨s2, hs2, rfl, hm2⟩ := DataW.trod_string Try.underlying9 e1
    simp only [roleCells, List.cons.injEq, and_true] at h1 hs2
    obtain ⟨h1a, h1b⟩ := h1
    subst h1a h1b hs2
    unfold maxLen at hm2
    refine ⟨(r, s2.data.toList), rfl, ⟨a1, a2, hm2⟩, ?_⟩
    simp only [Rows.uptoBulk, Rows.uptoBulkAll, List.map_cons, List.map_nil]
    omega

set_option maxRecDepth 100000 in
/-- Twelve cells that are read as a step. -/
theorem open_step_cells {spare : Nat → Bool} {cs : List Value} {x : DataW H × List MemPlace} (h : DataW.trod enc Try.prog w base spare held fuel 43 cs = some x) :
    ∃ s : StepB, cs = stepCells s ∧ stepShort s 9223372036854775807 ∧ sizeSt s ≤ 3 * Rows.uptoBulk x.1 := by
  obtain ⟨xs, n, _, rfl, hl, hlen, hf⟩ := DataW.trod_struct Try.underlying43 h
  have hc : Try.prog.cellsOf 43 = 12 := by kernel_rfl
  rw [hc] at hl
  match cs, hl, xs, hlen with
  | [c0, c1, c2, c3, c4, c5, c6, c7, c8, c9, c10, c11], _, [y0, y1], _ =>
    have e0 : DataW.trod enc Try.prog w base spare held n 36 [c0, c1, c2, c3, c4, c5, c6, c7, c8] = some y0 := hf 0 _ rfl
    have e1 : DataW.trod enc Try.prog w base spare held n 26 [c9, c10, c11] = some y1 := hf 1 _ rfl
    obtain ⟨c, h1, h2, h3⟩ := open_cred_cells e0
    obtain ⟨f, g1, g2, g3⟩ := open_fact_cells e1
    refine ⟨⟨c, f⟩, ?_, ⟨h2, g2⟩, ?_⟩
    · have : [c0, c1, c2, c3, c4, c5, c6, c7, c8] ++ [c9, c10, c11] = credCells c ++ factCells f := by rw [h1, g1]
      exact this
    · simp only [sizeSt, Rows.uptoBulk, Rows.uptoBulkAll, List.map_cons, List.map_nil]
      omega

theorem bulk_steps (D : Nat → DataW H) : ∀ (l : List StepB), (∀ i (h : i < l.length), sizeSt l[i] ≤ 3 * Rows.uptoBulk (D i)) → totalSt l ≤ 3 * Rows.uptoBulkAll ((List.range l.length).map D)
  | [], _ => Nat.zero_le _
  | x :: l, h => by
    have ih := bulk_steps (fun i => D (i + 1)) l (fun i hi => h (i + 1) (by simp only [List.length_cons]; omega))
    rw [List.length_cons, List.range_succ_eq_map, List.map_cons, List.map_map]
    simp only [totalSt, Rows.uptoBulkAll]
    have h0 := h 0 (by simp)
    simp only [List.getElem_cons_zero] at h0
    have e : (List.range l.length).map (D ∘ Nat.succ) = (List.range l.length).map (fun i => D (i + 1)) := rfl
    rw [e]
    omega

set_option maxRecDepth 100000 in
/-- A list of steps that came in. -/
theorem open_steps {cs : List Value} {x : DataW H × List MemPlace} (h : DataW.trod enc Try.prog w base (fun _ => true) held fuel 29 cs = some x) :
    ∃ (ao : Option Addr) (cap : Nat) (ls : List StepB), cs = [.slice ao ls.length cap] ∧ StepsAt (fun k => k < w.heap.size) w ao ls ∧ totalSt ls ≤ 3 * Rows.uptoBulk x.1 ∧ ls.length ≤ cap ∧ cap ≤ 9223372036854775807 := by
  rcases open_slice Try.underlying29 h with ⟨rfl, rfl⟩ | ⟨a, len, cap, m, n, D, Pl, rfl, _, hl, hm, hmm, rfl, hi⟩
  · exact ⟨none, 0, [], rfl, StepsAt.nil _ _ _, Nat.zero_le _, Nat.le_refl _, by omega⟩
  · simp only [if_true] at hmm
    have hc12 : Try.prog.cellsOf 43 = 12 := by kernel_rfl
    have each : ∀ i, i < len → ∃ y : StepB, (∃ b off, some a = some ⟨b, off, none⟩ ∧ b < w.heap.size ∧ StepAt w b (off + i * 12) y ∧ stepShort y 9223372036854775807) ∧ sizeSt y ≤ 3 * Rows.uptoBulk (D i) := by
      intro i hil
      obtain ⟨cs', hcs, ht⟩ := hi i (by omega)
      rw [hc12] at hcs
      obtain ⟨r, hr, h1, h2⟩ := open_step_cells ht
      subst hr
      obtain ⟨_, _, hat⟩ := World.cells?_some hcs
      have hs : a = ⟨a.block, a.off, none⟩ := by
        obtain ⟨cs'', hcs'', ht''⟩ := hi 0 (by omega)
        rw [hc12] at hcs''
        obtain ⟨r'', hr'', _⟩ := open_step_cells ht''
        subst hr''
        obtain ⟨_, _, hat''⟩ := World.cells?_some hcs''
        have q := hat'' 0 (by decide)
        rw [Nat.zero_mul, add_zero, add_zero] at q
        exact spot_none q
      have hall : ∀ j, j < 12 → w.cell? ⟨a.block, a.off + i * 12 + j, none⟩ = (stepCells r)[j]? := fun j hj => by
        have q := hat j (by simpa [stepCells] using hj)
        rw [hs, add_off, add_off] at q
        exact q
      have hat12 := step_at_cells hall
      exact ⟨r, ⟨a.block, a.off, congrArg some hs, World.block_lt_of_cell? w ⟨a.block, a.off + i * 12, none⟩ hat12.c.k0, hat12, h1⟩, h2⟩
    obtain ⟨xs, hlen, hp⟩ := choose_roles len _ each
    subst hlen
    refine ⟨some a, cap, xs, rfl, fun i hi => (hp i hi).1, ?_, hl, hm⟩
    have := bulk_steps D xs (fun i hi => (hp i hi).2)
    simp only [Rows.uptoBulk]
    omega
end
end Go.Proofs.Ytjaplnainlbldaa

/- Rows of steps that came in, opened to cells; how much they hold. -/
namespace Go.Proofs.Ytjaplnainlbldaa
open Go.ChangeShapes Go.WideShapes Go.ChangeAt Go.RowKit Go.Deep

section
variable {H : Type} {enc : TypeId × Value → H} {w : World} {base : Nat} {held : Bool} {fuel : Nat}

theorem bulk_rows (D : Nat → DataW H) : ∀ (l : List (List StepB)), (∀ i (h : i < l.length), totalSt l[i] ≤ 3 * Rows.uptoBulk (D i) ∧ 1 ≤ Rows.uptoBulk (D i)) → totalR l ≤ 23 * Rows.uptoBulkAll ((List.range l.length).map D) ∧ l.length ≤ Rows.uptoBulkAll ((List.range l.length).map D) ∧ (l.map List.length).sum * 20 ≤ 3 * Rows.uptoBulkAll ((List.range l.length).map D)
  | [], _ => ⟨Nat.zero_le _, Nat.zero_le _, Nat.zero_le _⟩
  | x :: l, h => by
    have ih := bulk_rows (fun i => D (i + 1)) l (fun i hi => h (i + 1) (by simp only [List.length_cons]; omega))
    have h0 := h 0 (by simp)
    have hl := totalSt_len x
    have ht : totalR (x :: l) = (20 + totalSt x) + totalR l := by simp [totalR]
    simp only [List.getElem_cons_zero] at h0
    have e : (List.range l.length).map (D ∘ Nat.succ) = (List.range l.length).map (fun i => D (i + 1)) := rfl
    rw [ht, List.length_cons, List.range_succ_eq_map, List.map_cons, List.map_map, e, List.map_cons, List.sum_cons]
    simp only [Rows.uptoBulkAll]
    omega

theorem bulk_pos (d : DataW H) (h : (∃ a b, d = .slice a b) ∨ d = .nil) : 1 ≤ Rows.uptoBulk d := by
  rcases h with ⟨a, b, rfl⟩ | rfl
  · simp only [Rows.uptoBulk]; omega
  · simp only [Rows.uptoBulk]; omega

set_option maxRecDepth 100000 in
/-- Rows of steps that came in. -/
theorem open_rows {cs : List Value} {x : DataW H × List MemPlace} (h : DataW.trod enc Try.prog w base (fun _ => true) held fuel 45 cs = some x) :
    ∃ (ao : Option Addr) (cap : Nat) (lss : List (List StepB)), cs = [.slice ao lss.length cap] ∧ RowsAt (fun k => k < w.heap.size) w ao lss ∧ totalR lss ≤ 23 * Rows.uptoBulk x.1 ∧ lss.length ≤ Rows.uptoBulk x.1 ∧ (lss.map List.length).sum * 20 ≤ 3 * Rows.uptoBulk x.1 := by
  rcases open_slice Try.underlying45 h with ⟨rfl, rfl⟩ | ⟨a, len, cap, m, n, D, Pl, rfl, _, hl, hm, hmm, rfl, hi⟩
  · exact ⟨none, 0, [], rfl, fun i hi => absurd hi (Nat.not_lt_zero i), Nat.zero_le _, Nat.zero_le _, Nat.zero_le _⟩
  · simp only [if_true] at hmm
    have hc1 : Try.prog.cellsOf 29 = 1 := by kernel_rfl
    have each : ∀ i, i < len → ∃ y : List StepB, (∃ b off ai ci, some a = some ⟨b, off, none⟩ ∧ b < w.heap.size ∧ w.cell? ⟨b, off + i, none⟩ = some (.slice ai (y.length : Nat) ci) ∧ StepsAt (fun k => k < w.heap.size) w ai y ∧ (ai = none → ci = 0)) ∧ totalSt y ≤ 3 * Rows.uptoBulk (D i) ∧ 1 ≤ Rows.uptoBulk (D i) := by
      intro i hil
      obtain ⟨cs', hcs, ht⟩ := hi i (by omega)
      rw [hc1] at hcs
      obtain ⟨ai, ci, r, hr, h1, h2, h3, h4⟩ := open_steps ht
      subst hr
      obtain ⟨_, _, hat⟩ := World.cells?_some hcs
      have q := hat 0 (by decide)
      rw [Nat.mul_one, add_zero] at q
      have hs : a = ⟨a.block, a.off, none⟩ := by
        obtain ⟨cs'', hcs'', ht''⟩ := hi 0 (by omega)
        rw [hc1] at hcs''
        obtain ⟨_, _, r'', hr'', _⟩ := open_steps ht''
        subst hr''
        obtain ⟨_, _, hat''⟩ := World.cells?_some hcs''
        have q := hat'' 0 (by decide)
        rw [Nat.zero_mul, add_zero, add_zero] at q
        exact spot_none q
      have q2 : w.cell? ⟨a.block, a.off + i, none⟩ = some (.slice ai (r.length : Nat) ci) := by
        rw [hs, add_off] at q
        exact q
      have hz : (ai = none → ci = 0) ∧ 1 ≤ Rows.uptoBulk (D i) := by
        rcases open_slice Try.underlying29 ht with ⟨e1, e2⟩ | ⟨a', len', cap', m', n', D', P', e1, _, _, _, _, e2, _⟩
        · injection e1 with e1 _
          injection e1 with e1 _ e3
          injection e2 with e2 _
          exact ⟨fun _ => e3, bulk_pos _ (.inr e2)⟩
        · injection e1 with e1 _
          injection e1 with e1 _ e3
          injection e2 with e2 _
          exact ⟨fun h => (by rw [h] at e1; cases e1), bulk_pos _ (.inl ⟨_, _, e2⟩)⟩
      exact ⟨r, ⟨a.block, a.off, ai, ci, congrArg some hs, World.block_lt_of_cell? w ⟨a.block, a.off + i, none⟩ q2, q2, h1, hz.1⟩, h2, hz.2⟩
    obtain ⟨xs, hlen, hp⟩ := choose_roles len _ each
    subst hlen
    have hb := bulk_rows D xs (fun i hi => (hp i hi).2)
    refine ⟨some a, cap, xs, rfl, fun i hi => (hp i hi).1, ?_, ?_, ?_⟩ <;> simp only [Rows.uptoBulk] <;> omega
end
end Go.Proofs.Ytjaplnainlbldaa

/- A law that bears a condition, over worlds of the program's shape: what is to be shown of the call. (The kit's wrap for a condition throws the shape away.) -/
namespace Go.Proofs.Ytjaplnainlbldaa
open Go.ChangeShapes Go.WideShapes Go.ChangeAt Go.RowKit

theorem handed_cond_shaped {H : Type} {enc : TypeId × Value → H} {a : Assume} {C : Checked} {os : Os} {f : FuncId} {fn : Func} {s : OpenSpec} {k : (H : Type) → List (DataW H) → Bool} (hk : s.cond = some k) {F : Stop.Interp} {conds : List PathCond} {apart fresh handsOn again : Bool}
    (own : ownKnob C.prog.godebug = none) (started : os.Started) (noInit : C.prog.inits.idxOf? f = none) (hfn : C.prog.funcs[f]? = some fn)
    (witness : ∃ (w : World) (tape : Tape) (i : Input), w.os = os ∧ (w.forCall tape i).Shaped C.prog ∧ i.vars = [] ∧ Input.okWide C.prog (w.forCall tape i) .any w.heap.size f i ∧
      s.pre6 enc C.prog fn conds apart (w.forCall tape i).memory i.args ∧ a.holds C.prog (lone (Frame.enter C.prog f i.args .normal) [] (w.forCall tape i)))
    (main : ∀ (W : World) (base : Nat) (args : Array Value) (ds gs : List (DataW H)) (before : List MemPlace), W.ShapedOpen C.prog →
      (∀ (j : Nat) t v, fn.params[j]? = some t → args[j]? = some v → Value.okWide C.prog W .any base t v) →
      DataW.Whole enc C.prog fn.params.toList s.vars apart W args.toList ds gs before → k H (ds ++ gs) = true →
      Calls C.prog f args W fun e W' => ∃ v, e = .returned v ∧ (s.at F).post enc C.prog fn apart fresh handsOn again W args v W') :
    ReturnsInHanded a C os f .any (s.pre6 enc C.prog fn conds apart) ((s.at F).post enc C.prog fn apart fresh handsOn again) := by
  refine returnsInHanded_of_calls own started noInit witness fun w tape i _ hsh _ hok hpre _ => ?_
  obtain ⟨_, _, _, fn', hfn', _, _, _, _, hval⟩ := hok
  obtain rfl : fn' = fn := Option.some.inj (hfn'.symm.trans hfn)
  obtain ⟨ds, gs, before, hw, _, hkk⟩ := (OpenSpec.pre_some hk conds apart _ _).1 hpre.1
  refine (main (w.forCall tape i) w.heap.size i.args ds gs before hsh hval (DataW.Whole.of_heap (w' := w.forCall tape i) (by rfl) hw) hkk).mono ?_
  rintro e W' ⟨v, rfl, hp⟩
  exact ChangeSpec.post_blind hp
end Go.Proofs.Ytjaplnainlbldaa
