/- The reader of layer 12: its next word. -/
import Derived.Test.YtojbhlbknjnioaaGreatDoorPt11
import Derived.Test.YtojbhlbknjnioaaGreatDoorPt3
import Derived.Test.YtojbhlbknjnioaaGreatDoorPt1
import Derived.Test.YtojbhlbknjnioaaGreatDoorPt12
import Derived.Shelf.Strings.SlTrimAscii
import Derived.BigRegion
namespace Go.Proofs.YtojbhlbknjnioaaGreatDoor
open Go.RowKit

theorem chg_of_below {w w' : World} (h : Below w.heap.size w w') : Chg (fun _ => False) w w' := ⟨h.os, h.tape, h.output, h.size, fun k hk _ => h.block k hk⟩

/-- strings.TrimLeft at a cutset of ASCII. -/
theorem ptrim (p : UInt8 → Bool) (cs s : List UInt8) (hcs : cs.length < 4294967281) (ha : cs.all (fun b => decide (b.toNat < 128)) = true) (hp : ∀ c, cs.contains c = p c) (w : World) :
    Calls Tryz.prog 45 #[.string ⟨s.toArray⟩, .string ⟨cs.toArray⟩] w fun e w' => e = .returned (.string ⟨(s.dropWhile p).toArray⟩) ∧ Chg (fun _ => False) w w' := by
  have h := Any.strings_TrimLeft_laid Tryz.lays161 (by kernel_rfl) ⟨s.toArray⟩ ⟨cs.toArray⟩ w (by simpa [ByteArray.size] using hcs) (ascii_of_all (by simpa using ha))
  refine (show Calls Tryz.prog 45 _ _ _ from h).mono ?_
  rintro e w' ⟨rfl, hb⟩
  refine ⟨?_, chg_of_below hb⟩
  have : (fun c => cs.contains c) = p := funext hp
  simp only [Lib.trimLeftS, this]
theorem all_u8 {p : UInt8 → Bool} (h : (List.range 256).all (fun n => p (UInt8.ofNat n)) = true) (c : UInt8) : p c = true := by
  have h1 := List.all_eq_true.1 h c.toNat (List.mem_range.2 c.toNat_lt)
  rwa [UInt8.ofNat_toNat] at h1
theorem blanks_eq (c : UInt8) : ([32, 9, 10] : List UInt8).contains c = blankP c := by
  have := all_u8 (p := fun c => ([32, 9, 10] : List UInt8).contains c == blankP c) (by decide +kernel) c
  simpa using this
theorem signs_eq (c : UInt8) : ([97, 98, 99, 100, 101, 102, 103, 104, 105, 106, 107, 108, 109, 110, 111, 112, 113, 114, 115, 116, 117, 118, 119, 120, 121, 122, 48, 49, 50, 51, 52, 53, 54, 55, 56, 57, 45, 46] : List UInt8).contains c = signP c := by
  have := all_u8 (p := fun c => ([97, 98, 99, 100, 101, 102, 103, 104, 105, 106, 107, 108, 109, 110, 111, 112, 113, 114, 115, 116, 117, 118, 119, 120, 121, 122, 48, 49, 50, 51, 52, 53, 54, 55, 56, 57, 45, 46] : List UInt8).contains c == signP c) (by decide +kernel) c
  simpa using this

/-- The reader at R: the word that isn't taken, what is behind it. -/
def PRd (R : Nat) (tok left : List UInt8) (w : World) : Prop := w.heap[R]? = some (.cells #[.string ⟨tok.toArray⟩, .string ⟨left.toArray⟩] 63 (0, 0))
theorem PRd.keep {S : Nat → Prop} {R : Nat} {tok left : List UInt8} {w w' : World} (h : PRd R tok left w) (hc : Chg S w w') (hR : ¬ S R) : PRd R tok left w' := blk_keep h hc hR

/-- Two stores into one block, the second behind all else; what stands there meanwhile. -/
structure TwoS (w0 : World) (R : Nat) (tok ta s sb : List UInt8) (L : Nat → Bool) (w : World) : Prop where
  all : L 19 = true → ∀ j, j < 17 → L j = true
  blk : w.heap[R]? = some (.cells #[.string ⟨(if L 16 = true then ta else tok).toArray⟩, .string ⟨(if L 19 = true then sb else s).toArray⟩] 63 (0, 0))
  chg : Chg (· = R) w0 w
theorem TwoS.not {w0 : World} {R : Nat} {tok ta s sb : List UInt8} {L : Nat → Bool} {w : World} (h : TwoS w0 R tok ta s sb L w) {j : Nat} (hj : j < 17) (hl : L j = false) : L 19 = false := by
  cases hn : L 19 with
  | false => rfl
  | true => rw [h.all hn j hj] at hl; cases hl
theorem TwoS.one {w0 : World} {R : Nat} {tok ta s sb : List UInt8} {L : Nat → Bool} {w : World} (h : TwoS w0 R tok ta s sb L w) {j : Nat} (hj : j < 17) (hl : L j = false) : w.cell? ⟨R, 1, none⟩ = some (.string ⟨s.toArray⟩) := by
  have := h.blk
  rw [h.not hj hl] at this
  exact cell_blk this 1
theorem TwoS.step {w0 : World} {R : Nat} {tok ta s sb : List UInt8} {L : Nat → Bool} {w : World} (h : TwoS w0 R tok ta s sb L w) {j : Nat} (hj : j ≠ 16 ∧ j ≠ 19) : TwoS w0 R tok ta s sb (upd L j) w := by
  have e1 : upd L j 16 = L 16 := by unfold upd; rw [if_neg (fun e => hj.1 e.symm)]
  have e2 : upd L j 19 = L 19 := by unfold upd; rw [if_neg (fun e => hj.2 e.symm)]
  refine ⟨fun h' i hi => ?_, by rw [e1, e2]; exact h.blk, h.chg⟩
  unfold upd
  split
  · rfl
  · exact h.all (by rw [← e2]; exact h') i hi
theorem TwoS.first {w0 : World} {R : Nat} {tok ta s sb : List UInt8} {L : Nat → Bool} {w : World} (h : TwoS w0 R tok ta s sb L w) (hl : L 16 = false) : TwoS w0 R tok ta s sb (upd L 16) (w.setCell ⟨R, 0, none⟩ (.string ⟨ta.toArray⟩)) := by
  have hn := h.not (by decide) hl
  have e1 : upd L 16 16 = true := by unfold upd; rw [if_pos rfl]
  have e2 : upd L 16 19 = false := by unfold upd; rw [if_neg (by decide)]; exact hn
  refine ⟨fun h' => (by rw [e2] at h'; cases h'), ?_, h.chg.trans (setCell_chg _ R 0 _) (fun _ _ h => h)⟩
  have := set_blk h.blk 0 (.string ⟨ta.toArray⟩)
  rw [hn] at this
  rw [e1, e2]
  simpa using this
theorem TwoS.last {w0 : World} {R : Nat} {tok ta s sb : List UInt8} {L : Nat → Bool} {w : World} (h : TwoS w0 R tok ta s sb L w) (hall : ∀ j, j < 17 → L j = true) : TwoS w0 R tok ta s sb (upd L 19) (w.setCell ⟨R, 1, none⟩ (.string ⟨sb.toArray⟩)) := by
  have e1 : upd L 19 16 = true := by unfold upd; rw [if_neg (by decide)]; exact hall 16 (by decide)
  have e2 : upd L 19 19 = true := by unfold upd; rw [if_pos rfl]
  refine ⟨fun _ i hi => ?_, ?_, h.chg.trans (setCell_chg _ R 1 _) (fun _ _ h => h)⟩
  · unfold upd
    split
    · rfl
    · exact hall i hi
  · have := set_blk h.blk 1 (.string ⟨sb.toArray⟩)
    rw [hall 16 (by decide)] at this
    rw [e1, e2]
    simpa using this

set_option maxRecDepth 100000 in
set_option maxHeartbeats 2000000 in
theorem pnext (R : Nat) (tok left : List UInt8) (hl : left.length ≤ 140737488355328) (w : World) (h : PRd R tok left w) :
    Calls Tryz.prog 32 #[.pointer (some ⟨R, 0, none⟩)] w fun e w' => e = .returned (.tuple #[]) ∧ PRd R (lexA left) (lexB left) w' ∧ Chg (· = R) w w' := by
  unfold PRd at h
  have x1 := cell_blk h 1
  have g1 := froz_blk h 1
  simp only [List.getElem?_toArray, List.getElem?_cons_zero, List.getElem?_cons_succ] at x1
  have HT0 := hid (ptrim blankP [32, 9, 10] left (by decide) (by decide) blanks_eq)
  have HB0 := hid h
  clear h
  go_enter Tryz.func32, Tryz.ntmps32
  go_wp2_with fail
  refine (HT0.out _).mono ?_
  rintro e w1 ⟨rfl, hc1⟩
  have hb1 := blk_keep HB0.out hc1 id
  have hls : left.dropWhile blankP = lexS left := rfl
  rw [hls]
  obtain ⟨s, hs⟩ : ∃ s, s = lexS left := ⟨_, rfl⟩
  have hsl := lexS_le left
  rw [← hs] at hsl ⊢
  have HS := hid hs
  have g9 := froz_blk hb1 1
  have x9 := cell_blk hb1 1
  simp only [List.getElem?_toArray, List.getElem?_cons_zero, List.getElem?_cons_succ] at x9
  have hb2 := set_blk hb1 1 (.string ⟨s.toArray⟩)
  simp only [List.setIfInBounds_toArray, List.set_cons_zero, List.set_cons_succ] at hb2
  have hc2 : Chg (· = R) w (w1.setCell ⟨R, 1, none⟩ (.string ⟨s.toArray⟩)) := (hc1.mono (fun _ _ h => h.elim)).trans (setCell_chg w1 R 1 (.string ⟨s.toArray⟩)) (fun _ _ h => h)
  have y1 := cell_blk hb2 1
  simp only [List.getElem?_toArray, List.getElem?_cons_zero, List.getElem?_cons_succ] at y1
  have HC1 := hid hc2
  have HB := hid hb2
  have hHT := ptrim signP [97, 98, 99, 100, 101, 102, 103, 104, 105, 106, 107, 108, 109, 110, 111, 112, 113, 114, 115, 116, 117, 118, 119, 120, 121, 122, 48, 49, 50, 51, 52, 53, 54, 55, 56, 57, 45, 46] s (by decide) (by decide) signs_eq
  obtain ⟨d, hd⟩ : ∃ d, d = s.dropWhile signP := ⟨_, rfl⟩
  have hdl := takeW_drop signP s
  have htl := takeW_le signP s
  obtain ⟨k, hk⟩ : ∃ k, k = (s.takeWhile signP).length := ⟨_, rfl⟩
  rw [← hd] at hHT
  rw [← hd, ← hk] at hdl
  rw [← hk] at htl
  have HT := hid hHT
  have HW : Hid (IntKind.i64.wrap ((s.length : Int) - (d.length : Int)) = (k : Int)) := hid (by rw [IntKind.wrap_i64]; omega)
  have HK := hid (And.intro hk (And.intro htl hsl))
  clear x1 g1 hc1 hb1 hls hsl hs hb2 hc2 hHT hd hdl htl hk HT0 HB0
  go_wp2_with fail
  generalize (w1.setCell ⟨R, 1, none⟩ (.string ⟨s.toArray⟩)) = w2 at *
  have HC := hid (And.intro trivial y1)
  clear y1
  refine wp_region_specs [.eq (.pointer (some ⟨R, 0, none⟩)), .any, .eq (.int .i64 (k : Nat)), .any, .any, .any, .any, .any, .any, .any, .any, .eq (.pointer (some ⟨R, 0, none⟩)), .eq (.pointer (some ⟨R, 0, none⟩)), .eq (.pointer (some ⟨R, 1, none⟩)), .eq (.string ⟨s.toArray⟩), .eq (.int .i64 (s.length : Nat)), .eq (.pointer (some ⟨R, 0, none⟩)), .eq (.pointer (some ⟨R, 0, none⟩)), .eq (.pointer (some ⟨R, 1, none⟩)), .eq (.string ⟨s.toArray⟩), .eq (.string ⟨d.toArray⟩), .eq (.int .i64 (d.length : Nat)), .eq (.int .i64 (k : Nat)), .any, .any, .any, .any, .any, .any, .any, .any, .any, .any, .any, .any, .any, .any, .any, .any, .any, .any, .any, .any, .any, .any, .any, .any, .any, .any, .any] [11, 12, 13, 14, 15, 16, 17, 18, 19, 20, 21, 22, 2] [0] (by kernel_rfl) (by kernel_rfl) (by rfl) (by kernel_rfl) ?start ?obs ?fin
  case start =>
    simp only [List.forall_mem_cons]; exact ⟨⟨_, rfl, rfl⟩, fun _ h => by cases h⟩
  case obs =>
    skip
    refine Obs.cons none (by kernel_rfl) ?_ ?_
    · refine Ob.plain fun a w hR hk K k => ?_
      obtain ⟨_, e0, f0⟩ := hk 0 (by decide)
      clear hk
      go_simp
      exact k _ _ (Chg.refl _ _) f0
    refine Obs.cons none (by kernel_rfl) ?_ ?_
    · refine Ob.plain fun a w hR hk K k => ?_
      obtain ⟨_, e11, rfl⟩ := hk 11 (by decide)
      clear hk
      go_simp
      exact k _ _ (Chg.refl _ _) rfl
    refine Obs.cons none (by kernel_rfl) ?_ ?_
    · refine Ob.plain fun a w hR hk K k => ?_
      obtain ⟨_, e12, rfl⟩ := hk 12 (by decide)
      clear hk
      go_simp
      exact k _ _ (Chg.refl _ _) rfl
    refine Obs.cons none (by kernel_rfl) ?_ ?_
    · refine Ob.plain fun a w hR hk K k => ?_
      obtain ⟨_, e13, rfl⟩ := hk 13 (by decide)
      clear hk
      have z := hR.cell HC.out.2 id
      go_simp
      exact k _ _ (Chg.refl _ _) rfl
    refine Obs.cons none (by kernel_rfl) ?_ ?_
    · refine Ob.plain fun a w hR hk K k => ?_
      obtain ⟨_, e14, rfl⟩ := hk 14 (by decide)
      clear hk
      go_simp
      exact k _ _ (Chg.refl _ _) rfl
    refine Obs.cons none (by kernel_rfl) ?_ ?_
    · refine Ob.plain fun a w hR hk K k => ?_
      obtain ⟨_, e0, f0⟩ := hk 0 (by decide)
      clear hk
      go_simp
      exact k _ _ (Chg.refl _ _) f0
    refine Obs.cons none (by kernel_rfl) ?_ ?_
    · refine Ob.plain fun a w hR hk K k => ?_
      obtain ⟨_, e16, rfl⟩ := hk 16 (by decide)
      clear hk
      go_simp
      exact k _ _ (Chg.refl _ _) rfl
    refine Obs.cons none (by kernel_rfl) ?_ ?_
    · refine Ob.plain fun a w hR hk K k => ?_
      obtain ⟨_, e17, rfl⟩ := hk 17 (by decide)
      clear hk
      go_simp
      exact k _ _ (Chg.refl _ _) rfl
    refine Obs.cons none (by kernel_rfl) ?_ ?_
    · refine Ob.plain fun a w hR hk K k => ?_
      obtain ⟨_, e18, rfl⟩ := hk 18 (by decide)
      clear hk
      have z := hR.cell HC.out.2 id
      go_simp
      exact k _ _ (Chg.refl _ _) rfl
    refine Obs.cons none (by kernel_rfl) ?_ ?_
    · refine Ob.plain fun a w hR hk K k => ?_
      obtain ⟨_, e19, rfl⟩ := hk 19 (by decide)
      clear hk
      go_simp
      refine (HT.out w).mono ?_
      rintro e w8 ⟨rfl, hc8⟩
      exact k _ _ hc8 rfl
    refine Obs.cons none (by kernel_rfl) ?_ ?_
    · refine Ob.plain fun a w hR hk K k => ?_
      obtain ⟨_, e20, rfl⟩ := hk 20 (by decide)
      clear hk
      go_simp
      exact k _ _ (Chg.refl _ _) rfl
    refine Obs.cons none (by kernel_rfl) ?_ ?_
    · refine Ob.plain fun a w hR hk K k => ?_
      obtain ⟨_, e15, rfl⟩ := hk 15 (by decide)
      obtain ⟨_, e21, rfl⟩ := hk 21 (by decide)
      clear hk
      have hwr := HW.out
      go_simp
      exact k _ _ (Chg.refl _ _) rfl
    refine Obs.cons none (by kernel_rfl) ?_ ?_
    · refine Ob.plain fun a w hR hk K k => ?_
      obtain ⟨_, e22, f22⟩ := hk 22 (by decide)
      clear hk
      go_simp
      exact k _ _ (Chg.refl _ _) f22
    exact Obs.nil
  case fin =>
    intro vals w9 hc9 hv
    have h2 : vals 2 = .int .i64 (k : Nat) := hv 2 (by decide)
    simp only [putAll, List.setIfInBounds_toArray, List.set_cons_zero, List.set_cons_succ, h2]
    have hcc := HC1.out.trans hc9 (fun _ _ h => h.elim)
    have hb9 := blk_keep HB.out hc9 id
    have HN := hid (And.intro hb9 hcc)
    have y1 := cell_blk hb9 1
    have z0 := froz_blk hb9 0
    have z1 := froz_blk hb9 1
    simp only [List.getElem?_toArray, List.getElem?_cons_zero, List.getElem?_cons_succ] at y1
    clear hcc hb9 hc9 hv h2 HB HC HC1 HT HW
    have hkk : (k = 0 ∧ s ≠ []) ∨ ¬ (k = 0 ∧ s ≠ []) := Decidable.em _
    rcases hkk with hz | hz
    · have h0 : ((k : Int) == 0) = true := beq_iff_eq.2 (by omega)
      have hn : (s == []) = false := by simpa using hz.2
      have HZ := hid hz
      clear hz
      go_wp2
      obtain ⟨n, hn1, hnx, hnl⟩ : ∃ n : Nat, (1 : Int) = (n : Int) ∧ n = lexN s ∧ n ≤ s.length := ⟨1, rfl, by unfold lexN; rw [← HK.out.1, if_pos HZ.out], List.length_pos_iff.2 HZ.out.2⟩
      have HNX := hid hnx
      have HNL := hid hnl
      rw [hn1]
      clear hn1 hnx hnl h0 hn
      refine wp_region_state (Chg (· = R)) (TwoS w9 R tok (s.take n) s (s.drop n)) (specAtR [.eq (.pointer (some ⟨R, 0, none⟩)), .any, .eq (.int .i64 (n : Nat)), .any, .any, .any, .any, .any, .any, .any, .any, .any, .any, .any, .any, .any, .any, .any, .any, .any, .any, .any, .any, .any, .any, .any, .any, .any, .any, .any, .any, .any, .eq (.pointer (some ⟨R, 0, none⟩)), .eq (.pointer (some ⟨R, 0, none⟩)), .eq (.pointer (some ⟨R, 0, none⟩)), .eq (.pointer (some ⟨R, 0, none⟩)), .eq (.pointer (some ⟨R, 1, none⟩)), .eq (.string ⟨s.toArray⟩), .eq (.int .i64 (n : Nat)), .eq (.string ⟨(s.take n).toArray⟩), .eq (.pointer (some ⟨R, 0, none⟩)), .eq (.pointer (some ⟨R, 0, none⟩)), .eq (.pointer (some ⟨R, 1, none⟩)), .eq (.string ⟨s.toArray⟩), .eq (.int .i64 (n : Nat)), .eq (.string ⟨(s.drop n).toArray⟩), .eq (.pointer (some ⟨R, 0, none⟩)), .eq (.pointer (some ⟨R, 0, none⟩)), .eq (.pointer (some ⟨R, 0, none⟩)), .eq (.pointer (some ⟨R, 1, none⟩))]) [32, 33, 34, 35, 36, 37, 38, 39, 40, 41, 42, 43, 44, 45, 46, 47, 48, 49] [0, 2] (by kernel_rfl) (by kernel_rfl) ?sta (fun t v w w' hc h => specAtR_st _ t v w w' hc h) (by rfl) (by kernel_rfl) ?starta ?obsa ?fina
      case sta => exact ⟨fun h => (by cases h), HN.out.1, (Chg.refl _ _).drew⟩
      case starta =>
        simp only [List.forall_mem_cons]; exact ⟨⟨_, rfl, rfl⟩, ⟨_, rfl, rfl⟩, fun _ h => by cases h⟩
      case obsa =>
        refine ObsL.cons none (by kernel_rfl) ?_ ?_
        · refine ObL.plain fun L a w hi he hW hk K k => ?_
          obtain ⟨_, e0, rfl⟩ := hk 0 (by decide)
          clear hk
          have hS := hW.step (j := 0) (by decide)
          clear hi he hW
          go_simp
          exact k _ _ (Chg.refl _ _) hS rfl
        refine ObsL.cons none (by kernel_rfl) ?_ ?_
        · refine ObL.plain fun L a w hi he hW hk K k => ?_
          obtain ⟨_, e0, rfl⟩ := hk 0 (by decide)
          clear hk
          have hS := hW.step (j := 1) (by decide)
          clear hi he hW
          go_simp
          exact k _ _ (Chg.refl _ _) hS rfl
        refine ObsL.cons none (by kernel_rfl) ?_ ?_
        · refine ObL.plain fun L a w hi he hW hk K k => ?_
          obtain ⟨_, e0, rfl⟩ := hk 0 (by decide)
          clear hk
          have hS := hW.step (j := 2) (by decide)
          clear hi he hW
          go_simp
          exact k _ _ (Chg.refl _ _) hS rfl
        refine ObsL.cons none (by kernel_rfl) ?_ ?_
        · refine ObL.plain fun L a w hi he hW hk K k => ?_
          obtain ⟨_, e34, rfl⟩ := hk 34 (by decide)
          clear hk
          have hS := hW.step (j := 3) (by decide)
          clear hi he hW
          go_simp
          exact k _ _ (Chg.refl _ _) hS rfl
        refine ObsL.cons none (by kernel_rfl) ?_ ?_
        · refine ObL.plain fun L a w hi he hW hk K k => ?_
          obtain ⟨_, e35, rfl⟩ := hk 35 (by decide)
          clear hk
          have hS := hW.step (j := 4) (by decide)
          clear hi he hW
          go_simp
          exact k _ _ (Chg.refl _ _) hS rfl
        refine ObsL.cons none (by kernel_rfl) ?_ ?_
        · refine ObL.plain fun L a w hi he hW hk K k => ?_
          obtain ⟨_, e36, rfl⟩ := hk 36 (by decide)
          clear hk
          have z := hW.one (j := 5) (by decide) hi
          have hS := hW.step (j := 5) (by decide)
          clear hi he hW
          go_simp
          exact k _ _ (Chg.refl _ _) hS rfl
        refine ObsL.cons none (by kernel_rfl) ?_ ?_
        · refine ObL.plain fun L a w hi he hW hk K k => ?_
          obtain ⟨_, e2, rfl⟩ := hk 2 (by decide)
          clear hk
          have hS := hW.step (j := 6) (by decide)
          clear hi he hW
          go_simp
          exact k _ _ (Chg.refl _ _) hS rfl
        refine ObsL.cons none (by kernel_rfl) ?_ ?_
        · refine ObL.plain fun L a w hi he hW hk K k => ?_
          obtain ⟨_, e37, rfl⟩ := hk 37 (by decide)
          obtain ⟨_, e38, rfl⟩ := hk 38 (by decide)
          clear hk
          have hS := hW.step (j := 7) (by decide)
          have st := str_take s n
          have hle := HNL.out
          clear hi he hW
          go_simp
          exact k _ _ (Chg.refl _ _) hS rfl
        refine ObsL.cons none (by kernel_rfl) ?_ ?_
        · refine ObL.plain fun L a w hi he hW hk K k => ?_
          obtain ⟨_, e0, rfl⟩ := hk 0 (by decide)
          clear hk
          have hS := hW.step (j := 8) (by decide)
          clear hi he hW
          go_simp
          exact k _ _ (Chg.refl _ _) hS rfl
        refine ObsL.cons none (by kernel_rfl) ?_ ?_
        · refine ObL.plain fun L a w hi he hW hk K k => ?_
          obtain ⟨_, e40, rfl⟩ := hk 40 (by decide)
          clear hk
          have hS := hW.step (j := 9) (by decide)
          clear hi he hW
          go_simp
          exact k _ _ (Chg.refl _ _) hS rfl
        refine ObsL.cons none (by kernel_rfl) ?_ ?_
        · refine ObL.plain fun L a w hi he hW hk K k => ?_
          obtain ⟨_, e41, rfl⟩ := hk 41 (by decide)
          clear hk
          have hS := hW.step (j := 10) (by decide)
          clear hi he hW
          go_simp
          exact k _ _ (Chg.refl _ _) hS rfl
        refine ObsL.cons none (by kernel_rfl) ?_ ?_
        · refine ObL.plain fun L a w hi he hW hk K k => ?_
          obtain ⟨_, e42, rfl⟩ := hk 42 (by decide)
          clear hk
          have z := hW.one (j := 11) (by decide) hi
          have hS := hW.step (j := 11) (by decide)
          clear hi he hW
          go_simp
          exact k _ _ (Chg.refl _ _) hS rfl
        refine ObsL.cons none (by kernel_rfl) ?_ ?_
        · refine ObL.plain fun L a w hi he hW hk K k => ?_
          obtain ⟨_, e2, rfl⟩ := hk 2 (by decide)
          clear hk
          have hS := hW.step (j := 12) (by decide)
          clear hi he hW
          go_simp
          exact k _ _ (Chg.refl _ _) hS rfl
        refine ObsL.cons none (by kernel_rfl) ?_ ?_
        · refine ObL.plain fun L a w hi he hW hk K k => ?_
          obtain ⟨_, e43, rfl⟩ := hk 43 (by decide)
          obtain ⟨_, e44, rfl⟩ := hk 44 (by decide)
          clear hk
          have hS := hW.step (j := 13) (by decide)
          have st := str_drop s n
          have hle := HNL.out
          clear hi he hW
          go_simp
          exact k _ _ (Chg.refl _ _) hS rfl
        refine ObsL.cons none (by kernel_rfl) ?_ ?_
        · refine ObL.plain fun L a w hi he hW hk K k => ?_
          obtain ⟨_, e32, rfl⟩ := hk 32 (by decide)
          clear hk
          have hS := hW.step (j := 14) (by decide)
          clear hi he hW
          go_simp
          exact k _ _ (Chg.refl _ _) hS rfl
        refine ObsL.cons none (by kernel_rfl) ?_ ?_
        · refine ObL.plain fun L a w hi he hW hk K k => ?_
          obtain ⟨_, e46, rfl⟩ := hk 46 (by decide)
          clear hk
          have hS := hW.step (j := 15) (by decide)
          clear hi he hW
          go_simp
          exact k _ _ (Chg.refl _ _) hS rfl
        refine ObsL.cons none (by kernel_rfl) ?_ ?_
        · refine ObL.plain fun L a w hi he hW hk K k => ?_
          obtain ⟨_, e47, rfl⟩ := hk 47 (by decide)
          obtain ⟨_, e39, rfl⟩ := hk 39 (by decide)
          clear hk
          have z := froz_blk hW.blk 0
          have z2 := cell_blk hW.blk 0
          have hS := hW.first hi
          simp only [List.getElem?_toArray, List.getElem?_cons_zero] at z2
          clear hi he hW
          go_simp
          exact k undef _ (setCell_chg _ R 0 _) hS trivial
        refine ObsL.cons none (by kernel_rfl) ?_ ?_
        · refine ObL.plain fun L a w hi he hW hk K k => ?_
          obtain ⟨_, e33, rfl⟩ := hk 33 (by decide)
          clear hk
          have hS := hW.step (j := 17) (by decide)
          clear hi he hW
          go_simp
          exact k _ _ (Chg.refl _ _) hS rfl
        refine ObsL.cons none (by kernel_rfl) ?_ ?_
        · refine ObL.plain fun L a w hi he hW hk K k => ?_
          obtain ⟨_, e48, rfl⟩ := hk 48 (by decide)
          clear hk
          have hS := hW.step (j := 18) (by decide)
          clear hi he hW
          go_simp
          exact k _ _ (Chg.refl _ _) hS rfl
        refine ObsL.cons none (by kernel_rfl) ?_ ?_
        · refine ObL.plain fun L a w hi he hW hk K k => ?_
          obtain ⟨_, e49, rfl⟩ := hk 49 (by decide)
          obtain ⟨_, e45, rfl⟩ := hk 45 (by decide)
          clear hk
          have z := froz_blk hW.blk 1
          have z2 := cell_blk hW.blk 1
          have hall : ∀ j, j < 17 → L j = true := fun j hj => by
            rcases (show j = 0 ∨ j = 1 ∨ j = 2 ∨ j = 3 ∨ j = 4 ∨ j = 5 ∨ j = 6 ∨ j = 7 ∨ j = 8 ∨ j = 9 ∨ j = 10 ∨ j = 11 ∨ j = 12 ∨ j = 13 ∨ j = 14 ∨ j = 15 ∨ j = 16 by omega) with rfl | rfl | rfl | rfl | rfl | rfl | rfl | rfl | rfl | rfl | rfl | rfl | rfl | rfl | rfl | rfl | rfl
            · exact he ⟨0, Ground.phase⟩ (by simp) (by decide)
            · exact he ⟨1, Ground.phase⟩ (by simp) (by decide)
            · exact he ⟨2, Ground.phase⟩ (by simp) (by decide)
            · exact he ⟨3, Ground.phase⟩ (by simp) (by decide)
            · exact he ⟨4, Ground.phase⟩ (by simp) (by decide)
            · exact he ⟨5, Ground.phase⟩ (by simp) (by decide)
            · exact he ⟨6, Ground.phase⟩ (by simp) (by decide)
            · exact he ⟨7, Ground.phase⟩ (by simp) (by decide)
            · exact he ⟨8, Ground.phase⟩ (by simp) (by decide)
            · exact he ⟨9, Ground.phase⟩ (by simp) (by decide)
            · exact he ⟨10, Ground.phase⟩ (by simp) (by decide)
            · exact he ⟨11, Ground.phase⟩ (by simp) (by decide)
            · exact he ⟨12, Ground.phase⟩ (by simp) (by decide)
            · exact he ⟨13, Ground.phase⟩ (by simp) (by decide)
            · exact he ⟨14, Ground.phase⟩ (by simp) (by decide)
            · exact he ⟨15, Ground.phase⟩ (by simp) (by decide)
            · exact he ⟨16, Ground.phase⟩ (by simp) (by decide)
          have hS := hW.last hall
          simp only [List.getElem?_toArray, List.getElem?_cons_zero, List.getElem?_cons_succ] at z2
          clear hi he hW
          go_simp
          exact k undef _ (setCell_chg _ R 1 _) hS trivial
        exact ObsL.nil
      case fina =>
        intro L vals w10 hL hWL hv
        have hb := hWL.blk
        rw [hL 16 (by decide), hL 19 (by decide)] at hb
        have HE := hid (And.intro hb (HN.out.2.trans hWL.chg (fun _ _ h => h)))
        clear hL hWL hv hb
        go_wp2
        go_end0
        refine ⟨rfl, ?_, HE.out.2⟩
        have := HE.out.1
        simp only [if_true] at this
        rw [HNX.out, HS.out] at this
        exact this
    · have HNX : Hid (k = lexN s) := hid (by unfold lexN; rw [← HK.out.1, if_neg hz])
      have HNL := hid HK.out.2.1
      by_cases h1 : k = 0
      · have hn : (s == []) = true := by simpa using Decidable.byContradiction fun e => hz ⟨h1, e⟩
        have h0 : ((k : Int) == 0) = true := beq_iff_eq.2 (by omega)
        clear hz h1
        go_wp2
        clear h0 hn
        generalize k = n at *
        refine wp_region_state (Chg (· = R)) (TwoS w9 R tok (s.take n) s (s.drop n)) (specAtR [.eq (.pointer (some ⟨R, 0, none⟩)), .any, .eq (.int .i64 (n : Nat)), .any, .any, .any, .any, .any, .any, .any, .any, .any, .any, .any, .any, .any, .any, .any, .any, .any, .any, .any, .any, .any, .any, .any, .any, .any, .any, .any, .any, .any, .eq (.pointer (some ⟨R, 0, none⟩)), .eq (.pointer (some ⟨R, 0, none⟩)), .eq (.pointer (some ⟨R, 0, none⟩)), .eq (.pointer (some ⟨R, 0, none⟩)), .eq (.pointer (some ⟨R, 1, none⟩)), .eq (.string ⟨s.toArray⟩), .eq (.int .i64 (n : Nat)), .eq (.string ⟨(s.take n).toArray⟩), .eq (.pointer (some ⟨R, 0, none⟩)), .eq (.pointer (some ⟨R, 0, none⟩)), .eq (.pointer (some ⟨R, 1, none⟩)), .eq (.string ⟨s.toArray⟩), .eq (.int .i64 (n : Nat)), .eq (.string ⟨(s.drop n).toArray⟩), .eq (.pointer (some ⟨R, 0, none⟩)), .eq (.pointer (some ⟨R, 0, none⟩)), .eq (.pointer (some ⟨R, 0, none⟩)), .eq (.pointer (some ⟨R, 1, none⟩))]) [32, 33, 34, 35, 36, 37, 38, 39, 40, 41, 42, 43, 44, 45, 46, 47, 48, 49] [0, 2] (by kernel_rfl) (by kernel_rfl) ?stb (fun t v w w' hc h => specAtR_st _ t v w w' hc h) (by rfl) (by kernel_rfl) ?startb ?obsb ?finb
        case stb => exact ⟨fun h => (by cases h), HN.out.1, (Chg.refl _ _).drew⟩
        case startb =>
          simp only [List.forall_mem_cons]; exact ⟨⟨_, rfl, rfl⟩, ⟨_, rfl, rfl⟩, fun _ h => by cases h⟩
        case obsb =>
          refine ObsL.cons none (by kernel_rfl) ?_ ?_
          · refine ObL.plain fun L a w hi he hW hk K k => ?_
            obtain ⟨_, e0, rfl⟩ := hk 0 (by decide)
            clear hk
            have hS := hW.step (j := 0) (by decide)
            clear hi he hW
            go_simp
            exact k _ _ (Chg.refl _ _) hS rfl
          refine ObsL.cons none (by kernel_rfl) ?_ ?_
          · refine ObL.plain fun L a w hi he hW hk K k => ?_
            obtain ⟨_, e0, rfl⟩ := hk 0 (by decide)
            clear hk
            have hS := hW.step (j := 1) (by decide)
            clear hi he hW
            go_simp
            exact k _ _ (Chg.refl _ _) hS rfl
          refine ObsL.cons none (by kernel_rfl) ?_ ?_
          · refine ObL.plain fun L a w hi he hW hk K k => ?_
            obtain ⟨_, e0, rfl⟩ := hk 0 (by decide)
            clear hk
            have hS := hW.step (j := 2) (by decide)
            clear hi he hW
            go_simp
            exact k _ _ (Chg.refl _ _) hS rfl
          refine ObsL.cons none (by kernel_rfl) ?_ ?_
          · refine ObL.plain fun L a w hi he hW hk K k => ?_
            obtain ⟨_, e34, rfl⟩ := hk 34 (by decide)
            clear hk
            have hS := hW.step (j := 3) (by decide)
            clear hi he hW
            go_simp
            exact k _ _ (Chg.refl _ _) hS rfl
          refine ObsL.cons none (by kernel_rfl) ?_ ?_
          · refine ObL.plain fun L a w hi he hW hk K k => ?_
            obtain ⟨_, e35, rfl⟩ := hk 35 (by decide)
            clear hk
            have hS := hW.step (j := 4) (by decide)
            clear hi he hW
            go_simp
            exact k _ _ (Chg.refl _ _) hS rfl
          refine ObsL.cons none (by kernel_rfl) ?_ ?_
          · refine ObL.plain fun L a w hi he hW hk K k => ?_
            obtain ⟨_, e36, rfl⟩ := hk 36 (by decide)
            clear hk
            have z := hW.one (j := 5) (by decide) hi
            have hS := hW.step (j := 5) (by decide)
            clear hi he hW
            go_simp
            exact k _ _ (Chg.refl _ _) hS rfl
          refine ObsL.cons none (by kernel_rfl) ?_ ?_
          · refine ObL.plain fun L a w hi he hW hk K k => ?_
            obtain ⟨_, e2, rfl⟩ := hk 2 (by decide)
            clear hk
            have hS := hW.step (j := 6) (by decide)
            clear hi he hW
            go_simp
            exact k _ _ (Chg.refl _ _) hS rfl
          refine ObsL.cons none (by kernel_rfl) ?_ ?_
          · refine ObL.plain fun L a w hi he hW hk K k => ?_
            obtain ⟨_, e37, rfl⟩ := hk 37 (by decide)
            obtain ⟨_, e38, rfl⟩ := hk 38 (by decide)
            clear hk
            have hS := hW.step (j := 7) (by decide)
            have st := str_take s n
            have hle := HNL.out
            clear hi he hW
            go_simp
            exact k _ _ (Chg.refl _ _) hS rfl
          refine ObsL.cons none (by kernel_rfl) ?_ ?_
          · refine ObL.plain fun L a w hi he hW hk K k => ?_
            obtain ⟨_, e0, rfl⟩ := hk 0 (by decide)
            clear hk
            have hS := hW.step (j := 8) (by decide)
            clear hi he hW
            go_simp
            exact k _ _ (Chg.refl _ _) hS rfl
          refine ObsL.cons none (by kernel_rfl) ?_ ?_
          · refine ObL.plain fun L a w hi he hW hk K k => ?_
            obtain ⟨_, e40, rfl⟩ := hk 40 (by decide)
            clear hk
            have hS := hW.step (j := 9) (by decide)
            clear hi he hW
            go_simp
            exact k _ _ (Chg.refl _ _) hS rfl
          refine ObsL.cons none (by kernel_rfl) ?_ ?_
          · refine ObL.plain fun L a w hi he hW hk K k => ?_
            obtain ⟨_, e41, rfl⟩ := hk 41 (by decide)
            clear hk
            have hS := hW.step (j := 10) (by decide)
            clear hi he hW
            go_simp
            exact k _ _ (Chg.refl _ _) hS rfl
          refine ObsL.cons none (by kernel_rfl) ?_ ?_
          · refine ObL.plain fun L a w hi he hW hk K k => ?_
            obtain ⟨_, e42, rfl⟩ := hk 42 (by decide)
            clear hk
            have z := hW.one (j := 11) (by decide) hi
            have hS := hW.step (j := 11) (by decide)
            clear hi he hW
            go_simp
            exact k _ _ (Chg.refl _ _) hS rfl
          refine ObsL.cons none (by kernel_rfl) ?_ ?_
          · refine ObL.plain fun L a w hi he hW hk K k => ?_
            obtain ⟨_, e2, rfl⟩ := hk 2 (by decide)
            clear hk
            have hS := hW.step (j := 12) (by decide)
            clear hi he hW
            go_simp
            exact k _ _ (Chg.refl _ _) hS rfl
          refine ObsL.cons none (by kernel_rfl) ?_ ?_
          · refine ObL.plain fun L a w hi he hW hk K k => ?_
            obtain ⟨_, e43, rfl⟩ := hk 43 (by decide)
            obtain ⟨_, e44, rfl⟩ := hk 44 (by decide)
            clear hk
            have hS := hW.step (j := 13) (by decide)
            have st := str_drop s n
            have hle := HNL.out
            clear hi he hW
            go_simp
            exact k _ _ (Chg.refl _ _) hS rfl
          refine ObsL.cons none (by kernel_rfl) ?_ ?_
          · refine ObL.plain fun L a w hi he hW hk K k => ?_
            obtain ⟨_, e32, rfl⟩ := hk 32 (by decide)
            clear hk
            have hS := hW.step (j := 14) (by decide)
            clear hi he hW
            go_simp
            exact k _ _ (Chg.refl _ _) hS rfl
          refine ObsL.cons none (by kernel_rfl) ?_ ?_
          · refine ObL.plain fun L a w hi he hW hk K k => ?_
            obtain ⟨_, e46, rfl⟩ := hk 46 (by decide)
            clear hk
            have hS := hW.step (j := 15) (by decide)
            clear hi he hW
            go_simp
            exact k _ _ (Chg.refl _ _) hS rfl
          refine ObsL.cons none (by kernel_rfl) ?_ ?_
          · refine ObL.plain fun L a w hi he hW hk K k => ?_
            obtain ⟨_, e47, rfl⟩ := hk 47 (by decide)
            obtain ⟨_, e39, rfl⟩ := hk 39 (by decide)
            clear hk
            have z := froz_blk hW.blk 0
            have z2 := cell_blk hW.blk 0
            have hS := hW.first hi
            simp only [List.getElem?_toArray, List.getElem?_cons_zero] at z2
            clear hi he hW
            go_simp
            exact k undef _ (setCell_chg _ R 0 _) hS trivial
          refine ObsL.cons none (by kernel_rfl) ?_ ?_
          · refine ObL.plain fun L a w hi he hW hk K k => ?_
            obtain ⟨_, e33, rfl⟩ := hk 33 (by decide)
            clear hk
            have hS := hW.step (j := 17) (by decide)
            clear hi he hW
            go_simp
            exact k _ _ (Chg.refl _ _) hS rfl
          refine ObsL.cons none (by kernel_rfl) ?_ ?_
          · refine ObL.plain fun L a w hi he hW hk K k => ?_
            obtain ⟨_, e48, rfl⟩ := hk 48 (by decide)
            clear hk
            have hS := hW.step (j := 18) (by decide)
            clear hi he hW
            go_simp
            exact k _ _ (Chg.refl _ _) hS rfl
          refine ObsL.cons none (by kernel_rfl) ?_ ?_
          · refine ObL.plain fun L a w hi he hW hk K k => ?_
            obtain ⟨_, e49, rfl⟩ := hk 49 (by decide)
            obtain ⟨_, e45, rfl⟩ := hk 45 (by decide)
            clear hk
            have z := froz_blk hW.blk 1
            have z2 := cell_blk hW.blk 1
            have hall : ∀ j, j < 17 → L j = true := fun j hj => by
              rcases (show j = 0 ∨ j = 1 ∨ j = 2 ∨ j = 3 ∨ j = 4 ∨ j = 5 ∨ j = 6 ∨ j = 7 ∨ j = 8 ∨ j = 9 ∨ j = 10 ∨ j = 11 ∨ j = 12 ∨ j = 13 ∨ j = 14 ∨ j = 15 ∨ j = 16 by omega) with rfl | rfl | rfl | rfl | rfl | rfl | rfl | rfl | rfl | rfl | rfl | rfl | rfl | rfl | rfl | rfl | rfl
              · exact he ⟨0, Ground.phase⟩ (by simp) (by decide)
              · exact he ⟨1, Ground.phase⟩ (by simp) (by decide)
              · exact he ⟨2, Ground.phase⟩ (by simp) (by decide)
              · exact he ⟨3, Ground.phase⟩ (by simp) (by decide)
              · exact he ⟨4, Ground.phase⟩ (by simp) (by decide)
              · exact he ⟨5, Ground.phase⟩ (by simp) (by decide)
              · exact he ⟨6, Ground.phase⟩ (by simp) (by decide)
              · exact he ⟨7, Ground.phase⟩ (by simp) (by decide)
              · exact he ⟨8, Ground.phase⟩ (by simp) (by decide)
              · exact he ⟨9, Ground.phase⟩ (by simp) (by decide)
              · exact he ⟨10, Ground.phase⟩ (by simp) (by decide)
              · exact he ⟨11, Ground.phase⟩ (by simp) (by decide)
              · exact he ⟨12, Ground.phase⟩ (by simp) (by decide)
              · exact he ⟨13, Ground.phase⟩ (by simp) (by decide)
              · exact he ⟨14, Ground.phase⟩ (by simp) (by decide)
              · exact he ⟨15, Ground.phase⟩ (by simp) (by decide)
              · exact he ⟨16, Ground.phase⟩ (by simp) (by decide)
            have hS := hW.last hall
            simp only [List.getElem?_toArray, List.getElem?_cons_zero, List.getElem?_cons_succ] at z2
            clear hi he hW
            go_simp
            exact k undef _ (setCell_chg _ R 1 _) hS trivial
          exact ObsL.nil
        case finb =>
          intro L vals w10 hL hWL hv
          have hb := hWL.blk
          rw [hL 16 (by decide), hL 19 (by decide)] at hb
          have HE := hid (And.intro hb (HN.out.2.trans hWL.chg (fun _ _ h => h)))
          clear hL hWL hv hb
          go_wp2
          go_end0
          refine ⟨rfl, ?_, HE.out.2⟩
          have := HE.out.1
          simp only [if_true] at this
          rw [HNX.out, HS.out] at this
          exact this
      · have h0 : ((k : Int) == 0) = false := by simpa using h1
        clear hz h1
        go_wp2
        clear h0
        generalize k = n at *
        refine wp_region_state (Chg (· = R)) (TwoS w9 R tok (s.take n) s (s.drop n)) (specAtR [.eq (.pointer (some ⟨R, 0, none⟩)), .any, .eq (.int .i64 (n : Nat)), .any, .any, .any, .any, .any, .any, .any, .any, .any, .any, .any, .any, .any, .any, .any, .any, .any, .any, .any, .any, .any, .any, .any, .any, .any, .any, .any, .any, .any, .eq (.pointer (some ⟨R, 0, none⟩)), .eq (.pointer (some ⟨R, 0, none⟩)), .eq (.pointer (some ⟨R, 0, none⟩)), .eq (.pointer (some ⟨R, 0, none⟩)), .eq (.pointer (some ⟨R, 1, none⟩)), .eq (.string ⟨s.toArray⟩), .eq (.int .i64 (n : Nat)), .eq (.string ⟨(s.take n).toArray⟩), .eq (.pointer (some ⟨R, 0, none⟩)), .eq (.pointer (some ⟨R, 0, none⟩)), .eq (.pointer (some ⟨R, 1, none⟩)), .eq (.string ⟨s.toArray⟩), .eq (.int .i64 (n : Nat)), .eq (.string ⟨(s.drop n).toArray⟩), .eq (.pointer (some ⟨R, 0, none⟩)), .eq (.pointer (some ⟨R, 0, none⟩)), .eq (.pointer (some ⟨R, 0, none⟩)), .eq (.pointer (some ⟨R, 1, none⟩))]) [32, 33, 34, 35, 36, 37, 38, 39, 40, 41, 42, 43, 44, 45, 46, 47, 48, 49] [0, 2] (by kernel_rfl) (by kernel_rfl) ?stc (fun t v w w' hc h => specAtR_st _ t v w w' hc h) (by rfl) (by kernel_rfl) ?startc ?obsc ?finc
        case stc => exact ⟨fun h => (by cases h), HN.out.1, (Chg.refl _ _).drew⟩
        case startc =>
          simp only [List.forall_mem_cons]; exact ⟨⟨_, rfl, rfl⟩, ⟨_, rfl, rfl⟩, fun _ h => by cases h⟩
        case obsc =>
          refine ObsL.cons none (by kernel_rfl) ?_ ?_
          · refine ObL.plain fun L a w hi he hW hk K k => ?_
            obtain ⟨_, e0, rfl⟩ := hk 0 (by decide)
            clear hk
            have hS := hW.step (j := 0) (by decide)
            clear hi he hW
            go_simp
            exact k _ _ (Chg.refl _ _) hS rfl
          refine ObsL.cons none (by kernel_rfl) ?_ ?_
          · refine ObL.plain fun L a w hi he hW hk K k => ?_
            obtain ⟨_, e0, rfl⟩ := hk 0 (by decide)
            clear hk
            have hS := hW.step (j := 1) (by decide)
            clear hi he hW
            go_simp
            exact k _ _ (Chg.refl _ _) hS rfl
          refine ObsL.cons none (by kernel_rfl) ?_ ?_
          · refine ObL.plain fun L a w hi he hW hk K k => ?_
            obtain ⟨_, e0, rfl⟩ := hk 0 (by decide)
            clear hk
            have hS := hW.step (j := 2) (by decide)
            clear hi he hW
            go_simp
            exact k _ _ (Chg.refl _ _) hS rfl
          refine ObsL.cons none (by kernel_rfl) ?_ ?_
          · refine ObL.plain fun L a w hi he hW hk K k => ?_
            obtain ⟨_, e34, rfl⟩ := hk 34 (by decide)
            clear hk
            have hS := hW.step (j := 3) (by decide)
            clear hi he hW
            go_simp
            exact k _ _ (Chg.refl _ _) hS rfl
          refine ObsL.cons none (by kernel_rfl) ?_ ?_
          · refine ObL.plain fun L a w hi he hW hk K k => ?_
            obtain ⟨_, e35, rfl⟩ := hk 35 (by decide)
            clear hk
            have hS := hW.step (j := 4) (by decide)
            clear hi he hW
            go_simp
            exact k _ _ (Chg.refl _ _) hS rfl
          refine ObsL.cons none (by kernel_rfl) ?_ ?_
          · refine ObL.plain fun L a w hi he hW hk K k => ?_
            obtain ⟨_, e36, rfl⟩ := hk 36 (by decide)
            clear hk
            have z := hW.one (j := 5) (by decide) hi
            have hS := hW.step (j := 5) (by decide)
            clear hi he hW
            go_simp
            exact k _ _ (Chg.refl _ _) hS rfl
          refine ObsL.cons none (by kernel_rfl) ?_ ?_
          · refine ObL.plain fun L a w hi he hW hk K k => ?_
            obtain ⟨_, e2, rfl⟩ := hk 2 (by decide)
            clear hk
            have hS := hW.step (j := 6) (by decide)
            clear hi he hW
            go_simp
            exact k _ _ (Chg.refl _ _) hS rfl
          refine ObsL.cons none (by kernel_rfl) ?_ ?_
          · refine ObL.plain fun L a w hi he hW hk K k => ?_
            obtain ⟨_, e37, rfl⟩ := hk 37 (by decide)
            obtain ⟨_, e38, rfl⟩ := hk 38 (by decide)
            clear hk
            have hS := hW.step (j := 7) (by decide)
            have st := str_take s n
            have hle := HNL.out
            clear hi he hW
            go_simp
            exact k _ _ (Chg.refl _ _) hS rfl
          refine ObsL.cons none (by kernel_rfl) ?_ ?_
          · refine ObL.plain fun L a w hi he hW hk K k => ?_
            obtain ⟨_, e0, rfl⟩ := hk 0 (by decide)
            clear hk
            have hS := hW.step (j := 8) (by decide)
            clear hi he hW
            go_simp
            exact k _ _ (Chg.refl _ _) hS rfl
          refine ObsL.cons none (by kernel_rfl) ?_ ?_
          · refine ObL.plain fun L a w hi he hW hk K k => ?_
            obtain ⟨_, e40, rfl⟩ := hk 40 (by decide)
            clear hk
            have hS := hW.step (j := 9) (by decide)
            clear hi he hW
            go_simp
            exact k _ _ (Chg.refl _ _) hS rfl
          refine ObsL.cons none (by kernel_rfl) ?_ ?_
          · refine ObL.plain fun L a w hi he hW hk K k => ?_
            obtain ⟨_, e41, rfl⟩ := hk 41 (by decide)
            clear hk
            have hS := hW.step (j := 10) (by decide)
            clear hi he hW
            go_simp
            exact k _ _ (Chg.refl _ _) hS rfl
          refine ObsL.cons none (by kernel_rfl) ?_ ?_
          · refine ObL.plain fun L a w hi he hW hk K k => ?_
            obtain ⟨_, e42, rfl⟩ := hk 42 (by decide)
            clear hk
            have z := hW.one (j := 11) (by decide) hi
            have hS := hW.step (j := 11) (by decide)
            clear hi he hW
            go_simp
            exact k _ _ (Chg.refl _ _) hS rfl
          refine ObsL.cons none (by kernel_rfl) ?_ ?_
          · refine ObL.plain fun L a w hi he hW hk K k => ?_
            obtain ⟨_, e2, rfl⟩ := hk 2 (by decide)
            clear hk
            have hS := hW.step (j := 12) (by decide)
            clear hi he hW
            go_simp
            exact k _ _ (Chg.refl _ _) hS rfl
          refine ObsL.cons none (by kernel_rfl) ?_ ?_
          · refine ObL.plain fun L a w hi he hW hk K k => ?_
            obtain ⟨_, e43, rfl⟩ := hk 43 (by decide)
            obtain ⟨_, e44, rfl⟩ := hk 44 (by decide)
            clear hk
            have hS := hW.step (j := 13) (by decide)
            have st := str_drop s n
            have hle := HNL.out
            clear hi he hW
            go_simp
            exact k _ _ (Chg.refl _ _) hS rfl
          refine ObsL.cons none (by kernel_rfl) ?_ ?_
          · refine ObL.plain fun L a w hi he hW hk K k => ?_
            obtain ⟨_, e32, rfl⟩ := hk 32 (by decide)
            clear hk
            have hS := hW.step (j := 14) (by decide)
            clear hi he hW
            go_simp
            exact k _ _ (Chg.refl _ _) hS rfl
          refine ObsL.cons none (by kernel_rfl) ?_ ?_
          · refine ObL.plain fun L a w hi he hW hk K k => ?_
            obtain ⟨_, e46, rfl⟩ := hk 46 (by decide)
            clear hk
            have hS := hW.step (j := 15) (by decide)
            clear hi he hW
            go_simp
            exact k _ _ (Chg.refl _ _) hS rfl
          refine ObsL.cons none (by kernel_rfl) ?_ ?_
          · refine ObL.plain fun L a w hi he hW hk K k => ?_
            obtain ⟨_, e47, rfl⟩ := hk 47 (by decide)
            obtain ⟨_, e39, rfl⟩ := hk 39 (by decide)
            clear hk
            have z := froz_blk hW.blk 0
            have z2 := cell_blk hW.blk 0
            have hS := hW.first hi
            simp only [List.getElem?_toArray, List.getElem?_cons_zero] at z2
            clear hi he hW
            go_simp
            exact k undef _ (setCell_chg _ R 0 _) hS trivial
          refine ObsL.cons none (by kernel_rfl) ?_ ?_
          · refine ObL.plain fun L a w hi he hW hk K k => ?_
            obtain ⟨_, e33, rfl⟩ := hk 33 (by decide)
            clear hk
            have hS := hW.step (j := 17) (by decide)
            clear hi he hW
            go_simp
            exact k _ _ (Chg.refl _ _) hS rfl
          refine ObsL.cons none (by kernel_rfl) ?_ ?_
          · refine ObL.plain fun L a w hi he hW hk K k => ?_
            obtain ⟨_, e48, rfl⟩ := hk 48 (by decide)
            clear hk
            have hS := hW.step (j := 18) (by decide)
            clear hi he hW
            go_simp
            exact k _ _ (Chg.refl _ _) hS rfl
          refine ObsL.cons none (by kernel_rfl) ?_ ?_
          · refine ObL.plain fun L a w hi he hW hk K k => ?_
            obtain ⟨_, e49, rfl⟩ := hk 49 (by decide)
            obtain ⟨_, e45, rfl⟩ := hk 45 (by decide)
            clear hk
            have z := froz_blk hW.blk 1
            have z2 := cell_blk hW.blk 1
            have hall : ∀ j, j < 17 → L j = true := fun j hj => by
              rcases (show j = 0 ∨ j = 1 ∨ j = 2 ∨ j = 3 ∨ j = 4 ∨ j = 5 ∨ j = 6 ∨ j = 7 ∨ j = 8 ∨ j = 9 ∨ j = 10 ∨ j = 11 ∨ j = 12 ∨ j = 13 ∨ j = 14 ∨ j = 15 ∨ j = 16 by omega) with rfl | rfl | rfl | rfl | rfl | rfl | rfl | rfl | rfl | rfl | rfl | rfl | rfl | rfl | rfl | rfl | rfl
              · exact he ⟨0, Ground.phase⟩ (by simp) (by decide)
              · exact he ⟨1, Ground.phase⟩ (by simp) (by decide)
              · exact he ⟨2, Ground.phase⟩ (by simp) (by decide)
              · exact he ⟨3, Ground.phase⟩ (by simp) (by decide)
              · exact he ⟨4, Ground.phase⟩ (by simp) (by decide)
              · exact he ⟨5, Ground.phase⟩ (by simp) (by decide)
              · exact he ⟨6, Ground.phase⟩ (by simp) (by decide)
              · exact he ⟨7, Ground.phase⟩ (by simp) (by decide)
              · exact he ⟨8, Ground.phase⟩ (by simp) (by decide)
              · exact he ⟨9, Ground.phase⟩ (by simp) (by decide)
              · exact he ⟨10, Ground.phase⟩ (by simp) (by decide)
              · exact he ⟨11, Ground.phase⟩ (by simp) (by decide)
              · exact he ⟨12, Ground.phase⟩ (by simp) (by decide)
              · exact he ⟨13, Ground.phase⟩ (by simp) (by decide)
              · exact he ⟨14, Ground.phase⟩ (by simp) (by decide)
              · exact he ⟨15, Ground.phase⟩ (by simp) (by decide)
              · exact he ⟨16, Ground.phase⟩ (by simp) (by decide)
            have hS := hW.last hall
            simp only [List.getElem?_toArray, List.getElem?_cons_zero, List.getElem?_cons_succ] at z2
            clear hi he hW
            go_simp
            exact k undef _ (setCell_chg _ R 1 _) hS trivial
          exact ObsL.nil
        case finc =>
          intro L vals w10 hL hWL hv
          have hb := hWL.blk
          rw [hL 16 (by decide), hL 19 (by decide)] at hb
          have HE := hid (And.intro hb (HN.out.2.trans hWL.chg (fun _ _ h => h)))
          clear hL hWL hv hb
          go_wp2
          go_end0
          refine ⟨rfl, ?_, HE.out.2⟩
          have := HE.out.1
          simp only [if_true] at this
          rw [HNX.out, HS.out] at this
          exact this
end Go.Proofs.YtojbhlbknjnioaaGreatDoor
