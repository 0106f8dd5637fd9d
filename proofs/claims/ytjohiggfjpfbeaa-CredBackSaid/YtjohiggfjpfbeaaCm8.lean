/- Texts that the proof leans on, in one: PcText, ShelfCut, CredParse, CredBackMath, RoleCut. -/
import Derived.Test.YtjohiggfjpfbeaaCm7
import Derived.Test.YtjohiggfjpfbeaaCm4
import Derived.Shelf.Strings.Cut
import Derived.Shelf.Strings.Count
import Derived.Shelf.Strings.LastIndex
import Derived.Test.YtjohiggfjpfbeaaProg
import Derived.Test.YtjohiggfjpfbeaaCm5
import Derived.Test.YtjohiggfjpfbeaaCm6
import Derived.Lib.IndexLaws
import Derived.OwnWalk
/- cred.Text: the program's contract. -/
namespace Go.Proofs.Ytjohiggfjpfbeaa
open Go.RowKit

def credTextOr (c : CredB) : List UInt8 := if isCred c then credText c else []

theorem str_three (a b : List UInt8) : (⟨a.toArray⟩ : ByteArray) ++ ⟨#[32, 60, 45, 32]⟩ ++ ⟨b.toArray⟩ = ⟨(a ++ ([32, 60, 45, 32] ++ b)).toArray⟩ := by
  show (⟨a.toArray⟩ : ByteArray) ++ ⟨([32, 60, 45, 32] : List UInt8).toArray⟩ ++ ⟨b.toArray⟩ = _
  rw [ByteArray.mk_append_mk, ByteArray.mk_append_mk]
  simp

theorem pc_roleText_len (r : RoleB) : (roleText r).length = r.1.length + 1 + r.2.length := by simp [roleText]; omega

set_option maxRecDepth 100000 in
set_option maxHeartbeats 2000000 in
theorem pctext1 (h1 h2 who b1 b2 c1 c2 w2 : List UInt8) (w : World) (hs : h1.length ≤ 1048576 ∧ h2.length ≤ 1048576 ∧ who.length ≤ 1048576 ∧ b1.length ≤ 1048576 ∧ b2.length ≤ 1048576 ∧ c1.length ≤ 1048576 ∧ c2.length ≤ 1048576 ∧ w2.length ≤ 1048576) (hr : isCred ⟨1, (h1, h2), who, (b1, b2), (c1, c2), w2⟩ = true) :
    Calls Try.prog 15 #[credV ⟨1, (h1, h2), who, (b1, b2), (c1, c2), w2⟩] w fun e w' => e = .returned (.string ⟨(credText ⟨1, (h1, h2), who, (b1, b2), (c1, c2), w2⟩).toArray⟩) ∧ Chg (fun _ => False) w w' := by
  obtain ⟨s1, s2, s3, s4, s5, s6, s7, s8⟩ := hs
  have hA1 := heap_alloc_new w (.cells (credBox ⟨1, (h1, h2), who, (b1, b2), (c1, c2), w2⟩) 25)
  have hcw1 : Chg (fun _ => False) w (w.alloc (.cells (credBox ⟨1, (h1, h2), who, (b1, b2), (c1, c2), w2⟩) 25)) := (Chg.refl _ w).alloc _
  have hrt := pcright ⟨1, (h1, h2), who, (b1, b2), (c1, c2), w2⟩ (w.alloc (.cells (credBox ⟨1, (h1, h2), who, (b1, b2), (c1, c2), w2⟩) 25)) ⟨Nat.le_trans s1 (by decide), Nat.le_trans s2 (by decide), Nat.le_trans s3 (by decide), Nat.le_trans s4 (by decide), Nat.le_trans s5 (by decide), Nat.le_trans s6 (by decide), Nat.le_trans s7 (by decide), Nat.le_trans s8 (by decide)⟩
  rw [hr] at hrt
  have HH := hid (And.intro hrt (And.intro hA1 hcw1))
  clear hrt hA1 hcw1 hr
  show Calls Try.prog 15 #[.agg #[.int .i64 1, .string ⟨h1.toArray⟩, .string ⟨h2.toArray⟩, .string ⟨who.toArray⟩, .string ⟨b1.toArray⟩, .string ⟨b2.toArray⟩, .string ⟨c1.toArray⟩, .string ⟨c2.toArray⟩, .string ⟨w2.toArray⟩]] w _
  go_enter Try.func15, Try.ntmps15
  go_wp2_with fail
  obtain ⟨hrt, hA1, hcw1⟩ := HH.out
  clear HH
  refine hrt.mono ?_
  rintro e w2' ⟨rfl, hc2⟩
  have hA2 := blk_keep hA1 hc2 id
  have hcw2 := hcw1.trans hc2 (fun _ _ h => h)
  clear hrt hA1 hcw1 hc2
  generalize w.heap.size = A at *
  obtain ⟨a0, a1, a2, a3, a4, a5, a6, a7, a8⟩ := cred_at_blk hA2
  simp only [Nat.zero_add] at a0 a1 a2 a3 a4 a5 a6 a7 a8
  skip
  have KK := hid (And.intro hA2 hcw2)
  clear hA2 hcw2
  go_wp2_with fail
  obtain ⟨hA2, hcw2⟩ := KK.out
  clear KK a0 a1 a2 a3 a4 a5 a6 a7 a8
  refine (ptext (h1, h2) _ s1 s2).mono ?_
  rintro e w3' ⟨rfl, hc3⟩
  have hA3 := blk_keep hA2 hc3 id
  have hcw3 := hcw2.trans hc3 (fun _ _ h => h)
  clear hc3 hA2 hcw2
  have HC := hid hcw3
  clear hA3 hcw3
  have hl := pc_roleText_len (h1, h2)
  dsimp only at hl
  have HT : Hid (∀ b : List UInt8, b = who → (⟨(roleText (h1, h2)).toArray⟩ : ByteArray) ++ ⟨#[32, 60, 45, 32]⟩ ++ ⟨b.toArray⟩ = ⟨(credText ⟨1, (h1, h2), who, (b1, b2), (c1, c2), w2⟩).toArray⟩) := hid (fun b hb => by subst hb; exact (str_three _ _).trans rfl)
  have hsl : (who).length ≤ 8388608 := by first | omega | (simp [pc_roleText_len]; omega)
  skip
  generalize roleText (h1, h2) = th at *
  have HS : Hid (who = who) := hid rfl
  skip
  have hb1 : ¬ 9223372036854775807 < th.length + 4 := by omega
  have hb2 : ¬ 9223372036854775807 < th.length + 4 + who.length := by omega
  clear hl hsl
  go_wp2
  go_ret
  exact ⟨congrArg (fun b => Ending.returned (.string b)) (HT.out _ rfl), HC.out⟩

set_option maxRecDepth 100000 in
set_option maxHeartbeats 2000000 in
theorem pctext2 (h1 h2 who b1 b2 c1 c2 w2 : List UInt8) (w : World) (hs : h1.length ≤ 1048576 ∧ h2.length ≤ 1048576 ∧ who.length ≤ 1048576 ∧ b1.length ≤ 1048576 ∧ b2.length ≤ 1048576 ∧ c1.length ≤ 1048576 ∧ c2.length ≤ 1048576 ∧ w2.length ≤ 1048576) (hr : isCred ⟨2, (h1, h2), who, (b1, b2), (c1, c2), w2⟩ = true) :
    Calls Try.prog 15 #[credV ⟨2, (h1, h2), who, (b1, b2), (c1, c2), w2⟩] w fun e w' => e = .returned (.string ⟨(credText ⟨2, (h1, h2), who, (b1, b2), (c1, c2), w2⟩).toArray⟩) ∧ Chg (fun _ => False) w w' := by
  obtain ⟨s1, s2, s3, s4, s5, s6, s7, s8⟩ := hs
  have hA1 := heap_alloc_new w (.cells (credBox ⟨2, (h1, h2), who, (b1, b2), (c1, c2), w2⟩) 25)
  have hcw1 : Chg (fun _ => False) w (w.alloc (.cells (credBox ⟨2, (h1, h2), who, (b1, b2), (c1, c2), w2⟩) 25)) := (Chg.refl _ w).alloc _
  have hrt := pcright ⟨2, (h1, h2), who, (b1, b2), (c1, c2), w2⟩ (w.alloc (.cells (credBox ⟨2, (h1, h2), who, (b1, b2), (c1, c2), w2⟩) 25)) ⟨Nat.le_trans s1 (by decide), Nat.le_trans s2 (by decide), Nat.le_trans s3 (by decide), Nat.le_trans s4 (by decide), Nat.le_trans s5 (by decide), Nat.le_trans s6 (by decide), Nat.le_trans s7 (by decide), Nat.le_trans s8 (by decide)⟩
  rw [hr] at hrt
  have HH := hid (And.intro hrt (And.intro hA1 hcw1))
  clear hrt hA1 hcw1 hr
  show Calls Try.prog 15 #[.agg #[.int .i64 2, .string ⟨h1.toArray⟩, .string ⟨h2.toArray⟩, .string ⟨who.toArray⟩, .string ⟨b1.toArray⟩, .string ⟨b2.toArray⟩, .string ⟨c1.toArray⟩, .string ⟨c2.toArray⟩, .string ⟨w2.toArray⟩]] w _
  go_enter Try.func15, Try.ntmps15
  go_wp2_with fail
  obtain ⟨hrt, hA1, hcw1⟩ := HH.out
  clear HH
  refine hrt.mono ?_
  rintro e w2' ⟨rfl, hc2⟩
  have hA2 := blk_keep hA1 hc2 id
  have hcw2 := hcw1.trans hc2 (fun _ _ h => h)
  clear hrt hA1 hcw1 hc2
  generalize w.heap.size = A at *
  obtain ⟨a0, a1, a2, a3, a4, a5, a6, a7, a8⟩ := cred_at_blk hA2
  simp only [Nat.zero_add] at a0 a1 a2 a3 a4 a5 a6 a7 a8
  have KK := hid (And.intro hA2 hcw2)
  clear hA2 hcw2
  go_wp2_with fail
  obtain ⟨hA2, hcw2⟩ := KK.out
  clear KK a0 a1 a2 a3 a4 a5 a6 a7 a8
  refine (ptext (b1, b2) _ s4 s5).mono ?_
  rintro e w3' ⟨rfl, hc3⟩
  have hA3 := blk_keep hA2 hc3 id
  have hcw3 := hcw2.trans hc3 (fun _ _ h => h)
  clear hc3 hA2 hcw2
  obtain ⟨a0, a1, a2, a3, a4, a5, a6, a7, a8⟩ := cred_at_blk hA3
  simp only [Nat.zero_add] at a0 a1 a2 a3 a4 a5 a6 a7 a8
  have KK := hid (And.intro hA3 hcw3)
  clear hA3 hcw3
  go_wp2_with fail
  obtain ⟨hA3, hcw3⟩ := KK.out
  clear KK a0 a1 a2 a3 a4 a5 a6 a7 a8
  refine (ptext (h1, h2) _ s1 s2).mono ?_
  rintro e w4' ⟨rfl, hc4⟩
  have hA4 := blk_keep hA3 hc4 id
  have hcw4 := hcw3.trans hc4 (fun _ _ h => h)
  clear hc4 hA3 hcw3
  have HC := hid hcw4
  clear hA4 hcw4
  have hl := pc_roleText_len (h1, h2)
  dsimp only at hl
  have HT : Hid (∀ b : List UInt8, b = roleText (b1, b2) → (⟨(roleText (h1, h2)).toArray⟩ : ByteArray) ++ ⟨#[32, 60, 45, 32]⟩ ++ ⟨b.toArray⟩ = ⟨(credText ⟨2, (h1, h2), who, (b1, b2), (c1, c2), w2⟩).toArray⟩) := hid (fun b hb => by subst hb; exact (str_three _ _).trans rfl)
  have hsl : (roleText (b1, b2)).length ≤ 8388608 := by first | omega | (simp [pc_roleText_len]; omega)
  generalize hsd : roleText (b1, b2) = sd at *
  generalize roleText (h1, h2) = th at *
  have HS := hid hsd
  clear hsd
  have hb1 : ¬ 9223372036854775807 < th.length + 4 := by omega
  have hb2 : ¬ 9223372036854775807 < th.length + 4 + sd.length := by omega
  clear hl hsl
  go_wp2
  go_ret
  exact ⟨congrArg (fun b => Ending.returned (.string b)) (HT.out _ rfl), HC.out⟩

set_option maxRecDepth 100000 in
set_option maxHeartbeats 2000000 in
theorem pctext3 (h1 h2 who b1 b2 c1 c2 w2 : List UInt8) (w : World) (hs : h1.length ≤ 1048576 ∧ h2.length ≤ 1048576 ∧ who.length ≤ 1048576 ∧ b1.length ≤ 1048576 ∧ b2.length ≤ 1048576 ∧ c1.length ≤ 1048576 ∧ c2.length ≤ 1048576 ∧ w2.length ≤ 1048576) (hr : isCred ⟨3, (h1, h2), who, (b1, b2), (c1, c2), w2⟩ = true) :
    Calls Try.prog 15 #[credV ⟨3, (h1, h2), who, (b1, b2), (c1, c2), w2⟩] w fun e w' => e = .returned (.string ⟨(credText ⟨3, (h1, h2), who, (b1, b2), (c1, c2), w2⟩).toArray⟩) ∧ Chg (fun _ => False) w w' := by
  obtain ⟨s1, s2, s3, s4, s5, s6, s7, s8⟩ := hs
  have hA1 := heap_alloc_new w (.cells (credBox ⟨3, (h1, h2), who, (b1, b2), (c1, c2), w2⟩) 25)
  have hcw1 : Chg (fun _ => False) w (w.alloc (.cells (credBox ⟨3, (h1, h2), who, (b1, b2), (c1, c2), w2⟩) 25)) := (Chg.refl _ w).alloc _
  have hrt := pcright ⟨3, (h1, h2), who, (b1, b2), (c1, c2), w2⟩ (w.alloc (.cells (credBox ⟨3, (h1, h2), who, (b1, b2), (c1, c2), w2⟩) 25)) ⟨Nat.le_trans s1 (by decide), Nat.le_trans s2 (by decide), Nat.le_trans s3 (by decide), Nat.le_trans s4 (by decide), Nat.le_trans s5 (by decide), Nat.le_trans s6 (by decide), Nat.le_trans s7 (by decide), Nat.le_trans s8 (by decide)⟩
  rw [hr] at hrt
  have HH := hid (And.intro hrt (And.intro hA1 hcw1))
  clear hrt hA1 hcw1 hr
  show Calls Try.prog 15 #[.agg #[.int .i64 3, .string ⟨h1.toArray⟩, .string ⟨h2.toArray⟩, .string ⟨who.toArray⟩, .string ⟨b1.toArray⟩, .string ⟨b2.toArray⟩, .string ⟨c1.toArray⟩, .string ⟨c2.toArray⟩, .string ⟨w2.toArray⟩]] w _
  go_enter Try.func15, Try.ntmps15
  go_wp2_with fail
  obtain ⟨hrt, hA1, hcw1⟩ := HH.out
  clear HH
  refine hrt.mono ?_
  rintro e w2' ⟨rfl, hc2⟩
  have hA2 := blk_keep hA1 hc2 id
  have hcw2 := hcw1.trans hc2 (fun _ _ h => h)
  clear hrt hA1 hcw1 hc2
  generalize w.heap.size = A at *
  obtain ⟨a0, a1, a2, a3, a4, a5, a6, a7, a8⟩ := cred_at_blk hA2
  simp only [Nat.zero_add] at a0 a1 a2 a3 a4 a5 a6 a7 a8
  have KK := hid (And.intro hA2 hcw2)
  clear hA2 hcw2
  go_wp2_with fail
  clear a0 a1 a2 a3 a4 a5 a6 a7 a8
  refine wp_region_specs [.any, .eq (.pointer (some ⟨A, 0, none⟩)), .any, .eq (.string ⟨(roleText (b1, b2) ++ 46 :: w2).toArray⟩), .any, .any, .any, .any, .any, .any, .any, .any, .any, .any, .any, .any, .any, .any, .any, .any, .eq (.pointer (some ⟨A, 4, none⟩)), .eq (.agg #[.string ⟨b1.toArray⟩, .string ⟨b2.toArray⟩]), .eq (.string ⟨(roleText (b1, b2)).toArray⟩), .eq (.string ⟨(roleText (b1, b2) ++ [46]).toArray⟩), .eq (.pointer (some ⟨A, 8, none⟩)), .eq (.string ⟨w2.toArray⟩), .eq (.string ⟨(roleText (b1, b2) ++ 46 :: w2).toArray⟩)] [20, 21, 22, 23, 24, 25, 26, 3] [1] (by kernel_rfl) (by kernel_rfl) (by rfl) (by kernel_rfl) ?start ?obs ?fin
  case start =>
    simp only [List.forall_mem_cons]
    exact ⟨⟨_, rfl, rfl⟩, fun _ h => by cases h⟩
  case obs =>
    obtain ⟨hA2, hcw2⟩ := KK.out
    clear KK hcw2
    obtain ⟨a0, a1, a2, a3, a4, a5, a6, a7, a8⟩ := cred_at_blk hA2
    simp only [Nat.zero_add] at a0 a1 a2 a3 a4 a5 a6 a7 a8
    clear hA2
    have hlb := pc_roleText_len (b1, b2)
    have hlc := pc_roleText_len (c1, c2)
    dsimp only at hlb hlc
    have HX := hid (And.intro a0 (And.intro a1 (And.intro a2 (And.intro a3 (And.intro a4 (And.intro a5 (And.intro a6 (And.intro a7 a8))))))))
    have HL := hid (And.intro hlb hlc)
    clear hlb hlc a0 a1 a2 a3 a4 a5 a6 a7 a8
    refine Obs.cons none (by kernel_rfl) ?_ ?_
    · refine Ob.plain fun a w hR hk K k => ?_
      obtain ⟨_, e1, rfl⟩ := hk 1 (by decide)
      clear hk
      go_simp
      exact k _ _ (Chg.refl _ _) rfl
    refine Obs.cons none (by kernel_rfl) ?_ ?_
    · refine Ob.plain fun a w hR hk K k => ?_
      obtain ⟨_, e20, rfl⟩ := hk 20 (by decide)
      clear hk
      obtain ⟨a0, a1, a2, a3, a4, a5, a6, a7, a8⟩ := HX.out
      have q4 := hR.cell a4 id
      have q5 := hR.cell a5 id
      clear a0 a1 a2 a3 a4 a5 a6 a7 a8
      go_simp
      exact k _ _ (Chg.refl _ _) rfl
    refine Obs.cons none (by kernel_rfl) ?_ ?_
    · refine Ob.plain fun a w hR hk K k => ?_
      obtain ⟨_, e21, rfl⟩ := hk 21 (by decide)
      clear hk
      go_simp
      refine (ptext (b1, b2) _ s4 s5).mono ?_
      rintro e w2x ⟨rfl, hc⟩
      exact k _ _ hc rfl
    refine Obs.cons none (by kernel_rfl) ?_ ?_
    · refine Ob.plain fun a w hR hk K k => ?_
      obtain ⟨_, e22, rfl⟩ := hk 22 (by decide)
      clear hk
      obtain ⟨hlb, hlc⟩ := HL.out
      generalize roleText (b1, b2) = tb at *
      have hb1 : ¬ 9223372036854775807 < tb.length + 1 := by omega
      clear hlb hlc
      go_simp
      exact k _ _ (Chg.refl _ _) (congrArg Value.string (ByteArray.mk_append_mk tb [46]))
    refine Obs.cons none (by kernel_rfl) ?_ ?_
    · refine Ob.plain fun a w hR hk K k => ?_
      obtain ⟨_, e1, rfl⟩ := hk 1 (by decide)
      clear hk
      go_simp
      exact k _ _ (Chg.refl _ _) rfl
    refine Obs.cons none (by kernel_rfl) ?_ ?_
    · refine Ob.plain fun a w hR hk K k => ?_
      obtain ⟨_, e24, rfl⟩ := hk 24 (by decide)
      clear hk
      obtain ⟨a0, a1, a2, a3, a4, a5, a6, a7, a8⟩ := HX.out
      have q8 := hR.cell a8 id
      clear a0 a1 a2 a3 a4 a5 a6 a7 a8
      go_simp
      exact k _ _ (Chg.refl _ _) rfl
    refine Obs.cons none (by kernel_rfl) ?_ ?_
    · refine Ob.plain fun a w hR hk K k => ?_
      obtain ⟨_, e23, rfl⟩ := hk 23 (by decide)
      obtain ⟨_, e25, rfl⟩ := hk 25 (by decide)
      clear hk
      obtain ⟨hlb, hlc⟩ := HL.out
      have hb1 : ¬ 9223372036854775807 < (roleText (b1, b2) ++ [46]).length + w2.length := by rw [List.length_append, List.length_singleton]; omega
      generalize hg : roleText (b1, b2) ++ [46] = tb at *
      have HG := hid hg
      clear hlb hlc hg
      go_simp
      exact k _ _ (Chg.refl _ _) (congrArg Value.string ((ByteArray.mk_append_mk tb w2).trans (by rw [← HG.out]; simp)))
    refine Obs.cons none (by kernel_rfl) ?_ ?_
    · refine Ob.plain fun a w hR hk K k => ?_
      obtain ⟨_, e26, f26⟩ := hk 26 (by decide)
      clear hk
      go_simp
      exact k _ _ (Chg.refl _ _) f26
    exact Obs.nil
  case fin =>
    intro vals w3 hc3 hv
    have h6 : vals 3 = .string ⟨(roleText (b1, b2) ++ 46 :: w2).toArray⟩ := hv 3 (by decide)
    clear hv
    obtain ⟨hA2, hcw2⟩ := KK.out
    clear KK
    have hA3 := blk_keep hA2 hc3 id
    have hcw3 := hcw2.trans hc3 (fun _ _ h => h)
    clear hc3 hA2 hcw2
    obtain ⟨a0, a1, a2, a3, a4, a5, a6, a7, a8⟩ := cred_at_blk hA3
    simp only [Nat.zero_add] at a0 a1 a2 a3 a4 a5 a6 a7 a8
    simp only [putAll, List.setIfInBounds_toArray, List.set_cons_zero, List.set_cons_succ, h6]
    clear h6
    have hsl0 : (roleText (b1, b2) ++ 46 :: w2).length ≤ 8388608 := by simp [pc_roleText_len]; omega
    generalize hsd0 : roleText (b1, b2) ++ 46 :: w2 = sd0 at *
    have HS0 := hid hsd0
    clear hsd0
    have KK := hid (And.intro hA3 hcw3)
    clear hA3 hcw3
    go_wp2_with fail
    obtain ⟨hA3, hcw3⟩ := KK.out
    clear KK a0 a1 a2 a3 a4 a5 a6 a7 a8
    refine (ptext (h1, h2) _ s1 s2).mono ?_
    rintro e w4' ⟨rfl, hc4⟩
    have hA4 := blk_keep hA3 hc4 id
    have hcw4 := hcw3.trans hc4 (fun _ _ h => h)
    clear hc4 hA3 hcw3
    have HC := hid hcw4
    clear hA4 hcw4
    have hl := pc_roleText_len (h1, h2)
    dsimp only at hl
    have HT : Hid (∀ b : List UInt8, b = sd0 → (⟨(roleText (h1, h2)).toArray⟩ : ByteArray) ++ ⟨#[32, 60, 45, 32]⟩ ++ ⟨b.toArray⟩ = ⟨(credText ⟨3, (h1, h2), who, (b1, b2), (c1, c2), w2⟩).toArray⟩) := hid (fun b hb => by subst hb; rw [← HS0.out]; exact (str_three _ _).trans rfl)
    have hsl : (sd0).length ≤ 8388608 := hsl0
    generalize roleText (h1, h2) = th at *
    have hb1 : ¬ 9223372036854775807 < th.length + 4 := by omega
    have hb2 : ¬ 9223372036854775807 < th.length + 4 + sd0.length := by omega
    clear hl hsl hsl0
    go_wp2
    go_ret
    exact ⟨congrArg (fun b => Ending.returned (.string b)) (HT.out _ rfl), HC.out⟩

set_option maxRecDepth 100000 in
set_option maxHeartbeats 2000000 in
theorem pctext4 (h1 h2 who b1 b2 c1 c2 w2 : List UInt8) (w : World) (hs : h1.length ≤ 1048576 ∧ h2.length ≤ 1048576 ∧ who.length ≤ 1048576 ∧ b1.length ≤ 1048576 ∧ b2.length ≤ 1048576 ∧ c1.length ≤ 1048576 ∧ c2.length ≤ 1048576 ∧ w2.length ≤ 1048576) (hr : isCred ⟨4, (h1, h2), who, (b1, b2), (c1, c2), w2⟩ = true) :
    Calls Try.prog 15 #[credV ⟨4, (h1, h2), who, (b1, b2), (c1, c2), w2⟩] w fun e w' => e = .returned (.string ⟨(credText ⟨4, (h1, h2), who, (b1, b2), (c1, c2), w2⟩).toArray⟩) ∧ Chg (fun _ => False) w w' := by
  obtain ⟨s1, s2, s3, s4, s5, s6, s7, s8⟩ := hs
  have hA1 := heap_alloc_new w (.cells (credBox ⟨4, (h1, h2), who, (b1, b2), (c1, c2), w2⟩) 25)
  have hcw1 : Chg (fun _ => False) w (w.alloc (.cells (credBox ⟨4, (h1, h2), who, (b1, b2), (c1, c2), w2⟩) 25)) := (Chg.refl _ w).alloc _
  have hrt := pcright ⟨4, (h1, h2), who, (b1, b2), (c1, c2), w2⟩ (w.alloc (.cells (credBox ⟨4, (h1, h2), who, (b1, b2), (c1, c2), w2⟩) 25)) ⟨Nat.le_trans s1 (by decide), Nat.le_trans s2 (by decide), Nat.le_trans s3 (by decide), Nat.le_trans s4 (by decide), Nat.le_trans s5 (by decide), Nat.le_trans s6 (by decide), Nat.le_trans s7 (by decide), Nat.le_trans s8 (by decide)⟩
  rw [hr] at hrt
  have HH := hid (And.intro hrt (And.intro hA1 hcw1))
  clear hrt hA1 hcw1 hr
  show Calls Try.prog 15 #[.agg #[.int .i64 4, .string ⟨h1.toArray⟩, .string ⟨h2.toArray⟩, .string ⟨who.toArray⟩, .string ⟨b1.toArray⟩, .string ⟨b2.toArray⟩, .string ⟨c1.toArray⟩, .string ⟨c2.toArray⟩, .string ⟨w2.toArray⟩]] w _
  go_enter Try.func15, Try.ntmps15
  go_wp2_with fail
  obtain ⟨hrt, hA1, hcw1⟩ := HH.out
  clear HH
  refine hrt.mono ?_
  rintro e w2' ⟨rfl, hc2⟩
  have hA2 := blk_keep hA1 hc2 id
  have hcw2 := hcw1.trans hc2 (fun _ _ h => h)
  clear hrt hA1 hcw1 hc2
  generalize w.heap.size = A at *
  obtain ⟨a0, a1, a2, a3, a4, a5, a6, a7, a8⟩ := cred_at_blk hA2
  simp only [Nat.zero_add] at a0 a1 a2 a3 a4 a5 a6 a7 a8
  have KK := hid (And.intro hA2 hcw2)
  clear hA2 hcw2
  go_wp2_with fail
  clear a0 a1 a2 a3 a4 a5 a6 a7 a8
  refine wp_region_specs [.any, .eq (.pointer (some ⟨A, 0, none⟩)), .any, .eq (.string ⟨(roleText (b1, b2) ++ ([32, 38, 32] ++ roleText (c1, c2))).toArray⟩), .any, .any, .any, .any, .any, .any, .any, .any, .any, .any, .any, .any, .any, .any, .any, .any, .any, .any, .any, .any, .any, .any, .any, .any, .any, .eq (.pointer (some ⟨A, 4, none⟩)), .eq (.agg #[.string ⟨b1.toArray⟩, .string ⟨b2.toArray⟩]), .eq (.string ⟨(roleText (b1, b2)).toArray⟩), .eq (.string ⟨(roleText (b1, b2) ++ [32, 38, 32]).toArray⟩), .eq (.pointer (some ⟨A, 6, none⟩)), .eq (.agg #[.string ⟨c1.toArray⟩, .string ⟨c2.toArray⟩]), .eq (.string ⟨(roleText (c1, c2)).toArray⟩), .eq (.string ⟨(roleText (b1, b2) ++ ([32, 38, 32] ++ roleText (c1, c2))).toArray⟩)] [29, 30, 31, 32, 33, 34, 35, 36, 3] [1] (by kernel_rfl) (by kernel_rfl) (by rfl) (by kernel_rfl) ?start ?obs ?fin
  case start =>
    simp only [List.forall_mem_cons]
    exact ⟨⟨_, rfl, rfl⟩, fun _ h => by cases h⟩
  case obs =>
    obtain ⟨hA2, hcw2⟩ := KK.out
    clear KK hcw2
    obtain ⟨a0, a1, a2, a3, a4, a5, a6, a7, a8⟩ := cred_at_blk hA2
    simp only [Nat.zero_add] at a0 a1 a2 a3 a4 a5 a6 a7 a8
    clear hA2
    have hlb := pc_roleText_len (b1, b2)
    have hlc := pc_roleText_len (c1, c2)
    dsimp only at hlb hlc
    have HX := hid (And.intro a0 (And.intro a1 (And.intro a2 (And.intro a3 (And.intro a4 (And.intro a5 (And.intro a6 (And.intro a7 a8))))))))
    have HL := hid (And.intro hlb hlc)
    clear hlb hlc a0 a1 a2 a3 a4 a5 a6 a7 a8
    refine Obs.cons none (by kernel_rfl) ?_ ?_
    · refine Ob.plain fun a w hR hk K k => ?_
      obtain ⟨_, e1, rfl⟩ := hk 1 (by decide)
      clear hk
      go_simp
      exact k _ _ (Chg.refl _ _) rfl
    refine Obs.cons none (by kernel_rfl) ?_ ?_
    · refine Ob.plain fun a w hR hk K k => ?_
      obtain ⟨_, e29, rfl⟩ := hk 29 (by decide)
      clear hk
      obtain ⟨a0, a1, a2, a3, a4, a5, a6, a7, a8⟩ := HX.out
      have q4 := hR.cell a4 id
      have q5 := hR.cell a5 id
      clear a0 a1 a2 a3 a4 a5 a6 a7 a8
      go_simp
      exact k _ _ (Chg.refl _ _) rfl
    refine Obs.cons none (by kernel_rfl) ?_ ?_
    · refine Ob.plain fun a w hR hk K k => ?_
      obtain ⟨_, e30, rfl⟩ := hk 30 (by decide)
      clear hk
      go_simp
      refine (ptext (b1, b2) _ s4 s5).mono ?_
      rintro e w2x ⟨rfl, hc⟩
      exact k _ _ hc rfl
    refine Obs.cons none (by kernel_rfl) ?_ ?_
    · refine Ob.plain fun a w hR hk K k => ?_
      obtain ⟨_, e31, rfl⟩ := hk 31 (by decide)
      clear hk
      obtain ⟨hlb, hlc⟩ := HL.out
      generalize roleText (b1, b2) = tb at *
      have hb1 : ¬ 9223372036854775807 < tb.length + 3 := by omega
      clear hlb hlc
      go_simp
      exact k _ _ (Chg.refl _ _) (congrArg Value.string (ByteArray.mk_append_mk tb [32, 38, 32]))
    refine Obs.cons none (by kernel_rfl) ?_ ?_
    · refine Ob.plain fun a w hR hk K k => ?_
      obtain ⟨_, e1, rfl⟩ := hk 1 (by decide)
      clear hk
      go_simp
      exact k _ _ (Chg.refl _ _) rfl
    refine Obs.cons none (by kernel_rfl) ?_ ?_
    · refine Ob.plain fun a w hR hk K k => ?_
      obtain ⟨_, e33, rfl⟩ := hk 33 (by decide)
      clear hk
      obtain ⟨a0, a1, a2, a3, a4, a5, a6, a7, a8⟩ := HX.out
      have q6 := hR.cell a6 id
      have q7 := hR.cell a7 id
      clear a0 a1 a2 a3 a4 a5 a6 a7 a8
      go_simp
      exact k _ _ (Chg.refl _ _) rfl
    refine Obs.cons none (by kernel_rfl) ?_ ?_
    · refine Ob.plain fun a w hR hk K k => ?_
      obtain ⟨_, e34, rfl⟩ := hk 34 (by decide)
      clear hk
      go_simp
      refine (ptext (c1, c2) _ s6 s7).mono ?_
      rintro e w2x ⟨rfl, hc⟩
      exact k _ _ hc rfl
    refine Obs.cons none (by kernel_rfl) ?_ ?_
    · refine Ob.plain fun a w hR hk K k => ?_
      obtain ⟨_, e32, rfl⟩ := hk 32 (by decide)
      obtain ⟨_, e35, rfl⟩ := hk 35 (by decide)
      clear hk
      obtain ⟨hlb, hlc⟩ := HL.out
      have hb1 : ¬ 9223372036854775807 < (roleText (b1, b2) ++ [32, 38, 32]).length + (roleText (c1, c2)).length := by rw [List.length_append]; simp only [List.length_cons, List.length_nil]; omega
      generalize hg : roleText (b1, b2) ++ [32, 38, 32] = tb at *
      generalize hg2 : roleText (c1, c2) = tc at *
      have HG := hid (And.intro hg hg2)
      clear hlb hlc hg hg2
      go_simp
      exact k _ _ (Chg.refl _ _) (congrArg Value.string ((ByteArray.mk_append_mk tb tc).trans (by rw [← HG.out.1, ← HG.out.2]; simp)))
    refine Obs.cons none (by kernel_rfl) ?_ ?_
    · refine Ob.plain fun a w hR hk K k => ?_
      obtain ⟨_, e36, f36⟩ := hk 36 (by decide)
      clear hk
      go_simp
      exact k _ _ (Chg.refl _ _) f36
    exact Obs.nil
  case fin =>
    intro vals w3 hc3 hv
    have h6 : vals 3 = .string ⟨(roleText (b1, b2) ++ ([32, 38, 32] ++ roleText (c1, c2))).toArray⟩ := hv 3 (by decide)
    clear hv
    obtain ⟨hA2, hcw2⟩ := KK.out
    clear KK
    have hA3 := blk_keep hA2 hc3 id
    have hcw3 := hcw2.trans hc3 (fun _ _ h => h)
    clear hc3 hA2 hcw2
    obtain ⟨a0, a1, a2, a3, a4, a5, a6, a7, a8⟩ := cred_at_blk hA3
    simp only [Nat.zero_add] at a0 a1 a2 a3 a4 a5 a6 a7 a8
    simp only [putAll, List.setIfInBounds_toArray, List.set_cons_zero, List.set_cons_succ, h6]
    clear h6
    have hsl0 : (roleText (b1, b2) ++ ([32, 38, 32] ++ roleText (c1, c2))).length ≤ 8388608 := by simp [pc_roleText_len]; omega
    generalize hsd0 : roleText (b1, b2) ++ ([32, 38, 32] ++ roleText (c1, c2)) = sd0 at *
    have HS0 := hid hsd0
    clear hsd0
    have KK := hid (And.intro hA3 hcw3)
    clear hA3 hcw3
    go_wp2_with fail
    obtain ⟨hA3, hcw3⟩ := KK.out
    clear KK a0 a1 a2 a3 a4 a5 a6 a7 a8
    refine (ptext (h1, h2) _ s1 s2).mono ?_
    rintro e w4' ⟨rfl, hc4⟩
    have hA4 := blk_keep hA3 hc4 id
    have hcw4 := hcw3.trans hc4 (fun _ _ h => h)
    clear hc4 hA3 hcw3
    have HC := hid hcw4
    clear hA4 hcw4
    have hl := pc_roleText_len (h1, h2)
    dsimp only at hl
    have HT : Hid (∀ b : List UInt8, b = sd0 → (⟨(roleText (h1, h2)).toArray⟩ : ByteArray) ++ ⟨#[32, 60, 45, 32]⟩ ++ ⟨b.toArray⟩ = ⟨(credText ⟨4, (h1, h2), who, (b1, b2), (c1, c2), w2⟩).toArray⟩) := hid (fun b hb => by subst hb; rw [← HS0.out]; exact (str_three _ _).trans rfl)
    have hsl : (sd0).length ≤ 8388608 := hsl0
    generalize roleText (h1, h2) = th at *
    have hb1 : ¬ 9223372036854775807 < th.length + 4 := by omega
    have hb2 : ¬ 9223372036854775807 < th.length + 4 + sd0.length := by omega
    clear hl hsl hsl0
    go_wp2
    go_ret
    exact ⟨congrArg (fun b => Ending.returned (.string b)) (HT.out _ rfl), HC.out⟩

set_option maxRecDepth 100000 in
theorem pctext_no (c : CredB) (w : World) (hs : credShort c 9223372036854775807) (hr : isCred c = false) :
    Calls Try.prog 15 #[credV c] w fun e w' => e = .returned (.string ⟨#[]⟩) ∧ Chg (fun _ => False) w w' := by
  obtain ⟨k, ⟨h1, h2⟩, who, ⟨b1, b2⟩, ⟨c1, c2⟩, w2⟩ := c
  have hcw1 : Chg (fun _ => False) w (w.alloc (.cells (credBox ⟨k, (h1, h2), who, (b1, b2), (c1, c2), w2⟩) 25)) := (Chg.refl _ w).alloc _
  have hrt := pcright ⟨k, (h1, h2), who, (b1, b2), (c1, c2), w2⟩ (w.alloc (.cells (credBox ⟨k, (h1, h2), who, (b1, b2), (c1, c2), w2⟩) 25)) hs
  rw [hr] at hrt
  have HH := hid (And.intro hrt hcw1)
  clear hrt hcw1 hr hs
  show Calls Try.prog 15 #[.agg #[.int .i64 k, .string ⟨h1.toArray⟩, .string ⟨h2.toArray⟩, .string ⟨who.toArray⟩, .string ⟨b1.toArray⟩, .string ⟨b2.toArray⟩, .string ⟨c1.toArray⟩, .string ⟨c2.toArray⟩, .string ⟨w2.toArray⟩]] w _
  go_enter Try.func15, Try.ntmps15
  go_wp2_with fail
  obtain ⟨hrt, hcw1⟩ := HH.out
  clear HH
  refine hrt.mono ?_
  rintro e w2' ⟨rfl, hc2⟩
  have HC := hid (hcw1.trans hc2 (fun _ _ h => h))
  clear hrt hcw1 hc2
  go_wp2
  go_ret
  exact ⟨rfl, HC.out⟩

theorem pctext (c : CredB) (w : World) (hs : credShort c 1048576) :
    Calls Try.prog 15 #[credV c] w fun e w' => e = .returned (.string ⟨(credTextOr c).toArray⟩) ∧ Chg (fun _ => False) w w' := by
  cases hr : isCred c with
  | false =>
    have e : credTextOr c = [] := by rw [credTextOr, hr]; rfl
    rw [e]
    obtain ⟨s1, s2, s3, s4, s5, s6, s7, s8⟩ := hs
    exact pctext_no c w ⟨Nat.le_trans s1 (by decide), Nat.le_trans s2 (by decide), Nat.le_trans s3 (by decide), Nat.le_trans s4 (by decide), Nat.le_trans s5 (by decide), Nat.le_trans s6 (by decide), Nat.le_trans s7 (by decide), Nat.le_trans s8 (by decide)⟩ hr
  | true =>
    have e : credTextOr c = credText c := by rw [credTextOr, hr]; rfl
    rw [e]
    have hk := isCred_kind hr
    obtain ⟨k, ⟨h1, h2⟩, who, ⟨b1, b2⟩, ⟨c1, c2⟩, w2⟩ := c
    dsimp only at hk
    rcases hk with rfl | rfl | rfl | rfl
    · exact pctext1 h1 h2 who b1 b2 c1 c2 w2 w hs hr
    · exact pctext2 h1 h2 who b1 b2 c1 c2 w2 w hs hr
    · exact pctext3 h1 h2 who b1 b2 c1 c2 w2 w hs hr
    · exact pctext4 h1 h2 who b1 b2 c1 c2 w2 w hs hr

end Go.Proofs.Ytjohiggfjpfbeaa

/-
  DERIVED: THE SHELF's CONTRACTS AT THIS DUMP, IN PLAIN WORDS (tools/lay-plain.mjs out of 'TryShelfCut.lean', which tools/lay-shelf.mjs wrote): THE SAME DECLARATIONS UNDER THE SAME NAMES: 'import', 'namespace', 'open', 'def', 'theorem' AND NOTHING ELSE: no command of the shelf's: FOR A HAND-IN. Each laying: the table of numbers ('.._ren') and one theorem, a field a fact of the dump's own or the kernel's comparison; each contract: ONE APPLICATION.
-/
namespace Go.Proofs
open Go.Shelf
def Try.lays145_ren : Go.Shelf.Ren := ⟨fun | 145 => 41 | 220 => 69 | 219 => 87 | 217 => 105 | 225 => 106 | 224 => 107 | 267 => 108 | 266 => 116 | 314 => 117 | n => n, fun | 9 => 9 | 4 => 4 | 59 => 62 | 3 => 3 | 5 => 5 | 46 => 99 | 146 => 122 | 51 => 119 | n => n, fun | 1 => 0 | n => n⟩
theorem Try.lays145 : Go.Proofs.Lays.n145 Try.prog Try.lays145_ren := {
  mixed := by kernel_rfl
  f145 := Try.func41.trans (congrArg some (by kernel_rfl))
  f217 := Try.func105.trans (congrArg some (by kernel_rfl))
  f219 := Try.func87.trans (congrArg some (by kernel_rfl))
  f220 := Try.func69.trans (congrArg some (by kernel_rfl))
  f224 := Try.func107.trans (congrArg some (by kernel_rfl))
  f225 := Try.func106.trans (congrArg some (by kernel_rfl))
  f266 := Try.func116.trans (congrArg some (by kernel_rfl))
  f267 := Try.func108.trans (congrArg some (by kernel_rfl))
  f314 := Try.func117.trans (congrArg some (by kernel_rfl))
  t3 := Try.underlying3
  a3 := Try.isAgg3
  z3 := Try.sizeOf3
  v3 := Try.zeroValue3
  t4 := Try.underlying4
  a4 := Try.isAgg4
  z4 := Try.sizeOf4
  v4 := Try.zeroValue4
  t5 := Try.underlying5
  a5 := Try.isAgg5
  z5 := Try.sizeOf5
  v5 := Try.zeroValue5
  t9 := Try.underlying9
  a9 := Try.isAgg9
  z9 := Try.sizeOf9
  v9 := Try.zeroValue9
  t46 := Try.underlying99
  a46 := Try.isAgg99
  z46 := Try.sizeOf99
  v46 := Try.zeroValue99
  t51 := Try.underlying119
  a51 := Try.isAgg119
  z51 := Try.sizeOf119
  v51 := Try.zeroValue119
  t59 := Try.underlying62
  a59 := Try.isAgg62
  z59 := Try.sizeOf62
  v59 := Try.zeroValue62
  t146 := Try.underlying122
  a146 := Try.isAgg122
  z146 := Try.sizeOf122
  v146 := Try.zeroValue122
  g1 := by kernel_rfl }
open Go.RowKit Go.Lib in
/-- strings.Cut: "Cut slices s around the first instance of sep, returning the text before and after sep. The found result reports whether sep appears in s. If sep does not appear in s, cut returns s, "", false.": IT RETURNS 'Lib.cut s sep'; the world is as it was but for the count of draws. (LAID: no walk: one application.) -/
theorem Try.strings_Cut (s sep : ByteArray) (m : Int) (w : World) (hs : s.size < 4294967281) (hm : w.cell? ⟨0, 0, none⟩ = some (.int .i64 m)) :
    Calls Try.prog 41 #[.string s, .string sep] w fun e w' => e = .returned (.tuple #[.string ⟨(Lib.cut s.data.toList sep.data.toList).1.toArray⟩, .string ⟨(Lib.cut s.data.toList sep.data.toList).2.1.toArray⟩, .bool (Lib.cut s.data.toList sep.data.toList).2.2]) ∧ ∃ n, w' = w.drewN n := Any.strings_Cut Try.lays145 s sep m w hs hm
def Try.lays138_ren : Go.Shelf.Ren := ⟨fun | 138 => 70 | 195 => 88 | 218 => 89 | 143 => 90 | 219 => 87 | 217 => 105 | 225 => 106 | 224 => 107 | 267 => 108 | 266 => 116 | 314 => 117 | n => n, fun | 9 => 9 | 3 => 3 | 4 => 4 | 5 => 5 | 0 => 0 | 46 => 99 | 146 => 122 | 51 => 119 | n => n, fun | 1 => 0 | n => n⟩
theorem Try.lays138 : Go.Proofs.Lays.n138 Try.prog Try.lays138_ren := {
  mixed := by kernel_rfl
  f138 := Try.func70.trans (congrArg some (by kernel_rfl))
  f143 := Try.func90.trans (congrArg some (by kernel_rfl))
  f195 := Try.func88.trans (congrArg some (by kernel_rfl))
  f217 := Try.func105.trans (congrArg some (by kernel_rfl))
  f218 := Try.func89.trans (congrArg some (by kernel_rfl))
  f219 := Try.func87.trans (congrArg some (by kernel_rfl))
  f224 := Try.func107.trans (congrArg some (by kernel_rfl))
  f225 := Try.func106.trans (congrArg some (by kernel_rfl))
  f266 := Try.func116.trans (congrArg some (by kernel_rfl))
  f267 := Try.func108.trans (congrArg some (by kernel_rfl))
  f314 := Try.func117.trans (congrArg some (by kernel_rfl))
  t0 := Try.underlying0
  a0 := Try.isAgg0
  z0 := Try.sizeOf0
  v0 := Try.zeroValue0
  t3 := Try.underlying3
  a3 := Try.isAgg3
  z3 := Try.sizeOf3
  v3 := Try.zeroValue3
  t4 := Try.underlying4
  a4 := Try.isAgg4
  z4 := Try.sizeOf4
  v4 := Try.zeroValue4
  t5 := Try.underlying5
  a5 := Try.isAgg5
  z5 := Try.sizeOf5
  v5 := Try.zeroValue5
  t9 := Try.underlying9
  a9 := Try.isAgg9
  z9 := Try.sizeOf9
  v9 := Try.zeroValue9
  t46 := Try.underlying99
  a46 := Try.isAgg99
  z46 := Try.sizeOf99
  v46 := Try.zeroValue99
  t51 := Try.underlying119
  a51 := Try.isAgg119
  z51 := Try.sizeOf119
  v51 := Try.zeroValue119
  t146 := Try.underlying122
  a146 := Try.isAgg122
  z146 := Try.sizeOf122
  v146 := Try.zeroValue122
  g1 := by kernel_rfl }
open Go.RowKit Go.Lib in
/-- strings.Count AT A substr OF ONE BYTE ('hp'): "Count counts the number of non-overlapping instances of substr in s.": IT RETURNS 'Lib.countByte s (that byte)'; the world is as it was. ✋ NO CONTRACT HERE YET at an empty substr (utf8.RuneCountInString) or at a longer one (a loop over strings.Index). (LAID: no walk: one application.) -/
theorem Try.strings_Count_one (s : ByteArray) (c : UInt8) (w : World) :
    Calls Try.prog 70 #[.string s, .string ⟨#[c]⟩] w fun e w' => e = .returned (.int .i64 (Lib.countByte s.data.toList c)) ∧ w' = w := Any.strings_Count_one Try.lays138 s c w
def Try.lays148_ren : Go.Shelf.Ren := ⟨fun | 148 => 71 | 222 => 91 | 223 => 92 | 269 => 109 | n => n, fun | 9 => 9 | 3 => 3 | 4 => 4 | 5 => 5 | 146 => 122 | 51 => 119 | 46 => 99 | n => n, fun | n => n⟩
theorem Try.lays148 : Go.Proofs.Lays.n148 Try.prog Try.lays148_ren := {
  mixed := by kernel_rfl
  f148 := Try.func71.trans (congrArg some (by kernel_rfl))
  f222 := Try.func91.trans (congrArg some (by kernel_rfl))
  f223 := Try.func92.trans (congrArg some (by kernel_rfl))
  f269 := Try.func109.trans (congrArg some (by kernel_rfl))
  t3 := Try.underlying3
  a3 := Try.isAgg3
  z3 := Try.sizeOf3
  v3 := Try.zeroValue3
  t4 := Try.underlying4
  a4 := Try.isAgg4
  z4 := Try.sizeOf4
  v4 := Try.zeroValue4
  t5 := Try.underlying5
  a5 := Try.isAgg5
  z5 := Try.sizeOf5
  v5 := Try.zeroValue5
  t9 := Try.underlying9
  a9 := Try.isAgg9
  z9 := Try.sizeOf9
  v9 := Try.zeroValue9
  t46 := Try.underlying99
  a46 := Try.isAgg99
  z46 := Try.sizeOf99
  v46 := Try.zeroValue99
  t51 := Try.underlying119
  a51 := Try.isAgg119
  z51 := Try.sizeOf119
  v51 := Try.zeroValue119
  t146 := Try.underlying122
  a146 := Try.isAgg122
  z146 := Try.sizeOf122
  v146 := Try.zeroValue122 }
open Go.RowKit Go.Lib in
/-- strings.LastIndex AT A substr OF ONE BYTE (as in 'strings.LastIndex(path, "/")'): the last place of that byte, or -1. (LAID: no walk: one application.) -/
theorem Try.strings_LastIndex_one (s sub : ByteArray) (h1 : sub.size = 1) (hs : s.size < 4611686018427387904) (w : World) :
    Calls Try.prog 71 #[.string s, .string sub] w fun e w' => e = .returned (.int .i64 (Lib.lastIndexByte s ((sub[0]'(by omega)).toNat : Int))) ∧ w' = w := Any.strings_LastIndex_one Try.lays148 s sub h1 hs w
end Go.Proofs

/- Which credential a text is: plain words; a credential stored in its nine cells. -/
namespace Go.Proofs.Ytjohiggfjpfbeaa
open Go.RowKit

def roleOr (s : List UInt8) : RoleB := (parseR s).getD noRole
def someIf (c : CredB) : Option CredB := if isCred c then some c else none

/-- What stands behind the arrow, cut at full stops. -/
def parseDots (hd : RoleB) (body : List UInt8) (dots : List (List UInt8)) : Option CredB :=
  match dots with
  | [_] => someIf ⟨1, hd, body, noneR, noneR, []⟩
  | [x, y] => someIf ⟨2, hd, [], (x, y), noneR, []⟩
  | [x, y, z] => someIf ⟨3, hd, [], (x, y), noneR, z⟩
  | _ => none

/-- .. and at ' & '. -/
def parseBody (hd : RoleB) (body : List UInt8) (both dots : List (List UInt8)) : Option CredB :=
  match both with
  | [x, y] => someIf ⟨4, hd, [], roleOr x, roleOr y, []⟩
  | _ => if 2 < both.length ∨ 3 < dots.length then none else parseDots hd body dots

theorem parseBody_many {hd : RoleB} {body : List UInt8} {both dots : List (List UInt8)} (h2 : both.length ≠ 2) (hm : 2 < both.length ∨ 3 < dots.length) : parseBody hd body both dots = none := by
  match both, h2, hm with
  | [], _, hm => simp only [parseBody]; rw [if_pos hm]
  | [_], _, hm => simp only [parseBody]; rw [if_pos hm]
  | [_, _], h2, _ => exact absurd rfl h2
  | _ :: _ :: _ :: _, _, hm => simp only [parseBody]; rw [if_pos hm]

theorem parseBody_few {hd : RoleB} {body : List UInt8} {both dots : List (List UInt8)} (h2 : both.length ≠ 2) (hm : ¬ (2 < both.length ∨ 3 < dots.length)) : parseBody hd body both dots = parseDots hd body dots := by
  match both, h2, hm with
  | [], _, hm => simp only [parseBody]; rw [if_neg hm]
  | [_], _, hm => simp only [parseBody]; rw [if_neg hm]
  | [_, _], h2, _ => exact absurd rfl h2
  | _ :: _ :: _ :: _, _, hm => simp only [parseBody]; rw [if_neg hm]

def parseC (s : List UInt8) : Option CredB :=
  match splitL [32, 60, 45, 32] s with
  | [h, body] => parseBody (roleOr h) body (splitL [32, 38, 32] body) (splitL [46] body)
  | _ => none

def ParsePostC (s : List UInt8) (w : World) (e : Ending) (w' : World) : Prop :=
  e = .returned (.tuple #[credV ((parseC s).getD noCred), .bool (parseC s).isSome]) ∧ Chg (fun _ => False) w w'

/-- The nine cells of the block b, stored one by one. -/
def setCred (w : World) (b : Nat) (c : CredB) : World :=
  ((((((((w.setCell ⟨b, 0, none⟩ (.int .i64 c.kind)).setCell ⟨b, 1, none⟩ (.string ⟨c.head.1.toArray⟩)).setCell ⟨b, 2, none⟩ (.string ⟨c.head.2.toArray⟩)).setCell ⟨b, 3, none⟩ (.string ⟨c.who.toArray⟩)).setCell ⟨b, 4, none⟩ (.string ⟨c.b.1.toArray⟩)).setCell ⟨b, 5, none⟩ (.string ⟨c.b.2.toArray⟩)).setCell ⟨b, 6, none⟩ (.string ⟨c.c.1.toArray⟩)).setCell ⟨b, 7, none⟩ (.string ⟨c.c.2.toArray⟩)).setCell ⟨b, 8, none⟩ (.string ⟨c.w2.toArray⟩)

theorem setCred_chg (w : World) (b : Nat) (c : CredB) : Chg (· = b) w (setCred w b c) := by
  unfold setCred
  exact ((((((((setCell_chg _ b 0 _).trans (setCell_chg _ b 1 _) (fun _ _ h => h)).trans (setCell_chg _ b 2 _) (fun _ _ h => h)).trans (setCell_chg _ b 3 _) (fun _ _ h => h)).trans (setCell_chg _ b 4 _) (fun _ _ h => h)).trans (setCell_chg _ b 5 _) (fun _ _ h => h)).trans (setCell_chg _ b 6 _) (fun _ _ h => h)).trans (setCell_chg _ b 7 _) (fun _ _ h => h)).trans (setCell_chg _ b 8 _) (fun _ _ h => h)

theorem credBox_set (c0 c : CredB) : ((((((((((credBox c0).setIfInBounds 0 (.int .i64 c.kind)).setIfInBounds 1 (.string ⟨c.head.1.toArray⟩)).setIfInBounds 2 (.string ⟨c.head.2.toArray⟩)).setIfInBounds 3 (.string ⟨c.who.toArray⟩)).setIfInBounds 4 (.string ⟨c.b.1.toArray⟩)).setIfInBounds 5 (.string ⟨c.b.2.toArray⟩)).setIfInBounds 6 (.string ⟨c.c.1.toArray⟩)).setIfInBounds 7 (.string ⟨c.c.2.toArray⟩)).setIfInBounds 8 (.string ⟨c.w2.toArray⟩)) = credBox c := by
  simp [credBox]

theorem setCred_blk {w : World} {b : Nat} {c0 : CredB} (c : CredB) {ty : TypeId} {f : Nat × Nat} (h : w.heap[b]? = some (.cells (credBox c0) ty f)) : (setCred w b c).heap[b]? = some (.cells (credBox c) ty f) := by
  have h0 := set_blk h 0 (.int .i64 c.kind)
  have h1 := set_blk h0 1 (.string ⟨c.head.1.toArray⟩)
  have h2 := set_blk h1 2 (.string ⟨c.head.2.toArray⟩)
  have h3 := set_blk h2 3 (.string ⟨c.who.toArray⟩)
  have h4 := set_blk h3 4 (.string ⟨c.b.1.toArray⟩)
  have h5 := set_blk h4 5 (.string ⟨c.b.2.toArray⟩)
  have h6 := set_blk h5 6 (.string ⟨c.c.1.toArray⟩)
  have h7 := set_blk h6 7 (.string ⟨c.c.2.toArray⟩)
  have h8 := set_blk h7 8 (.string ⟨c.w2.toArray⟩)
  rw [credBox_set] at h8
  exact h8

/-- How a result that lies in nine cells and a second one come back. -/
theorem results_cred {fn : Func} {p u : Tmp} (h : fn.results = #[.cell p 25, .tmp u]) (tmps : Array Value) (w : World) (g : Nat) (c : CredB) (hp : tmps.getD p undef = .pointer (some ⟨g, 0, none⟩))
    (hg : w.heap[g]? = some (.cells (credBox c) 25 (0, 0))) : (results fn tmps).run Try.prog w = .ok (.tuple #[credV c, tmps.getD u undef]) w :=
  results_row_tmp h tmps w g _ hp (run_loadVar_row (P := Try.prog) w g 25 25 _ (0, 0) _ hg Try.underlying25 rfl (by kernel_rfl))
end Go.Proofs.Ytjohiggfjpfbeaa

/- What is told of a credential is parsed: plain words. -/
namespace Go.Proofs.Ytjohiggfjpfbeaa
open Go.RowKit

theorem splitGo_plain (d : UInt8) (r : List UInt8) : ∀ (p rest acc : List UInt8), (∀ c ∈ p, c ≠ d) → splitGo (d :: r) (p ++ rest) 0 acc = splitGo (d :: r) rest 0 (acc ++ p)
  | [], rest, acc, _ => by rw [List.nil_append, List.append_nil]
  | c :: p, rest, acc, h => by
    have hc : c ≠ d := h c (by simp)
    have hf : (d :: r).isPrefixOf (c :: (p ++ rest)) = false := by
      rw [List.isPrefixOf_cons_cons, show (d == c) = false by simpa using fun e => hc e.symm]; rfl
    rw [List.cons_append, splitGo, if_neg (by rw [hf]; decide), splitGo_plain d r p rest _ (fun x hx => h x (List.mem_cons_of_mem _ hx)), List.append_assoc]
    rfl

theorem splitGo_all (d : UInt8) (r p acc : List UInt8) (h : ∀ c ∈ p, c ≠ d) : splitGo (d :: r) p 0 acc = [acc ++ p] := by
  have := splitGo_plain d r p [] acc h
  rw [List.append_nil] at this
  rw [this]
  rfl

theorem splitGo_hit (d : UInt8) (r p rest : List UInt8) (h : ∀ c ∈ p, c ≠ d) (acc : List UInt8) : splitGo (d :: r) (p ++ ((d :: r) ++ rest)) 0 acc = (acc ++ p) :: splitGo (d :: r) rest 0 [] := by
  rw [splitGo_plain d r p _ acc h, splitGo_at (d :: r) _ _ (by simp) (by rw [List.isPrefixOf_iff_prefix]; exact List.prefix_append _ _), List.drop_left]

theorem name_plain {s : List UInt8} (h : isName s = true) : ∀ c ∈ s, c ≠ 32 ∧ c ≠ 46 ∧ c ≠ 60 := by
  cases s with
  | nil => intro c hc; cases hc
  | cons d l =>
    simp only [isName, Bool.and_eq_true] at h
    intro c hc
    have := List.all_eq_true.1 h.2 c hc
    refine ⟨?_, ?_, ?_⟩ <;> (rintro rfl; rcases okByte_yes this with k | k | k <;> revert k <;> decide)

theorem roleText_nospace {r : RoleB} (h : isRole r = true) : ∀ c ∈ roleText r, c ≠ 32 := by
  simp only [isRole, Bool.and_eq_true] at h
  intro c hc
  rw [roleText, List.mem_append, List.mem_cons] at hc
  rcases hc with hc | rfl | hc
  · exact (name_plain h.1 c hc).1
  · decide
  · exact (name_plain h.2 c hc).1

theorem roleText_two {r : RoleB} (h : isRole r = true) (acc : List UInt8) : splitGo [46] (roleText r) 0 acc = [acc ++ r.1, r.2] := by
  simp only [isRole, Bool.and_eq_true] at h
  have h1 := splitGo_hit 46 [] r.1 r.2 (fun c hc => (name_plain h.1 c hc).2.1) acc
  rw [show r.1 ++ (([46] : List UInt8) ++ r.2) = roleText r from rfl] at h1
  rw [h1, splitGo_all 46 [] r.2 [] (fun c hc => (name_plain h.2 c hc).2.1)]
  rfl

theorem roleOr_text {r : RoleB} (h : isRole r = true) : roleOr (roleText r) = r := by
  rw [roleOr, parse_text h]; rfl

theorem someIf_yes {c : CredB} (h : isCred c = true) : someIf c = some c := if_pos h

/-- What is told is parsed. -/
theorem parse_credText {c : CredB} (h : isCred c = true) : parseC (credText c) = some c := by
  have hh := isCred_head h
  have hsp : ∀ body, splitGo [32, 60, 45, 32] body 0 [] = [body] → splitL [32, 60, 45, 32] (roleText c.head ++ ([32, 60, 45, 32] ++ body)) = [roleText c.head, body] := fun body hb => by
    rw [splitL, splitGo_hit 32 [60, 45, 32] (roleText c.head) body (roleText_nospace hh), hb]; rfl
  have hpl : ∀ body, (∀ x ∈ body, x ≠ 32) → splitGo [32, 60, 45, 32] body 0 [] = [body] ∧ splitL [32, 38, 32] body = [body] := fun body hb => ⟨splitGo_all 32 _ body [] hb, splitGo_all 32 _ body [] hb⟩
  obtain ⟨k, hd, who, b, cc, w2⟩ := c
  rcases isCred_kind h with k1 | k1 | k1 | k1
  · obtain ⟨a1, a2, a3, a4⟩ := isCred_one h k1
    dsimp only at k1 a1 a2 a3 a4 hh
    subst k1 a2 a3 a4
    have hw : ∀ x ∈ who, x ≠ 32 := fun x hx => (name_plain a1 x hx).1
    obtain ⟨p1, p2⟩ := hpl who hw
    have hs := hsp who p1
    have hdots : splitL [46] who = [who] := splitGo_all 46 [] who [] (fun x hx => (name_plain a1 x hx).2.1)
    rw [show credText ⟨1, hd, who, noneR, noneR, []⟩ = roleText hd ++ ([32, 60, 45, 32] ++ who) from rfl, parseC, hs]
    dsimp only
    rw [p2, hdots, roleOr_text hh]
    exact someIf_yes h
  · obtain ⟨a1, a2, a3, a4⟩ := isCred_two h k1
    dsimp only at k1 a1 a2 a3 a4 hh
    subst k1 a1 a3 a4
    obtain ⟨p1, p2⟩ := hpl (roleText b) (roleText_nospace a2)
    have hs := hsp (roleText b) p1
    have hdots : splitL [46] (roleText b) = [b.1, b.2] := roleText_two a2 []
    rw [show credText ⟨2, hd, [], b, noneR, []⟩ = roleText hd ++ ([32, 60, 45, 32] ++ roleText b) from rfl, parseC, hs]
    dsimp only
    rw [p2, hdots, roleOr_text hh]
    exact someIf_yes h
  · obtain ⟨a1, a2, a3, a4, a5⟩ := isCred_three h k1
    dsimp only at k1 a1 a2 a3 a4 a5 hh
    subst k1 a1 a3
    have hb : ∀ x ∈ roleText b ++ 46 :: w2, x ≠ 32 := fun x hx => by
      rw [List.mem_append, List.mem_cons] at hx
      rcases hx with hx | rfl | hx
      · exact roleText_nospace a2 x hx
      · decide
      · exact (name_plain a5 x hx).1
    obtain ⟨p1, p2⟩ := hpl (roleText b ++ 46 :: w2) hb
    have hs := hsp (roleText b ++ 46 :: w2) p1
    have hr : isName b.1 = true ∧ isName b.2 = true := by simpa [isRole] using a2
    have hdots : splitL [46] (roleText b ++ 46 :: w2) = [b.1, b.2, w2] := by
      have e : roleText b ++ 46 :: w2 = b.1 ++ (([46] : List UInt8) ++ (b.2 ++ (([46] : List UInt8) ++ w2))) := by simp [roleText]
      rw [e, splitL, splitGo_hit 46 [] b.1 _ (fun c hc => (name_plain hr.1 c hc).2.1), splitGo_hit 46 [] b.2 _ (fun c hc => (name_plain hr.2 c hc).2.1), splitGo_all 46 [] w2 [] (fun c hc => (name_plain a5 c hc).2.1)]
      rfl
    rw [show credText ⟨3, hd, [], b, noneR, w2⟩ = roleText hd ++ ([32, 60, 45, 32] ++ (roleText b ++ 46 :: w2)) from rfl, parseC, hs]
    dsimp only
    rw [p2, hdots, roleOr_text hh]
    exact someIf_yes h
  · obtain ⟨a1, a2, a3, a4, a5⟩ := isCred_four h k1
    dsimp only at k1 a1 a2 a3 a4 a5 hh
    subst k1 a1 a3
    have hr : isName cc.1 = true ∧ isName cc.2 = true := by simpa [isRole] using a4
    have p2 : splitL [32, 38, 32] (roleText b ++ ([32, 38, 32] ++ roleText cc)) = [roleText b, roleText cc] := by
      rw [splitL, splitGo_hit 32 [38, 32] (roleText b) _ (roleText_nospace a2), splitGo_all 32 _ (roleText cc) [] (roleText_nospace a4)]
      rfl
    have p1 : splitGo [32, 60, 45, 32] (roleText b ++ ([32, 38, 32] ++ roleText cc)) 0 [] = [roleText b ++ ([32, 38, 32] ++ roleText cc)] := by
      rw [splitGo_plain 32 _ (roleText b) _ [] (roleText_nospace a2)]
      obtain ⟨x, xs, hx⟩ : ∃ x xs, cc.1 = x :: xs := by
        match hc : cc.1, hr.1 with
        | x :: xs, _ => exact ⟨x, xs, rfl⟩
        | [], hn => simp [isName] at hn
      have hx60 : x ≠ 60 := (name_plain hr.1 x (by rw [hx]; simp)).2.2
      have e : ([32, 38, 32] : List UInt8) ++ roleText cc = 32 :: 38 :: 32 :: roleText cc := rfl
      have e2 : roleText cc = x :: (xs ++ 46 :: cc.2) := by rw [roleText, hx]; rfl
      have f1 : ([32, 60, 45, 32] : List UInt8).isPrefixOf (32 :: 38 :: 32 :: roleText cc) = false := by rw [List.isPrefixOf_cons_cons, List.isPrefixOf_cons_cons]; rfl
      have f2 : ([32, 60, 45, 32] : List UInt8).isPrefixOf (38 :: 32 :: roleText cc) = false := by rw [List.isPrefixOf_cons_cons]; rfl
      have f3 : ([32, 60, 45, 32] : List UInt8).isPrefixOf (32 :: roleText cc) = false := by
        rw [e2, List.isPrefixOf_cons_cons, List.isPrefixOf_cons_cons, show ((60 : UInt8) == x) = false by simpa using fun h => hx60 h.symm]; simp
      rw [e, splitGo, if_neg (by rw [f1]; decide), splitGo, if_neg (by rw [f2]; decide), splitGo, if_neg (by rw [f3]; decide), splitGo_all 32 _ (roleText cc) _ (roleText_nospace a4)]
      simp
    have hs := hsp (roleText b ++ ([32, 38, 32] ++ roleText cc)) p1
    rw [show credText ⟨4, hd, [], b, cc, []⟩ = roleText hd ++ ([32, 60, 45, 32] ++ (roleText b ++ ([32, 38, 32] ++ roleText cc))) from rfl, parseC, hs]
    dsimp only
    rw [p2, roleOr_text hh]
    simp only [parseBody]
    rw [roleOr_text a2, roleOr_text a4]
    exact someIf_yes h
end Go.Proofs.Ytjohiggfjpfbeaa

/- What strings.Cut answers at a full stop; which role a text is, by it. -/
namespace Go.Proofs.Ytjohiggfjpfbeaa
open Go.RowKit

theorem dot_iff (c : UInt8) : c.toNat = 46 ↔ c = 46 := by
  rw [← UInt8.toNat_inj]
  rfl

/-- The text ahead of the first full stop (all of it, without one), and the one behind. -/
def cutL (s : List UInt8) : List UInt8 × List UInt8 := (cutDot s).getD (s, [])

theorem cut_cases (s : List UInt8) : (Lib.indexByte s 46 = -1 ∧ cutDot s = none) ∨ ∃ k : Nat, k < s.length ∧ Lib.indexByte s 46 = k ∧ cutDot s = some (s.take k, s.drop (k + 1)) := by
  have hg := Lib.indexByte_ge s 46
  by_cases h : Lib.indexByte s 46 = -1
  · refine .inl ⟨h, cutDot_none s fun c hc e => ?_⟩
    obtain ⟨k, hk, hkc⟩ := List.getElem_of_mem hc
    exact Lib.indexByte_none h k (by rw [List.getElem?_eq_getElem hk, hkc, (dot_iff c).1 e])
  · obtain ⟨k, hk⟩ : ∃ k : Nat, Lib.indexByte s 46 = k := ⟨(Lib.indexByte s 46).toNat, by omega⟩
    obtain ⟨h1, h2⟩ := Lib.indexByte_some hk
    obtain ⟨hlt, he⟩ := List.getElem?_eq_some_iff.1 h1
    refine .inr ⟨k, hlt, hk, cutDot_at s k hlt (fun c hc e => ?_) (by rw [he]; rfl)⟩
    obtain ⟨j, hj, hjc⟩ := List.getElem_of_mem hc
    rw [List.length_take] at hj
    rw [List.getElem_take] at hjc
    exact h2 j (by omega) (by rw [List.getElem?_eq_getElem (by omega), hjc, (dot_iff c).1 e])

set_option maxRecDepth 100000 in
theorem litecut_dot (s : List UInt8) (w : World) (hs : s.length ≤ 9223372036854775806) :
    Calls Try.prog 69 #[.string ⟨s.toArray⟩, .string ⟨#[46]⟩] w fun e w' => e = .returned (.tuple #[.string ⟨(cutL s).1.toArray⟩, .string ⟨(cutL s).2.toArray⟩, .bool (cutDot s).isSome]) ∧ Chg (fun _ => False) w w' := by
  have e1 := Try.stringslite_Index_one ⟨s.toArray⟩ 46
  dsimp only at e1
  rcases cut_cases s with ⟨h, hc⟩ | ⟨k, hk, h, hc⟩
  · rw [cutL, hc]
    rw [h] at e1
    clear h hc
    go_enter Try.func69, Try.ntmps69
    go_wp2_with fail
    refine (e1 _).mono ?_
    rintro e w' ⟨rfl, rfl⟩
    go_wp2
    go_ret3
    exact ⟨rfl, Chg.refl _ _⟩
  · rw [cutL, hc]
    rw [h] at e1
    have st := str_take s k
    have sd := str_drop s (k + 1)
    have hlt2 : ((k : Int) + 1) ≤ (s.length : Int) := by omega
    have hle : ((k : Int)) ≤ (s.length : Int) := by omega
    clear h hc
    go_enter Try.func69, Try.ntmps69
    go_wp2_with fail
    refine (e1 _).mono ?_
    rintro e w' ⟨rfl, rfl⟩
    clear e1
    go_wp2
    go_region
    go_wp2
    go_ret3
    exact ⟨rfl, Chg.drew (Chg.refl _ _)⟩

theorem cut_dot (s : List UInt8) (w : World) (hs : s.length ≤ 9223372036854775806) :
    Calls Try.prog 41 #[.string ⟨s.toArray⟩, .string ⟨#[46]⟩] w fun e w' => e = .returned (.tuple #[.string ⟨(cutL s).1.toArray⟩, .string ⟨(cutL s).2.toArray⟩, .bool (cutDot s).isSome]) ∧ Chg (fun _ => False) w w' := by
  have e1 := litecut_dot s
  go_enter Try.func41, Try.ntmps41
  go_wp2_with fail
  refine (e1 _ hs).mono ?_
  rintro e w' ⟨rfl, hc⟩
  go_wp2
  go_ret3
  exact ⟨rfl, hc⟩

theorem cutL_len (s : List UInt8) : (cutL s).1.length ≤ s.length ∧ (cutL s).2.length ≤ s.length := by
  rcases cut_cases s with ⟨_, hc⟩ | ⟨k, hk, _, hc⟩
  · rw [cutL, hc]; exact ⟨Nat.le_refl _, Nat.zero_le _⟩
  · rw [cutL, hc]; simp; omega

set_option maxRecDepth 100000 in
set_option maxHeartbeats 1000000 in
theorem pparse (s : List UInt8) (w : World) (hs : s.length ≤ 1048576) : Calls Try.prog 72 #[.string ⟨s.toArray⟩] w (ParsePost s w) := by
  have hl := cutL_len s
  have hpar : Hid (parseR s = if isRole (cutL s) = true then some (cutL s) else none) := hid (by
    rw [parseR, cutL]
    cases h : cutDot s with
    | none =>
      have : isRole (s, []) = false := by simp [isRole, isName]
      simp [this]
    | some p => simp)
  have hc0 : Chg (fun _ => False) w (w.alloc (.cells #[.string ⟨#[]⟩, .string ⟨#[]⟩] 23)) := (Chg.refl _ w).alloc _
  have hC := heap_alloc_new w (.cells #[.string ⟨#[]⟩, .string ⟨#[]⟩] 23)
  have hcut := cut_dot s (w.alloc (.cells #[.string ⟨#[]⟩, .string ⟨#[]⟩] 23)) (by omega)
  have HH := hid (And.intro hcut (And.intro hc0 hC))
  clear hcut hc0 hC
  go_enter Try.func72, Try.ntmps72
  go_wp2_with fail
  obtain ⟨hcut, hc0, hC⟩ := HH.out
  clear HH
  generalize w.alloc (.cells #[.string ⟨#[]⟩, .string ⟨#[]⟩] 23) = w1 at *
  generalize hCC : w.heap.size = C at *
  refine hcut.mono ?_
  rintro e w2 ⟨rfl, hc12⟩
  have hC2 := blk_keep hC hc12 id
  have hcw2 := hc0.trans hc12 (fun _ _ h => h)
  clear hcut hC hc0 hc12
  generalize (cutDot s).isSome = ok at *
  generalize cutL s = p at *
  obtain ⟨o, x⟩ := p
  dsimp only at hl ⊢
  have q0 := cell_blk hC2 0
  have q1 := cell_blk hC2 1
  have f0 := froz_blk hC2 0
  have f1 := froz_blk hC2 1
  simp only [List.getElem?_toArray, List.getElem?_cons_zero, List.getElem?_cons_succ] at q0 q1
  have hB := heap_alloc_new w2 (.cells #[.string ⟨o.toArray⟩, .string ⟨x.toArray⟩] 23)
  have hc23 : Chg (fun _ => False) w2 (w2.alloc (.cells #[.string ⟨o.toArray⟩, .string ⟨x.toArray⟩] 23)) := (Chg.refl _ w2).alloc _
  have hC3 := blk_keep hC2 hc23 id
  have hcw3 := hcw2.trans hc23 (fun _ _ h => h)
  have hCB : C < w2.heap.size := lt_blk hC2
  clear hc23
  have hr3 := pright (o, x) (w2.alloc (.cells #[.string ⟨o.toArray⟩, .string ⟨x.toArray⟩] 23)) (show o.length ≤ _ by omega) (show x.length ≤ _ by omega)
  clear hC2 hcw2
  have HH := hid (And.intro hr3 (And.intro hB (And.intro hC3 hcw3)))
  clear hr3 hB hC3 hcw3
  go_wp2_with fail
  obtain ⟨hr3, hB, hC3, hcw3⟩ := HH.out
  clear HH q0 q1 f0 f1
  generalize w2.alloc (.cells #[.string ⟨o.toArray⟩, .string ⟨x.toArray⟩] 23) = w3 at *
  generalize w2.heap.size = B at *
  refine hr3.mono ?_
  rintro e w4 ⟨rfl, hc4⟩
  have hC4 := blk_keep hC3 hc4 id
  have hB4 := blk_keep hB hc4 id
  have hcw4 := hcw3.trans hc4 (fun _ _ h => h)
  clear hr3 hB hC3 hcw3 hc4
  have b0 := cell_blk hB4 0
  have b1 := cell_blk hB4 1
  have q0 := cell_blk hC4 0
  have q1 := cell_blk hC4 1
  have f0 := froz_blk hC4 0
  have f1 := froz_blk hC4 1
  simp only [List.getElem?_toArray, List.getElem?_cons_zero, List.getElem?_cons_succ] at b0 b1 q0 q1
  cases hr : isRole (o, x) with
  | true =>
    have hp : Hid (parseR s = some (o, x)) := hid (by rw [hpar.out]; simp [hr])
    have hD : ((w4.setCell ⟨C, 0, none⟩ (.string ⟨o.toArray⟩)).setCell ⟨C, 1, none⟩ (.string ⟨x.toArray⟩)).heap[C]? = some (.cells #[.string ⟨o.toArray⟩, .string ⟨x.toArray⟩] 23 (0, 0)) := set_blk (set_blk hC4 0 (.string ⟨o.toArray⟩)) 1 (.string ⟨x.toArray⟩)
    have hch : Chg (fun _ => False) w ((w4.setCell ⟨C, 0, none⟩ (.string ⟨o.toArray⟩)).setCell ⟨C, 1, none⟩ (.string ⟨x.toArray⟩)) := (hcw4.trans (setCell_chg w4 C 0 _) (fun i hi h => by omega)).trans (setCell_chg _ C 1 _) (fun i hi h => by omega)
    have HH := hid (And.intro hD hch)
    clear hD hch hcw4 hC4 hB4 hpar
    go_wp2
    refine bodyPost_ret (results_row_tmp rfl _ _ C _ rfl (run_loadVar_row (P := Try.prog) _ C 23 23 _ (0, 0) _ HH.out.1 Try.underlying23 rfl (by kernel_rfl))) rfl ?_
    exact ⟨by rw [hp.out]; rfl, HH.out.2⟩
  | false =>
    have hp : Hid (parseR s = none) := hid (by rw [hpar.out]; simp [hr])
    have hD : ((w4.setCell ⟨C, 0, none⟩ (.string ⟨#[]⟩)).setCell ⟨C, 1, none⟩ (.string ⟨#[]⟩)).heap[C]? = some (.cells #[.string ⟨#[]⟩, .string ⟨#[]⟩] 23 (0, 0)) := set_blk (set_blk hC4 0 (.string ⟨#[]⟩)) 1 (.string ⟨#[]⟩)
    have hch : Chg (fun _ => False) w ((w4.setCell ⟨C, 0, none⟩ (.string ⟨#[]⟩)).setCell ⟨C, 1, none⟩ (.string ⟨#[]⟩)) := (hcw4.trans (setCell_chg w4 C 0 _) (fun i hi h => by omega)).trans (setCell_chg _ C 1 _) (fun i hi h => by omega)
    have HH := hid (And.intro hD hch)
    clear hD hch hcw4 hC4 hB4 hpar
    go_wp2
    refine bodyPost_ret (results_row_tmp rfl _ _ C _ rfl (run_loadVar_row (P := Try.prog) _ C 23 23 _ (0, 0) _ HH.out.1 Try.underlying23 rfl (by kernel_rfl))) rfl ?_
    exact ⟨by rw [hp.out]; rfl, HH.out.2⟩
end Go.Proofs.Ytjohiggfjpfbeaa
