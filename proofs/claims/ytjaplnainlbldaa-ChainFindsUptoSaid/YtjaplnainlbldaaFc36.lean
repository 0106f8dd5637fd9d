/- Texts that the proof leans on, in one: RefKCheck, RegE, GreatK, CheckK, RefKBytes, TagMath, KeyMath, KeyCells, RefKey, TagRef, RefCheck, RefSign, RefCredStep, RefCredGet, RefSGet, RefKGet, StepEq. -/
import Derived.Test.YtjaplnainlbldaaFc8
import Derived.Test.YtjaplnainlbldaaFc35
import Derived.Test.YtjaplnainlbldaaFc4
import Derived.Test.YtjaplnainlbldaaFc6
import Derived.Test.YtjaplnainlbldaaFc9
import Derived.Test.YtjaplnainlbldaaFc11
import Derived.Test.YtjaplnainlbldaaFc33
import Derived.Test.YtjaplnainlbldaaFc7
import Derived.Test.YtjaplnainlbldaaFc2
import Derived.Test.YtjaplnainlbldaaFc1
import Derived.Test.YtjaplnainlbldaaFc5
import Derived.Test.YtjaplnainlbldaaFc25
/- The contract of the document's Check, of layer 9. -/
namespace Go.Proofs.Ytjaplnainlbldaa
open Go.RowKit

/-- Does the step at i follow those ahead, and is its credential told? -/
def goodK (ls : List StepB) (cs : List CredB) (i : Nat) : Prop := ∀ h : i < ls.length, hasC cs ls[i].c = true ∧ followsK ls[i] (factsK (ls.take i)) = true

/-- What Check tells. -/
def CheckIs (ls : List StepB) (cs : List CredB) (wf : FactB) (n : Nat) (e : Int) : Prop :=
 (n < ls.length ∧ (∀ i, i < n → goodK ls cs i) ∧ ¬ goodK ls cs n ∧ e = 50) ∨ (n = ls.length ∧ (∀ i, i < n → goodK ls cs i) ∧ e = if inF (factsK ls) wf.1 wf.2 then 0 else 42)

theorem CheckIs.one {ls : List StepB} {cs : List CredB} {wf : FactB} {n m : Nat} {e f : Int} (h : CheckIs ls cs wf n e) (k : CheckIs ls cs wf m f) : n = m ∧ e = f := by
 rcases h with ⟨h1, h2, h3, h4⟩ | ⟨h1, h2, h4⟩ <;> rcases k with ⟨k1, k2, k3, k4⟩ | ⟨k1, k2, k4⟩
 ·have e1 : n = m := by
   rcases Nat.lt_trichotomy n m with h | h | h
   ·exact absurd (k2 n h) h3
   ·exact h
   ·exact absurd (h2 m h) k3
  exact ⟨e1, by rw [h4, k4]⟩
 ·exact absurd (k2 n (by omega)) h3
 ·exact absurd (h2 m (by omega)) k3
 ·exact ⟨by omega, by rw [h4, k4]⟩

set_option maxRecDepth 100000 in
set_option maxHeartbeats 8000000 in
theorem rkcheck {D E : Nat → Prop} (ao co : Option Addr) (cp cc : Nat) (ls : List StepB) (cs : List CredB) (wf : FactB) (w : World) (hn : ls.length ≤ 1048576) (hcn : cs.length ≤ 1048576) (hcp : ls.length ≤ cp) (hcp2 : cp ≤ 9223372036854775807) (h : StepsAt D w ao ls) (hcs : CredsAt E w co cs) :
  Calls Try.prog 13 #[.slice ao ls.length cp, .slice co cs.length cc, .agg #[.string ⟨wf.1.1.toArray⟩, .string ⟨wf.1.2.toArray⟩, .string ⟨wf.2.toArray⟩]] w fun e w' => ∃ n f, e = .returned (.tuple #[.int .i64 (n : Nat), .int .i64 f]) ∧ n ≤ ls.length ∧ CheckIs ls cs wf n f ∧ Chg (fun _ => False) w w' := by
 have hA := heap_alloc_new w (.cells #[.string ⟨wf.1.1.toArray⟩, .string ⟨wf.1.2.toArray⟩, .string ⟨wf.2.toArray⟩] 26)
 have hc0 : Chg (fun _ => False) w (w.alloc (.cells #[.string ⟨wf.1.1.toArray⟩, .string ⟨wf.1.2.toArray⟩, .string ⟨wf.2.toArray⟩] 26)) := (Chg.refl _ w).alloc _
 have HX : Hid ((w.alloc (.cells #[.string ⟨wf.1.1.toArray⟩, .string ⟨wf.1.2.toArray⟩, .string ⟨wf.2.toArray⟩] 26)).heap[w.heap.size]? = some (.cells (factBox wf) 26 (0, 0)) ∧ StepsAt D (w.alloc (.cells #[.string ⟨wf.1.1.toArray⟩, .string ⟨wf.1.2.toArray⟩, .string ⟨wf.2.toArray⟩] 26)) ao ls ∧ CredsAt E (w.alloc (.cells #[.string ⟨wf.1.1.toArray⟩, .string ⟨wf.1.2.toArray⟩, .string ⟨wf.2.toArray⟩] 26)) co cs) := hid ⟨hA, h.keep hc0 (fun _ _ => id), hcs.keep hc0 (fun _ _ => id)⟩
 have HC0 := hid hc0
 have HSH := hid (steps_short h)
 clear h hcs hA hc0
 go_enter Try.func13, Try.ntmps13
 go_wp2
 generalize (w.alloc (.cells #[.string ⟨wf.1.1.toArray⟩, .string ⟨wf.1.2.toArray⟩, .string ⟨wf.2.toArray⟩] 26)) = w1 at *
 generalize w.heap.size = A at *
 go_loopw [12] (fun i wr => ∃ k : Nat, k ≤ ls.length ∧ i = .int .i64 k ∧ Hid (∀ i, i < k → goodK ls cs i) ∧ Hid (Chg (fun _ => False) w1 wr)) (fun i _ => ls.length - (intOf i).toNat)
 case atStart => exact ⟨0, Nat.zero_le _, rfl, hid (fun i h => absurd h (by omega)), hid (Chg.refl _ _)⟩
 case round =>
  obtain ⟨k, hk, rfl, hup, hc⟩ := hrel
  by_cases hlt : k < ls.length
  ·obtain ⟨b, off, hao, _, ⟨⟨a0, a1, a2, a3, a4, a5, a6, a7, a8⟩, ⟨b0, b1, b2⟩⟩, hss⟩ := (HX.out.2.1.keep hc.out (fun _ _ => id)) k hlt
   have HSTEP : Hid ((hasC cs ls[k].c = true → followsK ls[k] (factsK (ls.take k)) = true → ∀ i, i < k + 1 → goodK ls cs i) ∧ (hasC cs ls[k].c = false → CheckIs ls cs wf k 50) ∧ (followsK ls[k] (factsK (ls.take k)) = false → CheckIs ls cs wf k 50)) := hid ⟨fun h1 h2 i hik => by
    by_cases e : i = k
    ·subst e; exact fun _ => ⟨h1, h2⟩
    ·exact hup.out i (by omega), fun h1 => .inl ⟨hlt, hup.out, fun hg => (by rw [(hg hlt).1] at h1; cases h1), rfl⟩, fun h1 => .inl ⟨hlt, hup.out, fun hg => (by rw [(hg hlt).2] at h1; cases h1), rfl⟩⟩
   have HKL : Hid (k < ls.length ∧ ls.length ≤ cp) := hid ⟨hlt, hcp⟩
   generalize ls[k] = s at *
   change wr.cell? ⟨b, off + k * 12 + 10, none⟩ = _ at b1
   change wr.cell? ⟨b, off + k * 12 + 11, none⟩ = _ at b2
   have hSb : (wr.alloc (.cells #[.int .i64 s.c.kind, .string ⟨s.c.head.1.toArray⟩, .string ⟨s.c.head.2.toArray⟩, .string ⟨s.c.who.toArray⟩, .string ⟨s.c.b.1.toArray⟩, .string ⟨s.c.b.2.toArray⟩, .string ⟨s.c.c.1.toArray⟩, .string ⟨s.c.c.2.toArray⟩, .string ⟨s.c.w2.toArray⟩, .string ⟨s.f.1.1.toArray⟩, .string ⟨s.f.1.2.toArray⟩, .string ⟨s.f.2.toArray⟩] 43)).heap[wr.heap.size]? = some (.cells (stepBox s) 43 (0, 0)) := heap_alloc_new wr _
   have hcA : Chg (fun _ => False) wr (wr.alloc (.cells #[.int .i64 s.c.kind, .string ⟨s.c.head.1.toArray⟩, .string ⟨s.c.head.2.toArray⟩, .string ⟨s.c.who.toArray⟩, .string ⟨s.c.b.1.toArray⟩, .string ⟨s.c.b.2.toArray⟩, .string ⟨s.c.c.1.toArray⟩, .string ⟨s.c.c.2.toArray⟩, .string ⟨s.c.w2.toArray⟩, .string ⟨s.f.1.1.toArray⟩, .string ⟨s.f.1.2.toArray⟩, .string ⟨s.f.2.toArray⟩] 43)) := (Chg.refl _ wr).alloc _
   have HT : Hid ((wr.alloc (.cells #[.int .i64 s.c.kind, .string ⟨s.c.head.1.toArray⟩, .string ⟨s.c.head.2.toArray⟩, .string ⟨s.c.who.toArray⟩, .string ⟨s.c.b.1.toArray⟩, .string ⟨s.c.b.2.toArray⟩, .string ⟨s.c.c.1.toArray⟩, .string ⟨s.c.c.2.toArray⟩, .string ⟨s.c.w2.toArray⟩, .string ⟨s.f.1.1.toArray⟩, .string ⟨s.f.1.2.toArray⟩, .string ⟨s.f.2.toArray⟩] 43)).heap[wr.heap.size]? = some (.cells (stepBox s) 43 (0, 0)) ∧ StepsAt D (wr.alloc (.cells #[.int .i64 s.c.kind, .string ⟨s.c.head.1.toArray⟩, .string ⟨s.c.head.2.toArray⟩, .string ⟨s.c.who.toArray⟩, .string ⟨s.c.b.1.toArray⟩, .string ⟨s.c.b.2.toArray⟩, .string ⟨s.c.c.1.toArray⟩, .string ⟨s.c.c.2.toArray⟩, .string ⟨s.c.w2.toArray⟩, .string ⟨s.f.1.1.toArray⟩, .string ⟨s.f.1.2.toArray⟩, .string ⟨s.f.2.toArray⟩] 43)) ao ls ∧ stepShort s 9223372036854775807 ∧ CredsAt E (wr.alloc (.cells #[.int .i64 s.c.kind, .string ⟨s.c.head.1.toArray⟩, .string ⟨s.c.head.2.toArray⟩, .string ⟨s.c.who.toArray⟩, .string ⟨s.c.b.1.toArray⟩, .string ⟨s.c.b.2.toArray⟩, .string ⟨s.c.c.1.toArray⟩, .string ⟨s.c.c.2.toArray⟩, .string ⟨s.c.w2.toArray⟩, .string ⟨s.f.1.1.toArray⟩, .string ⟨s.f.1.2.toArray⟩, .string ⟨s.f.2.toArray⟩] 43)) co cs) := hid ⟨hSb, HX.out.2.1.keep (hc.out.trans hcA (fun _ _ h => h)) (fun _ _ => id), hss, HX.out.2.2.keep (hc.out.trans hcA (fun _ _ h => h)) (fun _ _ => id)⟩
   have HC2 := hid (hc.out.trans hcA (fun _ _ h => h))
   obtain ⟨fs, hfs⟩ : ∃ fs, fs = factsK (ls.take k) := ⟨_, rfl⟩
   have HFS : Hid (factsK (ls.take k) = fs ∧ fs.length ≤ 1048576 ∧ ∀ f ∈ fs, f.2.length ≤ 9223372036854775807) := hid ⟨hfs.symm, by rw [hfs, factsK_len, List.length_take]; omega, by rw [hfs]; exact facts_short HSH.out k⟩
   rw [← hfs] at HSTEP
   clear hSb hcA hc hss hup hfs
   subst hao
   go_wp2_with fail
   clear a0 a1 a2 a3 a4 a5 a6 a7 a8 b0 b1 b2
   generalize (wr.alloc (.cells #[.int .i64 s.c.kind, .string ⟨s.c.head.1.toArray⟩, .string ⟨s.c.head.2.toArray⟩, .string ⟨s.c.who.toArray⟩, .string ⟨s.c.b.1.toArray⟩, .string ⟨s.c.b.2.toArray⟩, .string ⟨s.c.c.1.toArray⟩, .string ⟨s.c.c.2.toArray⟩, .string ⟨s.c.w2.toArray⟩, .string ⟨s.f.1.1.toArray⟩, .string ⟨s.f.1.2.toArray⟩, .string ⟨s.f.2.toArray⟩] 43)) = w3 at *
   generalize wr.heap.size = X at *
   cases hhas : hasC cs s.c with
   | true =>
    have HHAS := hid hhas
    clear hhas
    refine wp_region_specs ([.eq (.slice (some ⟨b, off, none⟩) ls.length cp), .eq (.slice co cs.length cc), .any, .any, .any, .any, .any, .any, .eq (.int .i64 k), .eq (.pointer (some ⟨X, 0, none⟩)), .any, .any, .any, .any, .any, .any, .any, .eq (.slice co cs.length cc), .eq (.pointer (some ⟨X, 0, none⟩)), .eq (.agg #[.int .i64 s.c.kind, .string ⟨s.c.head.1.toArray⟩, .string ⟨s.c.head.2.toArray⟩, .string ⟨s.c.who.toArray⟩, .string ⟨s.c.b.1.toArray⟩, .string ⟨s.c.b.2.toArray⟩, .string ⟨s.c.c.1.toArray⟩, .string ⟨s.c.c.2.toArray⟩, .string ⟨s.c.w2.toArray⟩]), .eq (.bool true), .eq (.bool false), .eq (.bool false), .eq (.agg #[.int .i64 s.c.kind, .string ⟨s.c.head.1.toArray⟩, .string ⟨s.c.head.2.toArray⟩, .string ⟨s.c.who.toArray⟩, .string ⟨s.c.b.1.toArray⟩, .string ⟨s.c.b.2.toArray⟩, .string ⟨s.c.c.1.toArray⟩, .string ⟨s.c.c.2.toArray⟩, .string ⟨s.c.w2.toArray⟩, .string ⟨s.f.1.1.toArray⟩, .string ⟨s.f.1.2.toArray⟩, .string ⟨s.f.2.toArray⟩]), .eq (.slice (some ⟨b, off, none⟩) ls.length cp), .eq (.int .i64 k), .eq (.slice (some ⟨b, off, none⟩) k cp), .factsK fs, .eq (.bool (followsK s fs)), .eq (.bool (!followsK s fs)), .eq (.bool (!followsK s fs)), .any, .any, .any, .any, .any, .any, .any, .any, .any, .any, .any, .any, .any, .any] : List Spec) [17, 18, 19, 20, 21, 22, 23, 24, 25, 26, 27, 28, 29, 30] [0, 1, 8, 9] (by kernel_rfl) (by kernel_rfl) (by rfl) (by kernel_rfl) ?start ?obs ?fin
    case start =>
     simp only [List.forall_mem_cons]; exact ⟨⟨_, rfl, rfl⟩, ⟨_, rfl, rfl⟩, ⟨_, rfl, rfl⟩, ⟨_, rfl, rfl⟩, fun _ h => by cases h⟩
    case obs =>
     refine Obs.cons none (by kernel_rfl) ?_ ?_
     ·refine Ob.plain fun a w hR hk K k9 => ?_
      obtain ⟨_, e1, f1⟩ := hk 1 (by decide)
      clear hk
      go_simp
      exact k9 _ _ (Chg.refl _ _) f1
     refine Obs.cons none (by kernel_rfl) ?_ ?_
     ·refine Ob.plain fun a w hR hk K k9 => ?_
      obtain ⟨_, e9, rfl⟩ := hk 9 (by decide)
      clear hk
      go_simp
      exact k9 _ _ (Chg.refl _ _) rfl
     refine Obs.cons none (by kernel_rfl) ?_ ?_
     ·refine Ob.plain fun a w hR hk K k9 => ?_
      obtain ⟨_, e18, rfl⟩ := hk 18 (by decide)
      clear hk
      obtain ⟨⟨a0, a1, a2, a3, a4, a5, a6, a7, a8⟩, ⟨b0, b1, b2⟩⟩ := step_at_blk (blk_keep HT.out.1 hR id)
      simp only [Nat.zero_add] at a0 a1 a2 a3 a4 a5 a6 a7 a8 b0 b1 b2
      go_simp
      exact k9 _ _ (Chg.refl _ _) rfl
     refine Obs.cons none (by kernel_rfl) ?_ ?_
     ·refine Ob.plain fun a w hR hk K k9 => ?_
      obtain ⟨_, e17, rfl⟩ := hk 17 (by decide)
      obtain ⟨_, e19, rfl⟩ := hk 19 (by decide)
      clear hk
      have hq := chas_ref co cc cs s.c w (by omega) (HT.out.2.2.2.keep hR (fun _ _ => id))
      unfold credV credBox at hq
      rw [HHAS.out] at hq
      go_simp
      refine hq.mono ?_
      rintro e w2 ⟨rfl, hc⟩
      exact k9 _ _ hc rfl
     refine Obs.cons none (by kernel_rfl) ?_ ?_
     ·refine Ob.plain fun a w hR hk K k9 => ?_
      obtain ⟨_, e20, rfl⟩ := hk 20 (by decide)
      clear hk
      go_simp
      exact k9 _ _ (Chg.refl _ _) rfl
     refine Obs.cons none (by kernel_rfl) ?_ ?_
     ·refine Ob.plain fun a w hR hk K k9 => ?_
      obtain ⟨_, e21, f21⟩ := hk 21 (by decide)
      clear hk
      go_simp
      exact k9 _ _ (Chg.refl _ _) f21
     refine Obs.cons (some (22, false)) (by kernel_rfl) ?_ ?_
     ·refine Ob.yes (fun _ _ h => h) fun a w hR hk K k9 => ?_
      obtain ⟨_, e9, rfl⟩ := hk 9 (by decide)
      clear hk
      obtain ⟨⟨a0, a1, a2, a3, a4, a5, a6, a7, a8⟩, ⟨b0, b1, b2⟩⟩ := step_at_blk (blk_keep HT.out.1 hR id)
      simp only [Nat.zero_add] at a0 a1 a2 a3 a4 a5 a6 a7 a8 b0 b1 b2
      go_simp
      exact k9 _ _ (Chg.refl _ _) rfl
     refine Obs.cons (some (22, false)) (by kernel_rfl) ?_ ?_
     ·refine Ob.yes (fun _ _ h => h) fun a w hR hk K k9 => ?_
      obtain ⟨_, e0, f0⟩ := hk 0 (by decide)
      clear hk
      go_simp
      exact k9 _ _ (Chg.refl _ _) f0
     refine Obs.cons (some (22, false)) (by kernel_rfl) ?_ ?_
     ·refine Ob.yes (fun _ _ h => h) fun a w hR hk K k9 => ?_
      obtain ⟨_, e8, f8⟩ := hk 8 (by decide)
      clear hk
      go_simp
      exact k9 _ _ (Chg.refl _ _) f8
     refine Obs.cons (some (22, false)) (by kernel_rfl) ?_ ?_
     ·refine Ob.yes (fun _ _ h => h) fun a w hR hk K k9 => ?_
      obtain ⟨_, e24, rfl⟩ := hk 24 (by decide)
      obtain ⟨_, e25, rfl⟩ := hk 25 (by decide)
      clear hk
      have hk3 : k ≤ cp := Nat.le_trans (Nat.le_of_lt HKL.out.1) HKL.out.2
      go_simp
      exact k9 _ _ (Chg.refl _ _) rfl
     refine Obs.cons (some (22, false)) (by kernel_rfl) ?_ ?_
     ·refine Ob.yes (fun _ _ h => h) fun a w hR hk K k9 => ?_
      obtain ⟨_, e26, rfl⟩ := hk 26 (by decide)
      clear hk
      have hq := rkfacts (some ⟨b, off, none⟩) cp (ls.take k) w (by rw [List.length_take]; omega) ((HT.out.2.1.keep hR (fun _ _ => id)).take k)
      rw [List.length_take, Nat.min_eq_left (Nat.le_of_lt HKL.out.1), HFS.out.1] at hq
      go_simp
      refine hq.mono ?_
      rintro e w2 ⟨a9, c9, rfl, hown, hc⟩
      obtain ⟨a8, c8, hv8, hst8, _⟩ := hown.facts
      cases hv8
      exact k9 _ _ hc ⟨_, _, rfl, hst8.mono (fun _ _ => trivial)⟩
     refine Obs.cons (some (22, false)) (by kernel_rfl) ?_ ?_
     ·refine Ob.yes (fun _ _ h => h) fun a w hR hk K k9 => ?_
      obtain ⟨_, e23, rfl⟩ := hk 23 (by decide)
      obtain ⟨_, e27, f27⟩ := hk 27 (by decide)
      clear hk
      obtain ⟨af, cf, rfl, hfa⟩ := f27
      have hq := rkfollows af cf s fs w HFS.out.2.1 HT.out.2.2.1 HFS.out.2.2 hfa
      go_simp
      refine hq.mono ?_
      rintro e w2 ⟨rfl, hc⟩
      exact k9 _ _ hc rfl
     refine Obs.cons (some (22, false)) (by kernel_rfl) ?_ ?_
     ·refine Ob.yes (fun _ _ h => h) fun a w hR hk K k9 => ?_
      obtain ⟨_, e28, rfl⟩ := hk 28 (by decide)
      clear hk
      go_simp
      exact k9 _ _ (Chg.refl _ _) rfl
     refine Obs.cons none (by kernel_rfl) ?_ ?_
     ·refine Ob.plain fun a w hR hk K k9 => ?_
      obtain ⟨_, e22, rfl⟩ := hk 22 (by decide)
      obtain ⟨_, e29, rfl⟩ := hk 29 (by decide)
      clear hk
      go_simp
      exact k9 _ _ (Chg.refl _ _) rfl
     exact Obs.nil
    case fin =>
     intro vals w9 hc9 hv
     have h30 : vals 30 = .bool (!followsK s fs) := hv 30 (by decide)
     have h8 : vals 8 = vals 8 := rfl
     have HC9 := hid (HC2.out.trans hc9 (fun _ _ h => h))
     simp only [putAll, List.setIfInBounds_toArray, List.set_cons_zero, List.set_cons_succ, h30]
     clear hv h30 hc9 h8
     cases hf : followsK s fs with
     | true =>
      have HUP := hid (HSTEP.out.1 HHAS.out hf)
      clear hf
      go_wp2
      go_roundw
      case rel => exact ⟨k + 1, by have := HKL.out.1; omega, by go_num, HUP, HC9⟩
      case measure => have := HKL.out.1; simp [intOf]; omega
     | false =>
      have HRES := hid (HSTEP.out.2.2 hf)
      clear hf
      go_wp2
      go_ret2
      exact ⟨k, 50, rfl, Nat.le_of_lt HKL.out.1, HRES.out, HC0.out.trans HC9.out (fun _ _ h => h)⟩
   | false =>
    have HHAS := hid hhas
    have HRES := hid (HSTEP.out.2.1 hhas)
    clear hhas
    refine wp_region_specs ([.eq (.slice (some ⟨b, off, none⟩) ls.length cp), .eq (.slice co cs.length cc), .any, .any, .any, .any, .any, .any, .eq (.int .i64 k), .eq (.pointer (some ⟨X, 0, none⟩)), .any, .any, .any, .any, .any, .any, .any, .eq (.slice co cs.length cc), .eq (.pointer (some ⟨X, 0, none⟩)), .eq (.agg #[.int .i64 s.c.kind, .string ⟨s.c.head.1.toArray⟩, .string ⟨s.c.head.2.toArray⟩, .string ⟨s.c.who.toArray⟩, .string ⟨s.c.b.1.toArray⟩, .string ⟨s.c.b.2.toArray⟩, .string ⟨s.c.c.1.toArray⟩, .string ⟨s.c.c.2.toArray⟩, .string ⟨s.c.w2.toArray⟩]), .eq (.bool false), .eq (.bool true), .eq (.bool true), .any, .any, .any, .any, .any, .any, .any, .eq (.bool true), .any, .any, .any, .any, .any, .any, .any, .any, .any, .any, .any, .any, .any, .any] : List Spec) [17, 18, 19, 20, 21, 22, 23, 24, 25, 26, 27, 28, 29, 30] [0, 1, 8, 9] (by kernel_rfl) (by kernel_rfl) (by rfl) (by kernel_rfl) ?start ?obs ?fin
    case start =>
     simp only [List.forall_mem_cons]; exact ⟨⟨_, rfl, rfl⟩, ⟨_, rfl, rfl⟩, ⟨_, rfl, rfl⟩, ⟨_, rfl, rfl⟩, fun _ h => by cases h⟩
    case obs =>
     refine Obs.cons none (by kernel_rfl) ?_ ?_
     ·refine Ob.plain fun a w hR hk K k9 => ?_
      obtain ⟨_, e1, f1⟩ := hk 1 (by decide)
      clear hk
      go_simp
      exact k9 _ _ (Chg.refl _ _) f1
     refine Obs.cons none (by kernel_rfl) ?_ ?_
     ·refine Ob.plain fun a w hR hk K k9 => ?_
      obtain ⟨_, e9, rfl⟩ := hk 9 (by decide)
      clear hk
      go_simp
      exact k9 _ _ (Chg.refl _ _) rfl
     refine Obs.cons none (by kernel_rfl) ?_ ?_
     ·refine Ob.plain fun a w hR hk K k9 => ?_
      obtain ⟨_, e18, rfl⟩ := hk 18 (by decide)
      clear hk
      obtain ⟨⟨a0, a1, a2, a3, a4, a5, a6, a7, a8⟩, ⟨b0, b1, b2⟩⟩ := step_at_blk (blk_keep HT.out.1 hR id)
      simp only [Nat.zero_add] at a0 a1 a2 a3 a4 a5 a6 a7 a8 b0 b1 b2
      go_simp
      exact k9 _ _ (Chg.refl _ _) rfl
     refine Obs.cons none (by kernel_rfl) ?_ ?_
     ·refine Ob.plain fun a w hR hk K k9 => ?_
      obtain ⟨_, e17, rfl⟩ := hk 17 (by decide)
      obtain ⟨_, e19, rfl⟩ := hk 19 (by decide)
      clear hk
      have hq := chas_ref co cc cs s.c w (by omega) (HT.out.2.2.2.keep hR (fun _ _ => id))
      unfold credV credBox at hq
      rw [HHAS.out] at hq
      go_simp
      refine hq.mono ?_
      rintro e w2 ⟨rfl, hc⟩
      exact k9 _ _ hc rfl
     refine Obs.cons none (by kernel_rfl) ?_ ?_
     ·refine Ob.plain fun a w hR hk K k9 => ?_
      obtain ⟨_, e20, rfl⟩ := hk 20 (by decide)
      clear hk
      go_simp
      exact k9 _ _ (Chg.refl _ _) rfl
     refine Obs.cons none (by kernel_rfl) ?_ ?_
     ·refine Ob.plain fun a w hR hk K k9 => ?_
      obtain ⟨_, e21, f21⟩ := hk 21 (by decide)
      clear hk
      go_simp
      exact k9 _ _ (Chg.refl _ _) f21
     refine Obs.cons (some (22, false)) (by kernel_rfl) ?_ ?_
     ·exact Ob.no (fun _ _ h => h) (Chg.refl _) (fun _ _ => trivial)
     refine Obs.cons (some (22, false)) (by kernel_rfl) ?_ ?_
     ·exact Ob.no (fun _ _ h => h) (Chg.refl _) (fun _ _ => trivial)
     refine Obs.cons (some (22, false)) (by kernel_rfl) ?_ ?_
     ·exact Ob.no (fun _ _ h => h) (Chg.refl _) (fun _ _ => trivial)
     refine Obs.cons (some (22, false)) (by kernel_rfl) ?_ ?_
     ·exact Ob.no (fun _ _ h => h) (Chg.refl _) (fun _ _ => trivial)
     refine Obs.cons (some (22, false)) (by kernel_rfl) ?_ ?_
     ·exact Ob.no (fun _ _ h => h) (Chg.refl _) (fun _ _ => trivial)
     refine Obs.cons (some (22, false)) (by kernel_rfl) ?_ ?_
     ·exact Ob.no (fun _ _ h => h) (Chg.refl _) (fun _ _ => trivial)
     refine Obs.cons (some (22, false)) (by kernel_rfl) ?_ ?_
     ·exact Ob.no (fun _ _ h => h) (Chg.refl _) (fun _ _ => trivial)
     refine Obs.cons none (by kernel_rfl) ?_ ?_
     ·refine Ob.plain fun a w hR hk K k9 => ?_
      obtain ⟨_, e22, rfl⟩ := hk 22 (by decide)
      obtain ⟨_, e29, _⟩ := hk 29 (by decide)
      clear hk
      go_simp
      exact k9 _ _ (Chg.refl _ _) rfl
     exact Obs.nil
    case fin =>
     intro vals w9 hc9 hv
     have h30 : vals 30 = .bool true := hv 30 (by decide)
     have h8 : vals 8 = vals 8 := rfl
     have HC9 := hid (HC2.out.trans hc9 (fun _ _ h => h))
     simp only [putAll, List.setIfInBounds_toArray, List.set_cons_zero, List.set_cons_succ, h30]
     clear hv h30 hc9 h8
     go_wp2
     go_ret2
     exact ⟨k, 50, rfl, Nat.le_of_lt HKL.out.1, HRES.out, HC0.out.trans HC9.out (fun _ _ h => h)⟩
  ·have hk2 : k = ls.length := by omega
   obtain ⟨fs, hfs⟩ : ∃ fs, fs = factsK ls := ⟨_, rfl⟩
   have HFS : Hid (factsK ls = fs ∧ fs.length ≤ 1048576) := hid ⟨hfs.symm, by rw [hfs, factsK_len]; exact hn⟩
   have HUP : Hid (∀ i, i < ls.length → goodK ls cs i) := hid (fun i hi => hup.out i (by omega))
   have HT : Hid (wr.heap[A]? = some (.cells (factBox wf) 26 (0, 0)) ∧ StepsAt D wr ao ls) := hid ⟨blk_keep HX.out.1 hc.out id, HX.out.2.1.keep hc.out (fun _ _ => id)⟩
   have HC2 := hid (HC0.out.trans hc.out (fun _ _ h => h))
   clear hup hc hfs
   go_wp2_with fail
   refine wp_region_specs ([.eq (.slice ao ls.length cp), .any, .any, .any, .any, .eq (.pointer (some ⟨A, 0, none⟩)), .any, .any, .any, .any, .any, .any, .any, .any, .any, .any, .any, .any, .any, .any, .any, .any, .any, .any, .any, .any, .any, .any, .any, .any, .any, .any, .any, .eq (.slice ao ls.length cp), .factsK fs, .eq (.pointer (some ⟨A, 0, none⟩)), .eq (.agg #[.string ⟨wf.1.1.toArray⟩, .string ⟨wf.1.2.toArray⟩]), .eq (.pointer (some ⟨A, 2, none⟩)), .eq (.string ⟨wf.2.toArray⟩), .eq (.bool (inF fs wf.1 wf.2)), .eq (.bool (!inF fs wf.1 wf.2)), .any, .any, .any, .any] : List Spec) [33, 34, 35, 36, 37, 38, 39, 40] [0, 5] (by kernel_rfl) (by kernel_rfl) (by rfl) (by kernel_rfl) ?start ?obs ?fin
   case start =>
    simp only [List.forall_mem_cons]; exact ⟨⟨_, rfl, rfl⟩, ⟨_, rfl, rfl⟩, fun _ h => by cases h⟩
   case obs =>
    refine Obs.cons none (by kernel_rfl) ?_ ?_
    ·refine Ob.plain fun a w hR hk K k9 => ?_
     obtain ⟨_, e0, f0⟩ := hk 0 (by decide)
     clear hk
     go_simp
     exact k9 _ _ (Chg.refl _ _) f0
    refine Obs.cons none (by kernel_rfl) ?_ ?_
    ·refine Ob.plain fun a w hR hk K k9 => ?_
     obtain ⟨_, e33, rfl⟩ := hk 33 (by decide)
     clear hk
     have hq := rkfacts ao cp ls w (by omega) (HT.out.2.keep hR (fun _ _ => id))
     rw [HFS.out.1] at hq
     go_simp
     refine hq.mono ?_
     rintro e w2 ⟨a9, c9, rfl, hown, hc⟩
     obtain ⟨a8, c8, hv8, hst8, _⟩ := hown.facts
     cases hv8
     exact k9 _ _ hc ⟨_, _, rfl, hst8.mono (fun _ _ => trivial)⟩
    refine Obs.cons none (by kernel_rfl) ?_ ?_
    ·refine Ob.plain fun a w hR hk K k9 => ?_
     obtain ⟨_, e5, rfl⟩ := hk 5 (by decide)
     clear hk
     go_simp
     exact k9 _ _ (Chg.refl _ _) rfl
    refine Obs.cons none (by kernel_rfl) ?_ ?_
    ·refine Ob.plain fun a w hR hk K k9 => ?_
     obtain ⟨_, e35, rfl⟩ := hk 35 (by decide)
     clear hk
     obtain ⟨y0, y1, y2⟩ := fact_at_blk (blk_keep HT.out.1 hR id)
     simp only [Nat.zero_add] at y0 y1 y2
     go_simp
     exact k9 _ _ (Chg.refl _ _) rfl
    refine Obs.cons none (by kernel_rfl) ?_ ?_
    ·refine Ob.plain fun a w hR hk K k9 => ?_
     obtain ⟨_, e5, rfl⟩ := hk 5 (by decide)
     clear hk
     go_simp
     exact k9 _ _ (Chg.refl _ _) rfl
    refine Obs.cons none (by kernel_rfl) ?_ ?_
    ·refine Ob.plain fun a w hR hk K k9 => ?_
     obtain ⟨_, e37, rfl⟩ := hk 37 (by decide)
     clear hk
     obtain ⟨y0, y1, y2⟩ := fact_at_blk (blk_keep HT.out.1 hR id)
     simp only [Nat.zero_add] at y0 y1 y2
     go_simp
     exact k9 _ _ (Chg.refl _ _) rfl
    refine Obs.cons none (by kernel_rfl) ?_ ?_
    ·refine Ob.plain fun a w hR hk K k9 => ?_
     obtain ⟨_, e34, f34⟩ := hk 34 (by decide)
     obtain ⟨_, e36, rfl⟩ := hk 36 (by decide)
     obtain ⟨_, e38, rfl⟩ := hk 38 (by decide)
     clear hk
     obtain ⟨af, cf, rfl, hfa⟩ := f34
     have hq := rfin af cf fs wf.1 wf.2 w (by have := HFS.out.2; omega) hfa
     go_simp
     refine hq.mono ?_
     rintro e w2 ⟨rfl, hc⟩
     exact k9 _ _ hc rfl
    refine Obs.cons none (by kernel_rfl) ?_ ?_
    ·refine Ob.plain fun a w hR hk K k9 => ?_
     obtain ⟨_, e39, rfl⟩ := hk 39 (by decide)
     clear hk
     go_simp
     exact k9 _ _ (Chg.refl _ _) rfl
    exact Obs.nil
   case fin =>
    intro vals w9 hc9 hv
    have h40 : vals 40 = .bool (!inF fs wf.1 wf.2) := hv 40 (by decide)
    have HC9 := hid (HC2.out.trans hc9 (fun _ _ h => h))
    simp only [putAll, List.setIfInBounds_toArray, List.set_cons_zero, List.set_cons_succ, h40]
    clear hv h40 hc9 hk2 hlt
    cases hf : inF fs wf.1 wf.2 with
    | true =>
     have HRES : Hid (CheckIs ls cs wf ls.length 0) := hid (.inr ⟨rfl, HUP.out, by rw [HFS.out.1, hf]; rfl⟩)
     clear hf
     go_wp2
     go_ret2
     exact ⟨ls.length, 0, rfl, Nat.le_refl _, HRES.out, HC9.out⟩
    | false =>
     have HRES : Hid (CheckIs ls cs wf ls.length 42) := hid (.inr ⟨rfl, HUP.out, by rw [HFS.out.1, hf]; rfl⟩)
     clear hf
     go_wp2
     go_ret2
     exact ⟨ls.length, 42, rfl, Nat.le_refl _, HRES.out, HC9.out⟩
end Go.Proofs.Ytjaplnainlbldaa

/- A rule for a region that draws its order, where one slot is read before the one operation that writes it. -/
namespace Go.Proofs.Ytjaplnainlbldaa
open Go.RowKit

section
variable {P : Program} {ops : Array Oper} {Q : Exit → Act → World → Prop} {R : World → World → Prop} {G : Tmp → Value → World → Prop} {w0 : World} {a0 : Act} {ds : List Tmp} {te : Tmp} {ve : Value}

end

end Go.Proofs.Ytjaplnainlbldaa

/- Law 9's Great, and the document's Same, of layer 9. -/
namespace Go.Proofs.Ytjaplnainlbldaa
open Go.RowKit

end Go.Proofs.Ytjaplnainlbldaa

/- What the laws of layer 9 ask of the program's check: its contracts, as the fields of a structure. -/
namespace Go.Proofs.Ytjaplnainlbldaa
open Go.RowKit

end Go.Proofs.Ytjaplnainlbldaa

/- The contract of the document's Bytes, of layer 9. -/
namespace Go.Proofs.Ytjaplnainlbldaa
open Go.RowKit

theorem run_neqg_roleK (x y : Operand) (a b : RoleB) (w : World) : Sem.run Try.prog (eqGuard BinOp.neq 24 x y (.agg #[.string ⟨a.1.toArray⟩, .string ⟨a.2.toArray⟩]) (.agg #[.string ⟨b.1.toArray⟩, .string ⟨b.2.toArray⟩])) w = .ok () w := by
 go_simp
theorem run_neq_roleK (a b : RoleB) (w : World) : Sem.run Try.prog (binOp BinOp.neq 24 (.agg #[.string ⟨a.1.toArray⟩, .string ⟨a.2.toArray⟩]) (.agg #[.string ⟨b.1.toArray⟩, .string ⟨b.2.toArray⟩])) w = .ok (.bool (!decide (a = b))) w := by
 have : decide (a = b) = decide (a.1 = b.1 ∧ a.2 = b.2) := by simp only [Prod.ext_iff]
 rw [this]
 go_simp
 by_cases h1 : a.1 = b.1 <;> by_cases h2 : a.2 = b.2 <;> simp [h1, h2]
attribute [local go_sem ↓ high] run_neqg_roleK run_neq_roleK

end Go.Proofs.Ytjaplnainlbldaa

/- Plain arithmetic of layer 2's sums and tags: nothing of the program's text. -/
namespace Go.Proofs.Ytjaplnainlbldaa
open Go.RowKit

end Go.Proofs.Ytjaplnainlbldaa

/- Keys and signed credentials: plain words. -/
namespace Go.Proofs.Ytjaplnainlbldaa
open Go.RowKit

/-- Somebody's key. -/
structure KeyB where
 who : List UInt8
 key : List UInt8
 deriving DecidableEq, Inhabited

/-- The first key of somebody's. -/
def keyAt (l : List KeyB) (o : List UInt8) : Option (List UInt8) := (l.find? (·.who == o)).map (·.key)
def keyOf (l : List KeyB) (o : List UInt8) : List UInt8 := (keyAt l o).getD []
end Go.Proofs.Ytjaplnainlbldaa

/- Keys and signed credentials, as they lie in memory. -/
namespace Go.Proofs.Ytjaplnainlbldaa
open Go.RowKit

end Go.Proofs.Ytjaplnainlbldaa

/- Whose key signs: the contract of the document's key, of layer 6. -/
namespace Go.Proofs.Ytjaplnainlbldaa
open Go.RowKit

end Go.Proofs.Ytjaplnainlbldaa

/- The contract of the document's Make. -/
namespace Go.Proofs.Ytjaplnainlbldaa
open Go.RowKit

end Go.Proofs.Ytjaplnainlbldaa

/- The contract of the document's Check, of layer 6. -/
namespace Go.Proofs.Ytjaplnainlbldaa
open Go.RowKit

end Go.Proofs.Ytjaplnainlbldaa

/- The contract of the document's Sign, of layer 6. -/
namespace Go.Proofs.Ytjaplnainlbldaa
open Go.RowKit

end Go.Proofs.Ytjaplnainlbldaa

/- The document's Get of a role and of a name, of a tape in whatever state; what follows for a credential. -/
namespace Go.Proofs.Ytjaplnainlbldaa
open Go.RowKit

end Go.Proofs.Ytjaplnainlbldaa

/- The contract of the document's Get of layer 5. -/
namespace Go.Proofs.Ytjaplnainlbldaa
open Go.RowKit

end Go.Proofs.Ytjaplnainlbldaa

/- The contract of the document's Get, of layer 6. -/
namespace Go.Proofs.Ytjaplnainlbldaa
open Go.RowKit

end Go.Proofs.Ytjaplnainlbldaa

/- The contract of the document's Get, of layer 9. -/
namespace Go.Proofs.Ytjaplnainlbldaa
open Go.RowKit

end Go.Proofs.Ytjaplnainlbldaa

/- '==' and '!=' at steps whose cells are told. -/
namespace Go.Proofs.Ytjaplnainlbldaa
open Go.RowKit

def eqK (a b : StepB) : Bool := decide (a = b)
theorem eqK_iff (a b : StepB) : eqK a b = decide (a.c.kind = b.c.kind ∧ a.c.head.1 = b.c.head.1 ∧ a.c.head.2 = b.c.head.2 ∧ a.c.who = b.c.who ∧ a.c.b.1 = b.c.b.1 ∧ a.c.b.2 = b.c.b.2 ∧ a.c.c.1 = b.c.c.1 ∧ a.c.c.2 = b.c.c.2 ∧ a.c.w2 = b.c.w2 ∧ a.f.1.1 = b.f.1.1 ∧ a.f.1.2 = b.f.1.2 ∧ a.f.2 = b.f.2) := by
 unfold eqK
 apply decide_eq_decide.2
 obtain ⟨⟨k, ⟨h1, h2⟩, w1, ⟨b1, b2⟩, ⟨c1, c2⟩, w2⟩, ⟨⟨f1, f2⟩, f3⟩⟩ := a
 obtain ⟨⟨k', ⟨h1', h2'⟩, w1', ⟨b1', b2'⟩, ⟨c1', c2'⟩, w2'⟩, ⟨⟨f1', f2'⟩, f3'⟩⟩ := b
 simp [and_assoc]

set_option maxRecDepth 100000 in
set_option maxHeartbeats 4000000 in
theorem run_neqgK (x y : Operand) (a b : StepB) (w : World) : Sem.run Try.prog (eqGuard BinOp.neq 43 x y (.agg #[.int .i64 a.c.kind, .string ⟨a.c.head.1.toArray⟩, .string ⟨a.c.head.2.toArray⟩, .string ⟨a.c.who.toArray⟩, .string ⟨a.c.b.1.toArray⟩, .string ⟨a.c.b.2.toArray⟩, .string ⟨a.c.c.1.toArray⟩, .string ⟨a.c.c.2.toArray⟩, .string ⟨a.c.w2.toArray⟩, .string ⟨a.f.1.1.toArray⟩, .string ⟨a.f.1.2.toArray⟩, .string ⟨a.f.2.toArray⟩]) (.agg #[.int .i64 b.c.kind, .string ⟨b.c.head.1.toArray⟩, .string ⟨b.c.head.2.toArray⟩, .string ⟨b.c.who.toArray⟩, .string ⟨b.c.b.1.toArray⟩, .string ⟨b.c.b.2.toArray⟩, .string ⟨b.c.c.1.toArray⟩, .string ⟨b.c.c.2.toArray⟩, .string ⟨b.c.w2.toArray⟩, .string ⟨b.f.1.1.toArray⟩, .string ⟨b.f.1.2.toArray⟩, .string ⟨b.f.2.toArray⟩])) w = .ok () w := by
 go_simp
set_option maxRecDepth 100000 in
set_option maxHeartbeats 4000000 in
theorem run_neqK (a b : StepB) (w : World) : Sem.run Try.prog (binOp BinOp.neq 43 (.agg #[.int .i64 a.c.kind, .string ⟨a.c.head.1.toArray⟩, .string ⟨a.c.head.2.toArray⟩, .string ⟨a.c.who.toArray⟩, .string ⟨a.c.b.1.toArray⟩, .string ⟨a.c.b.2.toArray⟩, .string ⟨a.c.c.1.toArray⟩, .string ⟨a.c.c.2.toArray⟩, .string ⟨a.c.w2.toArray⟩, .string ⟨a.f.1.1.toArray⟩, .string ⟨a.f.1.2.toArray⟩, .string ⟨a.f.2.toArray⟩]) (.agg #[.int .i64 b.c.kind, .string ⟨b.c.head.1.toArray⟩, .string ⟨b.c.head.2.toArray⟩, .string ⟨b.c.who.toArray⟩, .string ⟨b.c.b.1.toArray⟩, .string ⟨b.c.b.2.toArray⟩, .string ⟨b.c.c.1.toArray⟩, .string ⟨b.c.c.2.toArray⟩, .string ⟨b.c.w2.toArray⟩, .string ⟨b.f.1.1.toArray⟩, .string ⟨b.f.1.2.toArray⟩, .string ⟨b.f.2.toArray⟩])) w = .ok (.bool (!eqK a b)) w := by
 rw [eqK_iff]
 go_simp
 by_cases h0 : a.c.kind = b.c.kind
 rotate_left
 ·simp [h0]
 simp only [h0, if_true, decide_true, Bool.not_true, Bool.false_or]
 by_cases h1 : a.c.head.1 = b.c.head.1
 rotate_left
 ·simp [h1]
 simp only [h1, if_true, decide_true, Bool.not_true, Bool.false_or]
 by_cases h2 : a.c.head.2 = b.c.head.2
 rotate_left
 ·simp [h2]
 simp only [h2, if_true, decide_true, Bool.not_true, Bool.false_or]
 by_cases h3 : a.c.who = b.c.who
 rotate_left
 ·simp [h3]
 simp only [h3, if_true, decide_true, Bool.not_true, Bool.false_or]
 by_cases h4 : a.c.b.1 = b.c.b.1
 rotate_left
 ·simp [h4]
 simp only [h4, if_true, decide_true, Bool.not_true, Bool.false_or]
 by_cases h5 : a.c.b.2 = b.c.b.2
 rotate_left
 ·simp [h5]
 simp only [h5, if_true, decide_true, Bool.not_true, Bool.false_or]
 by_cases h6 : a.c.c.1 = b.c.c.1
 rotate_left
 ·simp [h6]
 simp only [h6, if_true, decide_true, Bool.not_true, Bool.false_or]
 by_cases h7 : a.c.c.2 = b.c.c.2
 rotate_left
 ·simp [h7]
 simp only [h7, if_true, decide_true, Bool.not_true, Bool.false_or]
 by_cases h8 : a.c.w2 = b.c.w2
 rotate_left
 ·simp [h8]
 simp only [h8, if_true, decide_true, Bool.not_true, Bool.false_or]
 by_cases h9 : a.f.1.1 = b.f.1.1
 rotate_left
 ·simp [h9]
 simp only [h9, if_true, decide_true, Bool.not_true, Bool.false_or]
 by_cases h10 : a.f.1.2 = b.f.1.2
 rotate_left
 ·simp [h10]
 simp only [h10, if_true, decide_true, Bool.not_true, Bool.false_or]
 by_cases h11 : a.f.2 = b.f.2 <;> simp [h11]
end Go.Proofs.Ytjaplnainlbldaa
