/- Texts that the proof leans on, in one: RefKStands, RefCredGreat, RefCredHas. -/
import Derived.Test.YtmmkopdcbiiedaaKb13
import Derived.Test.YtmmkopdcbiiedaaKb4
import Derived.Test.YtmmkopdcbiiedaaProg
import Derived.Test.YtmmkopdcbiiedaaChecked
import Derived.Deep.QuietTactic
import Derived.BigQuiet
/- The contract of the document's stands, of layer 9. -/
namespace Go.Proofs.Ytmmkopdcbiiedaa
open Go.RowKit

/-- Does each step follow those ahead? -/
def standsK (ls : List StepB) : Bool := decide (∀ i (h : i < ls.length), followsK ls[i] (factsK (ls.take i)) = true)

def Spec.factsK (xs : List FactB) : Spec := ⟨fun v w => ∃ ao cap, v = .slice ao xs.length cap ∧ FactsAt (fun _ => True) w ao xs, fun _ _ _ hc ⟨a, c, h1, h2⟩ => ⟨a, c, h1, h2.keep hc (fun _ _ => id)⟩⟩

theorem steps_short {D : Nat → Prop} {w : World} {ao : Option Addr} {ls : List StepB} (h : StepsAt D w ao ls) : ∀ s ∈ ls, stepShort s 9223372036854775807 := fun s hs => by
  obtain ⟨i, hi, rfl⟩ := List.getElem_of_mem hs
  obtain ⟨_, _, _, _, _, h4⟩ := h i hi
  exact h4

theorem facts_short {ls : List StepB} (h : ∀ s ∈ ls, stepShort s 9223372036854775807) (k : Nat) : ∀ f ∈ factsK (ls.take k), f.2.length ≤ 9223372036854775807 := fun f hf => by
  unfold factsK at hf
  obtain ⟨s, hs, rfl⟩ := List.mem_map.1 hf
  exact (h s (List.mem_of_mem_take hs)).2.2.2

set_option maxRecDepth 100000 in
set_option maxHeartbeats 4000000 in
theorem rkstands {D : Nat → Prop} (ao : Option Addr) (cp : Nat) (ls : List StepB) (w : World) (hn : ls.length ≤ 1048576) (hcp : ls.length ≤ cp) (hcp2 : cp ≤ 9223372036854775807) (h : StepsAt D w ao ls) :
    Calls Try.prog 40 #[.slice ao ls.length cp] w fun e w' => e = .returned (.bool (standsK ls)) ∧ Chg (fun _ => False) w w' := by
  have HX := hid h
  have HSH := hid (steps_short h)
  clear h
  go_enter Try.func40, Try.ntmps40
  go_wp2
  go_loopw [7] (fun i wr => ∃ k : Nat, k ≤ ls.length ∧ i = .int .i64 k ∧ Hid (∀ i (h : i < ls.length), i < k → followsK ls[i] (factsK (ls.take i)) = true) ∧ Hid (Chg (fun _ => False) w wr)) (fun i _ => ls.length - (intOf i).toNat)
  case atStart => exact ⟨0, Nat.zero_le _, rfl, hid (fun i _ h => absurd h (by omega)), hid (Chg.refl _ _)⟩
  case round =>
    obtain ⟨k, hk, rfl, hup, hc⟩ := hrel
    by_cases hlt : k < ls.length
    · obtain ⟨b, off, hao, _, ⟨⟨a0, a1, a2, a3, a4, a5, a6, a7, a8⟩, ⟨b0, b1, b2⟩⟩, hss⟩ := (HX.out.keep hc.out (fun _ _ => id)) k hlt
      have HSTEP : Hid ((followsK ls[k] (factsK (ls.take k)) = true → ∀ i (h : i < ls.length), i < k + 1 → followsK ls[i] (factsK (ls.take i)) = true) ∧ (followsK ls[k] (factsK (ls.take k)) = false → standsK ls = false)) := hid ⟨fun hf i hi hik => by
        by_cases e : i = k
        · subst e; exact hf
        · exact hup.out i hi (by omega), fun hf => decide_eq_false (fun hall => by have := hall k hlt; rw [hf] at this; cases this)⟩
      have HKL : Hid (k < ls.length ∧ ls.length ≤ cp) := hid ⟨hlt, hcp⟩
      generalize ls[k] = s at *
      change wr.cell? ⟨b, off + k * 12 + 10, none⟩ = _ at b1
      change wr.cell? ⟨b, off + k * 12 + 11, none⟩ = _ at b2
      have hSb : (wr.alloc (.cells #[.int .i64 s.c.kind, .string ⟨s.c.head.1.toArray⟩, .string ⟨s.c.head.2.toArray⟩, .string ⟨s.c.who.toArray⟩, .string ⟨s.c.b.1.toArray⟩, .string ⟨s.c.b.2.toArray⟩, .string ⟨s.c.c.1.toArray⟩, .string ⟨s.c.c.2.toArray⟩, .string ⟨s.c.w2.toArray⟩, .string ⟨s.f.1.1.toArray⟩, .string ⟨s.f.1.2.toArray⟩, .string ⟨s.f.2.toArray⟩] 34)).heap[wr.heap.size]? = some (.cells (stepBox s) 34 (0, 0)) := heap_alloc_new wr _
      have hcA : Chg (fun _ => False) wr (wr.alloc (.cells #[.int .i64 s.c.kind, .string ⟨s.c.head.1.toArray⟩, .string ⟨s.c.head.2.toArray⟩, .string ⟨s.c.who.toArray⟩, .string ⟨s.c.b.1.toArray⟩, .string ⟨s.c.b.2.toArray⟩, .string ⟨s.c.c.1.toArray⟩, .string ⟨s.c.c.2.toArray⟩, .string ⟨s.c.w2.toArray⟩, .string ⟨s.f.1.1.toArray⟩, .string ⟨s.f.1.2.toArray⟩, .string ⟨s.f.2.toArray⟩] 34)) := (Chg.refl _ wr).alloc _
      have HT : Hid ((wr.alloc (.cells #[.int .i64 s.c.kind, .string ⟨s.c.head.1.toArray⟩, .string ⟨s.c.head.2.toArray⟩, .string ⟨s.c.who.toArray⟩, .string ⟨s.c.b.1.toArray⟩, .string ⟨s.c.b.2.toArray⟩, .string ⟨s.c.c.1.toArray⟩, .string ⟨s.c.c.2.toArray⟩, .string ⟨s.c.w2.toArray⟩, .string ⟨s.f.1.1.toArray⟩, .string ⟨s.f.1.2.toArray⟩, .string ⟨s.f.2.toArray⟩] 34)).heap[wr.heap.size]? = some (.cells (stepBox s) 34 (0, 0)) ∧ StepsAt D (wr.alloc (.cells #[.int .i64 s.c.kind, .string ⟨s.c.head.1.toArray⟩, .string ⟨s.c.head.2.toArray⟩, .string ⟨s.c.who.toArray⟩, .string ⟨s.c.b.1.toArray⟩, .string ⟨s.c.b.2.toArray⟩, .string ⟨s.c.c.1.toArray⟩, .string ⟨s.c.c.2.toArray⟩, .string ⟨s.c.w2.toArray⟩, .string ⟨s.f.1.1.toArray⟩, .string ⟨s.f.1.2.toArray⟩, .string ⟨s.f.2.toArray⟩] 34)) ao ls ∧ stepShort s 9223372036854775807) := hid ⟨hSb, HX.out.keep (hc.out.trans hcA (fun _ _ h => h)) (fun _ _ => id), hss⟩
      have HC2 := hid (hc.out.trans hcA (fun _ _ h => h))
      obtain ⟨fs, hfs⟩ : ∃ fs, fs = factsK (ls.take k) := ⟨_, rfl⟩
      have HFS : Hid (factsK (ls.take k) = fs ∧ fs.length ≤ 1048576 ∧ ∀ f ∈ fs, f.2.length ≤ 9223372036854775807) := hid ⟨hfs.symm, by rw [hfs, factsK_len, List.length_take]; omega, by rw [hfs]; exact facts_short HSH.out k⟩
      rw [← hfs] at HSTEP
      clear hSb hcA hc hss hup hfs
      subst hao
      go_wp2_with fail
      clear a0 a1 a2 a3 a4 a5 a6 a7 a8 b0 b1 b2
      generalize (wr.alloc (.cells #[.int .i64 s.c.kind, .string ⟨s.c.head.1.toArray⟩, .string ⟨s.c.head.2.toArray⟩, .string ⟨s.c.who.toArray⟩, .string ⟨s.c.b.1.toArray⟩, .string ⟨s.c.b.2.toArray⟩, .string ⟨s.c.c.1.toArray⟩, .string ⟨s.c.c.2.toArray⟩, .string ⟨s.c.w2.toArray⟩, .string ⟨s.f.1.1.toArray⟩, .string ⟨s.f.1.2.toArray⟩, .string ⟨s.f.2.toArray⟩] 34)) = w3 at *
      generalize wr.heap.size = X at *
      refine wp_region_specs ([.eq (.slice (some ⟨b, off, none⟩) ls.length cp), .any, .any, .eq (.int .i64 k), .eq (.pointer (some ⟨X, 0, none⟩)), .any, .any, .any, .any, .any, .any, .any, .eq (.agg #[.int .i64 s.c.kind, .string ⟨s.c.head.1.toArray⟩, .string ⟨s.c.head.2.toArray⟩, .string ⟨s.c.who.toArray⟩, .string ⟨s.c.b.1.toArray⟩, .string ⟨s.c.b.2.toArray⟩, .string ⟨s.c.c.1.toArray⟩, .string ⟨s.c.c.2.toArray⟩, .string ⟨s.c.w2.toArray⟩, .string ⟨s.f.1.1.toArray⟩, .string ⟨s.f.1.2.toArray⟩, .string ⟨s.f.2.toArray⟩]), .eq (.slice (some ⟨b, off, none⟩) ls.length cp), .eq (.int .i64 k), .eq (.slice (some ⟨b, off, none⟩) k cp), .factsK fs, .eq (.bool (followsK s fs)), .eq (.bool (!followsK s fs)), .any] : List Spec) [12, 13, 14, 15, 16, 17, 18] [0, 3, 4] (by kernel_rfl) (by kernel_rfl) (by rfl) (by kernel_rfl) ?start ?obs ?fin
      case start =>
        simp only [List.forall_mem_cons]; exact ⟨⟨_, rfl, rfl⟩, ⟨_, rfl, rfl⟩, ⟨_, rfl, rfl⟩, fun _ h => by cases h⟩
      case obs =>
        refine Obs.cons none (by kernel_rfl) ?_ ?_
        · refine Ob.plain fun a w hR hk K k9 => ?_
          obtain ⟨_, e4, rfl⟩ := hk 4 (by decide)
          clear hk
          obtain ⟨⟨a0, a1, a2, a3, a4, a5, a6, a7, a8⟩, ⟨b0, b1, b2⟩⟩ := step_at_blk (blk_keep HT.out.1 hR id)
          simp only [Nat.zero_add] at a0 a1 a2 a3 a4 a5 a6 a7 a8 b0 b1 b2
          go_simp
          exact k9 _ _ (Chg.refl _ _) rfl
        refine Obs.cons none (by kernel_rfl) ?_ ?_
        · refine Ob.plain fun a w hR hk K k9 => ?_
          obtain ⟨_, e0, f0⟩ := hk 0 (by decide)
          clear hk
          go_simp
          exact k9 _ _ (Chg.refl _ _) f0
        refine Obs.cons none (by kernel_rfl) ?_ ?_
        · refine Ob.plain fun a w hR hk K k9 => ?_
          obtain ⟨_, e3, f3⟩ := hk 3 (by decide)
          clear hk
          go_simp
          exact k9 _ _ (Chg.refl _ _) f3
        refine Obs.cons none (by kernel_rfl) ?_ ?_
        · refine Ob.plain fun a w hR hk K k9 => ?_
          obtain ⟨_, e13, rfl⟩ := hk 13 (by decide)
          obtain ⟨_, e14, rfl⟩ := hk 14 (by decide)
          clear hk
          have hk3 : k ≤ cp := Nat.le_trans (Nat.le_of_lt HKL.out.1) HKL.out.2
          go_simp
          exact k9 _ _ (Chg.refl _ _) rfl
        refine Obs.cons none (by kernel_rfl) ?_ ?_
        · refine Ob.plain fun a w hR hk K k9 => ?_
          obtain ⟨_, e15, rfl⟩ := hk 15 (by decide)
          clear hk
          have hq := rkfacts (some ⟨b, off, none⟩) cp (ls.take k) w (by rw [List.length_take]; omega) ((HT.out.2.1.keep hR (fun _ _ => id)).take k)
          rw [List.length_take, Nat.min_eq_left (Nat.le_of_lt HKL.out.1), HFS.out.1] at hq
          go_simp
          refine hq.mono ?_
          rintro e w2 ⟨a9, c9, rfl, hown, hc⟩
          obtain ⟨a8, c8, hv8, hst8, _⟩ := hown.facts
          cases hv8
          exact k9 _ _ hc ⟨_, _, rfl, hst8.mono (fun _ _ => trivial)⟩
        refine Obs.cons none (by kernel_rfl) ?_ ?_
        · refine Ob.plain fun a w hR hk K k9 => ?_
          obtain ⟨_, e12, rfl⟩ := hk 12 (by decide)
          obtain ⟨_, e16, f16⟩ := hk 16 (by decide)
          clear hk
          obtain ⟨af, cf, rfl, hfa⟩ := f16
          have hq := rkfollows af cf s fs w HFS.out.2.1 HT.out.2.2 HFS.out.2.2 hfa
          go_simp
          refine hq.mono ?_
          rintro e w2 ⟨rfl, hc⟩
          exact k9 _ _ hc rfl
        refine Obs.cons none (by kernel_rfl) ?_ ?_
        · refine Ob.plain fun a w hR hk K k9 => ?_
          obtain ⟨_, e17, rfl⟩ := hk 17 (by decide)
          clear hk
          go_simp
          exact k9 _ _ (Chg.refl _ _) rfl
        exact Obs.nil
      case fin =>
        intro vals w9 hc9 hv
        have h18 : vals 18 = .bool (!followsK s fs) := hv 18 (by decide)
        have HC9 := hid (HC2.out.trans hc9 (fun _ _ h => h))
        simp only [putAll, List.setIfInBounds_toArray, List.set_cons_zero, List.set_cons_succ, h18]
        clear hv h18 hc9
        cases hf : followsK s fs with
        | true =>
          have HUP := hid (HSTEP.out.1 hf)
          clear hf
          go_wp2
          go_roundw
          case rel => exact ⟨k + 1, by have := HKL.out.1; omega, by go_num, HUP, HC9⟩
          case measure => have := HKL.out.1; simp [intOf]; omega
        | false =>
          have HRES := hid (HSTEP.out.2 hf)
          clear hf
          go_wp2
          go_ret
          exact ⟨by rw [HRES.out]; rfl, HC9.out⟩
    · have hk2 : k = ls.length := by omega
      have HRES : Hid (standsK ls = true) := hid (decide_eq_true (fun i hi => hup.out i hi (by omega)))
      clear hup
      go_wp2
      go_ret
      exact ⟨by rw [HRES.out]; rfl, hc.out⟩
end Go.Proofs.Ytmmkopdcbiiedaa

/- How great credentials are: the contract of the law's Great. -/
namespace Go.Proofs.Ytmmkopdcbiiedaa
open Go.RowKit

/-- How great credentials are. -/
def sizeC (c : CredB) : Nat := 20 + c.head.1.length + c.head.2.length + c.who.length + c.b.1.length + c.b.2.length + c.c.1.length + c.c.2.length + c.w2.length
def totalC : List CredB → Nat
  | [] => 0
  | c :: l => sizeC c + totalC l

theorem totalC_append (a b : List CredB) : totalC (a ++ b) = totalC a + totalC b := by
  induction a with
  | nil => simp [totalC]
  | cons x l ih => rw [List.cons_append, totalC, totalC, ih]; omega

theorem totalC_len (a : List CredB) : a.length ≤ totalC a := by
  induction a with
  | nil => simp [totalC]
  | cons x l ih => rw [totalC, List.length_cons, sizeC]; omega

theorem totalC_take (ls : List CredB) (k : Nat) (h : k < ls.length) : totalC (ls.take (k + 1)) = totalC (ls.take k) + sizeC ls[k] := by
  rw [List.take_succ_eq_append_getElem h, totalC_append]; simp [totalC]

theorem totalC_take_le (ls : List CredB) (k : Nat) : totalC (ls.take k) ≤ totalC ls := by
  conv => rhs; rw [← List.take_append_drop k ls]
  rw [totalC_append]; omega

set_option maxRecDepth 100000 in
set_option maxHeartbeats 2000000 in
theorem great_any {D : Nat → Prop} (ao : Option Addr) (cp : Nat) (ls : List CredB) (w : World) (hn : totalC ls ≤ 4503599627370496) (h : CredsAt D w ao ls) :
    Calls Try.prog 9 #[.slice ao ls.length cp] w fun e w' => e = .returned (.int .i64 (totalC ls)) ∧ Chg (fun _ => False) w w' := by
  have hl := totalC_len ls
  go_enter Try.func9, Try.ntmps9
  go_wp2
  go_loopw [3, 8] (fun n i wr => ∃ k m : Nat, k ≤ ls.length ∧ i = .int .i64 k ∧ n = .int .i64 m ∧ Hid (m = totalC (ls.take k)) ∧ m ≤ 4503599627370496 ∧ Chg (fun _ => False) w wr) (fun _ i _ => ls.length - (intOf i).toNat)
  case atStart => exact ⟨0, 0, Nat.zero_le _, rfl, rfl, rfl, by omega, Chg.refl _ _⟩
  case round =>
    obtain ⟨k, m, hk, rfl, rfl, hm, hml, hc⟩ := hrel
    by_cases hlt : k < ls.length
    · obtain ⟨b, off, rfl, _, hat, hs⟩ := (h.keep hc (fun _ _ => id)) k hlt
      have ht := totalC_take ls k hlt
      have hle := totalC_take_le ls (k + 1)
      rw [ht, ← hm.out] at hle
      have hx : Hid (m + sizeC ls[k] = totalC (ls.take (k + 1))) := hid (by rw [ht, hm.out])
      clear h ht
      have hsl2 : m + sizeC ls[k] ≤ 4503599627370496 := by omega
      clear hle
      generalize ls[k] = s at *
      obtain ⟨kk, ⟨ho, hw⟩, who, ⟨bo, bw⟩, ⟨co, cw⟩, w2⟩ := s
      obtain ⟨a0, a1, a2, a3, a4, a5, a6, a7, a8⟩ := hat
      obtain ⟨s1, s2, s3, s4, s5, s6, s7, s8⟩ := hs
      simp only [sizeC] at a0 a1 a2 a3 a4 a5 a6 a7 a8 s1 s2 s3 s4 s5 s6 s7 s8 hx hsl2
      have HC := hid hc
      clear hc
      go_wp2
      go_roundw
      case rel => exact ⟨k + 1, m + (20 + ho.length + hw.length + who.length + bo.length + bw.length + co.length + cw.length + w2.length), by omega, by go_num, by go_num, hx, hsl2, HC.out.alloc _⟩
      case measure => simp [intOf]; omega
    · have hk2 : k = ls.length := by omega
      have hx : m = totalC ls := by have := hm.out; rwa [List.take_of_length_le (by omega)] at this
      subst hx
      have HC := hid hc
      clear h hc
      go_wp2
      go_ret
      exact ⟨rfl, HC.out⟩

end Go.Proofs.Ytmmkopdcbiiedaa

/- The contract of the document's Has of layer 5. -/
namespace Go.Proofs.Ytmmkopdcbiiedaa
open Go.RowKit

set_option maxRecDepth 100000 in
set_option maxHeartbeats 2000000 in
theorem chas_ref {D : Nat → Prop} (ao : Option Addr) (cp : Nat) (ls : List CredB) (c : CredB) (w : World) (hn : ls.length ≤ 9223372036854775807) (h : CredsAt D w ao ls) :
    Calls Try.prog 37 #[.slice ao ls.length cp, credV c] w fun e w' => e = .returned (.bool (hasC ls c)) ∧ Chg (fun _ => False) w w' := by
  have hc : Chg (fun _ => False) w (w.alloc (.cells (credBox c) 32)) := (Chg.refl _ w).alloc _
  have hA := heap_alloc_new w (.cells (credBox c) 32)
  have h' := h.keep hc (fun _ _ => id)
  obtain ⟨k', ⟨ho', hw'⟩, who', ⟨bo', bw'⟩, ⟨co', cw'⟩, w2'⟩ := c
  show Calls Try.prog 37 #[.slice ao ls.length cp, .agg #[.int .i64 k', .string ⟨ho'.toArray⟩, .string ⟨hw'.toArray⟩, .string ⟨who'.toArray⟩, .string ⟨bo'.toArray⟩, .string ⟨bw'.toArray⟩, .string ⟨co'.toArray⟩, .string ⟨cw'.toArray⟩, .string ⟨w2'.toArray⟩]] w _
  simp only [credBox] at hc hA h'
  go_enter Try.func37, Try.ntmps37
  go_wp2
  generalize hw1 : w.alloc (.cells #[.int .i64 k', .string ⟨ho'.toArray⟩, .string ⟨hw'.toArray⟩, .string ⟨who'.toArray⟩, .string ⟨bo'.toArray⟩, .string ⟨bw'.toArray⟩, .string ⟨co'.toArray⟩, .string ⟨cw'.toArray⟩, .string ⟨w2'.toArray⟩] 32) = w1 at *
  generalize w.heap.size = A at *
  clear h hw1
  go_loopw [9] (fun i wr => ∃ k : Nat, k ≤ ls.length ∧ i = .int .i64 k ∧ Hid (hasC (ls.take k) ⟨k', (ho', hw'), who', (bo', bw'), (co', cw'), w2'⟩ = false) ∧ Chg (fun _ => False) w1 wr) (fun i _ => ls.length - (intOf i).toNat)
  case atStart => exact ⟨0, Nat.zero_le _, rfl, by rw [List.take_zero]; rfl, Chg.refl _ _⟩
  case round =>
    obtain ⟨k, hk, rfl, hf, hc1⟩ := hrel
    have hA1 := cred_at_blk (c := ⟨k', (ho', hw'), who', (bo', bw'), (co', cw'), w2'⟩) (blk_keep hA hc1 id)
    by_cases hlt : k < ls.length
    · obtain ⟨b, off, rfl, _, hat, _⟩ := (h'.keep hc1 (fun _ _ => id)) k hlt
      have HFT := hid (hasC_take ls _ k hlt hf.out)
      clear h'
      have hmem : Hid (ls[k] ∈ ls) := hid (List.getElem_mem hlt)
      generalize ls[k] = q at *
      by_cases e : q = ⟨k', (ho', hw'), who', (bo', bw'), (co', cw'), w2'⟩
      · subst e
        have hh : Hid (hasC ls ⟨k', (ho', hw'), who', (bo', bw'), (co', cw'), w2'⟩ = true) := hid (by simpa [hasC] using hmem.out)
        have hal : Chg (fun _ => False) wr (wr.alloc (.cells (credBox ⟨k', (ho', hw'), who', (bo', bw'), (co', cw'), w2'⟩) 32)) := (Chg.refl _ wr).alloc _
        have hA2 := hA1.keep hal id
        obtain ⟨a0, a1, a2, a3, a4, a5, a6, a7, a8⟩ := hat
        obtain ⟨b0, b1, b2, b3, b4, b5, b6, b7, b8⟩ := hA2
        simp only [Nat.zero_add, credBox] at b0 b1 b2 b3 b4 b5 b6 b7 b8 a0 a1 a2 a3 a4 a5 a6 a7 a8
        have HC := hid (hc.trans (hc1.trans hal (fun _ _ h => h)) (fun _ _ h => h))
        clear hc hc1 hA hA1 hal HFT hf
        go_wp2
        go_ret
        exact ⟨by rw [hh.out]; rfl, HC.out⟩
      · have hx := hid (HFT.out e)
        obtain ⟨k0, ⟨ho, hw⟩, who, ⟨bo, bw⟩, ⟨co, cw⟩, w2⟩ := q
        have hal : Chg (fun _ => False) wr (wr.alloc (.cells (credBox ⟨k0, (ho, hw), who, (bo, bw), (co, cw), w2⟩) 32)) := (Chg.refl _ wr).alloc _
        have hA2 := hA1.keep hal id
        obtain ⟨a0, a1, a2, a3, a4, a5, a6, a7, a8⟩ := hat
        obtain ⟨b0, b1, b2, b3, b4, b5, b6, b7, b8⟩ := hA2
        simp only [Nat.zero_add, credBox] at b0 b1 b2 b3 b4 b5 b6 b7 b8 a0 a1 a2 a3 a4 a5 a6 a7 a8
        have HC := hid hc1
        have HE := hid e
        clear hc hc1 hA hA1 hal HFT hf e hmem
        go_wp2
        all_goals first
          | (refine (HE.out ?_).elim; simp only [CredB.mk.injEq, Prod.mk.injEq]; refine ⟨?_, ⟨?_, ?_⟩, ?_, ⟨?_, ?_⟩, ⟨?_, ?_⟩, ?_⟩ <;> assumption)
          | (go_roundw <;> first | exact ⟨k + 1, by omega, by go_num, hx, HC.out.alloc _⟩ | (simp [intOf]; omega))
    · have hk2 : k = ls.length := by omega
      have hh : Hid (hasC ls ⟨k', (ho', hw'), who', (bo', bw'), (co', cw'), w2'⟩ = false) := by have := hf.out; rwa [List.take_of_length_le (by omega)] at this
      have HC := hid (hc.trans hc1 (fun _ _ h => h))
      clear h' hc hc1 hA hA1
      go_wp2
      go_ret
      exact ⟨by rw [hh.out]; rfl, HC.out⟩
end Go.Proofs.Ytmmkopdcbiiedaa
