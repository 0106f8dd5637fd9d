/- Is there a step all of whose ways take a place? -/
import Derived.Test.YtjaplnainlbldaaSc32
namespace Go.Proofs.Ytjaplnainlbldaa
open Go.RowKit

set_option maxRecDepth 100000 in
set_option maxHeartbeats 4000000 in
theorem ch_needs {T : Nat → Option PTag} (g n : Nat) (kp : KeptB) (i : Nat) (w0 : World) (h : PS T w0 g n kp) (hi : i < n) (_ : n ≤ 33554432) (hky : ∀ y ∈ kp.K.getD i [], y < n) (hkl : (kp.K.getD i []).length ≤ 33554432) (hwl : ∀ y, (kp.W.getD y []).length ≤ 33554432) :
    Calls Try.prog 78 #[.pointer (some ⟨g, 0, none⟩), .int .i64 (i : Nat)] w0 fun e w' => e = .returned (.bool (needsK kp i)) ∧ Chg (fun _ => False) w0 w' := by
  have hc1 : Chg (fun _ => False) w0 (w0.alloc (.cells #[.int .i64 (i : Nat)] 3)) := (Chg.refl _ w0).alloc _
  have hbA : (w0.alloc (.cells #[.int .i64 (i : Nat)] 3)).heap[w0.heap.size]? = some (.cells #[.int .i64 (i : Nat)] 3 (0, 0)) := heap_alloc_new w0 _
  have hA0 := cell_blk hbA 0
  simp only [List.getElem?_toArray, List.getElem?_cons_zero] at hA0
  have hTA : T w0.heap.size = none := by
    cases e : T w0.heap.size with
    | none => rfl
    | some y => have := h.lo _ (by rw [e]; simp); omega
  have hps := h.quiet hc1
  obtain ⟨⟨bw, bk, VW, VK, hp⟩, hlo, hlw, hlk⟩ := hps
  obtain ⟨q1, q2⟩ := hp.isK i hi
  obtain ⟨ps, hps⟩ : ∃ ps, ps = kp.K.getD i [] := ⟨_, rfl⟩
  rw [← hps] at q1
  obtain ⟨ao, cap, hu⟩ := q1.shape
  obtain ⟨m, hm⟩ : ∃ m, m = ps.length := ⟨_, rfl⟩
  rw [← hm] at hu
  have HX := hid (And.intro (show (w0.alloc (.cells #[.int .i64 (i : Nat)] 3)).cell? ⟨g, 1, none⟩ = some (.slice (some ⟨bk, 0, none⟩) n n) from cell_blk hp.blk 1) (And.intro hA0 (And.intro (show (w0.alloc (.cells #[.int .i64 (i : Nat)] 3)).cell? ⟨bk, i, none⟩ = some (.slice ao m cap) by rw [← hu]; exact hp.rk_.cell hi) hi)))
  rw [hu] at q1 q2
  have HPS := hid hps
  have HM := hid hm.symm
  have HML : Hid (m ≤ 33554432) := hid (by rw [hm, hps]; exact hkl)
  have HKY : Hid (∀ y ∈ ps, y < n) := hid (by rw [hps]; exact hky)
  have HQ1 := hid q1
  have HQ2 := hid q2
  have HP := hid hp
  have HWL := hid hwl
  have HC1 := hid hc1
  clear h hky hkl hwl hc1 hbA hA0 hTA hlo hlw hlk hp q1 q2 hps hm hu
  go_enter Try.func78, Try.ntmps78
  go_wp2_with fail
  generalize (w0.alloc (.cells #[.int .i64 (i : Nat)] 3)) = w1 at *
  generalize w0.heap.size = A at *
  refine wp_region_specs [.eq (.pointer (some ⟨g, 0, none⟩)), .any, .any, .eq (.pointer (some ⟨A, 0, none⟩)), .any, .any, .any, .eq (.pointer (some ⟨g, 0, none⟩)), .eq (.pointer (some ⟨g, 0, none⟩)), .eq (.pointer (some ⟨g, 1, none⟩)), .eq (.slice (some ⟨bk, 0, none⟩) n n), .eq (.int .i64 (i : Nat)), .eq (.pointer (some ⟨bk, i, none⟩)), .eq (.slice ao m cap), .eq (.int .i64 m), .eq (.int .i64 0), .any, .any, .any, .any, .any, .any, .any, .any, .any, .any, .any, .any, .any, .any] [7, 8, 9, 10, 11, 12, 13, 14, 15] [0, 3] (by kernel_rfl) (by kernel_rfl) (by rfl) (by kernel_rfl) ?start1 ?obs1 ?fin1
  case start1 =>
    simp only [List.forall_mem_cons]; exact ⟨⟨_, rfl, rfl⟩, ⟨_, rfl, rfl⟩, fun _ h => by cases h⟩
  case obs1 =>
    clear HPS HM HML HKY HQ1 HQ2 HC1 HP HWL
    refine Obs.cons none (by kernel_rfl) ?_ ?_
    · refine Ob.plain fun a w hR hk K k => ?_
      obtain ⟨_, e0, f0⟩ := hk 0 (by decide)
      clear hk
      go_simp
      exact k _ _ (Chg.refl _ _) f0
    refine Obs.cons none (by kernel_rfl) ?_ ?_
    · refine Ob.plain fun a w hR hk K k => ?_
      obtain ⟨_, e7, rfl⟩ := hk 7 (by decide)
      clear hk
      go_simp
      exact k _ _ (Chg.refl _ _) rfl
    refine Obs.cons none (by kernel_rfl) ?_ ?_
    · refine Ob.plain fun a w hR hk K k => ?_
      obtain ⟨_, e8, rfl⟩ := hk 8 (by decide)
      clear hk
      go_simp
      exact k _ _ (Chg.refl _ _) rfl
    refine Obs.cons none (by kernel_rfl) ?_ ?_
    · refine Ob.plain fun a w hR hk K k => ?_
      obtain ⟨_, e9, rfl⟩ := hk 9 (by decide)
      clear hk
      have zz := hR.cell HX.out.1 id
      go_simp
      exact k _ _ (Chg.refl _ _) rfl
    refine Obs.cons none (by kernel_rfl) ?_ ?_
    · refine Ob.plain fun a w hR hk K k => ?_
      obtain ⟨_, e3, rfl⟩ := hk 3 (by decide)
      clear hk
      have zz := hR.cell HX.out.2.1 id
      go_simp
      exact k _ _ (Chg.refl _ _) rfl
    refine Obs.cons none (by kernel_rfl) ?_ ?_
    · refine Ob.plain fun a w hR hk K k => ?_
      obtain ⟨_, e10, rfl⟩ := hk 10 (by decide)
      obtain ⟨_, e11, rfl⟩ := hk 11 (by decide)
      clear hk
      have hlt := HX.out.2.2.2
      go_simp
      exact k _ _ (Chg.refl _ _) rfl
    refine Obs.cons none (by kernel_rfl) ?_ ?_
    · refine Ob.plain fun a w hR hk K k => ?_
      obtain ⟨_, e12, rfl⟩ := hk 12 (by decide)
      clear hk
      have zz := hR.cell HX.out.2.2.1 id
      go_simp
      exact k _ _ (Chg.refl _ _) rfl
    refine Obs.cons none (by kernel_rfl) ?_ ?_
    · refine Ob.plain fun a w hR hk K k => ?_
      obtain ⟨_, e13, rfl⟩ := hk 13 (by decide)
      clear hk
      go_simp
      exact k _ _ (Chg.refl _ _) rfl
    refine Obs.cons none (by kernel_rfl) ?_ ?_
    · refine Ob.plain fun a w hR hk K k => ?_
      clear hk
      go_simp
      exact k _ _ (Chg.refl _ _) rfl
    exact Obs.nil
  case fin1 =>
    intro vals w9 hc9 hv
    have h13 : vals 13 = .slice ao m cap := hv 13 (by decide)
    have h14 : vals 14 = .int .i64 m := hv 14 (by decide)
    have h15 : vals 15 = .int .i64 0 := hv 15 (by decide)
    simp only [putAll, List.setIfInBounds_toArray, List.set_cons_zero, List.set_cons_succ, h13, h14, h15]
    have HC9 := hid (HC1.out.trans hc9 (fun _ _ h => h))
    have HP9 := hid (HP.out.keep hc9 (fun _ _ => id))
    have HA9 := hid (hc9.cell HX.out.2.1 id)
    have HQ9 := hid (HQ1.out.keep hc9 (fun _ _ => id))
    have hml := HML.out
    clear hc9 hv h13 h14 h15 HX HC1 HP HQ1 HML
    go_wp2
    go_loopw [15] (fun s wr => ∃ j : Nat, j ≤ m ∧ s = .int .i64 j ∧ Hid (∀ y ∈ ps.take j, (kp.W.getD y []).all (takesW i) = false) ∧ Hid (Chg (fun _ => False) w9 wr)) (fun s _ => m - (intOf s).toNat)
    case atStart => exact ⟨0, Nat.zero_le _, rfl, hid (fun y hy => by simp at hy), hid (Chg.refl _ _)⟩
    case round =>
      obtain ⟨jj, hjj, rfl, hno, hch⟩ := hrel
      by_cases hlt : jj < m
      · have hjp : jj < ps.length := by rw [HM.out]; exact hlt
        obtain ⟨b, hao, p1, _⟩ := (HQ9.out.keep hch.out (fun _ _ => id)).cells hjp
        have hyn := HKY.out _ (List.getElem_mem hjp)
        have HTK := hid (List.take_succ_eq_append_getElem hjp)
        have HMEM := hid (List.getElem_mem hjp)
        generalize ps[jj] = y at *
        have hpr := HP9.out.keep hch.out (fun _ _ => id)
        have z0 := cell_blk hpr.blk 0
        have z1 := hpr.rw_.cell hyn
        have z2 := hch.out.cell HA9.out id
        simp only [List.getElem?_toArray, List.getElem?_cons_zero] at z0
        obtain ⟨r1, r2⟩ := hpr.isW y hyn
        obtain ⟨ao2, cap2, hu2, hst⟩ := r1.ways
        have hq := ch_containsFunc (P := fun _ => False) 109 #[.pointer (some ⟨A, 0, none⟩)] (fun x => !takesW i x) ao2 cap2 (kp.W.getD y []) wr (HWL.out y) hst (enters Try.func109 (by kernel_rfl) (by kernel_rfl)) (takes_not i A wr z2 id)
        rw [← hu2] at hq
        have HQ := hid hq
        have HCH := hid hch.out
        have HANY : Hid ((kp.W.getD y []).any (fun x => !takesW i x) = !(kp.W.getD y []).all (takesW i)) := hid (by
          induction kp.W.getD y [] with
          | nil => rfl
          | cons x l ih => simp only [List.any_cons, List.all_cons, ih, Bool.not_and])
        subst hao
        clear hpr r1 r2 hst hq hjp hch hu2
        generalize VW y = vy at *
        go_wp2_with fail
        refine HQ.out.mono ?_
        rintro e w5 ⟨rfl, hc5⟩
        rw [HANY.out]
        have HC5 := hid (HCH.out.trans hc5 (fun _ _ h => h))
        clear hc5 HQ HCH HANY p1 z0 z1 z2
        cases ha : (kp.W.getD y []).all (takesW i) with
        | true =>
          have HRES : Hid (needsK kp i = true ∧ Chg (fun _ => False) w0 w5) := hid ⟨List.any_eq_true.2 ⟨y, by rw [← HPS.out]; exact HMEM.out, ha⟩, HC9.out.trans HC5.out (fun _ _ h => h)⟩
          clear ha HTK HMEM hno
          go_wp2
          go_ret
          exact ⟨by rw [HRES.out.1]; rfl, HRES.out.2⟩
        | false =>
          have HNO : Hid (∀ y ∈ ps.take (jj + 1), (kp.W.getD y []).all (takesW i) = false) := hid (fun z hz => by
            rw [HTK.out] at hz
            rcases List.mem_append.1 hz with hz | hz
            · exact hno.out z hz
            · rw [List.mem_singleton] at hz; rw [hz]; exact ha)
          clear ha HTK HMEM hno
          go_wp2
          go_roundw
          case rel => exact ⟨jj + 1, by omega, by go_num, HNO, HC5⟩
          case measure => simp [intOf]; omega
      · have hj2 : jj = m := by omega
        have HRES : Hid (needsK kp i = false ∧ Chg (fun _ => False) w0 wr) := hid ⟨by
          unfold needsK
          rw [← HPS.out, List.any_eq_false]
          intro y hy
          have := hno.out y (by rw [hj2, ← HM.out, List.take_length]; exact hy)
          rw [this]
          decide, HC9.out.trans hch.out (fun _ _ h => h)⟩
        clear hno hch hj2
        go_wp2
        go_ret
        exact ⟨by rw [HRES.out.1]; rfl, HRES.out.2⟩
end Go.Proofs.Ytjaplnainlbldaa
