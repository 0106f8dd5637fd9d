/- The document's reader of layer 12: one, and all of it. -/
import Derived.Test.YtojbhlbknjnioaaGreatDoorPt20
namespace Go.Proofs.YtojbhlbknjnioaaGreatDoor
open Go.RowKit

theorem own_zero (B : Nat) (w : World) : OwnA B w (.mk 0 0 ([], []) (.slice none 0 0) []) := by
  rw [ownA_eq]
  exact ⟨⟨by simp [AT.r], by simp [AT.r]⟩, World.ownsRow_nil _ _ _ _, trivial⟩
theorem own_atom (B : Nat) (w : World) (x : RoleB) (h1 : x.1.length ≤ 4096) (h2 : x.2.length ≤ 4096) : OwnA B w (.mk 1 0 x (.slice none 0 0) []) := by
  rw [ownA_eq]
  exact ⟨⟨by have : AT.r (.mk 1 0 x (.slice none 0 0) []) = x := rfl; rw [this]; omega, by have : AT.r (.mk 1 0 x (.slice none 0 0) []) = x := rfl; rw [this]; omega⟩, World.ownsRow_nil _ _ _ _, trivial⟩
theorem at_nil : oneG [atW] = ((none : Option (List Tok)).bind listG).map (fun p => (.mk 4 0 ([], []) p.1, p.2)) := by
  rw [oneG_eq, stepP.eq_def, if_neg (by decide), if_neg (by decide), if_neg (by decide), if_pos rfl]
  rfl
theorem list_o (OP K : Int) (v : Value) {τ : Option (List Tok)} {us : List AT} {o : Option (FmB × List Tok)} (h : o = (τ.bind listG).map fun p => (.mk OP K ([], []) p.1, p.2)) (h1 : ∀ p, τ.bind listG = some p → eraseL us = p.1) : (∀ p, o = some p → eraseA (.mk OP K ([], []) v us) = p.1) ∧ o.map Prod.snd = (τ.bind listG).map Prod.snd := by
  subst h
  refine ⟨fun p hp => ?_, by rw [Option.map_map]; rfl⟩
  obtain ⟨p2, h2, rfl⟩ := Option.map_eq_some_iff.1 hp
  rw [eraseA, h1 p2 h2]
theorem at_no (k : Tok) (r : List Tok) (x : Int) (h : (k.all dgP && okK k) = false) : oneG (atW :: k :: r) = ((none : Option (List Tok)).bind listG).map (fun p => (.mk 4 x ([], []) p.1, p.2)) := by
  rw [oneG_eq, stepP.eq_def, if_neg (by decide), if_neg (by decide), if_neg (by decide), if_pos rfl]
  simp only [numW_def, h]
  rfl
theorem okK_no (k : Tok) (h : ¬ okK k = true) : (k == []) = true ∨ ((k == []) = false ∧ decide ((2 : Int) < (k.length : Int)) = true) ∨ ((k == []) = false ∧ decide ((2 : Int) < (k.length : Int)) = false ∧ ((k.length : Int) == 2) = true ∧ ∃ hp : 0 < k.length, ((k[0].toNat : Int) == 48) = true) := by
  cases k with
  | nil => exact .inl rfl
  | cons c l =>
    refine .inr ?_
    have h0 : ((c :: l) == []) = false := rfl
    by_cases h1 : (2 : Int) < ((c :: l).length : Int)
    · exact .inl ⟨h0, decide_eq_true h1⟩
    · refine .inr ⟨h0, decide_eq_false h1, ?_⟩
      unfold okK at h
      have h2 : (c :: l).length ≤ 2 := by omega
      have h3 : (c :: l).length = 2 ∧ c = 48 := by
        refine Decidable.byContradiction fun e => h ?_
        simp only [Bool.and_eq_true, decide_eq_true_eq, Bool.not_eq_true', Bool.and_eq_false_iff, decide_eq_false_iff_not]
        refine ⟨by simp, h2, ?_⟩
        by_cases h4 : (c :: l).length = 2
        · refine .inr ?_
          have h5 : ¬ c = 48 := fun e2 => e ⟨h4, e2⟩
          simpa using h5
        · exact .inl h4
      refine ⟨beq_iff_eq.2 (by omega), by simp, ?_⟩
      rw [List.getElem_cons_zero, h3.2]
      rfl

set_option maxRecDepth 100000 in
set_option maxHeartbeats 8000000 in
theorem rone (D : Nat → Prop) (R N : Nat) (hN : N ≤ 4096) (hany : ∀ M, M < N → PartS D 23 R M anyG) (hlist : ∀ M, M < N → ListS D R M) : PartS D 49 R N oneG := by
  intro σ w hts hrd
  have hRl := hrd.lt
  have hcA : Chg (fun _ => False) w (w.alloc (.cells #[.int .i64 0, .int .i64 0, .string ⟨#[]⟩, .string ⟨#[]⟩, .slice none 0 0] 26)) := (Chg.refl _ w).alloc _
  have hcA' : Chg (· = R) w (w.alloc (.cells #[.int .i64 0, .int .i64 0, .string ⟨#[]⟩, .string ⟨#[]⟩, .slice none 0 0] 26)) := (Chg.refl _ w).alloc _
  have hZ := heap_alloc_new w (.cells #[.int .i64 0, .int .i64 0, .string ⟨#[]⟩, .string ⟨#[]⟩, .slice none 0 0] 26)
  have hrdA := hrd.keep hcA (fun _ h => h.elim)
  cases σ with
  | none =>
    obtain ⟨s1, f1⟩ := hrdA.cell1
    have s1 : (w.alloc (.cells #[.int .i64 0, .int .i64 0, .string ⟨#[]⟩, .string ⟨#[]⟩, .slice none 0 0] 26)).cell? ⟨R, 1, none⟩ = some (.bool true) := s1
    have HO0 : (none : Option (List Tok)).bind oneG = none := rfl
    have hb := hrd.bad
    have hZ2 := heap_alloc_new (w.setCell ⟨R, 1, none⟩ (.bool true)) (.cells #[.int .i64 0, .int .i64 0, .string ⟨#[]⟩, .string ⟨#[]⟩, .slice none 0 0] 26)
    rw [show (w.setCell ⟨R, 1, none⟩ (.bool true)).heap.size = w.heap.size by simp] at hZ2
    have hal : Chg (fun _ => False) (w.setCell ⟨R, 1, none⟩ (.bool true)) ((w.setCell ⟨R, 1, none⟩ (.bool true)).alloc (.cells #[.int .i64 0, .int .i64 0, .string ⟨#[]⟩, .string ⟨#[]⟩, .slice none 0 0] 26)) := (Chg.refl _ _).alloc _
    have HE := hid (And.intro (hb.1.keep hal (fun _ h => h.elim)) (And.intro (hb.2.alloc (.cells #[.int .i64 0, .int .i64 0, .string ⟨#[]⟩, .string ⟨#[]⟩, .slice none 0 0] 26)) (And.intro hZ2 HO0)))
    have g0 := froz_blk hZ 0
    have g1 := froz_blk hZ 1
    have g2 := froz_blk hZ 2
    have g3 := froz_blk hZ 3
    have g4 := froz_blk hZ 4
    have r0 := cell_blk hZ 0
    have r1 := cell_blk hZ 1
    have r2 := cell_blk hZ 2
    have r3 := cell_blk hZ 3
    have r4 := cell_blk hZ 4
    simp only [List.getElem?_toArray, List.getElem?_cons_zero, List.getElem?_cons_succ] at r0 r1 r2 r3 r4
    clear hb hrd hrdA hcA' hZ hZ2 hal hcA HO0
    go_enter Tryz.func49, Tryz.ntmps49
    go_wp2
    obtain ⟨hrd, hch, hZ1, hO⟩ := HE.out
    refine bodyPost_ret (results_cell_row (P := Tryz.prog) rfl _ _ w.heap.size 26 _ (0, 0) _ rfl hZ1 Tryz.underlying26 rfl (by kernel_rfl)) rfl ?_
    refine ⟨.mk 0 0 ([], []) (.slice none 0 0) [], none, 0, 0, rfl, rfl, own_zero _ _, by simp [blksA, blksL, Value.ownBlock], fun p hp => ?_, ?_, hch⟩
    · rw [hO] at hp; cases hp
    · rw [hO]
      exact hrd
  | some ts =>
    cases ts with
    | nil =>
      obtain ⟨ao, cp, s0, s1, f0, f1⟩ := hrdA.open_nil
      have HO0 : (some ([] : List Tok)).bind oneG = none := rfl
      have hb := hrd.bad
      have hZ2 := heap_alloc_new (w.setCell ⟨R, 1, none⟩ (.bool true)) (.cells #[.int .i64 0, .int .i64 0, .string ⟨#[]⟩, .string ⟨#[]⟩, .slice none 0 0] 26)
      rw [show (w.setCell ⟨R, 1, none⟩ (.bool true)).heap.size = w.heap.size by simp] at hZ2
      have hal : Chg (fun _ => False) (w.setCell ⟨R, 1, none⟩ (.bool true)) ((w.setCell ⟨R, 1, none⟩ (.bool true)).alloc (.cells #[.int .i64 0, .int .i64 0, .string ⟨#[]⟩, .string ⟨#[]⟩, .slice none 0 0] 26)) := (Chg.refl _ _).alloc _
      have HE := hid (And.intro (hb.1.keep hal (fun _ h => h.elim)) (And.intro (hb.2.alloc (.cells #[.int .i64 0, .int .i64 0, .string ⟨#[]⟩, .string ⟨#[]⟩, .slice none 0 0] 26)) (And.intro hZ2 HO0)))
      have g0 := froz_blk hZ 0
      have g1 := froz_blk hZ 1
      have g2 := froz_blk hZ 2
      have g3 := froz_blk hZ 3
      have g4 := froz_blk hZ 4
      have r0 := cell_blk hZ 0
      have r1 := cell_blk hZ 1
      have r2 := cell_blk hZ 2
      have r3 := cell_blk hZ 3
      have r4 := cell_blk hZ 4
      simp only [List.getElem?_toArray, List.getElem?_cons_zero, List.getElem?_cons_succ] at r0 r1 r2 r3 r4
      clear hb hrd hrdA hcA' hZ hZ2 hal hcA HO0
      go_enter Tryz.func49, Tryz.ntmps49
      go_wp2
      obtain ⟨hrd, hch, hZ1, hO⟩ := HE.out
      refine bodyPost_ret (results_cell_row (P := Tryz.prog) rfl _ _ w.heap.size 26 _ (0, 0) _ rfl hZ1 Tryz.underlying26 rfl (by kernel_rfl)) rfl ?_
      refine ⟨.mk 0 0 ([], []) (.slice none 0 0) [], none, 0, 0, rfl, rfl, own_zero _ _, by simp [blksA, blksL, Value.ownBlock], fun p hp => ?_, ?_, hch⟩
      · rw [hO] at hp; cases hp
      · rw [hO]
        exact hrd
    | cons k r =>
      obtain ⟨b, off, n, cp, o2, s0, s1, f0, f1, sk, hkl, hn0, hncp, hsl, hrd1, hc1⟩ := hrd.open_cons (.cells #[.int .i64 0, .int .i64 0, .string ⟨#[]⟩, .string ⟨#[]⟩, .slice none 0 0] 26)
      have hn1' : ((n : Int) == 0) = false := by
        have : ¬ (n : Int) = 0 := by omega
        simpa using this
      have hr1 : r.length + 1 ≤ N := hts
      have hn1 : N - 1 < N := by omega
      have hZ2 := heap_alloc_new (w.setCell ⟨R, 0, none⟩ (.slice (some ⟨b, o2, none⟩) (n - 1) (cp - 1))) (.cells #[.int .i64 0, .int .i64 0, .string ⟨#[]⟩, .string ⟨#[]⟩, .slice none 0 0] 26)
      rw [show (w.setCell ⟨R, 0, none⟩ (.slice (some ⟨b, o2, none⟩) (n - 1) (cp - 1))).heap.size = w.heap.size by simp] at hZ2
      have hal : Chg (fun _ => False) (w.setCell ⟨R, 0, none⟩ (.slice (some ⟨b, o2, none⟩) (n - 1) (cp - 1))) ((w.setCell ⟨R, 0, none⟩ (.slice (some ⟨b, o2, none⟩) (n - 1) (cp - 1))).alloc (.cells #[.int .i64 0, .int .i64 0, .string ⟨#[]⟩, .string ⟨#[]⟩, .slice none 0 0] 26)) := (Chg.refl _ _).alloc _
      have HC1 := hid (And.intro (hrd1.keep hal (fun _ h => h.elim)) (And.intro hZ2 (And.intro (hc1.alloc (.cells #[.int .i64 0, .int .i64 0, .string ⟨#[]⟩, .string ⟨#[]⟩, .slice none 0 0] 26)) (lt_blk hZ2))))
      have HC0 := hid (And.intro hrd1 hc1)
      have HANY := hid hany
      have HLIST := hid hlist
      have g0 := froz_blk hZ 0
      have g1 := froz_blk hZ 1
      have g2 := froz_blk hZ 2
      have g3 := froz_blk hZ 3
      have g4 := froz_blk hZ 4
      have r0 := cell_blk hZ 0
      have r1 := cell_blk hZ 1
      have r2 := cell_blk hZ 2
      have r3 := cell_blk hZ 3
      have r4 := cell_blk hZ 4
      simp only [List.getElem?_toArray, List.getElem?_cons_zero, List.getElem?_cons_succ] at r0 r1 r2 r3 r4
      clear hts hcA hcA' hZ hrd hrdA hrd1 hc1 hany hlist hZ2 hal
      go_enter Tryz.func49, Tryz.ntmps49
      by_cases hk40 : k = [40]
      · have z : (k == [40]) = true := by simpa using hk40
        have HK := hid hk40
        have HA := hid (HANY.out (N - 1) hn1 (some r) _ (show r.length ≤ N - 1 by omega) HC1.out.1)
        clear hk40
        go_wp2_with fail
        refine HA.out.mono ?_
        rintro e w2 ⟨t, ao, q, cp, h2, rfl, h3, h4, h1, h5, h6⟩
        have hal : Chg (fun _ => False) w2 (w2.alloc (.cells #[.int .i64 t.op, .int .i64 t.k, .string ⟨t.r.1.toArray⟩, .string ⟨t.r.2.toArray⟩, .slice ao q cp] 26)) := (Chg.refl _ w2).alloc _
        have hbn := heap_alloc_new w2 (.cells #[.int .i64 t.op, .int .i64 t.k, .string ⟨t.r.1.toArray⟩, .string ⟨t.r.2.toArray⟩, .slice ao q cp] 26)
        have HT2 := hid (rmust D R (((some r).bind anyG).map Prod.snd) [41] (w2.alloc (.cells #[.int .i64 t.op, .int .i64 t.k, .string ⟨t.r.1.toArray⟩, .string ⟨t.r.2.toArray⟩, .slice ao q cp] 26)) (h5.keep hal (fun _ h => h.elim)))
        have hbo := br_o h1
        rw [← HK.out] at hbo
        have HG := hid hbo
        have hb2 : w2.heap.size ≠ R := by have := h6.size; have := HC1.out.2.2.2; omega
        have HC2 := hid (And.intro ((HC1.out.2.2.1.trans h6 (fun _ _ h => h)).trans hal (fun _ _ h => h.elim)) (And.intro (blk_keep (blk_keep HC1.out.2.1 h6 (fun e => by have : w.heap.size = R := e; omega)) hal id) (And.intro hbn (And.intro (ownA_keep hal t h3 (fun _ _ => id)) (And.intro h4 (And.intro h2 HC1.out.2.2.2))))))
        clear h1 h2 h3 h4 h5 h6 hal hbn hbo HA HK HC1
        unfold FmVal
        go_wp2_with fail
        refine HT2.out.mono ?_
        rintro e w4 ⟨rfl, hrd4, hc4⟩
        have hZ1 := blk_keep HC2.out.2.1 hc4 (fun e => by have : w.heap.size = R := e; omega)
        have hB4 := blk_keep HC2.out.2.2.1 hc4 hb2
        have HE := hid (And.intro (ownA_keep hc4 t HC2.out.2.2.2.1 (fun b hb e => by have := (ownA_lt t HC2.out.2.2.2.1 b hb).1; have := HC2.out.2.2.2.2.2.2; have : b = R := e; omega)) (And.intro HC2.out.2.2.2.2.1 (And.intro hrd4 (And.intro (HC2.out.1.trans hc4 (fun _ _ h => h)) (And.intro hZ1 HC2.out.2.2.2.2.2.2)))))
        have HV2 := hid HC2.out.2.2.2.2.2.1
        have g0 := froz_blk hZ1 0
        have g1 := froz_blk hZ1 1
        have g2 := froz_blk hZ1 2
        have g3 := froz_blk hZ1 3
        have g4 := froz_blk hZ1 4
        have r0 := cell_blk hZ1 0
        have r1 := cell_blk hZ1 1
        have r2 := cell_blk hZ1 2
        have r3 := cell_blk hZ1 3
        have r4 := cell_blk hZ1 4
        simp only [List.getElem?_toArray, List.getElem?_cons_zero, List.getElem?_cons_succ] at r0 r1 r2 r3 r4
        have s0 := cell_blk hB4 0
        have s1 := cell_blk hB4 1
        have s2 := cell_blk hB4 2
        have s3 := cell_blk hB4 3
        have s4 := cell_blk hB4 4
        simp only [List.getElem?_toArray, List.getElem?_cons_zero, List.getElem?_cons_succ] at s0 s1 s2 s3 s4
        clear hrd4 hc4 hZ1 hB4 HT2 HC2
        go_wp2
        obtain ⟨hown, hnd, hrd, hch, hZ1, hsz⟩ := HE.out
        obtain ⟨hend, hcz⟩ := st5 hZ1 (.int .i64 t.op) (.int .i64 t.k) (.string ⟨t.r.1.toArray⟩) (.string ⟨t.r.2.toArray⟩) (.slice ao q cp)
        refine bodyPost_ret (results_cell_row (P := Tryz.prog) rfl _ _ w.heap.size 26 _ (0, 0) _ rfl hend Tryz.underlying26 rfl (by kernel_rfl)) rfl ?_
        refine ⟨t, ao, q, cp, HV2.out, rfl, ownA_low (by omega) _ (ownA_keep hcz _ hown (fun b hb e => by have := (ownA_lt _ hown b hb).1; have : b = w.heap.size := e; omega)), hnd, HG.out.1, ?_, hch.trans hcz (fun i hi e => by have : i = w.heap.size := e; omega)⟩
        show RdS D R ((oneG (k :: r)).map Prod.snd) _
        rw [HG.out.2]
        exact hrd.keep hcz (fun k e => by have : k = w.heap.size := e; omega)
      · have z40 : (k == [40]) = false := by simpa using hk40
        by_cases hka : k = allW
        · have z : (k == [97, 108, 108]) = true := beq_iff_eq.2 hka
          have HO : Hid (oneG (k :: r) = ((some r).bind listG).map fun p => (.mk 2 0 ([], []) p.1, p.2)) := hid (by rw [oneG_eq, stepP.eq_def, if_neg hk40, if_pos hka]; rfl)
          have HL := hid (HLIST.out (N - 1) hn1 (some r) _ (show r.length ≤ N - 1 by omega) HC1.out.1)
          clear hk40 hka
          go_wp2_with fail
          refine HL.out.mono ?_
          rintro e w2 ⟨us, ao, q, cp, h2, rfl, h3, h1, h5, h6⟩
          have hZ1 := blk_keep HC1.out.2.1 h6 (fun e => by have : w.heap.size = R := e; omega)
          obtain ⟨hfm, hnd⟩ := h3.fm 2 (0)
          have HG := hid (list_o 2 (0) (.slice ao q cp) HO.out h1)
          have HE := hid (And.intro hfm (And.intro hnd (And.intro h5 (And.intro (HC1.out.2.2.1.trans h6 (fun _ _ h => h)) (And.intro hZ1 HC1.out.2.2.2)))))
          have g0 := froz_blk hZ1 0
          have g1 := froz_blk hZ1 1
          have g2 := froz_blk hZ1 2
          have g3 := froz_blk hZ1 3
          have g4 := froz_blk hZ1 4
          have r0 := cell_blk hZ1 0
          have r1 := cell_blk hZ1 1
          have r2 := cell_blk hZ1 2
          have r3 := cell_blk hZ1 3
          have r4 := cell_blk hZ1 4
          simp only [List.getElem?_toArray, List.getElem?_cons_zero, List.getElem?_cons_succ] at r0 r1 r2 r3 r4
          clear h1 h2 h3 h5 h6 hfm hnd hZ1 HL
          go_wp2
          obtain ⟨hown, hnd, hrd, hch, hZ1, hsz⟩ := HE.out
          obtain ⟨hend, hcz⟩ := st5 hZ1 (.int .i64 2) (.int .i64 (0)) (.string ⟨#[]⟩) (.string ⟨#[]⟩) (.slice ao q cp)
          refine bodyPost_ret (results_cell_row (P := Tryz.prog) rfl _ _ w.heap.size 26 _ (0, 0) _ rfl hend Tryz.underlying26 rfl (by kernel_rfl)) rfl ?_
          refine ⟨.mk 2 (0) ([], []) (.slice ao q cp) us, ao, q, cp, rfl, rfl, ownA_low (by omega) _ (ownA_keep hcz _ hown (fun b hb e => by have := (ownA_lt _ hown b hb).1; have : b = w.heap.size := e; omega)), hnd, HG.out.1, ?_, hch.trans hcz (fun i hi e => by have : i = w.heap.size := e; omega)⟩
          show RdS D R ((oneG (k :: r)).map Prod.snd) _
          rw [HG.out.2]
          exact hrd.keep hcz (fun k e => by have : k = w.heap.size := e; omega)
        · have zal : (k == [97, 108, 108]) = false := by simpa [allW] using hka
          by_cases hks : k = someW
          · have z : (k == [115, 111, 109, 101]) = true := beq_iff_eq.2 hks
            have HO : Hid (oneG (k :: r) = ((some r).bind listG).map fun p => (.mk 3 0 ([], []) p.1, p.2)) := hid (by rw [oneG_eq, stepP.eq_def, if_neg hk40, if_neg hka, if_pos hks]; rfl)
            have HL := hid (HLIST.out (N - 1) hn1 (some r) _ (show r.length ≤ N - 1 by omega) HC1.out.1)
            clear hk40 hka hks
            go_wp2_with fail
            refine HL.out.mono ?_
            rintro e w2 ⟨us, ao, q, cp, h2, rfl, h3, h1, h5, h6⟩
            have hZ1 := blk_keep HC1.out.2.1 h6 (fun e => by have : w.heap.size = R := e; omega)
            obtain ⟨hfm, hnd⟩ := h3.fm 3 (0)
            have HG := hid (list_o 3 (0) (.slice ao q cp) HO.out h1)
            have HE := hid (And.intro hfm (And.intro hnd (And.intro h5 (And.intro (HC1.out.2.2.1.trans h6 (fun _ _ h => h)) (And.intro hZ1 HC1.out.2.2.2)))))
            have g0 := froz_blk hZ1 0
            have g1 := froz_blk hZ1 1
            have g2 := froz_blk hZ1 2
            have g3 := froz_blk hZ1 3
            have g4 := froz_blk hZ1 4
            have r0 := cell_blk hZ1 0
            have r1 := cell_blk hZ1 1
            have r2 := cell_blk hZ1 2
            have r3 := cell_blk hZ1 3
            have r4 := cell_blk hZ1 4
            simp only [List.getElem?_toArray, List.getElem?_cons_zero, List.getElem?_cons_succ] at r0 r1 r2 r3 r4
            clear h1 h2 h3 h5 h6 hfm hnd hZ1 HL
            go_wp2
            obtain ⟨hown, hnd, hrd, hch, hZ1, hsz⟩ := HE.out
            obtain ⟨hend, hcz⟩ := st5 hZ1 (.int .i64 3) (.int .i64 (0)) (.string ⟨#[]⟩) (.string ⟨#[]⟩) (.slice ao q cp)
            refine bodyPost_ret (results_cell_row (P := Tryz.prog) rfl _ _ w.heap.size 26 _ (0, 0) _ rfl hend Tryz.underlying26 rfl (by kernel_rfl)) rfl ?_
            refine ⟨.mk 3 (0) ([], []) (.slice ao q cp) us, ao, q, cp, rfl, rfl, ownA_low (by omega) _ (ownA_keep hcz _ hown (fun b hb e => by have := (ownA_lt _ hown b hb).1; have : b = w.heap.size := e; omega)), hnd, HG.out.1, ?_, hch.trans hcz (fun i hi e => by have : i = w.heap.size := e; omega)⟩
            show RdS D R ((oneG (k :: r)).map Prod.snd) _
            rw [HG.out.2]
            exact hrd.keep hcz (fun k e => by have : k = w.heap.size := e; omega)
          · have zso : (k == [115, 111, 109, 101]) = false := by simpa [someW] using hks
            by_cases hkt : k = atW
            · have z : (k == [97, 116]) = true := beq_iff_eq.2 hkt
              have HK := hid hkt
              clear hk40 hka hks hkt
              cases r with
              | nil =>
                obtain ⟨ao, cp3, s0, s1, f0, f1⟩ := HC1.out.1.open_nil
                clear HC0
                go_wp2
                go_loopw [6, 7] (fun n i wr => n = .int .i64 0 ∧ i = .int .i64 0 ∧ Hid (RdS D R (some []) wr ∧ wr.heap[w.heap.size]? = some (.cells #[.int .i64 0, .int .i64 0, .string ⟨#[]⟩, .string ⟨#[]⟩, .slice none 0 0] 26) ∧ Chg (· = R) w wr ∧ w.heap.size + 1 ≤ wr.heap.size)) (fun _ _ _ => 0)
                case atStart => exact ⟨rfl, rfl, HC1⟩
                case round =>
                  clear HC1
                  obtain ⟨rfl, rfl, HX⟩ := hrel
                  obtain ⟨s1, g1⟩ := HX.out.1.cell1
                  have s1 : wr.cell? ⟨R, 1, none⟩ = some (.bool false) := s1
                  have hbd := HX.out.1.bad
                  have HC1 := hid (And.intro hbd.1 (And.intro (blk_keep HX.out.2.1 hbd.2 (fun e => by have : w.heap.size = R := e; omega)) (And.intro (HX.out.2.2.1.trans hbd.2 (fun _ _ h => h)) (Nat.le_trans HX.out.2.2.2 hbd.2.size))))
                  have HL := hid (HLIST.out (N - 1) hn1 none _ (Nat.zero_le _) HC1.out.1)
                  have HO : Hid (oneG (k :: []) = ((none : Option (List Tok)).bind listG).map fun p => (.mk 4 0 ([], []) p.1, p.2)) := hid (by rw [HK.out]; exact at_nil)
                  clear hbd HX
                  go_wp2_with fail
                  refine HL.out.mono ?_
                  rintro e w2 ⟨us, ao, q, cp, h2, rfl, h3, h1, h5, h6⟩
                  have hZ1 := blk_keep HC1.out.2.1 h6 (fun e => by have : w.heap.size = R := e; omega)
                  obtain ⟨hfm, hnd⟩ := h3.fm 4 (0)
                  have HG := hid (list_o 4 (0) (.slice ao q cp) HO.out h1)
                  have HE := hid (And.intro hfm (And.intro hnd (And.intro h5 (And.intro (HC1.out.2.2.1.trans h6 (fun _ _ h => h)) (And.intro hZ1 HC1.out.2.2.2)))))
                  have g0 := froz_blk hZ1 0
                  have g1 := froz_blk hZ1 1
                  have g2 := froz_blk hZ1 2
                  have g3 := froz_blk hZ1 3
                  have g4 := froz_blk hZ1 4
                  have r0 := cell_blk hZ1 0
                  have r1 := cell_blk hZ1 1
                  have r2 := cell_blk hZ1 2
                  have r3 := cell_blk hZ1 3
                  have r4 := cell_blk hZ1 4
                  simp only [List.getElem?_toArray, List.getElem?_cons_zero, List.getElem?_cons_succ] at r0 r1 r2 r3 r4
                  clear h1 h2 h3 h5 h6 hfm hnd hZ1 HL
                  go_wp2
                  obtain ⟨hown, hnd, hrd, hch, hZ1, hsz⟩ := HE.out
                  obtain ⟨hend, hcz⟩ := st5 hZ1 (.int .i64 4) (.int .i64 (0)) (.string ⟨#[]⟩) (.string ⟨#[]⟩) (.slice ao q cp)
                  refine bodyPost_ret (results_cell_row (P := Tryz.prog) rfl _ _ w.heap.size 26 _ (0, 0) _ rfl hend Tryz.underlying26 rfl (by kernel_rfl)) rfl ?_
                  refine ⟨.mk 4 (0) ([], []) (.slice ao q cp) us, ao, q, cp, rfl, rfl, ownA_low (by omega) _ (ownA_keep hcz _ hown (fun b hb e => by have := (ownA_lt _ hown b hb).1; have : b = w.heap.size := e; omega)), hnd, HG.out.1, ?_, hch.trans hcz (fun i hi e => by have : i = w.heap.size := e; omega)⟩
                  show RdS D R ((oneG (k :: [])).map Prod.snd) _
                  rw [HG.out.2]
                  exact hrd.keep hcz (fun k e => by have : k = w.heap.size := e; omega)
              | cons k2 rt =>
                obtain ⟨b3, off3, n3, cp3, o3, s0, s1, f0, f1, sk3, hkl3, hn3, hncp3, hsl3, hrd3, hc3⟩ := HC0.out.1.open_cons (.cells #[.int .i64 0, .int .i64 0, .string ⟨#[]⟩, .string ⟨#[]⟩, .slice none 0 0] 26)
                have hrt : rt.length ≤ N - 1 := by simp at hr1; omega
                have HK2 : Hid (oneG (k :: k2 :: rt) = oneG (atW :: k2 :: rt)) := hid (by rw [HK.out])
                have hZ3 := heap_alloc_new ((w.setCell ⟨R, 0, none⟩ (.slice (some ⟨b, o2, none⟩) (n - 1) (cp - 1))).setCell ⟨R, 0, none⟩ (.slice (some ⟨b3, o3, none⟩) (n3 - 1) (cp3 - 1))) (.cells #[.int .i64 0, .int .i64 0, .string ⟨#[]⟩, .string ⟨#[]⟩, .slice none 0 0] 26)
                rw [show ((w.setCell ⟨R, 0, none⟩ (.slice (some ⟨b, o2, none⟩) (n - 1) (cp - 1))).setCell ⟨R, 0, none⟩ (.slice (some ⟨b3, o3, none⟩) (n3 - 1) (cp3 - 1))).heap.size = w.heap.size by simp] at hZ3
                have hal3 : Chg (fun _ => False) ((w.setCell ⟨R, 0, none⟩ (.slice (some ⟨b, o2, none⟩) (n - 1) (cp - 1))).setCell ⟨R, 0, none⟩ (.slice (some ⟨b3, o3, none⟩) (n3 - 1) (cp3 - 1))) (((w.setCell ⟨R, 0, none⟩ (.slice (some ⟨b, o2, none⟩) (n - 1) (cp - 1))).setCell ⟨R, 0, none⟩ (.slice (some ⟨b3, o3, none⟩) (n3 - 1) (cp3 - 1))).alloc (.cells #[.int .i64 0, .int .i64 0, .string ⟨#[]⟩, .string ⟨#[]⟩, .slice none 0 0] 26)) := (Chg.refl _ _).alloc _
                have HC3 := hid (And.intro (hrd3.keep hal3 (fun _ h => h.elim)) (And.intro hZ3 (And.intro ((HC0.out.2.trans hc3 (fun _ _ h => h)).alloc (.cells #[.int .i64 0, .int .i64 0, .string ⟨#[]⟩, .string ⟨#[]⟩, .slice none 0 0] 26)) (lt_blk hZ3))))
                clear hrd3 hc3 hal3 hZ3 HK HC0 HC1
                have HK := hid HK2.out
                have HC1 := hid HC3.out
                clear HK2 HC3
                have gx := ba_get k2
                go_wp2
                go_loopw [6, 7] (fun n i wr => ∃ (j : Nat) (x : Int) (β : Option (List Tok)), j ≤ k2.length ∧ n = .int .i64 x ∧ i = .int .i64 j ∧ Hid (RdS D R β wr ∧ β = (if (k2.take j).all dgP then some rt else none) ∧ (j ≤ 2 → x = valK (k2.take j)) ∧ Chg (· = R) w wr ∧ wr.heap[w.heap.size]? = some (.cells #[.int .i64 0, .int .i64 0, .string ⟨#[]⟩, .string ⟨#[]⟩, .slice none 0 0] 26) ∧ w.heap.size + 1 ≤ wr.heap.size)) (fun _ i _ => k2.length - (intOf i).toNat)
                case atStart => exact ⟨0, 0, _, Nat.zero_le _, rfl, rfl, hid ⟨HC1.out.1, by simp, fun _ => rfl, HC1.out.2.2.1, HC1.out.2.1, HC1.out.2.2.2⟩⟩
                case round =>
                  clear HC1
                  obtain ⟨j, x, β, hj, rfl, rfl, HREL⟩ := hrel
                  by_cases hlt : j < k2.length
                  · have htk : k2.take (j + 1) = k2.take j ++ [k2[j]] := List.take_succ_eq_append_getElem hlt
                    have hx' : j + 1 ≤ 2 → wrap64 (wrap64 (wrap64 (10 * x) + (k2[j].toNat : Int)) - 48) = valK (k2.take (j + 1)) := fun hle => by
                      have h0 := HREL.out.2.2.1 (by omega)
                      have hb := valK_one (k2.take j) (by simp; omega)
                      have hc := k2[j].toNat_lt
                      rw [htk, valK_snoc, ← h0]
                      rw [← h0] at hb
                      have e1 : wrap64 (10 * x) = 10 * x := by unfold wrap64; omega
                      have e2 : wrap64 (10 * x + (k2[j].toNat : Int)) = 10 * x + (k2[j].toNat : Int) := by unfold wrap64; omega
                      rw [e1, e2]
                      unfold wrap64
                      omega
                    have HX' := hid hx'
                    have hdg : (k2.take (j + 1)).all dgP = ((k2.take j).all dgP && dgP k2[j]) := by rw [htk, List.all_append]; simp
                    have hwc : wrap64 (k2[j].toNat : Int) = (k2[j].toNat : Int) := by have := k2[j].toNat_lt; unfold wrap64; omega
                    obtain ⟨s1, g1⟩ := HREL.out.1.cell1
                    by_cases hd : dgP k2[j] = true
                    · have hd2 := hd
                      unfold dgP at hd2
                      simp only [Bool.and_eq_true, decide_eq_true_eq] at hd2
                      have z1 : decide ((k2[j].toNat : Int) < 48) = false := decide_eq_false (by omega)
                      have z2 : decide ((57 : Int) < (k2[j].toNat : Int)) = false := decide_eq_false (by omega)
                      have z1n : ¬ ((k2[j].toNat : Int) < 48) := by omega
                      have z2n : ¬ ((57 : Int) < (k2[j].toNat : Int)) := by omega
                      have HB : Hid (β = (if (k2.take (j + 1)).all dgP then some rt else none)) := hid (by rw [hdg, hd, Bool.and_true]; exact HREL.out.2.1)
                      have HLT := hid hlt
                      clear hd hd2 hdg hx' htk
                      go_wp2
                      go_roundw
                      case rel => exact ⟨j + 1, _, β, HLT.out, rfl, by go_num, hid ⟨HREL.out.1, HB.out, HX'.out, HREL.out.2.2.2⟩⟩
                      case measure => have := HLT.out; simp [intOf]; omega
                    · have hd2 := hd
                      unfold dgP at hd2
                      have HB : Hid (none = (if (k2.take (j + 1)).all dgP then some rt else none)) := hid (by rw [hdg, Bool.eq_false_iff.2 hd, Bool.and_false]; rfl)
                      have HLT := hid hlt
                      have hbd := HREL.out.1.bad
                      have HW := hid (And.intro hbd.1 (And.intro (HREL.out.2.2.2.1.trans hbd.2 (fun _ _ h => h)) (And.intro (blk_keep HREL.out.2.2.2.2.1 hbd.2 (fun e => by have : w.heap.size = R := e; omega)) (Nat.le_trans HREL.out.2.2.2.2.2 hbd.2.size))))
                      by_cases hl : k2[j].toNat < 48
                      · have z1 : decide ((k2[j].toNat : Int) < 48) = true := decide_eq_true (by omega)
                        have z1n : ((k2[j].toNat : Int) < 48) := by omega
                        clear hd hd2 hdg hx' htk hbd hl
                        go_wp2
                        go_roundw
                        case rel => exact ⟨j + 1, _, none, HLT.out, rfl, by go_num, hid ⟨HW.out.1, HB.out, HX'.out, HW.out.2⟩⟩
                        case measure => have := HLT.out; simp [intOf]; omega
                      · have hg : 57 < k2[j].toNat := by
                          simp only [Bool.and_eq_true, decide_eq_true_eq] at hd2
                          omega
                        have z1 : decide ((k2[j].toNat : Int) < 48) = false := decide_eq_false (by omega)
                        have z1n : ¬ ((k2[j].toNat : Int) < 48) := by omega
                        have z2 : decide ((57 : Int) < (k2[j].toNat : Int)) = true := decide_eq_true (by omega)
                        have z2n : ((57 : Int) < (k2[j].toNat : Int)) := by omega
                        clear hd hd2 hdg hx' htk hbd hl hg
                        go_wp2
                        go_roundw
                        case rel => exact ⟨j + 1, _, none, HLT.out, rfl, by go_num, hid ⟨HW.out.1, HB.out, HX'.out, HW.out.2⟩⟩
                        case measure => have := HLT.out; simp [intOf]; omega
                  · have hje : j = k2.length := by omega
                    have hr := HREL.out
                    rw [hje, List.take_length] at hr
                    obtain ⟨s1, g1⟩ := hr.1.cell1
                    have hbd := hr.1.bad
                    have HX := hid hr
                    by_cases hok : okK k2 = true
                    · have HO : Hid (oneG (k :: k2 :: rt) = (β.bind listG).map fun p => (.mk 4 x ([], []) p.1, p.2)) := hid (by
                        rw [HK.out]
                        exact at_o k2 rt β x (fun h => HX.out.2.2.1 (by omega)) (by rw [hok, Bool.and_true]; exact HX.out.2.1))
                      have hk := hok
                      unfold okK at hk
                      simp only [Bool.and_eq_true, decide_eq_true_eq, Bool.not_eq_true', Bool.and_eq_false_iff, decide_eq_false_iff_not] at hk
                      have y0 : (k2 == []) = false := by simpa using hk.1
                      have y1 : decide ((2 : Int) < (k2.length : Int)) = false := decide_eq_false (by omega)
                      have y1n : ¬ (2 : Int) < (k2.length : Int) := by omega
                      have HL := hid (HLIST.out (N - 1) hn1 β wr (by rw [HX.out.2.1]; split; exact hrt; exact Nat.zero_le _) HX.out.1)
                      have HC1 := hid (And.intro HX.out.1 (And.intro HX.out.2.2.2.2.1 (And.intro HX.out.2.2.2.1 HX.out.2.2.2.2.2)))
                      by_cases hl2 : k2.length = 2
                      · have y2 : ((k2.length : Int) == 2) = true := beq_iff_eq.2 (by omega)
                        have hp0 : 0 < k2.length := by omega
                        have y3 : ((k2[0].toNat : Int) == 48) = false := by
                          have h := hk.2.2
                          rcases h with h | h
                          · exact absurd hl2 h
                          · cases k2 with
                            | nil => simp at hp0
                            | cons c l =>
                              have h2 : ¬ c = 48 := by simpa using h
                              have h3 : ¬ c.toNat = 48 := fun e => h2 (UInt8.toNat_inj.1 (by rw [e]; rfl))
                              have h4 : ¬ (c.toNat : Int) = 48 := by omega
                              simpa using h4
                        clear hr hbd hk hok hje hl2 HREL
                        go_wp2_with fail
                        refine HL.out.mono ?_
                        rintro e w2 ⟨us, ao, q, cp, h2, rfl, h3, h1, h5, h6⟩
                        have hZ1 := blk_keep HC1.out.2.1 h6 (fun e => by have : w.heap.size = R := e; omega)
                        obtain ⟨hfm, hnd⟩ := h3.fm 4 (x)
                        have HG := hid (list_o 4 (x) (.slice ao q cp) HO.out h1)
                        have HE := hid (And.intro hfm (And.intro hnd (And.intro h5 (And.intro (HC1.out.2.2.1.trans h6 (fun _ _ h => h)) (And.intro hZ1 HC1.out.2.2.2)))))
                        have g0 := froz_blk hZ1 0
                        have g1 := froz_blk hZ1 1
                        have g2 := froz_blk hZ1 2
                        have g3 := froz_blk hZ1 3
                        have g4 := froz_blk hZ1 4
                        have r0 := cell_blk hZ1 0
                        have r1 := cell_blk hZ1 1
                        have r2 := cell_blk hZ1 2
                        have r3 := cell_blk hZ1 3
                        have r4 := cell_blk hZ1 4
                        simp only [List.getElem?_toArray, List.getElem?_cons_zero, List.getElem?_cons_succ] at r0 r1 r2 r3 r4
                        clear h1 h2 h3 h5 h6 hfm hnd hZ1 HL
                        go_wp2
                        obtain ⟨hown, hnd, hrd, hch, hZ1, hsz⟩ := HE.out
                        obtain ⟨hend, hcz⟩ := st5 hZ1 (.int .i64 4) (.int .i64 (x)) (.string ⟨#[]⟩) (.string ⟨#[]⟩) (.slice ao q cp)
                        refine bodyPost_ret (results_cell_row (P := Tryz.prog) rfl _ _ w.heap.size 26 _ (0, 0) _ rfl hend Tryz.underlying26 rfl (by kernel_rfl)) rfl ?_
                        refine ⟨.mk 4 (x) ([], []) (.slice ao q cp) us, ao, q, cp, rfl, rfl, ownA_low (by omega) _ (ownA_keep hcz _ hown (fun b hb e => by have := (ownA_lt _ hown b hb).1; have : b = w.heap.size := e; omega)), hnd, HG.out.1, ?_, hch.trans hcz (fun i hi e => by have : i = w.heap.size := e; omega)⟩
                        show RdS D R ((oneG (k :: k2 :: rt)).map Prod.snd) _
                        rw [HG.out.2]
                        exact hrd.keep hcz (fun k e => by have : k = w.heap.size := e; omega)
                      · have y2 : ((k2.length : Int) == 2) = false := by
                          have : ¬ (k2.length : Int) = 2 := by omega
                          simpa using this
                        clear hr hbd hk hok hje hl2 HREL
                        go_wp2_with fail
                        refine HL.out.mono ?_
                        rintro e w2 ⟨us, ao, q, cp, h2, rfl, h3, h1, h5, h6⟩
                        have hZ1 := blk_keep HC1.out.2.1 h6 (fun e => by have : w.heap.size = R := e; omega)
                        obtain ⟨hfm, hnd⟩ := h3.fm 4 (x)
                        have HG := hid (list_o 4 (x) (.slice ao q cp) HO.out h1)
                        have HE := hid (And.intro hfm (And.intro hnd (And.intro h5 (And.intro (HC1.out.2.2.1.trans h6 (fun _ _ h => h)) (And.intro hZ1 HC1.out.2.2.2)))))
                        have g0 := froz_blk hZ1 0
                        have g1 := froz_blk hZ1 1
                        have g2 := froz_blk hZ1 2
                        have g3 := froz_blk hZ1 3
                        have g4 := froz_blk hZ1 4
                        have r0 := cell_blk hZ1 0
                        have r1 := cell_blk hZ1 1
                        have r2 := cell_blk hZ1 2
                        have r3 := cell_blk hZ1 3
                        have r4 := cell_blk hZ1 4
                        simp only [List.getElem?_toArray, List.getElem?_cons_zero, List.getElem?_cons_succ] at r0 r1 r2 r3 r4
                        clear h1 h2 h3 h5 h6 hfm hnd hZ1 HL
                        go_wp2
                        obtain ⟨hown, hnd, hrd, hch, hZ1, hsz⟩ := HE.out
                        obtain ⟨hend, hcz⟩ := st5 hZ1 (.int .i64 4) (.int .i64 (x)) (.string ⟨#[]⟩) (.string ⟨#[]⟩) (.slice ao q cp)
                        refine bodyPost_ret (results_cell_row (P := Tryz.prog) rfl _ _ w.heap.size 26 _ (0, 0) _ rfl hend Tryz.underlying26 rfl (by kernel_rfl)) rfl ?_
                        refine ⟨.mk 4 (x) ([], []) (.slice ao q cp) us, ao, q, cp, rfl, rfl, ownA_low (by omega) _ (ownA_keep hcz _ hown (fun b hb e => by have := (ownA_lt _ hown b hb).1; have : b = w.heap.size := e; omega)), hnd, HG.out.1, ?_, hch.trans hcz (fun i hi e => by have : i = w.heap.size := e; omega)⟩
                        show RdS D R ((oneG (k :: k2 :: rt)).map Prod.snd) _
                        rw [HG.out.2]
                        exact hrd.keep hcz (fun k e => by have : k = w.heap.size := e; omega)
                    · have HO : Hid (oneG (k :: k2 :: rt) = ((none : Option (List Tok)).bind listG).map fun p => (.mk 4 x ([], []) p.1, p.2)) := hid (by
                        rw [HK.out]
                        exact at_no k2 rt x (by rw [Bool.eq_false_iff.2 hok, Bool.and_false]))
                      have HC1 := hid (And.intro hbd.1 (And.intro (blk_keep HX.out.2.2.2.2.1 hbd.2 (fun e => by have : w.heap.size = R := e; omega)) (And.intro (HX.out.2.2.2.1.trans hbd.2 (fun _ _ h => h)) (Nat.le_trans HX.out.2.2.2.2.2 hbd.2.size))))
                      have HL := hid (HLIST.out (N - 1) hn1 none _ (Nat.zero_le _) HC1.out.1)
                      rcases okK_no k2 hok with y0 | ⟨y0, y1⟩ | ⟨y0, y1, y2, hp0, y3⟩
                      · clear hr hbd hok hje HREL
                        go_wp2_with fail
                        refine HL.out.mono ?_
                        rintro e w2 ⟨us, ao, q, cp, h2, rfl, h3, h1, h5, h6⟩
                        have hZ1 := blk_keep HC1.out.2.1 h6 (fun e => by have : w.heap.size = R := e; omega)
                        obtain ⟨hfm, hnd⟩ := h3.fm 4 (x)
                        have HG := hid (list_o 4 (x) (.slice ao q cp) HO.out h1)
                        have HE := hid (And.intro hfm (And.intro hnd (And.intro h5 (And.intro (HC1.out.2.2.1.trans h6 (fun _ _ h => h)) (And.intro hZ1 HC1.out.2.2.2)))))
                        have g0 := froz_blk hZ1 0
                        have g1 := froz_blk hZ1 1
                        have g2 := froz_blk hZ1 2
                        have g3 := froz_blk hZ1 3
                        have g4 := froz_blk hZ1 4
                        have r0 := cell_blk hZ1 0
                        have r1 := cell_blk hZ1 1
                        have r2 := cell_blk hZ1 2
                        have r3 := cell_blk hZ1 3
                        have r4 := cell_blk hZ1 4
                        simp only [List.getElem?_toArray, List.getElem?_cons_zero, List.getElem?_cons_succ] at r0 r1 r2 r3 r4
                        clear h1 h2 h3 h5 h6 hfm hnd hZ1 HL
                        go_wp2
                        obtain ⟨hown, hnd, hrd, hch, hZ1, hsz⟩ := HE.out
                        obtain ⟨hend, hcz⟩ := st5 hZ1 (.int .i64 4) (.int .i64 (x)) (.string ⟨#[]⟩) (.string ⟨#[]⟩) (.slice ao q cp)
                        refine bodyPost_ret (results_cell_row (P := Tryz.prog) rfl _ _ w.heap.size 26 _ (0, 0) _ rfl hend Tryz.underlying26 rfl (by kernel_rfl)) rfl ?_
                        refine ⟨.mk 4 (x) ([], []) (.slice ao q cp) us, ao, q, cp, rfl, rfl, ownA_low (by omega) _ (ownA_keep hcz _ hown (fun b hb e => by have := (ownA_lt _ hown b hb).1; have : b = w.heap.size := e; omega)), hnd, HG.out.1, ?_, hch.trans hcz (fun i hi e => by have : i = w.heap.size := e; omega)⟩
                        show RdS D R ((oneG (k :: k2 :: rt)).map Prod.snd) _
                        rw [HG.out.2]
                        exact hrd.keep hcz (fun k e => by have : k = w.heap.size := e; omega)
                      · clear hr hbd hok hje HREL
                        go_wp2_with fail
                        refine HL.out.mono ?_
                        rintro e w2 ⟨us, ao, q, cp, h2, rfl, h3, h1, h5, h6⟩
                        have hZ1 := blk_keep HC1.out.2.1 h6 (fun e => by have : w.heap.size = R := e; omega)
                        obtain ⟨hfm, hnd⟩ := h3.fm 4 (x)
                        have HG := hid (list_o 4 (x) (.slice ao q cp) HO.out h1)
                        have HE := hid (And.intro hfm (And.intro hnd (And.intro h5 (And.intro (HC1.out.2.2.1.trans h6 (fun _ _ h => h)) (And.intro hZ1 HC1.out.2.2.2)))))
                        have g0 := froz_blk hZ1 0
                        have g1 := froz_blk hZ1 1
                        have g2 := froz_blk hZ1 2
                        have g3 := froz_blk hZ1 3
                        have g4 := froz_blk hZ1 4
                        have r0 := cell_blk hZ1 0
                        have r1 := cell_blk hZ1 1
                        have r2 := cell_blk hZ1 2
                        have r3 := cell_blk hZ1 3
                        have r4 := cell_blk hZ1 4
                        simp only [List.getElem?_toArray, List.getElem?_cons_zero, List.getElem?_cons_succ] at r0 r1 r2 r3 r4
                        clear h1 h2 h3 h5 h6 hfm hnd hZ1 HL
                        go_wp2
                        obtain ⟨hown, hnd, hrd, hch, hZ1, hsz⟩ := HE.out
                        obtain ⟨hend, hcz⟩ := st5 hZ1 (.int .i64 4) (.int .i64 (x)) (.string ⟨#[]⟩) (.string ⟨#[]⟩) (.slice ao q cp)
                        refine bodyPost_ret (results_cell_row (P := Tryz.prog) rfl _ _ w.heap.size 26 _ (0, 0) _ rfl hend Tryz.underlying26 rfl (by kernel_rfl)) rfl ?_
                        refine ⟨.mk 4 (x) ([], []) (.slice ao q cp) us, ao, q, cp, rfl, rfl, ownA_low (by omega) _ (ownA_keep hcz _ hown (fun b hb e => by have := (ownA_lt _ hown b hb).1; have : b = w.heap.size := e; omega)), hnd, HG.out.1, ?_, hch.trans hcz (fun i hi e => by have : i = w.heap.size := e; omega)⟩
                        show RdS D R ((oneG (k :: k2 :: rt)).map Prod.snd) _
                        rw [HG.out.2]
                        exact hrd.keep hcz (fun k e => by have : k = w.heap.size := e; omega)
                      · clear hr hbd hok hje HREL
                        go_wp2_with fail
                        refine HL.out.mono ?_
                        rintro e w2 ⟨us, ao, q, cp, h2, rfl, h3, h1, h5, h6⟩
                        have hZ1 := blk_keep HC1.out.2.1 h6 (fun e => by have : w.heap.size = R := e; omega)
                        obtain ⟨hfm, hnd⟩ := h3.fm 4 (x)
                        have HG := hid (list_o 4 (x) (.slice ao q cp) HO.out h1)
                        have HE := hid (And.intro hfm (And.intro hnd (And.intro h5 (And.intro (HC1.out.2.2.1.trans h6 (fun _ _ h => h)) (And.intro hZ1 HC1.out.2.2.2)))))
                        have g0 := froz_blk hZ1 0
                        have g1 := froz_blk hZ1 1
                        have g2 := froz_blk hZ1 2
                        have g3 := froz_blk hZ1 3
                        have g4 := froz_blk hZ1 4
                        have r0 := cell_blk hZ1 0
                        have r1 := cell_blk hZ1 1
                        have r2 := cell_blk hZ1 2
                        have r3 := cell_blk hZ1 3
                        have r4 := cell_blk hZ1 4
                        simp only [List.getElem?_toArray, List.getElem?_cons_zero, List.getElem?_cons_succ] at r0 r1 r2 r3 r4
                        clear h1 h2 h3 h5 h6 hfm hnd hZ1 HL
                        go_wp2
                        obtain ⟨hown, hnd, hrd, hch, hZ1, hsz⟩ := HE.out
                        obtain ⟨hend, hcz⟩ := st5 hZ1 (.int .i64 4) (.int .i64 (x)) (.string ⟨#[]⟩) (.string ⟨#[]⟩) (.slice ao q cp)
                        refine bodyPost_ret (results_cell_row (P := Tryz.prog) rfl _ _ w.heap.size 26 _ (0, 0) _ rfl hend Tryz.underlying26 rfl (by kernel_rfl)) rfl ?_
                        refine ⟨.mk 4 (x) ([], []) (.slice ao q cp) us, ao, q, cp, rfl, rfl, ownA_low (by omega) _ (ownA_keep hcz _ hown (fun b hb e => by have := (ownA_lt _ hown b hb).1; have : b = w.heap.size := e; omega)), hnd, HG.out.1, ?_, hch.trans hcz (fun i hi e => by have : i = w.heap.size := e; omega)⟩
                        show RdS D R ((oneG (k :: k2 :: rt)).map Prod.snd) _
                        rw [HG.out.2]
                        exact hrd.keep hcz (fun k e => by have : k = w.heap.size := e; omega)
            · have zat : (k == [97, 116]) = false := by simpa [atW] using hkt
              have HO : Hid (oneG (k :: r) = (parseR k).map fun x => (.mk 1 0 x [], r)) := hid (by rw [oneG_eq, stepP.eq_def, if_neg hk40, if_neg hka, if_neg hks, if_neg hkt])
              have HP := hid (rparse_ref k ((w.setCell ⟨R, 0, none⟩ (.slice (some ⟨b, o2, none⟩) (n - 1) (cp - 1))).alloc (.cells #[.int .i64 0, .int .i64 0, .string ⟨#[]⟩, .string ⟨#[]⟩, .slice none 0 0] 26)) (by omega))
              clear hk40 hka hks hkt
              go_wp2_with fail
              refine HP.out.mono ?_
              rintro e w2 ⟨he, hc2⟩
              have hrd2 := HC1.out.1.keep hc2 (fun _ h => h.elim)
              have hZ2 := blk_keep HC1.out.2.1 hc2 id
              have hch2 := HC1.out.2.2.1.trans (hc2.mono (T := (· = R)) (fun _ _ h => h.elim)) (fun _ _ h => h)
              have hs2 : w.heap.size + 1 ≤ w2.heap.size := Nat.le_trans HC1.out.2.2.2 hc2.size
              clear s0 s1 f0 f1 sk hsl hn1' r0 r1 r2 r3 r4 g0 g1 g2 g3 g4 HC1 HANY HLIST HC0 HP hc2 hncp hn0
              obtain ⟨s1, f1⟩ := hrd2.cell1
              have s1 : w2.cell? ⟨R, 1, none⟩ = some (.bool false) := s1
              have g0 := froz_blk hZ2 0
              have g1 := froz_blk hZ2 1
              have g2 := froz_blk hZ2 2
              have g3 := froz_blk hZ2 3
              have g4 := froz_blk hZ2 4
              have r0 := cell_blk hZ2 0
              have r1 := cell_blk hZ2 1
              have r2 := cell_blk hZ2 2
              have r3 := cell_blk hZ2 3
              have r4 := cell_blk hZ2 4
              simp only [List.getElem?_toArray, List.getElem?_cons_zero, List.getElem?_cons_succ] at r0 r1 r2 r3 r4
              have HE := hid (And.intro hrd2 (And.intro hZ2 (And.intro hch2 hs2)))
              have hlt1 : R < w2.heap.size := hrd2.lt
              have hlt2 : w.heap.size < w2.heap.size := hs2
              have hne : ¬ R = w.heap.size := by omega
              clear hrd2 hZ2 hch2 hs2
              cases hm : parseR k with
              | none =>
                rw [hm] at he
                have he : e = .returned (.tuple #[.agg #[.string ⟨#[]⟩, .string ⟨#[]⟩], .bool false]) := he
                subst he
                go_wp2
                obtain ⟨hrd, hZ2, hch, hs⟩ := HE.out
                have hb := hrd.bad
                obtain ⟨hend, hcz⟩ := st5 (blk_keep hZ2 hb.2 (fun e => hne e.symm)) (.int .i64 1) (.int .i64 0) (.string ⟨#[]⟩) (.string ⟨#[]⟩) (.slice none 0 0)
                refine bodyPost_ret (results_cell_row (P := Tryz.prog) rfl _ _ w.heap.size 26 _ (0, 0) _ rfl (blk_keep hend ((Chg.refl (fun _ => False) _).alloc _) id) Tryz.underlying26 rfl (by kernel_rfl)) rfl ?_
                refine ⟨.mk 1 0 ([], []) (.slice none 0 0) [], none, 0, 0, rfl, rfl, own_atom _ _ ([], []) (by simp) (by simp), by simp [blksA, blksL, Value.ownBlock], fun p hp => ?_, ?_, ((hch.trans hb.2 (fun _ _ h => h)).trans hcz (fun i hi e => by have : i = w.heap.size := e; omega)).alloc _⟩
                · have hp : oneG (k :: r) = some p := hp
                  rw [HO.out, hm] at hp; cases hp
                · show RdS D R ((oneG (k :: r)).map Prod.snd) _
                  rw [HO.out, hm]
                  exact (hb.1.keep hcz (fun k e => by have : k = w.heap.size := e; omega)).keep ((Chg.refl (fun _ => False) _).alloc _) (fun _ h => h.elim)
              | some x =>
                rw [hm] at he
                have he : e = .returned (.tuple #[.agg #[.string ⟨x.1.toArray⟩, .string ⟨x.2.toArray⟩], .bool true]) := he
                subst he
                have hxl := hid (parse_small hm)
                go_wp2
                obtain ⟨hrd, hZ2, hch, hs⟩ := HE.out
                obtain ⟨hend, hcz⟩ := st5 hZ2 (.int .i64 1) (.int .i64 0) (.string ⟨x.1.toArray⟩) (.string ⟨x.2.toArray⟩) (.slice none 0 0)
                refine bodyPost_ret (results_cell_row (P := Tryz.prog) rfl _ _ w.heap.size 26 _ (0, 0) _ rfl (blk_keep hend ((Chg.refl (fun _ => False) _).alloc _) id) Tryz.underlying26 rfl (by kernel_rfl)) rfl ?_
                refine ⟨.mk 1 0 x (.slice none 0 0) [], none, 0, 0, rfl, rfl, own_atom _ _ x (by have := hxl.out.1; omega) (by have := hxl.out.2; omega), by simp [blksA, blksL, Value.ownBlock], fun p hp => ?_, ?_, (hch.trans hcz (fun i hi e => by have : i = w.heap.size := e; omega)).alloc _⟩
                · have hp : oneG (k :: r) = some p := hp
                  rw [HO.out, hm] at hp; cases hp; rfl
                · show RdS D R ((oneG (k :: r)).map Prod.snd) _
                  rw [HO.out, hm]
                  exact (hrd.keep hcz (fun k e => by have : k = w.heap.size := e; omega)).keep ((Chg.refl (fun _ => False) _).alloc _) (fun _ h => h.elim)
end Go.Proofs.YtojbhlbknjnioaaGreatDoor
