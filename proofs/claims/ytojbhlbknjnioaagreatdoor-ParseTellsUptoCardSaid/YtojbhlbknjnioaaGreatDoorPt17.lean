/- The reader of layer 12: list, one; all of it. -/
import Derived.Test.YtojbhlbknjnioaaGreatDoorPt16
namespace Go.Proofs.YtojbhlbknjnioaaGreatDoor
open Go.RowKit

theorem parse_small {k : Tok} {x : RoleB} (h : parseR k = some x) : x.1.length ≤ k.length ∧ x.2.length ≤ k.length := by
  unfold parseR at h
  have hc := cutL_len k
  unfold cutL at hc
  cases hd : cutDot k with
  | none => rw [hd] at h; cases h
  | some r =>
    rw [hd] at h hc
    simp only at h
    split at h
    · rw [← Option.some.inj h]; exact hc
    · cases h

def atStep (r : List Tok) : Option (FmB × List Tok) := match r with
  | [] => none
  | k :: r => match numW k with
    | none => none
    | some x => (listG r).map fun p => (.mk 4 x ([], []) p.1, p.2)
theorem atStep_none {r : List Tok} (h : numW (tokH r) = none) : atStep r = none := by
  cases r with
  | nil => rfl
  | cons k r =>
    have h : numW k = none := h
    simp only [atStep, h]
theorem atStep_some {r : List Tok} {x : Int} (h : numW (tokH r) = some x) : atStep r = (listG r.tail).map fun p => (.mk 4 x ([], []) p.1, p.2) := by
  cases r with
  | nil =>
    have : numW (tokH []) = none := by decide
    rw [this] at h
    cases h
  | cons k r =>
    have h : numW k = some x := h
    simp only [atStep, h]
    rfl

/-- list reads what the grammar says. -/
def ListC (R N : Nat) : Prop := ∀ (ts : List Tok) (w : World), ts.length ≤ N → RdAt R ts w → VarsAt w → Calls Tryz.prog 72 #[.pointer (some ⟨R, 0, none⟩)] w (RowPost R (listG ts) w)

theorem bracket_parts (an : List Tok → Option (FmB × List Tok)) (ma : List Tok → Option (List FmB × List Tok)) {ts r : List Tok} (h : hasT [40] ts = some r) (h2 : hasT [41] r = none) : bracketP an ma ts = match partsP an ma r with
    | none => none
    | some (l, r2) => (hasT [41] r2).map fun r3 => (l, r3) := by
  unfold bracketP partsP
  rw [h]
  simp only [h2]
  cases an r with
  | none => rfl
  | some p =>
    simp only
    cases ma p.2 with
    | none => rfl
    | some q => rfl

set_option maxRecDepth 100000 in
set_option maxHeartbeats 4000000 in
theorem plist (R N : Nat) (hN : N ≤ 4096) (hR : OffV (· = R)) (hany : ∀ M, M < N → PartC 33 R M anyG) : ListC R N := by
  intro ts w hts hrd hv
  have hRl := hrd.lt
  have hT := pmust R ts [40] w hrd
  have HV := hid (And.intro hv (And.intro hR hrd))
  have HANY := hid hany
  clear hrd hany hR hv
  by_cases hx : tokH ts = [40]
  · simp only [if_pos hx] at hT
    obtain ⟨r, hr, hh⟩ := tokH_cons (by decide) hx
    have HT := hid hT
    have HH := hid (And.intro hr hh)
    clear hT hx hr hh
    go_enter Tryz.func72, Tryz.ntmps72
    go_wp2_with fail
    refine HT.out.mono ?_
    rintro e w1 ⟨rfl, hrd1, hc1⟩
    rw [HH.out.1, List.tail_cons] at hrd1
    have hT2 := ptakes R r [41] w1 hrd1
    have HC1 := hid (And.intro hc1 hrd1)
    clear hrd1 hc1 HT
    by_cases hy : tokH r = [41]
    · simp only [if_pos hy, decide_eq_true hy] at hT2
      obtain ⟨r2, hr2, hh2⟩ := tokH_cons (by decide) hy
      have HT2 := hid hT2
      have HG : Hid (listG ts = some ([], r2)) := hid (by rw [listG_eq, bracketP, HH.out.2]; simp only [hh2])
      have HR2 := hid hr2
      clear hT2 hy hr2 hh2
      go_wp2_with fail
      refine HT2.out.mono ?_
      rintro e w2 ⟨rfl, hrd2, hc2⟩
      rw [HR2.out, List.tail_cons] at hrd2
      have HE := hid (And.intro hrd2 (HC1.out.1.trans hc2 (fun _ _ h => h)))
      clear hrd2 hc2 HT2
      go_wp2
      go_ret
      rw [HG.out]
      exact ⟨[], none, 0, 0, rfl, rfl, rfl, OwnRw.nil _ _, HE.out⟩
    · simp only [if_neg hy, decide_eq_false hy] at hT2
      have hno := tokH_no hy
      have HT2 := hid hT2
      have HG := hid ((listG_eq ts).trans (bracket_parts anyG manyG HH.out.2 hno))
      clear hT2 hy hno
      go_wp2_with fail
      refine HT2.out.mono ?_
      rintro e w2 ⟨rfl, hrd2, hc2⟩
      have hcw2 := HC1.out.1.trans hc2 (fun _ _ h => h)
      have hlr : r.length + 1 = ts.length := by rw [HH.out.1]; rfl
      have hM := hid (And.intro hlr hrd2)
      have HP := hid (pparts R (N - 1) 33 [44] (by decide) anyG manyG manyG_eq (fun ts f r h => by have := any_len h; have := nodesF_pos f; omega) (by omega) HV.out.2.1 (enters (by exact Tryz.func33) (by decide) rfl) (HANY.out (N - 1) (by omega)) r w2 (by omega) hrd2 (HV.out.1.keep hcw2 HV.out.2.1))
      have HC2 := hid hcw2
      clear hrd2 hc2 hcw2 hlr HT2 HC1
      go_wp2_with fail
      refine HP.out.mono ?_
      rintro e w3 hpost
      cases hq : partsP anyG manyG r with
      | none =>
        rw [hq] at hpost
        obtain ⟨he, hc⟩ := hpost
        have HQ : Hid (RowPost R (listG ts) w e w3) := hid (.fault (by rw [HG.out, hq]) he (HC2.out.trans hc (fun _ _ h => h)))
        unfold FaultE at he
        subst he
        exact ⟨rfl, HQ.out⟩
      | some p =>
        obtain ⟨l, r2⟩ := p
        rw [hq] at hpost
        obtain ⟨us, ao, n, cp, h1, h2, rfl, h3, h4, h5⟩ := hpost
        have hT3 := pmust R r2 [41] w3 h4
        have hcw3 := HC2.out.trans h5 (fun _ _ h => h)
        have HC3 := hid (And.intro hcw3 (And.intro (h3.low HC2.out.size) (And.intro h1 h2)))
        have HQ2 := hid hq
        clear hq h1 h2 h3 h4 h5 hcw3 HP
        by_cases hz : tokH r2 = [41]
        · simp only [if_pos hz] at hT3
          obtain ⟨r3, hr3, hh3⟩ := tokH_cons (by decide) hz
          have HT3 := hid hT3
          have HG2 : Hid (listG ts = some (l, r3)) := hid (by rw [HG.out, HQ2.out]; simp only [hh3]; rfl)
          have HR3 := hid hr3
          clear hT3 hz hr3 hh3
          go_wp2_with fail
          refine HT3.out.mono ?_
          rintro e w4 ⟨rfl, hrd4, hc4⟩
          rw [HR3.out, List.tail_cons] at hrd4
          have HE := hid (And.intro hrd4 (And.intro (HC3.out.1.trans hc4 (fun _ _ h => h)) (HC3.out.2.1.keep hc4 (fun k hk _ e => by have : k = R := e; omega))))
          clear hrd4 hc4 HT3
          go_wp2
          go_ret
          rw [HG2.out]
          exact ⟨us, ao, n, cp, HC3.out.2.2.1, HC3.out.2.2.2, rfl, HE.out.2.2, HE.out.1, HE.out.2.1⟩
        · simp only [if_neg hz] at hT3
          have HT3 := hid hT3
          have HG2 : Hid (listG ts = none) := hid (by rw [HG.out, HQ2.out]; simp only [tokH_no hz]; rfl)
          clear hT3 hz
          go_wp2_with fail
          refine HT3.out.mono ?_
          rintro e w4 ⟨he, hc4⟩
          have HQ : Hid (RowPost R (listG ts) w e w4) := hid (.fault HG2.out he (HC3.out.1.trans hc4 (fun _ _ h => h)))
          unfold FaultE at he
          subst he
          exact ⟨rfl, HQ.out⟩
  · simp only [if_neg hx] at hT
    have HT := hid hT
    have HG : Hid (listG ts = none) := hid (by rw [listG_eq, bracketP, tokH_no hx])
    clear hT hx
    go_enter Tryz.func72, Tryz.ntmps72
    go_wp2_with fail
    refine HT.out.mono ?_
    rintro e w1 ⟨he, hc1⟩
    have HQ : Hid (RowPost R (listG ts) w e w1) := hid (.fault HG.out he hc1)
    unfold FaultE at he
    subst he
    exact ⟨rfl, HQ.out⟩


set_option maxRecDepth 100000 in
set_option maxHeartbeats 8000000 in
theorem pone (R N : Nat) (hN : N ≤ 4096) (hR : OffV (· = R)) (hany : ∀ M, M < N → PartC 33 R M anyG) (hlist : ∀ M, M < N → ListC R M) : PartC 60 R N oneG := by
  intro ts w hts hrd hv
  have hRl := hrd.lt
  have hcA : Chg (fun _ => False) w (w.alloc (.cells #[.int .i64 0, .int .i64 0, .string ⟨#[]⟩, .string ⟨#[]⟩, .slice none 0 0] 26)) := (Chg.refl _ w).alloc _
  have hZ := heap_alloc_new w (.cells #[.int .i64 0, .int .i64 0, .string ⟨#[]⟩, .string ⟨#[]⟩, .slice none 0 0] 26)
  have hsz : (w.alloc (.cells #[.int .i64 0, .int .i64 0, .string ⟨#[]⟩, .string ⟨#[]⟩, .slice none 0 0] 26)).heap.size = w.heap.size + 1 := by simp
  have hkl := rd_tok hrd
  have HT := hid (ptake R ts (w.alloc (.cells #[.int .i64 0, .int .i64 0, .string ⟨#[]⟩, .string ⟨#[]⟩, .slice none 0 0] 26)) (hrd.keep hcA id))
  have HZ := hid (And.intro hZ (And.intro hcA hsz))
  have HV := hid (And.intro hv hR)
  have HANY := hid hany
  have HLIST := hid hlist
  clear hrd hany hlist hR hv hcA hZ hsz
  go_enter Tryz.func60, Tryz.ntmps60
  go_wp2_with fail
  refine HT.out.mono ?_
  rintro e w1 ⟨rfl, hrd1, hc1⟩
  have hZ1 := blk_keep HZ.out.1 hc1 (fun e => by have : w.heap.size = R := e; omega)
  have hch1 : Chg (· = R) w w1 := (HZ.out.2.1.mono (fun _ _ h => h.elim)).trans hc1 (fun _ _ h => h)
  have hsz1 : w.heap.size + 1 ≤ w1.heap.size := by have := hc1.size; rw [HZ.out.2.2] at this; exact this
  have HC1 := hid (And.intro hrd1 (And.intro hZ1 (And.intro hch1 hsz1)))
  clear hrd1 hZ1 hch1 hsz1 hc1 HT HZ
  by_cases hts0 : ts = []
  · have hk0 : tokH ts = [] := hkl.2.2 hts0
    have HG : Hid (oneG ts = none) := hid (by rw [hts0]; rfl)
    rw [hk0]
    have HA := hid (patom [] (by simp) w1)
    clear hts0 hk0 hkl
    go_wp2_with fail
    refine HA.out.mono ?_
    rintro e w2 ⟨he0, hc2⟩
    have he : FaultE e := he0
    clear he0
    have HQ : Hid (ReadPost R (oneG ts) w e w2) := hid (.fault HG.out he (HC1.out.2.2.1.trans (hc2.mono (T := (· = R)) (fun _ _ h => h.elim)) (fun _ _ h => h)))
    unfold FaultE at he
    subst he
    exact ⟨rfl, HQ.out⟩
  · obtain ⟨k, r, hkr⟩ : ∃ k r, ts = k :: r := by
      cases ts with
      | nil => exact absurd rfl hts0
      | cons k r => exact ⟨k, r, rfl⟩
    have hkt : tokH ts = k := by rw [hkr]; rfl
    have hlr : r.length + 1 = ts.length := by rw [hkr]; rfl
    have htl : ts.tail = r := by rw [hkr]; rfl
    have hkl1 := hkl.1
    rw [hkt] at hkl1 ⊢
    rw [htl] at HC1
    have HTS := hid hkr
    have HLR := hid hlr
    clear hts0 hkl hkt htl hkr
    have hlr1 : r.length ≤ N - 1 := by omega
    have hn1 : N - 1 < N := by omega
    clear hlr
    by_cases hk40 : k = [40]
    · have HG0 : Hid (oneG ts = match anyG r with
          | none => none
          | some (f, r) => (hasT [41] r).map fun r => (f, r)) := hid (by rw [HTS.out, oneG_eq, stepP.eq_def, if_pos hk40]; rfl)
      have z : (k == [40]) = true := by simpa using hk40
      have HA := hid (HANY.out (N - 1) hn1 r w1 hlr1 HC1.out.1 (HV.out.1.keep HC1.out.2.2.1 HV.out.2))
      clear hk40
      go_wp2_with fail
      refine HA.out.mono ?_
      rintro e w2 hpost
      cases hq : anyG r with
      | none =>
        rw [hq] at hpost
        obtain ⟨he, hc⟩ := hpost
        have HQ : Hid (ReadPost R (oneG ts) w e w2) := hid (.fault (by rw [HG0.out, hq]) he (HC1.out.2.2.1.trans hc (fun _ _ h => h)))
        unfold FaultE at he
        subst he
        exact ⟨rfl, HQ.out⟩
      | some p =>
        obtain ⟨f, r2⟩ := p
        rw [hq] at hpost
        obtain ⟨t, ao, q, cp, h1, h2, rfl, h3, h4, h5, h6⟩ := hpost
        have hal : Chg (fun _ => False) w2 (w2.alloc (.cells #[.int .i64 t.op, .int .i64 t.k, .string ⟨t.r.1.toArray⟩, .string ⟨t.r.2.toArray⟩, .slice ao q cp] 26)) := (Chg.refl _ w2).alloc _
        have hbn := heap_alloc_new w2 (.cells #[.int .i64 t.op, .int .i64 t.k, .string ⟨t.r.1.toArray⟩, .string ⟨t.r.2.toArray⟩, .slice ao q cp] 26)
        have hT2 := pmust R r2 [41] (w2.alloc (.cells #[.int .i64 t.op, .int .i64 t.k, .string ⟨t.r.1.toArray⟩, .string ⟨t.r.2.toArray⟩, .slice ao q cp] 26)) (h5.keep hal id)
        have hcw : Chg (· = R) w (w2.alloc (.cells #[.int .i64 t.op, .int .i64 t.k, .string ⟨t.r.1.toArray⟩, .string ⟨t.r.2.toArray⟩, .slice ao q cp] 26)) := (HC1.out.2.2.1.trans h6 (fun _ _ h => h)).trans hal (fun _ _ h => h.elim)
        have hZ2 := blk_keep (blk_keep HC1.out.2.1 h6 (fun e => by have : w.heap.size = R := e; omega)) hal id
        have HC2 := hid (And.intro hcw (And.intro hZ2 (And.intro hbn (And.intro (ownA_keep hal t h3 (fun _ _ => id)) (And.intro h4 (And.intro h1 h2))))))
        have HQ := hid hq
        have hb2 : w2.heap.size ≠ R := by have := h6.size; have := HC1.out.2.2.2; omega
        clear hq h1 h2 h3 h4 h5 h6 hal hbn hcw hZ2 HA
        unfold FmVal
        by_cases hz : tokH r2 = [41]
        · simp only [if_pos hz] at hT2
          obtain ⟨r3, hr3, hh3⟩ := tokH_cons (by decide) hz
          have HT2 := hid hT2
          have HG : Hid (oneG ts = some (f, r3)) := hid (by rw [HG0.out, HQ.out]; simp only [hh3]; rfl)
          have HR3 := hid hr3
          clear hT2 hz hr3 hh3
          go_wp2_with fail
          refine HT2.out.mono ?_
          rintro e w4 ⟨rfl, hrd4, hc4⟩
          rw [HR3.out, List.tail_cons] at hrd4
          have hZ1 := blk_keep HC2.out.2.1 hc4 (fun e => by have : w.heap.size = R := e; omega)
          have hB4 := blk_keep HC2.out.2.2.1 hc4 hb2
          have HE := hid (And.intro (ownA_keep hc4 t HC2.out.2.2.2.1 (fun b hb e => by have := (ownA_lt t HC2.out.2.2.2.1 b hb).1; have := HC1.out.2.2.2; have : b = R := e; omega)) (And.intro HC2.out.2.2.2.2.1 (And.intro hrd4 (And.intro (HC2.out.1.trans hc4 (fun _ _ h => h)) (And.intro hZ1 (And.intro HC2.out.2.2.2.2.2.1 (And.intro HC2.out.2.2.2.2.2.2 HC1.out.2.2.2)))))))
          have g0 := froz_blk hZ1 0
          have g1 := froz_blk hZ1 1
          have g2 := froz_blk hZ1 2
          have g3 := froz_blk hZ1 3
          have g4 := froz_blk hZ1 4
          have r0 := cell_blk hZ1 0
          have r1 := cell_blk hZ1 1
          have r2 := cell_blk hZ1 2
          have r3 := cell_blk hZ1 3
          have r4 := cell_blk hZ1 4
          simp only [List.getElem?_toArray, List.getElem?_cons_zero, List.getElem?_cons_succ] at r0 r1 r2 r3 r4
          have s0 := cell_blk hB4 0
          have s1 := cell_blk hB4 1
          have s2 := cell_blk hB4 2
          have s3 := cell_blk hB4 3
          have s4 := cell_blk hB4 4
          simp only [List.getElem?_toArray, List.getElem?_cons_zero, List.getElem?_cons_succ] at s0 s1 s2 s3 s4
          clear hrd4 hc4 hZ1 hB4 HT2 HC2
          go_wp2
          obtain ⟨hown, hnd, hrd, hch, hZ1, he, hv2, hsz⟩ := HE.out
          obtain ⟨hend, hcz⟩ := st5 hZ1 (.int .i64 t.op) (.int .i64 t.k) (.string ⟨t.r.1.toArray⟩) (.string ⟨t.r.2.toArray⟩) (.slice ao q cp)
          refine bodyPost_ret (results_cell_row (P := Tryz.prog) rfl _ _ w.heap.size 26 _ (0, 0) _ rfl hend Tryz.underlying26 rfl (by kernel_rfl)) rfl ?_
          rw [HG.out]
          exact .mk (t) ao q cp he hv2 (ownA_low (by omega) _ (ownA_keep hcz _ hown (fun b hb e => by have := (ownA_lt _ hown b hb).1; have : b = w.heap.size := e; omega))) hnd (hrd.keep hcz (fun e => by have : R = w.heap.size := e; omega)) (hch.trans hcz (fun i hi e => by have : i = w.heap.size := e; omega))
        · simp only [if_neg hz] at hT2
          have HT2 := hid hT2
          have HG2 : Hid (oneG ts = none) := hid (by rw [HG0.out, HQ.out]; simp only [tokH_no hz]; rfl)
          clear hT2 hz
          go_wp2_with fail
          refine HT2.out.mono ?_
          rintro e w4 ⟨he, hc4⟩
          have HQ : Hid (ReadPost R (oneG ts) w e w4) := hid (.fault HG2.out he (HC2.out.1.trans hc4 (fun _ _ h => h)))
          unfold FaultE at he
          subst he
          exact ⟨rfl, HQ.out⟩
    · have z40 : (k == [40]) = false := by simpa using hk40
      by_cases hk : k = allW
      · have HG0 : Hid (oneG ts = (listG r).map fun p => (.mk 2 0 ([], []) p.1, p.2)) := hid (by rw [HTS.out, oneG_eq, stepP.eq_def, if_neg hk40, if_pos hk])
        have z : (k == [97, 108, 108]) = true := beq_iff_eq.2 hk
        have HL := hid (HLIST.out (N - 1) (by omega) r w1 (by omega) HC1.out.1 (HV.out.1.keep HC1.out.2.2.1 HV.out.2))
        clear hk
        go_wp2_with fail
        refine HL.out.mono ?_
        rintro e w2 hpost
        cases hq : listG r with
        | none =>
          rw [hq] at hpost
          obtain ⟨he, hc⟩ := hpost
          have HQ : Hid (ReadPost R (oneG ts) w e w2) := hid (.fault (by rw [HG0.out, hq]; rfl) he (HC1.out.2.2.1.trans hc (fun _ _ h => h)))
          unfold FaultE at he
          subst he
          exact ⟨rfl, HQ.out⟩
        | some p =>
          obtain ⟨l, r2⟩ := p
          rw [hq] at hpost
          obtain ⟨us, ao, q, cp, h1, h2, rfl, h3, h4, h5⟩ := hpost
          have HG : Hid (oneG ts = some (.mk 2 0 ([], []) l, r2)) := hid (by rw [HG0.out, hq]; rfl)
          have hZ1 := blk_keep HC1.out.2.1 h5 (fun e => by have : w.heap.size = R := e; omega)
          obtain ⟨hfm, hnd⟩ := h3.fm 2 0
          have HE := hid (And.intro hfm (And.intro hnd (And.intro h4 (And.intro (HC1.out.2.2.1.trans h5 (fun _ _ h => h)) (And.intro hZ1 (And.intro (show eraseA (.mk 2 0 ([], []) (.slice ao q cp) us) = .mk 2 0 ([], []) l by rw [eraseA, h1]) (And.intro (show (AT.mk 2 0 ([], []) (.slice ao q cp) us).v = .slice ao q cp from rfl) HC1.out.2.2.2)))))))
          have g0 := froz_blk hZ1 0
          have g1 := froz_blk hZ1 1
          have g2 := froz_blk hZ1 2
          have g3 := froz_blk hZ1 3
          have g4 := froz_blk hZ1 4
          have r0 := cell_blk hZ1 0
          have r1 := cell_blk hZ1 1
          have r2 := cell_blk hZ1 2
          have r3 := cell_blk hZ1 3
          have r4 := cell_blk hZ1 4
          simp only [List.getElem?_toArray, List.getElem?_cons_zero, List.getElem?_cons_succ] at r0 r1 r2 r3 r4
          clear hq h1 h2 h3 h4 h5 hfm hnd hZ1 HL
          go_wp2
          obtain ⟨hown, hnd, hrd, hch, hZ1, he, hv2, hsz⟩ := HE.out
          obtain ⟨hend, hcz⟩ := st5 hZ1 (.int .i64 2) (.int .i64 0) (.string ⟨#[]⟩) (.string ⟨#[]⟩) (.slice ao q cp)
          refine bodyPost_ret (results_cell_row (P := Tryz.prog) rfl _ _ w.heap.size 26 _ (0, 0) _ rfl hend Tryz.underlying26 rfl (by kernel_rfl)) rfl ?_
          rw [HG.out]
          exact .mk (.mk 2 0 ([], []) (.slice ao q cp) us) ao q cp he hv2 (ownA_low (by omega) _ (ownA_keep hcz _ hown (fun b hb e => by have := (ownA_lt _ hown b hb).1; have : b = w.heap.size := e; omega))) hnd (hrd.keep hcz (fun e => by have : R = w.heap.size := e; omega)) (hch.trans hcz (fun i hi e => by have : i = w.heap.size := e; omega))
      · have zal : (k == [97, 108, 108]) = false := by simpa [allW] using hk
        have HKA := hid hk
        clear hk
        by_cases hk : k = someW
        · have HG0 : Hid (oneG ts = (listG r).map fun p => (.mk 3 0 ([], []) p.1, p.2)) := hid (by rw [HTS.out, oneG_eq, stepP.eq_def, if_neg hk40, if_neg HKA.out, if_pos hk])
          have z : (k == [115, 111, 109, 101]) = true := beq_iff_eq.2 hk
          have HL := hid (HLIST.out (N - 1) (by omega) r w1 (by omega) HC1.out.1 (HV.out.1.keep HC1.out.2.2.1 HV.out.2))
          clear hk
          go_wp2_with fail
          refine HL.out.mono ?_
          rintro e w2 hpost
          cases hq : listG r with
          | none =>
            rw [hq] at hpost
            obtain ⟨he, hc⟩ := hpost
            have HQ : Hid (ReadPost R (oneG ts) w e w2) := hid (.fault (by rw [HG0.out, hq]; rfl) he (HC1.out.2.2.1.trans hc (fun _ _ h => h)))
            unfold FaultE at he
            subst he
            exact ⟨rfl, HQ.out⟩
          | some p =>
            obtain ⟨l, r2⟩ := p
            rw [hq] at hpost
            obtain ⟨us, ao, q, cp, h1, h2, rfl, h3, h4, h5⟩ := hpost
            have HG : Hid (oneG ts = some (.mk 3 0 ([], []) l, r2)) := hid (by rw [HG0.out, hq]; rfl)
            have hZ1 := blk_keep HC1.out.2.1 h5 (fun e => by have : w.heap.size = R := e; omega)
            obtain ⟨hfm, hnd⟩ := h3.fm 3 0
            have HE := hid (And.intro hfm (And.intro hnd (And.intro h4 (And.intro (HC1.out.2.2.1.trans h5 (fun _ _ h => h)) (And.intro hZ1 (And.intro (show eraseA (.mk 3 0 ([], []) (.slice ao q cp) us) = .mk 3 0 ([], []) l by rw [eraseA, h1]) (And.intro (show (AT.mk 3 0 ([], []) (.slice ao q cp) us).v = .slice ao q cp from rfl) HC1.out.2.2.2)))))))
            have g0 := froz_blk hZ1 0
            have g1 := froz_blk hZ1 1
            have g2 := froz_blk hZ1 2
            have g3 := froz_blk hZ1 3
            have g4 := froz_blk hZ1 4
            have r0 := cell_blk hZ1 0
            have r1 := cell_blk hZ1 1
            have r2 := cell_blk hZ1 2
            have r3 := cell_blk hZ1 3
            have r4 := cell_blk hZ1 4
            simp only [List.getElem?_toArray, List.getElem?_cons_zero, List.getElem?_cons_succ] at r0 r1 r2 r3 r4
            clear hq h1 h2 h3 h4 h5 hfm hnd hZ1 HL
            go_wp2
            obtain ⟨hown, hnd, hrd, hch, hZ1, he, hv2, hsz⟩ := HE.out
            obtain ⟨hend, hcz⟩ := st5 hZ1 (.int .i64 3) (.int .i64 0) (.string ⟨#[]⟩) (.string ⟨#[]⟩) (.slice ao q cp)
            refine bodyPost_ret (results_cell_row (P := Tryz.prog) rfl _ _ w.heap.size 26 _ (0, 0) _ rfl hend Tryz.underlying26 rfl (by kernel_rfl)) rfl ?_
            rw [HG.out]
            exact .mk (.mk 3 0 ([], []) (.slice ao q cp) us) ao q cp he hv2 (ownA_low (by omega) _ (ownA_keep hcz _ hown (fun b hb e => by have := (ownA_lt _ hown b hb).1; have : b = w.heap.size := e; omega))) hnd (hrd.keep hcz (fun e => by have : R = w.heap.size := e; omega)) (hch.trans hcz (fun i hi e => by have : i = w.heap.size := e; omega))
        · have zso : (k == [115, 111, 109, 101]) = false := by simpa [someW] using hk
          have HKS := hid hk
          clear hk
          by_cases hk : k = atW
          · have HG0 : Hid (oneG ts = atStep r) := hid (by rw [HTS.out, oneG_eq, stepP.eq_def, if_neg hk40, if_neg HKA.out, if_neg HKS.out, if_pos hk]; rfl)
            have z : (k == [97, 116]) = true := beq_iff_eq.2 hk
            have hk2 := rd_tok HC1.out.1
            have HT2 := hid (ptake R r w1 HC1.out.1)
            clear hk
            go_wp2_with fail
            refine HT2.out.mono ?_
            rintro e w2 ⟨rfl, hrd2, hc2⟩
            have hcw2 := HC1.out.2.2.1.trans hc2 (fun _ _ h => h)
            have hZ2 := blk_keep HC1.out.2.1 hc2 (fun e => by have : w.heap.size = R := e; omega)
            have hsz2 : w.heap.size + 1 ≤ w2.heap.size := Nat.le_trans HC1.out.2.2.2 hc2.size
            have HU := hid (pnumber (tokH r) hk2.1 w2 (HV.out.1.keep hcw2 HV.out.2))
            have HC2 := hid (And.intro hrd2 (And.intro hZ2 (And.intro hcw2 hsz2)))
            have HNE := hid hk2.2
            clear hrd2 hZ2 hcw2 hsz2 hc2 hk2 HT2
            go_wp2_with fail
            refine HU.out.mono ?_
            rintro e w3 ⟨hnum, hc3⟩
            cases hm : numW (tokH r) with
            | none =>
              unfold NumE at hnum
              rw [hm] at hnum
              have he : FaultE e := hnum
              clear hnum
              have HQ : Hid (ReadPost R (oneG ts) w e w3) := hid (.fault (by rw [HG0.out]; exact atStep_none hm) he (HC2.out.2.2.1.trans (hc3.mono (T := (· = R)) (fun _ _ h => h.elim)) (fun _ _ h => h)))
              unfold FaultE at he
              subst he
              exact ⟨rfl, HQ.out⟩
            | some x =>
              unfold NumE at hnum
              rw [hm] at hnum
              have he : e = .returned (.int .i64 x) := hnum
              subst he
              have hg : oneG ts = (listG r.tail).map fun p => (.mk 4 x ([], []) p.1, p.2) := by
                rw [HG0.out]
                exact atStep_some hm
              have htl : r.tail.length ≤ r.length := by cases r <;> simp
              have hcw3 := HC2.out.2.2.1.trans (hc3.mono (T := (· = R)) (fun _ _ h => h.elim)) (fun _ _ h => h)
              have HG0 := hid hg
              have HC1 := hid (And.intro (HC2.out.1.keep hc3 id) (And.intro (blk_keep HC2.out.2.1 hc3 id) (And.intro hcw3 (Nat.le_trans HC2.out.2.2.2 hc3.size))))
              have HL := hid (HLIST.out (N - 1) hn1 r.tail w3 (by omega) HC1.out.1 (HV.out.1.keep HC1.out.2.2.1 HV.out.2))
              generalize r.tail = rt at *
              clear hnum hm hg hcw3 hc3 htl HU HC2
              go_wp2_with fail
              refine HL.out.mono ?_
              rintro e w2 hpost
              cases hq : listG rt with
              | none =>
                rw [hq] at hpost
                obtain ⟨he, hc⟩ := hpost
                have HQ : Hid (ReadPost R (oneG ts) w e w2) := hid (.fault (by rw [HG0.out, hq]; rfl) he (HC1.out.2.2.1.trans hc (fun _ _ h => h)))
                unfold FaultE at he
                subst he
                exact ⟨rfl, HQ.out⟩
              | some p =>
                obtain ⟨l, r2⟩ := p
                rw [hq] at hpost
                obtain ⟨us, ao, q, cp, h1, h2, rfl, h3, h4, h5⟩ := hpost
                have HG : Hid (oneG ts = some (.mk 4 x ([], []) l, r2)) := hid (by rw [HG0.out, hq]; rfl)
                have hZ1 := blk_keep HC1.out.2.1 h5 (fun e => by have : w.heap.size = R := e; omega)
                obtain ⟨hfm, hnd⟩ := h3.fm 4 x
                have HE := hid (And.intro hfm (And.intro hnd (And.intro h4 (And.intro (HC1.out.2.2.1.trans h5 (fun _ _ h => h)) (And.intro hZ1 (And.intro (show eraseA (.mk 4 x ([], []) (.slice ao q cp) us) = .mk 4 x ([], []) l by rw [eraseA, h1]) (And.intro (show (AT.mk 4 x ([], []) (.slice ao q cp) us).v = .slice ao q cp from rfl) HC1.out.2.2.2)))))))
                have g0 := froz_blk hZ1 0
                have g1 := froz_blk hZ1 1
                have g2 := froz_blk hZ1 2
                have g3 := froz_blk hZ1 3
                have g4 := froz_blk hZ1 4
                have r0 := cell_blk hZ1 0
                have r1 := cell_blk hZ1 1
                have r2 := cell_blk hZ1 2
                have r3 := cell_blk hZ1 3
                have r4 := cell_blk hZ1 4
                simp only [List.getElem?_toArray, List.getElem?_cons_zero, List.getElem?_cons_succ] at r0 r1 r2 r3 r4
                clear hq h1 h2 h3 h4 h5 hfm hnd hZ1 HL
                go_wp2
                obtain ⟨hown, hnd, hrd, hch, hZ1, he, hv2, hsz⟩ := HE.out
                obtain ⟨hend, hcz⟩ := st5 hZ1 (.int .i64 4) (.int .i64 x) (.string ⟨#[]⟩) (.string ⟨#[]⟩) (.slice ao q cp)
                refine bodyPost_ret (results_cell_row (P := Tryz.prog) rfl _ _ w.heap.size 26 _ (0, 0) _ rfl hend Tryz.underlying26 rfl (by kernel_rfl)) rfl ?_
                rw [HG.out]
                exact .mk (.mk 4 x ([], []) (.slice ao q cp) us) ao q cp he hv2 (ownA_low (by omega) _ (ownA_keep hcz _ hown (fun b hb e => by have := (ownA_lt _ hown b hb).1; have : b = w.heap.size := e; omega))) hnd (hrd.keep hcz (fun e => by have : R = w.heap.size := e; omega)) (hch.trans hcz (fun i hi e => by have : i = w.heap.size := e; omega))
          · have zat : (k == [97, 116]) = false := by simpa [atW] using hk
            have HG0 : Hid (oneG ts = (parseR k).map fun x => (.mk 1 0 x [], r)) := hid (by rw [HTS.out, oneG_eq, stepP.eq_def, if_neg hk40, if_neg HKA.out, if_neg HKS.out, if_neg hk])
            have HA := hid (patom k hkl1 w1)
            have HKL := hid hkl1
            clear hk
            go_wp2_with fail
            refine HA.out.mono ?_
            rintro e w2 ⟨hat, hc2⟩
            have hcw2 := HC1.out.2.2.1.trans (hc2.mono (T := (· = R)) (fun _ _ h => h.elim)) (fun _ _ h => h)
            cases hm : parseR k with
            | none =>
              unfold AtomE at hat
              rw [hm] at hat
              have he : FaultE e := hat
              clear hat
              have HQ : Hid (ReadPost R (oneG ts) w e w2) := hid (.fault (by rw [HG0.out, hm]; rfl) he hcw2)
              unfold FaultE at he
              subst he
              exact ⟨rfl, HQ.out⟩
            | some x =>
              unfold AtomE at hat
              rw [hm] at hat
              have he : e = .returned (.agg #[.int .i64 1, .int .i64 0, .string ⟨x.1.toArray⟩, .string ⟨x.2.toArray⟩, .slice none 0 0]) := hat
              subst he
              have HG : Hid (oneG ts = some (.mk 1 0 x [], r)) := hid (by rw [HG0.out, hm]; rfl)
              have hZ1 := blk_keep HC1.out.2.1 hc2 id
              have hxl := parse_small hm
              obtain ⟨ao, hao⟩ : ∃ ao : Option Addr, ao = none := ⟨_, rfl⟩
              obtain ⟨q, hq0⟩ : ∃ q : Nat, q = 0 := ⟨_, rfl⟩
              obtain ⟨cp, hcp⟩ : ∃ cp : Nat, cp = 0 := ⟨_, rfl⟩
              have hown : OwnA w1.heap.size w2 (.mk 1 0 x (.slice ao q cp) []) := by
                rw [hao, hq0, hcp, ownA_eq]
                exact ⟨⟨by have := hxl.1; have : AT.r (.mk 1 0 x (.slice none 0 0) []) = x := rfl; rw [this]; omega, by have := hxl.2; have : AT.r (.mk 1 0 x (.slice none 0 0) []) = x := rfl; rw [this]; omega⟩, World.ownsRow_nil _ _ _ _, trivial⟩
              have hnd : (blksA (.mk 1 0 x (.slice ao q cp) [])).Nodup := by rw [hao]; simp [blksA, blksL, Value.ownBlock]
              have HE := hid (And.intro hown (And.intro hnd (And.intro (HC1.out.1.keep hc2 id) (And.intro hcw2 (And.intro hZ1 (And.intro (show eraseA (.mk 1 0 x (.slice ao q cp) []) = .mk 1 0 x [] from rfl) (And.intro (show (AT.mk 1 0 x (.slice ao q cp) []).v = .slice ao q cp from rfl) HC1.out.2.2.2)))))))
              have g0 := froz_blk hZ1 0
              have g1 := froz_blk hZ1 1
              have g2 := froz_blk hZ1 2
              have g3 := froz_blk hZ1 3
              have g4 := froz_blk hZ1 4
              have r0 := cell_blk hZ1 0
              have r1 := cell_blk hZ1 1
              have r2 := cell_blk hZ1 2
              have r3 := cell_blk hZ1 3
              have r4 := cell_blk hZ1 4
              simp only [List.getElem?_toArray, List.getElem?_cons_zero, List.getElem?_cons_succ] at r0 r1 r2 r3 r4
              have HXX : Hid (Value.slice (none : Option Addr) 0 0 = .slice ao q cp) := hid (by rw [hao, hq0, hcp])
              clear hm hat hZ1 hown hnd hc2 hcw2 hao hq0 hcp hxl HA
              rw [HXX.out]
              clear HXX
              go_wp2
              obtain ⟨hown, hnd, hrd, hch, hZ1, he, hv2, hsz⟩ := HE.out
              obtain ⟨hend, hcz⟩ := st5 hZ1 (.int .i64 1) (.int .i64 0) (.string ⟨x.1.toArray⟩) (.string ⟨x.2.toArray⟩) (.slice ao q cp)
              refine bodyPost_ret (results_cell_row (P := Tryz.prog) rfl _ _ w.heap.size 26 _ (0, 0) _ rfl hend Tryz.underlying26 rfl (by kernel_rfl)) rfl ?_
              rw [HG.out]
              exact .mk (.mk 1 0 x (.slice ao q cp) []) ao q cp he hv2 (ownA_low (by omega) _ (ownA_keep hcz _ hown (fun b hb e => by have := (ownA_lt _ hown b hb).1; have : b = w.heap.size := e; omega))) hnd (hrd.keep hcz (fun e => by have : R = w.heap.size := e; omega)) (hch.trans hcz (fun i hi e => by have : i = w.heap.size := e; omega))

/-- All of the reader. -/
theorem pread_all (R : Nat) (hR : OffV (· = R)) : ∀ N, N ≤ 4096 → PartC 33 R N anyG := by
  intro N
  induction N using Nat.strongRecOn with
  | _ N ih =>
    intro hN
    have h1 : ∀ M, M < N → PartC 33 R M anyG := fun M hM => ih M hM (by omega)
    have h2 : ∀ M, M < N → ListC R M := fun M hM => plist R M (by omega) hR (fun K hK => h1 K (by omega))
    exact pany R N hN hR (pboth R N hN hR (pone R N hN hR h1 h2))

end Go.Proofs.YtojbhlbknjnioaaGreatDoor
