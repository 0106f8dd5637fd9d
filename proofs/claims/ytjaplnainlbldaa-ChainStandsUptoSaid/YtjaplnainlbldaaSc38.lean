/- slices.Compact at credentials: the walk. -/
import Derived.Test.YtjaplnainlbldaaSc12
namespace Go.Proofs.Ytjaplnainlbldaa
open Go.RowKit Go.Lib Go.Sort

set_option maxRecDepth 100000 in
set_option maxHeartbeats 8000000 in
theorem ccompact_walk (g cap : Nat) (d : Array CredB) (w : World) (hH : HoldC w g cap d) (hsz : d.size ≤ 4194304) (hcap : d.size ≤ cap) (hcm : cap ≤ 9223372036854775807) :
    Calls Try.prog 77 #[.slice (some ⟨g, 0, none⟩) d.size cap] w fun e w' => e = .returned (.slice (some ⟨g, 0, none⟩) (compactUpTo d d.size).length cap) ∧ HoldC w' g cap (compactUpTo d d.size).toArray ∧ Chg (fun k => k = g) w w' := by
  have same : (∀ j, j < d.size → keeps d j = true) → (compactUpTo d d.size).length = d.size ∧ ∀ j, j < (compactUpTo d d.size).length → d[j]! = (compactUpTo d d.size)[j]! := by
    intro hall
    have e : compactUpTo d d.size = d.toList := by rw [compactUpTo_all d _ hall, range_map_get]
    rw [e]
    refine ⟨by simp, fun j hj => ?_⟩
    have hj' : j < d.size := by simpa using hj
    simp [getElem!_pos, hj']
  have HS := hid same
  clear same
  by_cases h2 : d.size < 2
  · have HH := hid hH
    clear hH
    go_enter Try.func77, Try.ntmps77
    go_wp2
    go_ret
    obtain ⟨e1, e2⟩ := HS.out (fun j hj => keeps_lt_one d j (by omega))
    exact ⟨by rw [e1]; rfl, HH.out.low (by omega) e2, Chg.refl _ _⟩
  · go_enter Try.func77, Try.ntmps77
    go_wp2
    go_loopw [3] (fun s3 wr => ∃ k : Nat, 1 ≤ k ∧ k ≤ d.size ∧ s3 = .int .i64 k ∧ HoldC wr g cap d ∧ Chg (fun k => k = g) w wr ∧ Hid (∀ j, j < k → keeps d j = true)) (fun s3 _ => d.size - (intOf s3).toNat)
    case atStart => exact ⟨1, Nat.le_refl _, by omega, rfl, hH, Chg.refl _ _, keeps_lt_one d⟩
    case round =>
      obtain ⟨k, hk1, hk, rfl, hHr, hc, A⟩ := hrel
      by_cases hlt : k < d.size
      · have HX := hid (And.intro (hHr.cred hlt) (hHr.cred (j := k - 1) (by omega)))
        have HC := hid (And.intro hHr hc)
        have HZ : Hid (IntKind.i64.wrap ((k : Int) - 1) = ((k - 1 : Nat) : Int) ∧ (0 : Int) ≤ (k : Int) - 1 ∧ ((k : Int) - 1).toNat = k - 1 ∧ ((k - 1 : Nat) : Int) < d.size ∧ (k : Int) < d.size) := hid ⟨by rw [IntWalk.i64_in _ (by omega)]; omega, by omega, by omega, by omega, by omega⟩
        clear hHr hc hH
        generalize hx : d[k]! = x at *
        generalize hy : d[k - 1]! = y at *
        have B := hid (And.intro hx hy)
        clear hx hy
        go_wp2
        refine wp_region_specs (compSpecs1 g d.size cap k x y) [16, 17, 18, 19, 20, 21, 22, 23, 24, 25] [0, 3] (by kernel_rfl) (by kernel_rfl) (by rfl) (by kernel_rfl) ?start ?obs ?fin
        case start =>
          simp only [List.forall_mem_cons]
          exact ⟨⟨_, rfl, rfl⟩, ⟨_, rfl, rfl⟩, fun _ h => by cases h⟩
        case obs =>
          clear HC HS
          refine Obs.cons none (by kernel_rfl) ?_ ?_
          · refine Ob.plain fun a w hR hk K k9 => ?_
            obtain ⟨_, e0, f0⟩ := hk 0 (by decide)
            clear hk
            go_simp
            exact k9 _ _ (Chg.refl _ _) f0
          refine Obs.cons none (by kernel_rfl) ?_ ?_
          · refine Ob.plain fun a w hR hk K k9 => ?_
            obtain ⟨_, e3, f3⟩ := hk 3 (by decide)
            clear hk
            go_simp
            exact k9 _ _ (Chg.refl _ _) f3
          refine Obs.cons none (by kernel_rfl) ?_ ?_
          · refine Ob.plain fun a w hR hk K k9 => ?_
            obtain ⟨_, e16, rfl⟩ := hk 16 (by decide)
            obtain ⟨_, e17, rfl⟩ := hk 17 (by decide)
            clear hk
            clear HX
            obtain ⟨z1, z2, z3, z4, z5⟩ := HZ.out
            go_simp
            exact k9 _ _ (Chg.refl _ _) rfl
          refine Obs.cons none (by kernel_rfl) ?_ ?_
          · refine Ob.plain fun a w hR hk K k9 => ?_
            obtain ⟨_, e18, rfl⟩ := hk 18 (by decide)
            clear hk
            obtain ⟨a0, a1, a2, a3, a4, a5, a6, a7, a8⟩ := HX.out.1.keep hR id
            clear HX
            go_simp
            exact k9 _ _ (Chg.refl _ _) rfl
          refine Obs.cons none (by kernel_rfl) ?_ ?_
          · refine Ob.plain fun a w hR hk K k9 => ?_
            obtain ⟨_, e0, f0⟩ := hk 0 (by decide)
            clear hk
            go_simp
            exact k9 _ _ (Chg.refl _ _) f0
          refine Obs.cons none (by kernel_rfl) ?_ ?_
          · refine Ob.plain fun a w hR hk K k9 => ?_
            obtain ⟨_, e3, f3⟩ := hk 3 (by decide)
            clear hk
            go_simp
            exact k9 _ _ (Chg.refl _ _) f3
          refine Obs.cons none (by kernel_rfl) ?_ ?_
          · refine Ob.plain fun a w hR hk K k9 => ?_
            obtain ⟨_, e21, rfl⟩ := hk 21 (by decide)
            clear hk
            clear HX
            obtain ⟨z1, z2, z3, z4, z5⟩ := HZ.out
            go_simp
            exact k9 _ _ (Chg.refl _ _) rfl
          refine Obs.cons none (by kernel_rfl) ?_ ?_
          · refine Ob.plain fun a w hR hk K k9 => ?_
            obtain ⟨_, e20, rfl⟩ := hk 20 (by decide)
            obtain ⟨_, e22, rfl⟩ := hk 22 (by decide)
            clear hk
            clear HX
            obtain ⟨z1, z2, z3, z4, z5⟩ := HZ.out
            go_simp
            exact k9 _ _ (Chg.refl _ _) rfl
          refine Obs.cons none (by kernel_rfl) ?_ ?_
          · refine Ob.plain fun a w hR hk K k9 => ?_
            obtain ⟨_, e23, rfl⟩ := hk 23 (by decide)
            clear hk
            obtain ⟨a0, a1, a2, a3, a4, a5, a6, a7, a8⟩ := HX.out.2.keep hR id
            clear HX
            go_simp
            exact k9 _ _ (Chg.refl _ _) rfl
          refine Obs.cons none (by kernel_rfl) ?_ ?_
          · refine Ob.plain fun a w hR hk K k9 => ?_
            obtain ⟨_, e19, rfl⟩ := hk 19 (by decide)
            obtain ⟨_, e24, rfl⟩ := hk 24 (by decide)
            clear hk
            clear HX
            go_simp
            simp only [run_eqgC, run_eqlC, Result.andThen]
            go_simp
            exact k9 _ _ (Chg.refl _ _) rfl
          exact Obs.nil
        case fin =>
          intro vals w9 hc9 hv
          have h25 : vals 25 = .bool (eqC x y) := hv 25 (by decide)
          simp only [putAll, List.setIfInBounds_toArray, List.set_cons_zero, List.set_cons_succ, h25]
          have HC9 := hid (And.intro (HC.out.1.keep hc9 id) (HC.out.2.trans hc9 (fun _ _ h => h.elim)))
          clear hc9 hv h25 HC HX
          cases hq : eqC x y with
          | true =>
            have HK : Hid (keeps d k = false) := hid (keeps_neg (by omega) (by rw [B.out.1, B.out.2]; exact eqC_true.1 hq))
            clear hq
            go_wp2
            go_loopw [3, 5] (fun s3 s5 wr => ∃ (kk k2 : Nat) (dk : Array CredB), s3 = .int .i64 kk ∧ s5 = .int .i64 k2 ∧ 1 ≤ k2 ∧ k + k2 ≤ d.size ∧ Chg (fun k => k = g) w wr ∧ HoldC wr g cap dk ∧ CompInv d (k + k2) kk dk) (fun _ s5 _ => d.size - (k + (intOf s5).toNat))
            case atStart => exact ⟨k, 1, d, rfl, rfl, Nat.le_refl _, by omega, HC9.out.2, HC9.out.1, CompInv.start A.out HK.out⟩
            case round =>
              obtain ⟨kk, k2, dk, rfl, rfl, h1, hle, hc, hHk, hI⟩ := hrel
              have hkk := hI.lt
              have hds := hI.size
              by_cases hlt2 : k + k2 < d.size
              · have c1 := hHk.cred (j := k + k2) (by omega)
                have c2 := hHk.cred (j := k + k2 - 1) (by omega)
                rw [hI.high (k + k2) (by omega), show (k + k2) * 9 = k * 9 + k2 * 9 by omega] at c1
                rw [hI.high (k + k2 - 1) (by omega), show (k + k2 - 1) * 9 = k * 9 + (k2 - 1) * 9 by omega] at c2
                have HX := hid (And.intro c1 c2)
                have HC := hid (And.intro hHk (And.intro hc hI))
                have HZ2 : Hid (IntKind.i64.wrap ((k2 : Int) - 1) = ((k2 - 1 : Nat) : Int) ∧ (0 : Int) ≤ (k2 : Int) - 1 ∧ ((k2 : Int) - 1).toNat = k2 - 1 ∧ ((k2 - 1 : Nat) : Int) < ((d.size - k : Nat) : Int) ∧ (k2 : Int) < ((d.size - k : Nat) : Int)) := hid ⟨by rw [IntWalk.i64_in _ (by omega)]; omega, by omega, by omega, by omega, by omega⟩
                clear HZ
                have HZ := HZ2
                clear HZ2 c1 c2 hHk hc hI
                generalize hu : d[k + k2]! = u at *
                generalize hv : d[k + k2 - 1]! = v at *
                have C := hid (And.intro hu hv)
                clear hu hv
                go_wp2
                refine wp_region_specs (compSpecs2 g (d.size - k) (cap - k) k k2 u v) [35, 36, 37, 38, 39, 40, 41, 42, 43, 44] [4, 5] (by kernel_rfl) (by kernel_rfl) (by rfl) (by kernel_rfl) ?start2 ?obs2 ?fin2
                case start2 =>
                  simp only [List.forall_mem_cons]
                  exact ⟨⟨_, rfl, rfl⟩, ⟨_, rfl, rfl⟩, fun _ h => by cases h⟩
                case obs2 =>
                  clear HC HS
                  refine Obs.cons none (by kernel_rfl) ?_ ?_
                  · refine Ob.plain fun a w hR hk K k9 => ?_
                    obtain ⟨_, e4, f4⟩ := hk 4 (by decide)
                    clear hk
                    go_simp
                    exact k9 _ _ (Chg.refl _ _) f4
                  refine Obs.cons none (by kernel_rfl) ?_ ?_
                  · refine Ob.plain fun a w hR hk K k9 => ?_
                    obtain ⟨_, e5, f5⟩ := hk 5 (by decide)
                    clear hk
                    go_simp
                    exact k9 _ _ (Chg.refl _ _) f5
                  refine Obs.cons none (by kernel_rfl) ?_ ?_
                  · refine Ob.plain fun a w hR hk K k9 => ?_
                    obtain ⟨_, e35, rfl⟩ := hk 35 (by decide)
                    obtain ⟨_, e36, rfl⟩ := hk 36 (by decide)
                    clear hk
                    clear HX
                    obtain ⟨z1, z2, z3, z4, z5⟩ := HZ.out
                    go_simp
                    exact k9 _ _ (Chg.refl _ _) rfl
                  refine Obs.cons none (by kernel_rfl) ?_ ?_
                  · refine Ob.plain fun a w hR hk K k9 => ?_
                    obtain ⟨_, e37, rfl⟩ := hk 37 (by decide)
                    clear hk
                    obtain ⟨a0, a1, a2, a3, a4, a5, a6, a7, a8⟩ := HX.out.1.keep hR id
                    clear HX
                    go_simp
                    exact k9 _ _ (Chg.refl _ _) rfl
                  refine Obs.cons none (by kernel_rfl) ?_ ?_
                  · refine Ob.plain fun a w hR hk K k9 => ?_
                    obtain ⟨_, e4, f4⟩ := hk 4 (by decide)
                    clear hk
                    go_simp
                    exact k9 _ _ (Chg.refl _ _) f4
                  refine Obs.cons none (by kernel_rfl) ?_ ?_
                  · refine Ob.plain fun a w hR hk K k9 => ?_
                    obtain ⟨_, e5, f5⟩ := hk 5 (by decide)
                    clear hk
                    go_simp
                    exact k9 _ _ (Chg.refl _ _) f5
                  refine Obs.cons none (by kernel_rfl) ?_ ?_
                  · refine Ob.plain fun a w hR hk K k9 => ?_
                    obtain ⟨_, e40, rfl⟩ := hk 40 (by decide)
                    clear hk
                    clear HX
                    obtain ⟨z1, z2, z3, z4, z5⟩ := HZ.out
                    go_simp
                    exact k9 _ _ (Chg.refl _ _) rfl
                  refine Obs.cons none (by kernel_rfl) ?_ ?_
                  · refine Ob.plain fun a w hR hk K k9 => ?_
                    obtain ⟨_, e39, rfl⟩ := hk 39 (by decide)
                    obtain ⟨_, e41, rfl⟩ := hk 41 (by decide)
                    clear hk
                    clear HX
                    obtain ⟨z1, z2, z3, z4, z5⟩ := HZ.out
                    go_simp
                    exact k9 _ _ (Chg.refl _ _) rfl
                  refine Obs.cons none (by kernel_rfl) ?_ ?_
                  · refine Ob.plain fun a w hR hk K k9 => ?_
                    obtain ⟨_, e42, rfl⟩ := hk 42 (by decide)
                    clear hk
                    obtain ⟨a0, a1, a2, a3, a4, a5, a6, a7, a8⟩ := HX.out.2.keep hR id
                    clear HX
                    go_simp
                    exact k9 _ _ (Chg.refl _ _) rfl
                  refine Obs.cons none (by kernel_rfl) ?_ ?_
                  · refine Ob.plain fun a w hR hk K k9 => ?_
                    obtain ⟨_, e38, rfl⟩ := hk 38 (by decide)
                    obtain ⟨_, e43, rfl⟩ := hk 43 (by decide)
                    clear hk
                    clear HX
                    go_simp
                    simp only [run_neqgC, run_neqC, Result.andThen]
                    go_simp
                    exact k9 _ _ (Chg.refl _ _) rfl
                  exact Obs.nil
                case fin2 =>
                  intro vals w9 hc9 hv
                  have h44 : vals 44 = .bool (!eqC u v) := hv 44 (by decide)
                  simp only [putAll, List.setIfInBounds_toArray, List.set_cons_zero, List.set_cons_succ, h44]
                  have HC9 := hid (And.intro (HC.out.1.keep hc9 id) (And.intro (HC.out.2.1.trans hc9 (fun _ _ h => h.elim)) HC.out.2.2))
                  clear hc9 hv h44 HC HX
                  cases hq : eqC u v with
                  | true =>
                    have HX := hid (And.intro HC9.out.1 (And.intro HC9.out.2.1 (HC9.out.2.2.skip (keeps_neg (by omega) (by rw [C.out.1, C.out.2]; exact eqC_true.1 hq)))))
                    clear HC9 hq
                    go_wp2
                    go_roundw
                    case rel => exact ⟨kk, k2 + 1, dk, rfl, by go_num, by omega, by omega, HX.out.2.1, HX.out.1, HX.out.2.2⟩
                    case measure => simp [intOf]; omega
                  | false =>
                    have hne : ¬ u = v := fun e => by rw [e] at hq; rw [eqC_true.2 rfl] at hq; cases hq
                    have HX := hid (And.intro (HC9.out.1.set (k := kk) (u := u) (by omega) (by omega)) (And.intro (HC9.out.2.1.trans (chg_setCells (credCells u) (kk * 9) w9) (fun i hi h => h)) (by have := HC9.out.2.2.keep hlt2 (keeps_pos (by rw [C.out.1, C.out.2]; exact hne)); rwa [C.out.1] at this)))
                    have c1 := HC9.out.1.cred (j := k + k2) (by omega)
                    rw [HC9.out.2.2.high (k + k2) (by omega), show (k + k2) * 9 = k * 9 + k2 * 9 by omega, C.out.1] at c1
                    have c3 := HC9.out.1.cred (j := kk) (by omega)
                    have hfz := HC9.out.1.froz
                    obtain ⟨c1a, c1b, c1c, c1d, c1e, c1f, c1g, c1h, c1i⟩ := c1
                    obtain ⟨c3a, c3b, c3c, c3d, c3e, c3f, c3g, c3h, c3i⟩ := c3
                    have z0 := hfz (kk * 9)
                    have z1 := hfz (kk * 9 + 1)
                    have z2 := hfz (kk * 9 + 2)
                    have z3 := hfz (kk * 9 + 3)
                    have z4 := hfz (kk * 9 + 4)
                    have z5 := hfz (kk * 9 + 5)
                    have z6 := hfz (kk * 9 + 6)
                    have z7 := hfz (kk * 9 + 7)
                    have z8 := hfz (kk * 9 + 8)
                    clear HC9 hq hne hfz
                    go_wp2
                    go_roundw
                    case rel => exact ⟨kk + 1, k2 + 1, dk.setIfInBounds kk u, by go_num, by go_num, by omega, by omega, HX.out.2.1, HX.out.1, HX.out.2.2⟩
                    case measure => simp [intOf]; omega
              · have hend : k + k2 = d.size := by omega
                have hcl : ∀ ty, (Builtin.clear_ #[22] ty #[.slice (some ⟨g, kk * 9, none⟩) (d.size - kk) (cap - kk)]).run Try.prog wr = .ok (.tuple #[]) (wr.setCells g (kk * 9) (Builtin.zeroCells credZero.toArray (d.size - kk)).toList) :=
                  fun ty => run_clear_gen wr 22 36 ty (.agg credZero.toArray) _ 9 Try.underlying22 (fun w => by kernel_rfl) g (kk * 9) _ _ (by omega) rfl (zero_cells _).1 (zero_cells _).2 (fun j hj => by
                    obtain ⟨cur, b1, b2⟩ := hHk.blk
                    rw [cell_blk b1, Array.getElem?_eq_getElem (by omega)]; rfl) (fun j hj => hHk.froz _)
                rw [hend] at hI
                have hX := hHk.low (c := compactUpTo d d.size) (by rw [hI.len]; omega) (fun j hj => by
                  have e := hI.low j (by rw [hI.len] at hj; exact hj)
                  rw [List.getElem?_eq_getElem hj] at e
                  rw [getElem!_pos (compactUpTo d d.size) j hj]
                  exact (Option.some.inj e).symm)
                have hY := HoldC.aboves (Builtin.zeroCells credZero.toArray (d.size - kk)).toList (kk * 9) wr hX (by simp [hI.len])
                have HX := hid (And.intro hI.len (And.intro hY.1 (hc.trans hY.2 (fun _ _ h => h))))
                clear hX hY hHk hI hc
                go_wp2
                go_ret
                exact ⟨by rw [HX.out.1]; rfl, HX.out.2.1, HX.out.2.2⟩
          | false =>
            have hne : ¬ x = y := fun e => by rw [e] at hq; rw [eqC_true.2 rfl] at hq; cases hq
            have A2 : Hid (∀ j, j < k + 1 → keeps d j = true) := hid (fun j hj => by
              by_cases e : j = k
              · subst e
                exact keeps_pos (by rw [B.out.1, B.out.2]; exact hne)
              · exact A.out j (by omega))
            clear hq hne
            go_wp2
            go_roundw
            case rel => exact ⟨k + 1, by omega, by omega, by go_num, HC9.out.1, HC9.out.2, A2⟩
            case measure => simp [intOf]; omega
      · have hk2 : k = d.size := by omega
        have HH := hid (And.intro hHr hc)
        clear hHr hc hH
        subst hk2
        go_wp2
        go_ret
        obtain ⟨e1, e2⟩ := HS.out A.out
        exact ⟨by rw [e1]; rfl, HH.out.1.low (by omega) e2, HH.out.2⟩

theorem ccomp_len (d : Array CredB) : ∀ m, (compactUpTo d m).length ≤ m
  | 0 => by simp [compactUpTo]
  | m + 1 => by
    have := ccomp_len d m
    rw [compactUpTo_succ, List.length_append]
    split <;> simp <;> omega

theorem HoldC.own {B : Nat} {w : World} {g cap : Nat} {c : List CredB} (h : HoldC w g cap c.toArray) (hg : B ≤ g) (hl : c.length ≤ cap) (hm : cap ≤ maxLen) : OwnC B w (.slice (some ⟨g, 0, none⟩) c.length cap) c := by
  obtain ⟨cur, b1, b2⟩ := h.blk
  refine ⟨by rw [credRow_length], .inr ⟨g, cap, cur, rfl, hg, b1, hl, hm, b2, ?_⟩⟩
  apply List.ext_getElem?
  intro i
  rw [List.getElem?_take]
  by_cases hi : i < c.length * 9
  · rw [if_pos hi]
    have e1 : cur.toList[i]? = cur[i]? := by simp
    rw [e1]
    have hj : i / 9 < c.length := by omega
    have a := h.at_ (i / 9) (by simpa using hj) (i % 9) (Nat.mod_lt _ (by decide))
    rw [cell_blk b1, show i / 9 * 9 + i % 9 = i by omega] at a
    have b := credRow_get c (i / 9) (i % 9) hj (Nat.mod_lt _ (by decide))
    rw [show i / 9 * 9 + i % 9 = i by omega] at b
    rw [a, b]
    simp [hj]
  · rw [if_neg hi, List.getElem?_eq_none (by rw [credRow_length]; omega)]

theorem OwnC.hold {B : Nat} {w : World} {g cap : Nat} {ls : List CredB} (h : OwnC B w (.slice (some ⟨g, 0, none⟩) ls.length cap) ls) : HoldC w g cap ls.toArray ∧ B ≤ g ∧ ls.length ≤ cap ∧ cap ≤ maxLen := by
  have hall := h
  rcases h.2 with ⟨he, _⟩ | ⟨g', cap', cur, he, hg, hh, h1, h2, h3, h4⟩
  · cases he
  · cases he
    refine ⟨⟨⟨cur, hh, h3⟩, fun j hj i hi => ?_⟩, hg, h1, h2⟩
    have hj' : j < ls.length := by simpa using hj
    have hget := credRow_get ls j i hj' hi
    have hs : i < (credCells ls[j]).length := hi
    rw [List.getElem?_eq_getElem hs] at hget
    have := hall.cells (g := g) rfl (j * 9 + i) _ hget
    rw [add_off, Nat.zero_add] at this
    rw [this]
    simp [hj', hs]

theorem pccompact_own {B : Nat} {w : World} {ao : Option Addr} {cap : Nat} {ls : List CredB} (h : OwnC B w (.slice ao ls.length cap) ls) (hl : ls.length ≤ 4194304) :
    Calls Try.prog 77 #[.slice ao ls.length cap] w fun e w' => (∃ ao2 cap2, e = .returned (.slice ao2 (Lib.compact ls).length cap2) ∧ OwnC B w' (.slice ao2 (Lib.compact ls).length cap2) (Lib.compact ls)) ∧ (∀ S : Nat → Prop, (∀ k, B ≤ k → S k) → Chg S w w') := by
  have hall := h
  rcases h.2 with ⟨he, h0⟩ | ⟨g, cap', cur, he, hg, hh, h1, h2, h3, h4⟩
  · have : ls = [] := List.eq_nil_of_length_eq_zero h0
    subst this
    cases he
    go_enter Try.func77, Try.ntmps77
    go_wp2
    go_ret
    exact ⟨⟨none, 0, rfl, hall⟩, fun S _ => Chg.refl _ _⟩
  · cases he
    obtain ⟨hH, _, _, _⟩ := hall.hold
    have hwk := ccompact_walk g cap ls.toArray w hH (by simpa using hl) (by simpa using h1) (by unfold maxLen at h2; exact h2)
    have hs : ls.toArray.size = ls.length := by simp
    rw [hs] at hwk
    refine hwk.mono ?_
    rintro e w' ⟨rfl, hH', hc⟩
    exact ⟨⟨_, _, rfl, hH'.own hg (Nat.le_trans (ccomp_len ls.toArray ls.length) h1) h2⟩, fun S hS => hc.mono (fun k _ hk => by subst hk; exact hS _ hg)⟩
end Go.Proofs.Ytjaplnainlbldaa
