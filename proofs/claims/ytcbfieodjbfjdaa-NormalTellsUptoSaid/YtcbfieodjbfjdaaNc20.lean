/- Texts that the proof leans on, in one: NnComp, NnInj. -/
import Derived.Test.YtcbfieodjbfjdaaNc19
import Derived.Test.YtcbfieodjbfjdaaNc11
/- slices.CompactFunc at formulas: the walk. -/
namespace Go.Proofs.Ytcbfieodjbfjdaa
open Go.RowKit Go.Lib Go.Sort

def fS : Value := .func (.func 21) #[] #[]
def cfSpecs1 (g n cap k : Nat) (x y : AT) (b : Bool) : List Spec := [.eq (.slice (some ⟨g, 0, none⟩) n cap), .eq fS, .any, .any, .any, .eq (.int .i64 k), .any, .any, .any, .any, .any, .any, .any, .any, .any, .any, .any, .any, .eq fS, .eq (.slice (some ⟨g, 0, none⟩) n cap), .eq (.int .i64 k), .eq (.pointer (some ⟨g, k * 5, none⟩)), .eq (fmV x), .eq (.slice (some ⟨g, 0, none⟩) n cap), .eq (.int .i64 k), .eq (.int .i64 ((k - 1 : Nat) : Int)), .eq (.pointer (some ⟨g, (k - 1) * 5, none⟩)), .eq (fmV y), .eq (.bool b)]
def cfSpecs2 (g n cap k m : Nat) (x y : AT) (b : Bool) : List Spec := [.any, .eq fS, .any, .any, .any, .any, .eq (.slice (some ⟨g, k * 5, none⟩) n cap), .eq (.int .i64 m), .any, .any, .any, .any, .any, .any, .any, .any, .any, .any, .any, .any, .any, .any, .any, .any, .any, .any, .any, .any, .any, .any, .any, .any, .any, .any, .any, .any, .any, .any, .eq fS, .eq (.slice (some ⟨g, k * 5, none⟩) n cap), .eq (.int .i64 m), .eq (.pointer (some ⟨g, k * 5 + m * 5, none⟩)), .eq (fmV x), .eq (.slice (some ⟨g, k * 5, none⟩) n cap), .eq (.int .i64 m), .eq (.int .i64 ((m - 1 : Nat) : Int)), .eq (.pointer (some ⟨g, k * 5 + (m - 1) * 5, none⟩)), .eq (fmV y), .eq (.bool b), .eq (.bool (!b))]

set_option maxRecDepth 100000 in
set_option maxHeartbeats 8000000 in
theorem ncompact_walk {B : Nat} (g cap : Nat) (d : Array AT) (w : World) (hH : HoldA w g cap d) (hO : RowOk B w g d) (hsz : d.size ≤ 4194304) (hcap : d.size ≤ cap) (hcm : cap ≤ 9223372036854775807) :
    Calls Try.prog 78 #[.slice (some ⟨g, 0, none⟩) d.size cap, .func (.func 21) #[] #[]] w fun e w' => e = .returned (.slice (some ⟨g, 0, none⟩) (compA d d.size).length cap) ∧ HoldA w' g cap (compA d d.size).toArray ∧ Chg (fun k => k = g) w w' := by
  have same : (∀ j, j < d.size → keepA d j = true) → (compA d d.size).length = d.size ∧ ∀ j (hj : j < (compA d d.size).length), d[j]! = (compA d d.size)[j] := by
    intro hall
    have e : compA d d.size = d.toList := by rw [compA_all d _ hall, range_mapA]
    refine ⟨by rw [e]; simp, fun j hj => ?_⟩
    have hj' : j < d.size := by rw [e] at hj; simpa using hj
    rw [getElem!_pos d j hj', ← Array.getElem_toList]
    congr 1
    rw [e]
  have HS := hid same
  have HO := hid hO
  clear same hO
  by_cases h2 : d.size < 2
  · have HH := hid hH
    clear hH
    go_enter Try.func78, Try.ntmps78
    go_wp2
    go_ret
    obtain ⟨e1, e2⟩ := HS.out (fun j hj => keepA_one d j (by omega))
    exact ⟨by rw [e1]; rfl, HH.out.low (by omega) e2, Chg.refl _ _⟩
  · go_enter Try.func78, Try.ntmps78
    go_wp2
    go_loopw [5] (fun s3 wr => ∃ k : Nat, 1 ≤ k ∧ k ≤ d.size ∧ s3 = .int .i64 k ∧ HoldA wr g cap d ∧ Chg (fun k => k = g) w wr ∧ Hid (∀ j, j < k → keepA d j = true)) (fun s3 _ => d.size - (intOf s3).toNat)
    case atStart => exact ⟨1, Nat.le_refl _, by omega, rfl, hH, Chg.refl _ _, keepA_one d⟩
    case round =>
      obtain ⟨k, hk1, hk, rfl, hHr, hc, A⟩ := hrel
      by_cases hlt : k < d.size
      · have HX := hid (And.intro (hHr.fm hlt) (hHr.fm (j := k - 1) (by omega)))
        have HC := hid (And.intro hHr hc)
        have HSM : Hid (∀ W, Chg (fun _ => False) wr W → Calls Try.prog 21 #[fmV d[k]!, fmV d[k - 1]!] W fun e w'' => e = .returned (.bool (sameA d[k]! d[k - 1]!)) ∧ Chg (fun _ => False) W w'') := hid fun W hW => HO.out.same (hc.trans hW (fun _ _ h => h.elim)) hlt (by omega)
        have HZ : Hid (IntKind.i64.wrap ((k : Int) - 1) = ((k - 1 : Nat) : Int) ∧ (0 : Int) ≤ (k : Int) - 1 ∧ ((k : Int) - 1).toNat = k - 1 ∧ ((k - 1 : Nat) : Int) < d.size ∧ (k : Int) < d.size) := hid ⟨by rw [IntWalk.i64_in _ (by omega)]; omega, by omega, by omega, by omega, by omega⟩
        have HKP := hid (And.intro (keepA_pos (d := d) (m := k)) (keepA_neg (d := d) (m := k) (by omega)))
        clear hHr hc hH
        generalize hx : d[k]! = x at *
        generalize hy : d[k - 1]! = y at *
        generalize hb : sameA x y = b at *
        clear hx hy hb
        go_wp2
        refine wp_region_specs (cfSpecs1 g d.size cap k x y b) [18, 19, 20, 21, 22, 23, 24, 25, 26, 27, 28] [0, 1, 5] (by kernel_rfl) (by kernel_rfl) (by rfl) (by kernel_rfl) ?start ?obs ?fin
        case start =>
          simp only [List.forall_mem_cons]
          exact ⟨⟨_, rfl, rfl⟩, ⟨_, rfl, rfl⟩, ⟨_, rfl, rfl⟩, fun _ h => by cases h⟩
        case obs =>
          clear HC HS HKP
          refine Obs.cons none (by kernel_rfl) ?_ ?_
          · refine Ob.plain fun a w hR hk K k9 => ?_
            obtain ⟨_, e1, f1⟩ := hk 1 (by decide)
            clear hk
            go_simp
            exact k9 _ _ (Chg.refl _ _) f1
          refine Obs.cons none (by kernel_rfl) ?_ ?_
          · refine Ob.plain fun a w hR hk K k9 => ?_
            obtain ⟨_, e0, f0⟩ := hk 0 (by decide)
            clear hk
            go_simp
            exact k9 _ _ (Chg.refl _ _) f0
          refine Obs.cons none (by kernel_rfl) ?_ ?_
          · refine Ob.plain fun a w hR hk K k9 => ?_
            obtain ⟨_, e5, f5⟩ := hk 5 (by decide)
            clear hk
            go_simp
            exact k9 _ _ (Chg.refl _ _) f5
          refine Obs.cons none (by kernel_rfl) ?_ ?_
          · refine Ob.plain fun a w hR hk K k9 => ?_
            obtain ⟨_, e19, rfl⟩ := hk 19 (by decide)
            obtain ⟨_, e20, rfl⟩ := hk 20 (by decide)
            clear hk
            clear HX
            obtain ⟨z1, z2, z3, z4, z5⟩ := HZ.out
            go_simp
            exact k9 _ _ (Chg.refl _ _) rfl
          refine Obs.cons none (by kernel_rfl) ?_ ?_
          · refine Ob.plain fun a w hR hk K k9 => ?_
            obtain ⟨_, e21, rfl⟩ := hk 21 (by decide)
            clear hk
            obtain ⟨a0, a1, a2, a3, a4⟩ := HX.out.1.keep hR id
            clear HX
            go_simp
            exact k9 _ _ (Chg.refl _ _) rfl
          refine Obs.cons none (by kernel_rfl) ?_ ?_
          · refine Ob.plain fun a w hR hk K k9 => ?_
            obtain ⟨_, e0, f0⟩ := hk 0 (by decide)
            clear hk
            go_simp
            exact k9 _ _ (Chg.refl _ _) f0
          refine Obs.cons none (by kernel_rfl) ?_ ?_
          · refine Ob.plain fun a w hR hk K k9 => ?_
            obtain ⟨_, e5, f5⟩ := hk 5 (by decide)
            clear hk
            go_simp
            exact k9 _ _ (Chg.refl _ _) f5
          refine Obs.cons none (by kernel_rfl) ?_ ?_
          · refine Ob.plain fun a w hR hk K k9 => ?_
            obtain ⟨_, e24, rfl⟩ := hk 24 (by decide)
            clear hk
            clear HX
            obtain ⟨z1, z2, z3, z4, z5⟩ := HZ.out
            go_simp
            exact k9 _ _ (Chg.refl _ _) rfl
          refine Obs.cons none (by kernel_rfl) ?_ ?_
          · refine Ob.plain fun a w hR hk K k9 => ?_
            obtain ⟨_, e23, rfl⟩ := hk 23 (by decide)
            obtain ⟨_, e25, rfl⟩ := hk 25 (by decide)
            clear hk
            clear HX
            obtain ⟨z1, z2, z3, z4, z5⟩ := HZ.out
            go_simp
            exact k9 _ _ (Chg.refl _ _) rfl
          refine Obs.cons none (by kernel_rfl) ?_ ?_
          · refine Ob.plain fun a w hR hk K k9 => ?_
            obtain ⟨_, e26, rfl⟩ := hk 26 (by decide)
            clear hk
            obtain ⟨a0, a1, a2, a3, a4⟩ := HX.out.2.keep hR id
            clear HX
            go_simp
            exact k9 _ _ (Chg.refl _ _) rfl
          refine Obs.cons none (by kernel_rfl) ?_ ?_
          · refine Ob.plain fun a w hR hk K k9 => ?_
            obtain ⟨_, e18, rfl⟩ := hk 18 (by decide)
            obtain ⟨_, e22, rfl⟩ := hk 22 (by decide)
            obtain ⟨_, e27, rfl⟩ := hk 27 (by decide)
            clear hk
            have he := eg_same
            clear HX
            go_simp
            refine (HSM.out _ hR).mono ?_
            rintro e w5 ⟨rfl, hcc⟩
            exact k9 _ _ hcc rfl
          exact Obs.nil
        case fin =>
          intro vals w9 hc9 hv
          have h28 : vals 28 = .bool b := hv 28 (by decide)
          simp only [putAll, List.setIfInBounds_toArray, List.set_cons_zero, List.set_cons_succ, h28]
          have HC9 := hid (And.intro (HC.out.1.keep hc9 id) (HC.out.2.trans hc9 (fun _ _ h => h.elim)))
          clear hc9 hv h28 HC HX HSM
          cases b with
          | true =>
            have HK : Hid (keepA d k = false) := hid (HKP.out.2 rfl)
            clear HKP
            go_wp2
            go_loopw [5, 7] (fun s3 s5 wr => ∃ (kk k2 : Nat) (dk : Array AT), s3 = .int .i64 kk ∧ s5 = .int .i64 k2 ∧ 1 ≤ k2 ∧ k + k2 ≤ d.size ∧ Chg (fun k => k = g) w wr ∧ HoldA wr g cap dk ∧ CompI d (k + k2) kk dk) (fun _ s5 _ => d.size - (k + (intOf s5).toNat))
            case atStart => exact ⟨k, 1, d, rfl, rfl, Nat.le_refl _, by omega, HC9.out.2, HC9.out.1, CompI.start hlt A.out HK.out⟩
            case round =>
              obtain ⟨kk, k2, dk, rfl, rfl, h1, hle, hc, hHk, hI⟩ := hrel
              have hkk := hI.lt
              have hds := hI.size
              by_cases hlt2 : k + k2 < d.size
              · have c1 := hHk.fm (j := k + k2) (by omega)
                have c2 := hHk.fm (j := k + k2 - 1) (by omega)
                rw [hI.high (k + k2) (by omega), show (k + k2) * 5 = k * 5 + k2 * 5 by omega] at c1
                rw [hI.high (k + k2 - 1) (by omega), show (k + k2 - 1) * 5 = k * 5 + (k2 - 1) * 5 by omega] at c2
                have HX := hid (And.intro c1 c2)
                have HC := hid (And.intro hHk (And.intro hc hI))
                have HSM : Hid (∀ W, Chg (fun _ => False) wr W → Calls Try.prog 21 #[fmV d[k + k2]!, fmV d[k + k2 - 1]!] W fun e w'' => e = .returned (.bool (sameA d[k + k2]! d[k + k2 - 1]!)) ∧ Chg (fun _ => False) W w'') := hid fun W hW => HO.out.same (hc.trans hW (fun _ _ h => h.elim)) hlt2 (by omega)
                have HZ2 : Hid (IntKind.i64.wrap ((k2 : Int) - 1) = ((k2 - 1 : Nat) : Int) ∧ (0 : Int) ≤ (k2 : Int) - 1 ∧ ((k2 : Int) - 1).toNat = k2 - 1 ∧ ((k2 - 1 : Nat) : Int) < ((d.size - k : Nat) : Int) ∧ (k2 : Int) < ((d.size - k : Nat) : Int)) := hid ⟨by rw [IntWalk.i64_in _ (by omega)]; omega, by omega, by omega, by omega, by omega⟩
                have HKP := hid (And.intro (keepA_pos (d := d) (m := k + k2)) (keepA_neg (d := d) (m := k + k2) (by omega)))
                have HUO : Hid (∃ uo un uc, d[k + k2]!.v = .slice uo un uc) := hid (by
                  obtain ⟨uo, uc, hv, _⟩ := own_fms (HO.out (k + k2) hlt2).1
                  exact ⟨uo, _, uc, hv⟩)
                clear HZ
                have HZ := HZ2
                clear HZ2 c1 c2 hHk hc hI
                generalize hu : d[k + k2]! = u at *
                generalize hv : d[k + k2 - 1]! = v at *
                generalize hb : sameA u v = b2 at *
                have C := hid hu
                clear hu hv hb
                go_wp2
                refine wp_region_specs (cfSpecs2 g (d.size - k) (cap - k) k k2 u v b2) [38, 39, 40, 41, 42, 43, 44, 45, 46, 47, 48, 49] [1, 6, 7] (by kernel_rfl) (by kernel_rfl) (by rfl) (by kernel_rfl) ?start2 ?obs2 ?fin2
                case start2 =>
                  simp only [List.forall_mem_cons]
                  exact ⟨⟨_, rfl, rfl⟩, ⟨_, rfl, rfl⟩, ⟨_, rfl, rfl⟩, fun _ h => by cases h⟩
                case obs2 =>
                  clear HC HS HKP HUO
                  refine Obs.cons none (by kernel_rfl) ?_ ?_
                  · refine Ob.plain fun a w hR hk K k9 => ?_
                    obtain ⟨_, e1, f1⟩ := hk 1 (by decide)
                    clear hk
                    go_simp
                    exact k9 _ _ (Chg.refl _ _) f1
                  refine Obs.cons none (by kernel_rfl) ?_ ?_
                  · refine Ob.plain fun a w hR hk K k9 => ?_
                    obtain ⟨_, e6, f6⟩ := hk 6 (by decide)
                    clear hk
                    go_simp
                    exact k9 _ _ (Chg.refl _ _) f6
                  refine Obs.cons none (by kernel_rfl) ?_ ?_
                  · refine Ob.plain fun a w hR hk K k9 => ?_
                    obtain ⟨_, e7, f7⟩ := hk 7 (by decide)
                    clear hk
                    go_simp
                    exact k9 _ _ (Chg.refl _ _) f7
                  refine Obs.cons none (by kernel_rfl) ?_ ?_
                  · refine Ob.plain fun a w hR hk K k9 => ?_
                    obtain ⟨_, e39, rfl⟩ := hk 39 (by decide)
                    obtain ⟨_, e40, rfl⟩ := hk 40 (by decide)
                    clear hk
                    clear HX
                    obtain ⟨z1, z2, z3, z4, z5⟩ := HZ.out
                    go_simp
                    exact k9 _ _ (Chg.refl _ _) rfl
                  refine Obs.cons none (by kernel_rfl) ?_ ?_
                  · refine Ob.plain fun a w hR hk K k9 => ?_
                    obtain ⟨_, e41, rfl⟩ := hk 41 (by decide)
                    clear hk
                    obtain ⟨a0, a1, a2, a3, a4⟩ := HX.out.1.keep hR id
                    clear HX
                    go_simp
                    exact k9 _ _ (Chg.refl _ _) rfl
                  refine Obs.cons none (by kernel_rfl) ?_ ?_
                  · refine Ob.plain fun a w hR hk K k9 => ?_
                    obtain ⟨_, e6, f6⟩ := hk 6 (by decide)
                    clear hk
                    go_simp
                    exact k9 _ _ (Chg.refl _ _) f6
                  refine Obs.cons none (by kernel_rfl) ?_ ?_
                  · refine Ob.plain fun a w hR hk K k9 => ?_
                    obtain ⟨_, e7, f7⟩ := hk 7 (by decide)
                    clear hk
                    go_simp
                    exact k9 _ _ (Chg.refl _ _) f7
                  refine Obs.cons none (by kernel_rfl) ?_ ?_
                  · refine Ob.plain fun a w hR hk K k9 => ?_
                    obtain ⟨_, e44, rfl⟩ := hk 44 (by decide)
                    clear hk
                    clear HX
                    obtain ⟨z1, z2, z3, z4, z5⟩ := HZ.out
                    go_simp
                    exact k9 _ _ (Chg.refl _ _) rfl
                  refine Obs.cons none (by kernel_rfl) ?_ ?_
                  · refine Ob.plain fun a w hR hk K k9 => ?_
                    obtain ⟨_, e43, rfl⟩ := hk 43 (by decide)
                    obtain ⟨_, e45, rfl⟩ := hk 45 (by decide)
                    clear hk
                    clear HX
                    obtain ⟨z1, z2, z3, z4, z5⟩ := HZ.out
                    go_simp
                    exact k9 _ _ (Chg.refl _ _) rfl
                  refine Obs.cons none (by kernel_rfl) ?_ ?_
                  · refine Ob.plain fun a w hR hk K k9 => ?_
                    obtain ⟨_, e46, rfl⟩ := hk 46 (by decide)
                    clear hk
                    obtain ⟨a0, a1, a2, a3, a4⟩ := HX.out.2.keep hR id
                    clear HX
                    go_simp
                    exact k9 _ _ (Chg.refl _ _) rfl
                  refine Obs.cons none (by kernel_rfl) ?_ ?_
                  · refine Ob.plain fun a w hR hk K k9 => ?_
                    obtain ⟨_, e38, rfl⟩ := hk 38 (by decide)
                    obtain ⟨_, e42, rfl⟩ := hk 42 (by decide)
                    obtain ⟨_, e47, rfl⟩ := hk 47 (by decide)
                    clear hk
                    have he := eg_same
                    clear HX
                    go_simp
                    refine (HSM.out _ hR).mono ?_
                    rintro e w5 ⟨rfl, hcc⟩
                    exact k9 _ _ hcc rfl
                  refine Obs.cons none (by kernel_rfl) ?_ ?_
                  · refine Ob.plain fun a w hR hk K k9 => ?_
                    obtain ⟨_, e48, rfl⟩ := hk 48 (by decide)
                    clear hk
                    go_simp
                    exact k9 _ _ (Chg.refl _ _) rfl
                  exact Obs.nil
                case fin2 =>
                  intro vals w9 hc9 hv
                  have h49 : vals 49 = .bool (!b2) := hv 49 (by decide)
                  simp only [putAll, List.setIfInBounds_toArray, List.set_cons_zero, List.set_cons_succ, h49]
                  have HC9 := hid (And.intro (HC.out.1.keep hc9 id) (And.intro (HC.out.2.1.trans hc9 (fun _ _ h => h.elim)) HC.out.2.2))
                  clear hc9 hv h49 HC HX HSM
                  cases b2 with
                  | true =>
                    have HX := hid (And.intro HC9.out.1 (And.intro HC9.out.2.1 (HC9.out.2.2.skip (HKP.out.2 rfl))))
                    clear HC9 HKP HUO
                    go_wp2
                    go_roundw
                    case rel => exact ⟨kk, k2 + 1, dk, rfl, by go_num, by omega, by omega, HX.out.2.1, HX.out.1, HX.out.2.2⟩
                    case measure => simp [intOf]; omega
                  | false =>
                    have HX := hid (And.intro (HC9.out.1.set (k := kk) (u := u) (by omega) (by omega)) (And.intro (HC9.out.2.1.trans (chg_setCellsA (cellsA u) (kk * 5) w9) (fun i hi h => h)) (by have := HC9.out.2.2.keep hlt2 (HKP.out.1 rfl); rwa [C.out] at this)))
                    have c1 := HC9.out.1.fm (j := k + k2) (by omega)
                    rw [HC9.out.2.2.high (k + k2) (by omega), show (k + k2) * 5 = k * 5 + k2 * 5 by omega, C.out] at c1
                    have c3 := HC9.out.1.fm (j := kk) (by omega)
                    have hfz := HC9.out.1.froz
                    obtain ⟨uo, un, uc, hv⟩ := HUO.out
                    clear C HUO
                    obtain ⟨uop, uk, ur, uv, ukids⟩ := u
                    simp only [AT.v] at hv
                    subst hv
                    rw [← putA_eq] at HX
                    unfold putA at HX
                    simp only [AT.op, AT.k, AT.r, AT.v] at HX
                    obtain ⟨c1a, c1b, c1c, c1d, c1e⟩ := c1
                    simp only [AT.op, AT.k, AT.r, AT.v] at c1a c1b c1c c1d c1e
                    obtain ⟨c3a, c3b, c3c, c3d, c3e⟩ := c3
                    have z0 := hfz (kk * 5)
                    have z1 := hfz (kk * 5 + 1)
                    have z2 := hfz (kk * 5 + 2)
                    have z3 := hfz (kk * 5 + 3)
                    have z4 := hfz (kk * 5 + 4)
                    clear HC9 HKP hfz
                    go_wp2
                    go_roundw
                    case rel => exact ⟨kk + 1, k2 + 1, dk.setIfInBounds kk (.mk uop uk ur (.slice uo un uc) ukids), by go_num, by go_num, by omega, by omega, HX.out.2.1, HX.out.1, HX.out.2.2⟩
                    case measure => simp [intOf]; omega
              · have hend : k + k2 = d.size := by omega
                have hcl : ∀ ty, (Builtin.clear_ #[24] ty #[.slice (some ⟨g, kk * 5, none⟩) (d.size - kk) (cap - kk)]).run Try.prog wr = .ok (.tuple #[]) (wr.setCells g (kk * 5) (Builtin.zeroCells fmZero.toArray (d.size - kk)).toList) :=
                  fun ty => run_clear_fm wr 24 26 ty (.agg fmZero.toArray) _ 5 Try.underlying24b (fun w => by kernel_rfl) g (kk * 5) _ _ (by omega) rfl (zero_cells_fm _).1 (zero_cells_fm _).2 (fun j hj => by
                    obtain ⟨cur, b1, b2⟩ := hHk.blk
                    rw [cell_blk b1, Array.getElem?_eq_getElem (by omega)]; rfl) (fun j hj => hHk.froz _)
                rw [hend] at hI
                have hX := hHk.low (c := compA d d.size) (by rw [hI.len]; omega) (fun j hj => by
                  have e := hI.low j (by rw [hI.len] at hj; exact hj)
                  rw [List.getElem?_eq_getElem hj] at e
                  exact (Option.some.inj e).symm)
                have hY := HoldA.aboves (Builtin.zeroCells fmZero.toArray (d.size - kk)).toList (kk * 5) wr hX (by simp [hI.len])
                have HX := hid (And.intro hI.len (And.intro hY.1 (hc.trans hY.2 (fun _ _ h => h))))
                clear hX hY hHk hI hc
                go_wp2
                go_ret
                exact ⟨by rw [HX.out.1]; rfl, HX.out.2.1, HX.out.2.2⟩
          | false =>
            have A2 : Hid (∀ j, j < k + 1 → keepA d j = true) := hid (fun j hj => by
              by_cases e : j = k
              · subst e
                exact HKP.out.1 rfl
              · exact A.out j (by omega))
            clear HKP
            go_wp2
            go_roundw
            case rel => exact ⟨k + 1, by omega, by omega, by go_num, HC9.out.1, HC9.out.2, A2⟩
            case measure => simp [intOf]; omega
      · have hk2 : k = d.size := by omega
        have HH := hid (And.intro hHr hc)
        clear hHr hc hH
        subst hk2
        go_wp2
        go_ret
        obtain ⟨e1, e2⟩ := HS.out A.out
        exact ⟨by rw [e1]; rfl, HH.out.1.low (by omega) e2, HH.out.2⟩
end Go.Proofs.Ytcbfieodjbfjdaa

/- What is written of a right formula tells which it is. -/
namespace Go.Proofs.Ytcbfieodjbfjdaa
open Go.RowKit

theorem ds_inj {m n : Nat} (hm : m < 128) (hn : n < 128) (h : ds m = ds n) : m = n := by rw [← ds_toNat hm, ← ds_toNat hn, h]
theorem piece_inj {s t a b : List UInt8} (hs : s.length ≤ 16) (ht : t.length ≤ 16) (h : enc s.length ++ (s ++ a) = enc t.length ++ (t ++ b)) : s = t ∧ a = b := by
  rw [enc_small (by omega), enc_small (by omega)] at h
  simp only [List.cons_append, List.nil_append, List.cons.injEq] at h
  exact List.append_inj h.2 (ds_inj (by omega) (by omega) h.1)
theorem roleEnc_inj {r s : RoleB} {a b : List UInt8} (hr : isRole r = true) (hs : isRole s = true) (h : roleEnc r ++ a = roleEnc s ++ b) : r = s ∧ a = b := by
  have h1 := role_len hr
  have h2 := role_len hs
  simp only [roleEnc, List.append_assoc] at h
  obtain ⟨e1, h⟩ := piece_inj h1.1 h2.1 h
  obtain ⟨e2, h⟩ := piece_inj h1.2 h2.2 h
  exact ⟨Prod.ext e1 e2, h⟩

theorem encF_inj : ∀ f : FmB, rightF f = true → ∀ g : FmB, rightF g = true → ∀ a b : List UInt8, encF f ++ a = encF g ++ b → f = g ∧ a = b := by
  refine nodes_ind fun f ih hf g hg a b h => ?_
  rw [rightF_eq, Bool.and_eq_true] at hf hg
  have hkf := rightL_mem hf.1
  have hkg := rightL_mem hg.1
  have key : ∀ l : List FmB, (∀ x ∈ l, x ∈ f.kids) → ∀ m : List FmB, (∀ x ∈ m, rightF x = true) → l.length = m.length → ∀ a b : List UInt8, encFs l ++ a = encFs m ++ b → l = m ∧ a = b := by
    intro l
    induction l with
    | nil =>
      intro _ m _ hl a b h
      cases m with
      | nil => exact ⟨rfl, by simpa [encFs] using h⟩
      | cons y m => simp at hl
    | cons x l ih2 =>
      intro hx m hm hl a b h
      cases m with
      | nil => simp at hl
      | cons y m =>
        rw [encFs, encFs, List.append_assoc, List.append_assoc] at h
        obtain ⟨e1, h⟩ := ih x (hx x (by simp)) (hkf x (hx x (by simp))) y (hm y (by simp)) _ _ h
        obtain ⟨e2, h⟩ := ih2 (fun z hz => hx z (List.mem_cons_of_mem _ hz)) m (fun z hz => hm z (List.mem_cons_of_mem _ hz)) (by simpa using hl) _ _ h
        exact ⟨by rw [e1, e2], h⟩
  obtain ⟨fo, fk, fr, fl⟩ := f
  obtain ⟨go, gk, gr, gl⟩ := g
  simp only [FmB.op, FmB.k, FmB.r, FmB.kids] at hf hg hkf hkg key
  rw [encF, encF] at h
  have hfo : 0 ≤ fo ∧ fo < 128 := by rcases rightN_op hf.2 with h | h | h <;> omega
  have hgo : 0 ≤ go ∧ go < 128 := by rcases rightN_op hg.2 with h | h | h <;> omega
  rw [enc_small (show fo.toNat < 128 by omega), enc_small (show go.toNat < 128 by omega)] at h
  simp only [List.cons_append, List.nil_append, List.cons.injEq] at h
  obtain ⟨h0, h⟩ := h
  have e0 : fo = go := by have := ds_inj (show fo.toNat < 128 by omega) (show go.toNat < 128 by omega) h0; omega
  subst e0
  rcases rightN_op hf.2 with ⟨h1, h2, h3, h4⟩ | ⟨h1, h2, h3, h4⟩ | ⟨h1, h2, h3, h4, h5, h6⟩ <;> rcases rightN_op hg.2 with ⟨k1, k2, k3, k4⟩ | ⟨k1, k2, k3, k4⟩ | ⟨k1, k2, k3, k4, k5, k6⟩ <;> first | omega | skip
  · rw [if_pos h1, if_pos h1] at h
    obtain ⟨e1, e2⟩ := roleEnc_inj h2 k2 h
    rw [List.length_eq_zero_iff] at h3 k3
    exact ⟨by rw [e1, h3, k3, h4, k4], e2⟩
  · have n1 : fo ≠ 1 := by omega
    have n4 : fo ≠ 4 := by omega
    rw [if_neg n1, if_neg n1, if_neg n4, List.nil_append, if_neg n4, List.nil_append, enc_small (by omega), enc_small (by omega)] at h
    simp only [List.cons_append, List.nil_append, List.cons.injEq] at h
    obtain ⟨e1, e2⟩ := key fl (fun _ h => h) gl hkg (ds_inj (by omega) (by omega) h.1) _ _ h.2
    exact ⟨by rw [e1, h2, k2, h4, k4], e2⟩
  · have n1 : fo ≠ 1 := by omega
    rw [if_neg n1, if_neg n1, if_pos h1, if_pos h1, enc_small (show fl.length < 128 by omega), enc_small (show gl.length < 128 by omega), enc_small (show fk.toNat < 128 by omega), enc_small (show gk.toNat < 128 by omega)] at h
    simp only [List.cons_append, List.nil_append, List.cons.injEq] at h
    obtain ⟨e3, h⟩ := h
    obtain ⟨e1, e2⟩ := key fl (fun _ h => h) gl hkg (ds_inj (by omega) (by omega) h.1) _ _ h.2
    have e4 : fk = gk := by have := ds_inj (show fk.toNat < 128 by omega) (show gk.toNat < 128 by omega) e3; omega
    exact ⟨by rw [e1, h2, k2, e4], e2⟩

theorem isF_parts {f : FmB} : isF f = true ↔ nodesF f ≤ 64 ∧ deepF f ≤ 6 ∧ rightF f = true := by
  unfold isF
  simp only [Bool.and_eq_true, decide_eq_true_eq]
theorem wrN_inj {x y : FmB} (hx : isF x = true) (h : wrN x = wrN y) : x = y := by
  unfold wrN at h
  rw [if_pos hx] at h
  by_cases hy : isF y = true
  · rw [if_pos hy] at h
    exact (encF_inj x (isF_parts.1 hx).2.2 y (isF_parts.1 hy).2.2 [] [] (by rw [h])).1
  · rw [if_neg hy, encF_eq] at h
    have := enc_pos x.op.toNat
    have h := congrArg List.length h
    simp only [List.length_append, List.length_nil] at h
    omega
end Go.Proofs.Ytcbfieodjbfjdaa
