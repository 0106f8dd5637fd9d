/- The law ParseBack, walked. -/
import Derived.Test.YtojbhlbknjnioaaGreatDoorPa24
import Derived.Test.YtojbhlbknjnioaaGreatDoorPa4
import Derived.StillTailTactics
namespace Go.Proofs.YtojbhlbknjnioaaGreatDoor
open Go.RowKit

theorem parse_ok (s : List UInt8) (h : (parseF s).2 = 0) : isF (parseF s).1 = true := by
  obtain ⟨ts, hx, htl⟩ := lex_all s.length s (Nat.le_refl _)
  rw [parse_gram hx] at h ⊢
  by_cases hl : 2048 < s.length
  · rw [if_pos hl] at h; cases h
  · rw [if_neg hl] at h ⊢
    cases hg : gramP ts with
    | none => rw [hg] at h; cases h
    | some f =>
      rw [hg] at h
      simp only at h ⊢
      split at h
      · next hf => rw [if_pos hf]; exact hf
      · cases h

set_option maxRecDepth 100000 in
theorem pb_ask {D : Nat → Prop} (ls : List RoleB) (ao : Option Addr) (la cp : Nat) (b : Nat) (w : World) (hl : la = ls.length) (hn : ls.length ≤ 9223372036854775807) (hb : w.heap[b]? = some (.cells #[.slice ao la cp] 38 (0, 0))) (h : RolesAt D w ao ls) : AskR 15 #[] #[.pointer (some ⟨b, 0, none⟩)] (fun r => hasR ls r) w := by
  intro r W h1 h2 hW
  have hb2 := blk_keep hb hW id
  have y0 := cell_blk hb2 0
  simp only [List.getElem?_toArray, List.getElem?_cons_zero] at y0
  have hb3 := blk_keep hb2 ((Chg.refl (fun _ => False) W).alloc (.cells #[.string ⟨r.1.toArray⟩, .string ⟨r.2.toArray⟩] 23)) id
  have z0 := cell_blk hb3 0
  simp only [List.getElem?_toArray, List.getElem?_cons_zero] at z0
  subst hl
  have HH := hid (fun W2 (hc : Chg (fun _ => False) W W2) => rhas_ref ao cp ls r W2 hn (h.keep (hW.trans hc (fun _ _ h => h)) (fun _ _ => id)))
  unfold roleV at HH
  show Calls Tryz.prog 15 #[.agg #[.string ⟨r.1.toArray⟩, .string ⟨r.2.toArray⟩], .pointer (some ⟨b, 0, none⟩)] W _
  clear hb hb2 hb3 hW h hn
  go_enter Tryz.func15, Tryz.ntmps15
  go_wp2_with fail
  refine (HH.out _ ((Chg.refl _ _).alloc _)).mono ?_
  rintro e w5 ⟨rfl, hc5⟩
  have HC := hid (((Chg.refl (fun _ => False) W).alloc (.cells #[.string ⟨r.1.toArray⟩, .string ⟨r.2.toArray⟩] 23)).trans hc5 (fun _ _ h => h))
  clear hc5 HH
  go_wp2
  go_ret
  exact ⟨rfl, HC.out⟩
theorem pb_ent (args : Array Value) (w : World) : (callFunc 15 args).run Tryz.prog w = .ok (.enter 15 args) w := enters Tryz.func15 rfl rfl args w

/-- True of one of the call's own. -/
theorem own_true {B : Nat} (gf : Nat) (fi cap : Array Value) (T : RoleB → Bool) (eg : ∀ args w, (callFunc gf args).run Tryz.prog w = .ok (.enter gf args) w) (t : AT) (ao : Option Addr) (q cp : Nat) (w : World) (hv : t.v = .slice ao q cp) (h : OwnA B w t) (hN : nodesF (eraseA t) ≤ 4096) (hask : AskR gf fi cap T w) :
    Calls Tryz.prog 17 #[.agg #[.int .i64 t.op, .int .i64 t.k, .string ⟨t.r.1.toArray⟩, .string ⟨t.r.2.toArray⟩, .slice ao q cp], .func (.func gf) fi cap] w fun e w' => e = .returned (.bool (isF (eraseA t) && holdsF T (eraseA t))) ∧ Chg (fun _ => False) w w' := by
  obtain ⟨k1, k2, k3, k4, k5, k6, k7⟩ := own_fms2 h hv
  have := fm_true gf fi cap T eg _ (eraseA t) ao cp w k3 (fun i hi => hi.2) k4 hN hask
  rw [← k1, k5, k6, k7] at this
  exact this

set_option maxRecDepth 100000 in
set_option maxHeartbeats 16000000 in
theorem pback_main {D : Nat → Prop} (n : Nat) (f : FmB) (ao : Option Addr) (cp : Nat) (s : List UInt8) (xs : List RoleB) (a1 : Option Addr) (la c1 : Nat) (w : World) (h : FmsAt D w n ao f.kids) (hok : FmOk f) (hz : ao = none → cp = 0) (hra : RolesAt D w a1 xs) (hD : ∀ i, D i → i < w.heap.size) (hG : greatF f ≤ 4503599627370496) (hl1 : la = xs.length) (hla : xs.length ≤ 4611686018427387903) (hs : s.length ≤ 9223372036854775807) (hv : VarsAt w) :
    Calls Tryz.prog 4 #[.agg #[.int .i64 f.op, .int .i64 f.k, .string ⟨f.r.1.toArray⟩, .string ⟨f.r.2.toArray⟩, .slice ao f.kids.length cp], .string ⟨s.toArray⟩, .slice a1 la c1] w fun e w' => e = .returned (.bool true) ∧ Chg (fun _ => False) w w' := by
  have hmf : ∀ (fn : Fn) (first cap : Array Value) (w : World), (Instr.makeFunc fn first cap).run Tryz.prog w = .ok (.func fn first cap) w := fun _ _ _ _ => rfl
  have hc2 : Chg (fun _ => False) w ((w.alloc (.cells #[.int .i64 f.op, .int .i64 f.k, .string ⟨f.r.1.toArray⟩, .string ⟨f.r.2.toArray⟩, .slice ao f.kids.length cp] 26)).alloc (.cells #[.slice a1 la c1] 38)) := ((Chg.refl _ w).alloc _).alloc _
  have hF := blk_keep (heap_alloc_new w (.cells #[.int .i64 f.op, .int .i64 f.k, .string ⟨f.r.1.toArray⟩, .string ⟨f.r.2.toArray⟩, .slice ao f.kids.length cp] 26)) ((Chg.refl (fun _ => False) (w.alloc (.cells #[.int .i64 f.op, .int .i64 f.k, .string ⟨f.r.1.toArray⟩, .string ⟨f.r.2.toArray⟩, .slice ao f.kids.length cp] 26))).alloc (.cells #[.slice a1 la c1] 38)) id
  have hA := heap_alloc_new (w.alloc (.cells #[.int .i64 f.op, .int .i64 f.k, .string ⟨f.r.1.toArray⟩, .string ⟨f.r.2.toArray⟩, .slice ao f.kids.length cp] 26)) (.cells #[.slice a1 la c1] 38)
  rw [show (w.alloc (.cells #[.int .i64 f.op, .int .i64 f.k, .string ⟨f.r.1.toArray⟩, .string ⟨f.r.2.toArray⟩, .slice ao f.kids.length cp] 26)).heap.size = w.heap.size + 1 by simp] at hA
  have HFI := hid (pfirst ((w.alloc (.cells #[.int .i64 f.op, .int .i64 f.k, .string ⟨f.r.1.toArray⟩, .string ⟨f.r.2.toArray⟩, .slice ao f.kids.length cp] 26)).alloc (.cells #[.slice a1 la c1] 38)) (hv.keep hc2 ⟨id, id⟩))
  have HB := hid (And.intro hF (And.intro hA hc2))
  have HY := hid (And.intro h (And.intro hok (And.intro hz (And.intro hra (And.intro hD (And.intro hG hla))))))
  have HL := hid hl1
  have HS := hid hs
  have HV2 := hid (hv.keep hc2 ⟨id, id⟩)
  clear hc2 hF hA h hok hz hra hD hG hla hl1 hs hv
  go_enter Tryz.func4, Tryz.ntmps4
  go_wp2_with fail
  refine HFI.out.mono ?_
  rintro e w3 ⟨rfl, hc3⟩
  have HC3 := hid hc3
  clear hc3
  have hf := blk_keep HB.out.1 HC3.out id
  have f0 := cell_blk hf 0
  have f1 := cell_blk hf 1
  have f2 := cell_blk hf 2
  have f3 := cell_blk hf 3
  have f4 := cell_blk hf 4
  simp only [List.getElem?_toArray, List.getElem?_cons_zero, List.getElem?_cons_succ] at f0 f1 f2 f3 f4
  clear hf
  have HGR := hid (fm_great (D := fun k => D k ∨ k = w3.heap.size) (n + 1) (some ⟨w3.heap.size, 0, none⟩) 1 [f] (w3.alloc (.cells #[.int .i64 f.op, .int .i64 f.k, .string ⟨f.r.1.toArray⟩, .string ⟨f.r.2.toArray⟩, .slice ao f.kids.length cp] 26)) (by have := HY.out.2.2.2.2.2.1; simp only [greatL]; omega) (fun i hi => by
    have hi : i < 1 := hi
    have h0 : i = 0 := by omega
    subst h0
    exact ⟨w3.heap.size, 0, rfl, .inr rfl, fm_at_blk (heap_alloc_new w3 _) HY.out.2.1 HY.out.2.2.1 (((HY.out.1.keep (HB.out.2.2.trans HC3.out (fun _ _ h => h)) (fun _ _ => id)).keep ((Chg.refl (fun _ => False) w3).alloc _) (fun _ _ => id)).mono (fun _ h => .inl h))⟩))
  go_wp2_with fail
  refine HGR.out.mono ?_
  rintro e w4 ⟨rfl, hc4⟩
  have HCC := hid (HC3.out.trans (((Chg.refl (fun _ => False) w3).alloc (.cells #[.int .i64 f.op, .int .i64 f.k, .string ⟨f.r.1.toArray⟩, .string ⟨f.r.2.toArray⟩, .slice ao f.kids.length cp] 26)).trans hc4 (fun _ _ h => h)) (fun _ _ h => h))
  clear hc4 HGR HFI HC3 f0 f1 f2 f3 f4
  have HC4 := hid (HB.out.2.2.trans HCC.out (fun _ _ h => h))
  obtain ⟨g, hg⟩ : ∃ g, g = greatL [f] := ⟨_, rfl⟩
  rw [← hg]
  have HG := hid (show g = greatF f by rw [hg]; simp [greatL])
  clear hg
  have hgb : g ≤ 4503599627370496 := by rw [HG.out]; exact HY.out.2.2.2.2.2.1
  have hlab : la ≤ 4611686018427387903 := by rw [HL.out]; exact HY.out.2.2.2.2.2.2
  have a0 := cell_blk (blk_keep HB.out.2.1 HCC.out id) 0
  simp only [List.getElem?_toArray, List.getElem?_cons_zero] at a0
  by_cases h300 : 300 < g
  · have z1 : decide ((300 : Int) < (g : Int)) = true := decide_eq_true (by omega)
    clear h300
    go_wp2
    go_ret
    exact ⟨rfl, HC4.out⟩
  · have z1 : decide ((300 : Int) < (g : Int)) = false := decide_eq_false (by omega)
    have HNB := hid (show nodesF f ≤ 300 by have := great_nodes f; have := HG.out; omega)
    clear h300
    by_cases h48 : 2048 < s.length
    · have z2 : decide ((2048 : Int) < (s.length : Int)) = true := decide_eq_true (by omega)
      clear h48
      go_wp2
      go_ret
      exact ⟨rfl, HC4.out⟩
    · have z2 : decide ((2048 : Int) < (s.length : Int)) = false := decide_eq_false (by omega)
      clear h48
      by_cases h30 : 30 < la
      · have z3 : decide ((30 : Int) < (la : Int)) = true := decide_eq_true (by omega)
        clear h30
        go_wp2
        go_ret
        exact ⟨rfl, HC4.out⟩
      · have z3 : decide ((30 : Int) < (la : Int)) = false := decide_eq_false (by omega)
        clear h30
        have HRT := hid (fm_right (D := D) n f ao cp w4 (HY.out.1.keep HC4.out (fun _ _ => id)) (fun i hi => Nat.lt_of_lt_of_le (HY.out.2.2.2.2.1 i hi) HC4.out.size) HY.out.2.1 (by have := HNB.out; omega))
        have hf := blk_keep HB.out.1 HCC.out id
        have f0 := cell_blk hf 0
        have f1 := cell_blk hf 1
        have f2 := cell_blk hf 2
        have f3 := cell_blk hf 3
        have f4 := cell_blk hf 4
        simp only [List.getElem?_toArray, List.getElem?_cons_zero, List.getElem?_cons_succ] at f0 f1 f2 f3 f4
        clear hf
        go_wp2_with fail
        refine HRT.out.mono ?_
        rintro e w5 ⟨rfl, hc5⟩
        have HC5 := hid (HC4.out.trans hc5 (fun _ _ h => h))
        have HCC5 := hid (HCC.out.trans hc5 (fun _ _ h => h))
        clear hc5 HRT f0 f1 f2 f3 f4 a0 HCC HC4
        have HCC := HCC5
        clear HCC5
        cases hf : isF f with
        | false =>
          clear hf
          have HPS := hid (pparseF s HS.out w5 (HV2.out.keep HCC.out ⟨id, id⟩))
          go_wp2_with fail
          refine HPS.out.mono ?_
          intro e v1 hp
          obtain ⟨hq1, t, ax, qx, cx, e1, e2, rfl, e3, e4⟩ := hp
          obtain ⟨m, hm⟩ : ∃ m, m = (parseF s).2 := ⟨_, rfl⟩
          obtain ⟨fx, hfx⟩ : ∃ fx, fx = (parseF s).1 := ⟨_, rfl⟩
          have hnx := parse_nodes s
          have hok0 := parse_ok s
          rw [← hm, ← hfx] at hok0
          rw [← hfx] at e1 hnx
          rw [← hm]
          have HC1 := hid ((HCC.out.trans hq1 (fun _ _ h => h)).trans ((Chg.refl (fun _ => False) v1).alloc (.cells #[.int .i64 t.op, .int .i64 t.k, .string ⟨t.r.1.toArray⟩, .string ⟨t.r.2.toArray⟩, .slice ax qx cx] 26)) (fun _ _ h => h))
          have HX1 := hid (heap_alloc_new v1 (.cells #[.int .i64 t.op, .int .i64 t.k, .string ⟨t.r.1.toArray⟩, .string ⟨t.r.2.toArray⟩, .slice ax qx cx] 26))
          have HOX := hid (And.intro (ownA_keep ((Chg.refl (fun _ => False) v1).alloc (.cells #[.int .i64 t.op, .int .i64 t.k, .string ⟨t.r.1.toArray⟩, .string ⟨t.r.2.toArray⟩, .slice ax qx cx] 26)) t e3 (fun _ _ => id)) (And.intro e4 (And.intro e1 (And.intro e2 hnx))))
          clear hm hfx hq1 e1 e2 e3 e4 hnx HPS
          unfold FmVal
          by_cases hm0 : m = 0
          · have hfr := hok0 hm0
            have hz : ((m : Nat) : Int) = 0 := by omega
            rw [hz]
            have hif := isF_right9 hfr
            have htl := text_len fx hif.2.2
            have htx : textP fx = textF fx := by unfold textP; rw [hfr]; rfl
            have hTX := own_text t ax qx cx (v1.alloc (.cells #[.int .i64 t.op, .int .i64 t.k, .string ⟨t.r.1.toArray⟩, .string ⟨t.r.2.toArray⟩, .slice ax qx cx] 26)) HOX.out.2.2.2.1 HOX.out.1 (by rw [HOX.out.2.2.1]; exact HOX.out.2.2.2.2)
            rw [HOX.out.2.2.1, htx] at hTX
            have hpt := fun h => parse_told hfr h
            obtain ⟨tx, htx2⟩ : ∃ tx, tx = textF fx := ⟨_, rfl⟩
            rw [← htx2] at hTX hpt htl
            unfold FmVal at hTX
            have HTX0 := hid hTX
            have HPT := hid hpt
            have HFR := hid (And.intro hfr (And.intro htx (And.intro htx2 (show tx.length ≤ 2560 by omega))))
            have hl1 : tx.length ≤ 2560 := by omega
            clear hm0 hz hif htl htx hTX hpt htx2 hok0 hfr
            have s0 := cell_blk HX1.out 0
            have s1 := cell_blk HX1.out 1
            have s2 := cell_blk HX1.out 2
            have s3 := cell_blk HX1.out 3
            have s4 := cell_blk HX1.out 4
            simp only [List.getElem?_toArray, List.getElem?_cons_zero, List.getElem?_cons_succ] at s0 s1 s2 s3 s4
            go_wp2_with fail
            refine HTX0.out.mono ?_
            rintro e v2 ⟨rfl, hq2⟩
            have HC2 := hid (HC1.out.trans hq2 (fun _ _ h => h))
            have HX2 := hid (blk_keep HX1.out hq2 id)
            have HO2 := hid (ownA_keep hq2 t HOX.out.1 (fun _ _ => id))
            clear hq2 HTX0 s0 s1 s2 s3 s4 HX1 HC1
            by_cases h48 : 2048 < tx.length
            · have z9 : decide ((2048 : Int) < (tx.length : Int)) = true := decide_eq_true (by omega)
              clear h48
              go_wp2
              go_ret
              exact ⟨rfl, HB.out.2.2.trans HC2.out (fun _ _ h => h)⟩
            · have z9 : decide ((2048 : Int) < (tx.length : Int)) = false := decide_eq_false (by omega)
              have HTX1 : Hid (Calls Tryz.prog 11 #[.agg #[.int .i64 t.op, .int .i64 t.k, .string ⟨t.r.1.toArray⟩, .string ⟨t.r.2.toArray⟩, .slice ax qx cx]] v2 fun e w' => e = .returned (.string ⟨tx.toArray⟩) ∧ Chg (fun _ => False) v2 w') := hid (by
                have h := own_text t ax qx cx v2 HOX.out.2.2.2.1 HO2.out (by rw [HOX.out.2.2.1]; exact HOX.out.2.2.2.2)
                rw [HOX.out.2.2.1, HFR.out.2.1, ← HFR.out.2.2.1] at h
                exact h)
              have HP2 := hid (HPT.out (by omega))
              clear h48
              have s0 := cell_blk HX2.out 0
              have s1 := cell_blk HX2.out 1
              have s2 := cell_blk HX2.out 2
              have s3 := cell_blk HX2.out 3
              have s4 := cell_blk HX2.out 4
              simp only [List.getElem?_toArray, List.getElem?_cons_zero, List.getElem?_cons_succ] at s0 s1 s2 s3 s4
              go_wp2_with fail
              refine HTX1.out.mono ?_
              rintro e v3 ⟨rfl, hq3⟩
              have HC3 := hid (HC2.out.trans hq3 (fun _ _ h => h))
              have HX3 := hid (blk_keep HX2.out hq3 id)
              have HO3 := hid (ownA_keep hq3 t HO2.out (fun _ _ => id))
              have HPS := hid (pparseF tx (by omega) v3 (HV2.out.keep HC3.out ⟨id, id⟩))
              clear hq3 HTX1 s0 s1 s2 s3 s4 HX2 HC2 HO2 hl1
              go_wp2_with fail
              refine HPS.out.mono ?_
              intro e v4 hp
              obtain ⟨hq4, u, ay, qy, cy, e1, e2, rfl, e3, e4⟩ := hp.known HP2.out (z := 0) rfl
              have hl4 : Chg (fun _ => False) v4 (v4.alloc (.cells #[.int .i64 u.op, .int .i64 u.k, .string ⟨u.r.1.toArray⟩, .string ⟨u.r.2.toArray⟩, .slice ay qy cy] 26)) := (Chg.refl _ v4).alloc _
              have hc4 := hq4.trans hl4 (fun _ _ h => h)
              have HCW := hid (HC3.out.trans hc4 (fun _ _ h => h))
              have hXb := blk_keep HX3.out hc4 id
              have hYb := heap_alloc_new v4 (.cells #[.int .i64 u.op, .int .i64 u.k, .string ⟨u.r.1.toArray⟩, .string ⟨u.r.2.toArray⟩, .slice ay qy cy] 26)
              have hox := ownA_keep hc4 t HO3.out (fun _ _ => id)
              have hoy := ownA_keep hl4 u e3 (fun _ _ => id)
              have hnx := HOX.out.2.2.2.2
              have hex := HOX.out.2.2.1
              have hLb := blk_keep HB.out.2.1 HCW.out id
              obtain ⟨X, hX⟩ : ∃ X, X = v1.heap.size := ⟨_, rfl⟩
              obtain ⟨Y, hY⟩ : ∃ Y, Y = v4.heap.size := ⟨_, rfl⟩
              obtain ⟨L, hL⟩ : ∃ L, L = w.heap.size + 1 := ⟨_, rfl⟩
              rw [← hX] at hXb
              rw [← hY] at hYb
              rw [← hL] at hLb
              have hbt := HB.out.2.2.trans HCW.out (fun _ _ h => h)
              have hrl := HY.out.2.2.2.1.keep hbt (fun _ _ => id)
              have hnt : nodesF (eraseA t) ≤ 4096 := by rw [hex]; exact hnx
              have hnu : nodesF (eraseA u) ≤ 4096 := by rw [e1]; exact hnx
              have HSM : Hid (∀ W, Chg (fun _ => False) (v4.alloc (.cells #[.int .i64 u.op, .int .i64 u.k, .string ⟨u.r.1.toArray⟩, .string ⟨u.r.2.toArray⟩, .slice ay qy cy] 26)) W → Calls Tryz.prog 14 #[.agg #[.int .i64 t.op, .int .i64 t.k, .string ⟨t.r.1.toArray⟩, .string ⟨t.r.2.toArray⟩, .slice ax qx cx], .agg #[.int .i64 u.op, .int .i64 u.k, .string ⟨u.r.1.toArray⟩, .string ⟨u.r.2.toArray⟩, .slice ay qy cy]] W fun e w' => e = .returned (.bool true) ∧ Chg (fun _ => False) W w') := hid (fun W hW => by
                have h := own_same2 t u ax ay qx cx qy cy W HOX.out.2.2.2.1 (ownA_keep hW t hox (fun _ _ => id)) HOX.out.2.1 hnt e2 (ownA_keep hW u hoy (fun _ _ => id)) hnu
                unfold FmVal at h
                refine h.mono ?_
                rintro e w' ⟨b, rfl, hb, hc⟩
                have : b = true := hb.2 (hex.trans e1.symm)
                subst this
                exact ⟨rfl, hc⟩)
              obtain ⟨p, hpp⟩ : ∃ p, p = (isF fx && holdsF (fun r => hasR xs r) fx) := ⟨_, rfl⟩
              have hask : ∀ W, Chg (fun _ => False) (v4.alloc (.cells #[.int .i64 u.op, .int .i64 u.k, .string ⟨u.r.1.toArray⟩, .string ⟨u.r.2.toArray⟩, .slice ay qy cy] 26)) W → AskR 15 #[] #[.pointer (some ⟨L, 0, none⟩)] (fun r => hasR xs r) W := fun W hW => pb_ask xs a1 la c1 L W HL.out (by have := HY.out.2.2.2.2.2.2; omega) (blk_keep hLb hW id) (hrl.keep hW (fun _ _ => id))
              have HTX : Hid (∀ W, Chg (fun _ => False) (v4.alloc (.cells #[.int .i64 u.op, .int .i64 u.k, .string ⟨u.r.1.toArray⟩, .string ⟨u.r.2.toArray⟩, .slice ay qy cy] 26)) W → Calls Tryz.prog 17 #[.agg #[.int .i64 t.op, .int .i64 t.k, .string ⟨t.r.1.toArray⟩, .string ⟨t.r.2.toArray⟩, .slice ax qx cx], .func (.func 15) #[] #[.pointer (some ⟨L, 0, none⟩)]] W fun e w' => e = .returned (.bool p) ∧ Chg (fun _ => False) W w') := hid (fun W hW => by
                have h := own_true 15 #[] #[.pointer (some ⟨L, 0, none⟩)] (fun r => hasR xs r) pb_ent t ax qx cx W HOX.out.2.2.2.1 (ownA_keep hW t hox (fun _ _ => id)) hnt (hask W hW)
                rw [hex, ← hpp] at h
                exact h)
              have HTY : Hid (∀ W, Chg (fun _ => False) (v4.alloc (.cells #[.int .i64 u.op, .int .i64 u.k, .string ⟨u.r.1.toArray⟩, .string ⟨u.r.2.toArray⟩, .slice ay qy cy] 26)) W → Calls Tryz.prog 17 #[.agg #[.int .i64 u.op, .int .i64 u.k, .string ⟨u.r.1.toArray⟩, .string ⟨u.r.2.toArray⟩, .slice ay qy cy], .func (.func 15) #[] #[.pointer (some ⟨L, 0, none⟩)]] W fun e w' => e = .returned (.bool p) ∧ Chg (fun _ => False) W w') := hid (fun W hW => by
                have h := own_true 15 #[] #[.pointer (some ⟨L, 0, none⟩)] (fun r => hasR xs r) pb_ent u ay qy cy W e2 (ownA_keep hW u hoy (fun _ _ => id)) hnu (hask W hW)
                rw [e1, ← hpp] at h
                exact h)
              have x0 := cell_blk hXb 0
              have x1 := cell_blk hXb 1
              have x2 := cell_blk hXb 2
              have x3 := cell_blk hXb 3
              have x4 := cell_blk hXb 4
              have y0 := cell_blk hYb 0
              have y1 := cell_blk hYb 1
              have y2 := cell_blk hYb 2
              have y3 := cell_blk hYb 3
              have y4 := cell_blk hYb 4
              simp only [List.getElem?_toArray, List.getElem?_cons_zero, List.getElem?_cons_succ] at x0 x1 x2 x3 x4 y0 y1 y2 y3 y4
              have HXC := hid (And.intro x0 (And.intro x1 (And.intro x2 (And.intro x3 x4))))
              have HYC := hid (And.intro y0 (And.intro y1 (And.intro y2 (And.intro y3 y4))))
              have HCX := hid hbt
              clear hXb hYb hLb hbt hrl hnt hnu hask hpp x0 x1 x2 x3 x4 y0 y1 y2 y3 y4 hox hoy hnx hex hq4 hl4 hc4 e1 e2 e3 e4 hp HPS HX3 HO3 HC3 HPT HP2 HOX HFR
              unfold FmVal
              rw [← hX]
              clear hX
              go_wp2_with fail
              rw [← hY, ← hL]
              clear hY hL
              generalize (v4.alloc (.cells #[.int .i64 u.op, .int .i64 u.k, .string ⟨u.r.1.toArray⟩, .string ⟨u.r.2.toArray⟩, .slice ay qy cy] 26)) = wy at *
              have HCW := HCX
              refine wp_region_specs [.any, .any, .any, .any, .any, .any, .eq (.bool true), .any, .any, .eq (.pointer (some ⟨X, 0, none⟩)), .eq (.int .i64 0), .eq (.pointer (some ⟨Y, 0, none⟩)), .eq (.func (.func 15) #[] #[.pointer (some ⟨L, 0, none⟩)]), .any, .any, .any, .any, .any, .any, .any, .any, .any, .any, .any, .any, .any, .any, .any, .any, .any, .any, .any, .any, .any, .any, .any, .any, .any, .any, .any, .any, .any, .any, .any, .any, .any, .any, .any, .any, .any, .any, .any, .any, .any, .any, .any, .any, .any, .any, .any, .any, .any, .any, .any, .any, .any, .any, .any, .any, .any, .any, .eq (.int .i64 0), .eq (.bool true), .eq (.bool true), .eq (.agg #[.int .i64 t.op, .int .i64 t.k, .string ⟨t.r.1.toArray⟩, .string ⟨t.r.2.toArray⟩, .slice ax qx cx]), .eq (.agg #[.int .i64 u.op, .int .i64 u.k, .string ⟨u.r.1.toArray⟩, .string ⟨u.r.2.toArray⟩, .slice ay qy cy]), .eq (.bool true), .eq (.bool true), .eq (.bool true), .eq (.agg #[.int .i64 t.op, .int .i64 t.k, .string ⟨t.r.1.toArray⟩, .string ⟨t.r.2.toArray⟩, .slice ax qx cx]), .eq (.func (.func 15) #[] #[.pointer (some ⟨L, 0, none⟩)]), .eq (.bool p), .eq (.agg #[.int .i64 u.op, .int .i64 u.k, .string ⟨u.r.1.toArray⟩, .string ⟨u.r.2.toArray⟩, .slice ay qy cy]), .eq (.func (.func 15) #[] #[.pointer (some ⟨L, 0, none⟩)]), .eq (.bool p), .eq (.bool true), .eq (.bool true)] [71, 72, 73, 74, 75, 76, 77, 78, 79, 80, 81, 82, 83, 84, 85, 86, 6] [9, 10, 11, 12] (by kernel_rfl) (by kernel_rfl) (by rfl) (by kernel_rfl) ?start ?obs ?fin
              case start =>
                simp only [List.forall_mem_cons]; exact ⟨⟨_, rfl, rfl⟩, ⟨_, rfl, rfl⟩, ⟨_, rfl, rfl⟩, ⟨_, rfl, rfl⟩, fun _ h => by cases h⟩
              case obs =>
                skip
                refine Obs.cons none (by kernel_rfl) ?_ ?_
                · refine Ob.plain fun a w hR hk K k => ?_
                  obtain ⟨_, e10, f10⟩ := hk 10 (by decide)
                  clear hk
                  go_simp
                  exact k _ _ (Chg.refl _ _) f10
                refine Obs.cons none (by kernel_rfl) ?_ ?_
                · refine Ob.plain fun a w hR hk K k => ?_
                  obtain ⟨_, e71, rfl⟩ := hk 71 (by decide)
                  clear hk
                  go_simp
                  exact k _ _ (Chg.refl _ _) rfl
                refine Obs.cons none (by kernel_rfl) ?_ ?_
                · refine Ob.plain fun a w hR hk K k => ?_
                  obtain ⟨_, e72, f72⟩ := hk 72 (by decide)
                  clear hk
                  go_simp
                  exact k _ _ (Chg.refl _ _) f72
                refine Obs.cons (some (73, true)) (by kernel_rfl) ?_ ?_
                · refine Ob.yes (fun _ _ h => h) fun a w hR hk K k => ?_
                  obtain ⟨_, e9, rfl⟩ := hk 9 (by decide)
                  clear hk
                  obtain ⟨k0, k1, k2, k3, k4⟩ := HXC.out
                  have z0 := hR.cell k0 id
                  have z1 := hR.cell k1 id
                  have z2 := hR.cell k2 id
                  have z3 := hR.cell k3 id
                  have z4 := hR.cell k4 id
                  go_simp
                  exact k _ _ (Chg.refl _ _) rfl
                refine Obs.cons (some (73, true)) (by kernel_rfl) ?_ ?_
                · refine Ob.yes (fun _ _ h => h) fun a w hR hk K k => ?_
                  obtain ⟨_, e11, rfl⟩ := hk 11 (by decide)
                  clear hk
                  obtain ⟨k0, k1, k2, k3, k4⟩ := HYC.out
                  have z0 := hR.cell k0 id
                  have z1 := hR.cell k1 id
                  have z2 := hR.cell k2 id
                  have z3 := hR.cell k3 id
                  have z4 := hR.cell k4 id
                  go_simp
                  exact k _ _ (Chg.refl _ _) rfl
                refine Obs.cons (some (73, true)) (by kernel_rfl) ?_ ?_
                · refine Ob.yes (fun _ _ h => h) fun a w hR hk K k => ?_
                  obtain ⟨_, e74, rfl⟩ := hk 74 (by decide)
                  obtain ⟨_, e75, rfl⟩ := hk 75 (by decide)
                  clear hk
                  go_simp
                  refine (HSM.out w hR).mono ?_
                  rintro e w8 ⟨rfl, hc8⟩
                  exact k _ _ hc8 rfl
                refine Obs.cons none (by kernel_rfl) ?_ ?_
                · refine Ob.plain fun a w hR hk K k => ?_
                  obtain ⟨_, e73, rfl⟩ := hk 73 (by decide)
                  obtain ⟨_, e76, rfl⟩ := hk 76 (by decide)
                  clear hk
                  go_simp
                  exact k _ _ (Chg.refl _ _) rfl
                refine Obs.cons none (by kernel_rfl) ?_ ?_
                · refine Ob.plain fun a w hR hk K k => ?_
                  obtain ⟨_, e77, f77⟩ := hk 77 (by decide)
                  clear hk
                  go_simp
                  exact k _ _ (Chg.refl _ _) f77
                refine Obs.cons (some (78, true)) (by kernel_rfl) ?_ ?_
                · refine Ob.yes (fun _ _ h => h) fun a w hR hk K k => ?_
                  obtain ⟨_, e9, rfl⟩ := hk 9 (by decide)
                  clear hk
                  obtain ⟨k0, k1, k2, k3, k4⟩ := HXC.out
                  have z0 := hR.cell k0 id
                  have z1 := hR.cell k1 id
                  have z2 := hR.cell k2 id
                  have z3 := hR.cell k3 id
                  have z4 := hR.cell k4 id
                  go_simp
                  exact k _ _ (Chg.refl _ _) rfl
                refine Obs.cons (some (78, true)) (by kernel_rfl) ?_ ?_
                · refine Ob.yes (fun _ _ h => h) fun a w hR hk K k => ?_
                  obtain ⟨_, e12, f12⟩ := hk 12 (by decide)
                  clear hk
                  go_simp
                  exact k _ _ (Chg.refl _ _) f12
                refine Obs.cons (some (78, true)) (by kernel_rfl) ?_ ?_
                · refine Ob.yes (fun _ _ h => h) fun a w hR hk K k => ?_
                  obtain ⟨_, e79, rfl⟩ := hk 79 (by decide)
                  obtain ⟨_, e80, rfl⟩ := hk 80 (by decide)
                  clear hk
                  have eg := pb_ent
                  go_simp
                  refine (HTX.out w hR).mono ?_
                  rintro e w8 ⟨rfl, hc8⟩
                  exact k _ _ hc8 rfl
                refine Obs.cons (some (78, true)) (by kernel_rfl) ?_ ?_
                · refine Ob.yes (fun _ _ h => h) fun a w hR hk K k => ?_
                  obtain ⟨_, e11, rfl⟩ := hk 11 (by decide)
                  clear hk
                  obtain ⟨k0, k1, k2, k3, k4⟩ := HYC.out
                  have z0 := hR.cell k0 id
                  have z1 := hR.cell k1 id
                  have z2 := hR.cell k2 id
                  have z3 := hR.cell k3 id
                  have z4 := hR.cell k4 id
                  go_simp
                  exact k _ _ (Chg.refl _ _) rfl
                refine Obs.cons (some (78, true)) (by kernel_rfl) ?_ ?_
                · refine Ob.yes (fun _ _ h => h) fun a w hR hk K k => ?_
                  obtain ⟨_, e12, f12⟩ := hk 12 (by decide)
                  clear hk
                  go_simp
                  exact k _ _ (Chg.refl _ _) f12
                refine Obs.cons (some (78, true)) (by kernel_rfl) ?_ ?_
                · refine Ob.yes (fun _ _ h => h) fun a w hR hk K k => ?_
                  obtain ⟨_, e82, rfl⟩ := hk 82 (by decide)
                  obtain ⟨_, e83, rfl⟩ := hk 83 (by decide)
                  clear hk
                  have eg := pb_ent
                  go_simp
                  refine (HTY.out w hR).mono ?_
                  rintro e w8 ⟨rfl, hc8⟩
                  exact k _ _ hc8 rfl
                refine Obs.cons (some (78, true)) (by kernel_rfl) ?_ ?_
                · refine Ob.yes (fun _ _ h => h) fun a w hR hk K k => ?_
                  obtain ⟨_, e81, rfl⟩ := hk 81 (by decide)
                  obtain ⟨_, e84, rfl⟩ := hk 84 (by decide)
                  clear hk
                  cases p
                  · go_simp
                    exact k _ _ (Chg.refl _ _) rfl
                  · go_simp
                    exact k _ _ (Chg.refl _ _) rfl
                refine Obs.cons none (by kernel_rfl) ?_ ?_
                · refine Ob.plain fun a w hR hk K k => ?_
                  obtain ⟨_, e78, rfl⟩ := hk 78 (by decide)
                  obtain ⟨_, e85, rfl⟩ := hk 85 (by decide)
                  clear hk
                  go_simp
                  exact k _ _ (Chg.refl _ _) rfl
                refine Obs.cons none (by kernel_rfl) ?_ ?_
                · refine Ob.plain fun a w hR hk K k => ?_
                  obtain ⟨_, e86, f86⟩ := hk 86 (by decide)
                  clear hk
                  go_simp
                  exact k _ _ (Chg.refl _ _) f86
                exact Obs.nil
              case fin =>
                intro vals w9 hc9 hv
                have h6 : vals 6 = .bool true := hv 6 (by decide)
                simp only [putAll, List.setIfInBounds_toArray, List.set_cons_zero, List.set_cons_succ, h6]
                have HC9 := hid (HCW.out.trans hc9 (fun _ _ h => h))
                clear hc9 hv h6 HSM HTX HTY HXC HYC
                go_wp2
                go_ret
                exact ⟨rfl, HC9.out⟩
          · have z : ((m : Int) != 0) = true := by simpa using hm0
            clear hm0 hok0
            go_wp2
            go_ret
            exact ⟨rfl, HB.out.2.2.trans HC1.out (fun _ _ h => h)⟩
        | true =>
          have hif := isF_right9 hf
          have htl := text_len f hif.2.2
          have htx : textP f = textF f := by unfold textP; rw [hf]; rfl
          have hT := pText (D := D) n f ao cp w5 (HY.out.1.keep HC5.out (fun _ _ => id)) (fun i hi => Nat.lt_of_lt_of_le (HY.out.2.2.2.2.1 i hi) HC5.out.size) HY.out.2.1 (by have := HNB.out; omega)
          have hpt := fun h => parse_told hf h
          rw [htx] at hT
          obtain ⟨tf, htf⟩ : ∃ tx, tx = textF f := ⟨_, rfl⟩
          rw [← htf] at hT hpt htl
          have HT0 := hid hT
          have HPT := hid hpt
          have HTF := hid (And.intro htx htf)
          have hl2 : tf.length ≤ 2560 := by omega
          clear hif htl htx hT hpt htf hf
          have hf := blk_keep HB.out.1 HCC.out id
          have f0 := cell_blk hf 0
          have f1 := cell_blk hf 1
          have f2 := cell_blk hf 2
          have f3 := cell_blk hf 3
          have f4 := cell_blk hf 4
          simp only [List.getElem?_toArray, List.getElem?_cons_zero, List.getElem?_cons_succ] at f0 f1 f2 f3 f4
          clear hf
          go_wp2_with fail
          refine HT0.out.mono ?_
          rintro e w6 ⟨rfl, hc6⟩
          have HC6 := hid (HC5.out.trans hc6 (fun _ _ h => h))
          have HCC6 := hid (HCC.out.trans hc6 (fun _ _ h => h))
          clear hc6 HT0 f0 f1 f2 f3 f4 HCC HC5
          have HCC := HCC6
          clear HCC6
          by_cases h48 : tf.length ≤ 2048
          · have z8 : decide ((tf.length : Int) ≤ (2048 : Int)) = true := decide_eq_true (by omega)
            have HP2 := hid (HPT.out h48)
            clear h48
            have HT1 : Hid (Calls Tryz.prog 11 #[.agg #[.int .i64 f.op, .int .i64 f.k, .string ⟨f.r.1.toArray⟩, .string ⟨f.r.2.toArray⟩, .slice ao f.kids.length cp]] w6 fun e w' => e = .returned (.string ⟨tf.toArray⟩) ∧ Chg (fun _ => False) w6 w') := hid (by
              have h := pText (D := D) n f ao cp w6 (HY.out.1.keep HC6.out (fun _ _ => id)) (fun i hi => Nat.lt_of_lt_of_le (HY.out.2.2.2.2.1 i hi) HC6.out.size) HY.out.2.1 (by have := HNB.out; omega)
              rw [HTF.out.1, ← HTF.out.2] at h
              exact h)
            have hf := blk_keep HB.out.1 HCC.out id
            have f0 := cell_blk hf 0
            have f1 := cell_blk hf 1
            have f2 := cell_blk hf 2
            have f3 := cell_blk hf 3
            have f4 := cell_blk hf 4
            simp only [List.getElem?_toArray, List.getElem?_cons_zero, List.getElem?_cons_succ] at f0 f1 f2 f3 f4
            clear hf
            go_wp2_with fail
            refine HT1.out.mono ?_
            rintro e w7 ⟨rfl, hc7⟩
            have HCC7 := hid (HCC.out.trans hc7 (fun _ _ h => h))
            have HPS := hid (pparseF tf (by omega) w7 (HV2.out.keep HCC7.out ⟨id, id⟩))
            clear hc7 HT1 f0 f1 f2 f3 f4 hl2
            go_wp2_with fail
            refine HPS.out.mono ?_
            intro e w8 hp
            obtain ⟨hq8, t8, a8, q8, c8, e1, e2, rfl, e3, e4⟩ := hp.known HP2.out (z := 0) rfl
            have hl8 : Chg (fun _ => False) w8 (w8.alloc (.cells #[.int .i64 t8.op, .int .i64 t8.k, .string ⟨t8.r.1.toArray⟩, .string ⟨t8.r.2.toArray⟩, .slice a8 q8 c8] 26)) := (Chg.refl _ w8).alloc _
            have HCC8 := hid ((HCC7.out.trans hq8 (fun _ _ h => h)).trans hl8 (fun _ _ h => h))
            have HXB := hid (heap_alloc_new w8 (.cells #[.int .i64 t8.op, .int .i64 t8.k, .string ⟨t8.r.1.toArray⟩, .string ⟨t8.r.2.toArray⟩, .slice a8 q8 c8] 26))
            have hsm := own_same t8 a8 q8 c8 (w8.alloc (.cells #[.int .i64 t8.op, .int .i64 t8.k, .string ⟨t8.r.1.toArray⟩, .string ⟨t8.r.2.toArray⟩, .slice a8 q8 c8] 26)) e2 (ownA_keep hl8 t8 e3 (fun _ _ => id)) e4 (by rw [e1]; have := HNB.out; omega) f n ao cp (HY.out.1.keep (HB.out.2.2.trans HCC8.out (fun _ _ h => h)) (fun _ _ => id)) (fun i hi => Nat.lt_of_lt_of_le (HY.out.2.2.2.2.1 i hi) (HB.out.2.2.trans HCC8.out (fun _ _ h => h)).size) HY.out.2.1 HY.out.2.2.1 (by have := HNB.out; omega)
            unfold FmVal at hsm
            have HSM := hid hsm
            have HE1 := hid e1
            clear hq8 hl8 hsm e1 e2 e3 e4 hp HPS HCC7 HCC HC6
            have hf := blk_keep HB.out.1 HCC8.out id
            have f0 := cell_blk hf 0
            have f1 := cell_blk hf 1
            have f2 := cell_blk hf 2
            have f3 := cell_blk hf 3
            have f4 := cell_blk hf 4
            simp only [List.getElem?_toArray, List.getElem?_cons_zero, List.getElem?_cons_succ] at f0 f1 f2 f3 f4
            clear hf
            have s0 := cell_blk HXB.out 0
            have s1 := cell_blk HXB.out 1
            have s2 := cell_blk HXB.out 2
            have s3 := cell_blk HXB.out 3
            have s4 := cell_blk HXB.out 4
            simp only [List.getElem?_toArray, List.getElem?_cons_zero, List.getElem?_cons_succ] at s0 s1 s2 s3 s4
            unfold FmVal
            go_wp2_with fail
            refine HSM.out.mono ?_
            rintro e w9 ⟨b, rfl, hbb, hc9⟩
            have hbt : b = true := hbb.2 HE1.out
            subst hbt
            have HCC := hid (HCC8.out.trans hc9 (fun _ _ h => h))
            clear hbb hc9 HSM HCC8 HXB HE1 f0 f1 f2 f3 f4 s0 s1 s2 s3 s4 HPT HP2 HTF
            have HPS := hid (pparseF s HS.out w9 (HV2.out.keep HCC.out ⟨id, id⟩))
            go_wp2_with fail
            refine HPS.out.mono ?_
            intro e v1 hp
            obtain ⟨hq1, t, ax, qx, cx, e1, e2, rfl, e3, e4⟩ := hp
            obtain ⟨m, hm⟩ : ∃ m, m = (parseF s).2 := ⟨_, rfl⟩
            obtain ⟨fx, hfx⟩ : ∃ fx, fx = (parseF s).1 := ⟨_, rfl⟩
            have hnx := parse_nodes s
            have hok0 := parse_ok s
            rw [← hm, ← hfx] at hok0
            rw [← hfx] at e1 hnx
            rw [← hm]
            have HC1 := hid ((HCC.out.trans hq1 (fun _ _ h => h)).trans ((Chg.refl (fun _ => False) v1).alloc (.cells #[.int .i64 t.op, .int .i64 t.k, .string ⟨t.r.1.toArray⟩, .string ⟨t.r.2.toArray⟩, .slice ax qx cx] 26)) (fun _ _ h => h))
            have HX1 := hid (heap_alloc_new v1 (.cells #[.int .i64 t.op, .int .i64 t.k, .string ⟨t.r.1.toArray⟩, .string ⟨t.r.2.toArray⟩, .slice ax qx cx] 26))
            have HOX := hid (And.intro (ownA_keep ((Chg.refl (fun _ => False) v1).alloc (.cells #[.int .i64 t.op, .int .i64 t.k, .string ⟨t.r.1.toArray⟩, .string ⟨t.r.2.toArray⟩, .slice ax qx cx] 26)) t e3 (fun _ _ => id)) (And.intro e4 (And.intro e1 (And.intro e2 hnx))))
            clear hm hfx hq1 e1 e2 e3 e4 hnx HPS
            unfold FmVal
            by_cases hm0 : m = 0
            · have hfr := hok0 hm0
              have hz : ((m : Nat) : Int) = 0 := by omega
              rw [hz]
              have hif := isF_right9 hfr
              have htl := text_len fx hif.2.2
              have htx : textP fx = textF fx := by unfold textP; rw [hfr]; rfl
              have hTX := own_text t ax qx cx (v1.alloc (.cells #[.int .i64 t.op, .int .i64 t.k, .string ⟨t.r.1.toArray⟩, .string ⟨t.r.2.toArray⟩, .slice ax qx cx] 26)) HOX.out.2.2.2.1 HOX.out.1 (by rw [HOX.out.2.2.1]; exact HOX.out.2.2.2.2)
              rw [HOX.out.2.2.1, htx] at hTX
              have hpt := fun h => parse_told hfr h
              obtain ⟨tx, htx2⟩ : ∃ tx, tx = textF fx := ⟨_, rfl⟩
              rw [← htx2] at hTX hpt htl
              unfold FmVal at hTX
              have HTX0 := hid hTX
              have HPT := hid hpt
              have HFR := hid (And.intro hfr (And.intro htx (And.intro htx2 (show tx.length ≤ 2560 by omega))))
              have hl1 : tx.length ≤ 2560 := by omega
              clear hm0 hz hif htl htx hTX hpt htx2 hok0 hfr
              have s0 := cell_blk HX1.out 0
              have s1 := cell_blk HX1.out 1
              have s2 := cell_blk HX1.out 2
              have s3 := cell_blk HX1.out 3
              have s4 := cell_blk HX1.out 4
              simp only [List.getElem?_toArray, List.getElem?_cons_zero, List.getElem?_cons_succ] at s0 s1 s2 s3 s4
              go_wp2_with fail
              refine HTX0.out.mono ?_
              rintro e v2 ⟨rfl, hq2⟩
              have HC2 := hid (HC1.out.trans hq2 (fun _ _ h => h))
              have HX2 := hid (blk_keep HX1.out hq2 id)
              have HO2 := hid (ownA_keep hq2 t HOX.out.1 (fun _ _ => id))
              clear hq2 HTX0 s0 s1 s2 s3 s4 HX1 HC1
              by_cases h48 : 2048 < tx.length
              · have z9 : decide ((2048 : Int) < (tx.length : Int)) = true := decide_eq_true (by omega)
                clear h48
                go_wp2
                go_ret
                exact ⟨rfl, HB.out.2.2.trans HC2.out (fun _ _ h => h)⟩
              · have z9 : decide ((2048 : Int) < (tx.length : Int)) = false := decide_eq_false (by omega)
                have HTX1 : Hid (Calls Tryz.prog 11 #[.agg #[.int .i64 t.op, .int .i64 t.k, .string ⟨t.r.1.toArray⟩, .string ⟨t.r.2.toArray⟩, .slice ax qx cx]] v2 fun e w' => e = .returned (.string ⟨tx.toArray⟩) ∧ Chg (fun _ => False) v2 w') := hid (by
                  have h := own_text t ax qx cx v2 HOX.out.2.2.2.1 HO2.out (by rw [HOX.out.2.2.1]; exact HOX.out.2.2.2.2)
                  rw [HOX.out.2.2.1, HFR.out.2.1, ← HFR.out.2.2.1] at h
                  exact h)
                have HP2 := hid (HPT.out (by omega))
                clear h48
                have s0 := cell_blk HX2.out 0
                have s1 := cell_blk HX2.out 1
                have s2 := cell_blk HX2.out 2
                have s3 := cell_blk HX2.out 3
                have s4 := cell_blk HX2.out 4
                simp only [List.getElem?_toArray, List.getElem?_cons_zero, List.getElem?_cons_succ] at s0 s1 s2 s3 s4
                go_wp2_with fail
                refine HTX1.out.mono ?_
                rintro e v3 ⟨rfl, hq3⟩
                have HC3 := hid (HC2.out.trans hq3 (fun _ _ h => h))
                have HX3 := hid (blk_keep HX2.out hq3 id)
                have HO3 := hid (ownA_keep hq3 t HO2.out (fun _ _ => id))
                have HPS := hid (pparseF tx (by omega) v3 (HV2.out.keep HC3.out ⟨id, id⟩))
                clear hq3 HTX1 s0 s1 s2 s3 s4 HX2 HC2 HO2 hl1
                go_wp2_with fail
                refine HPS.out.mono ?_
                intro e v4 hp
                obtain ⟨hq4, u, ay, qy, cy, e1, e2, rfl, e3, e4⟩ := hp.known HP2.out (z := 0) rfl
                have hl4 : Chg (fun _ => False) v4 (v4.alloc (.cells #[.int .i64 u.op, .int .i64 u.k, .string ⟨u.r.1.toArray⟩, .string ⟨u.r.2.toArray⟩, .slice ay qy cy] 26)) := (Chg.refl _ v4).alloc _
                have hc4 := hq4.trans hl4 (fun _ _ h => h)
                have HCW := hid (HC3.out.trans hc4 (fun _ _ h => h))
                have hXb := blk_keep HX3.out hc4 id
                have hYb := heap_alloc_new v4 (.cells #[.int .i64 u.op, .int .i64 u.k, .string ⟨u.r.1.toArray⟩, .string ⟨u.r.2.toArray⟩, .slice ay qy cy] 26)
                have hox := ownA_keep hc4 t HO3.out (fun _ _ => id)
                have hoy := ownA_keep hl4 u e3 (fun _ _ => id)
                have hnx := HOX.out.2.2.2.2
                have hex := HOX.out.2.2.1
                have hLb := blk_keep HB.out.2.1 HCW.out id
                obtain ⟨X, hX⟩ : ∃ X, X = v1.heap.size := ⟨_, rfl⟩
                obtain ⟨Y, hY⟩ : ∃ Y, Y = v4.heap.size := ⟨_, rfl⟩
                obtain ⟨L, hL⟩ : ∃ L, L = w.heap.size + 1 := ⟨_, rfl⟩
                rw [← hX] at hXb
                rw [← hY] at hYb
                rw [← hL] at hLb
                have hbt := HB.out.2.2.trans HCW.out (fun _ _ h => h)
                have hrl := HY.out.2.2.2.1.keep hbt (fun _ _ => id)
                have hnt : nodesF (eraseA t) ≤ 4096 := by rw [hex]; exact hnx
                have hnu : nodesF (eraseA u) ≤ 4096 := by rw [e1]; exact hnx
                have HSM : Hid (∀ W, Chg (fun _ => False) (v4.alloc (.cells #[.int .i64 u.op, .int .i64 u.k, .string ⟨u.r.1.toArray⟩, .string ⟨u.r.2.toArray⟩, .slice ay qy cy] 26)) W → Calls Tryz.prog 14 #[.agg #[.int .i64 t.op, .int .i64 t.k, .string ⟨t.r.1.toArray⟩, .string ⟨t.r.2.toArray⟩, .slice ax qx cx], .agg #[.int .i64 u.op, .int .i64 u.k, .string ⟨u.r.1.toArray⟩, .string ⟨u.r.2.toArray⟩, .slice ay qy cy]] W fun e w' => e = .returned (.bool true) ∧ Chg (fun _ => False) W w') := hid (fun W hW => by
                  have h := own_same2 t u ax ay qx cx qy cy W HOX.out.2.2.2.1 (ownA_keep hW t hox (fun _ _ => id)) HOX.out.2.1 hnt e2 (ownA_keep hW u hoy (fun _ _ => id)) hnu
                  unfold FmVal at h
                  refine h.mono ?_
                  rintro e w' ⟨b, rfl, hb, hc⟩
                  have : b = true := hb.2 (hex.trans e1.symm)
                  subst this
                  exact ⟨rfl, hc⟩)
                obtain ⟨p, hpp⟩ : ∃ p, p = (isF fx && holdsF (fun r => hasR xs r) fx) := ⟨_, rfl⟩
                have hask : ∀ W, Chg (fun _ => False) (v4.alloc (.cells #[.int .i64 u.op, .int .i64 u.k, .string ⟨u.r.1.toArray⟩, .string ⟨u.r.2.toArray⟩, .slice ay qy cy] 26)) W → AskR 15 #[] #[.pointer (some ⟨L, 0, none⟩)] (fun r => hasR xs r) W := fun W hW => pb_ask xs a1 la c1 L W HL.out (by have := HY.out.2.2.2.2.2.2; omega) (blk_keep hLb hW id) (hrl.keep hW (fun _ _ => id))
                have HTX : Hid (∀ W, Chg (fun _ => False) (v4.alloc (.cells #[.int .i64 u.op, .int .i64 u.k, .string ⟨u.r.1.toArray⟩, .string ⟨u.r.2.toArray⟩, .slice ay qy cy] 26)) W → Calls Tryz.prog 17 #[.agg #[.int .i64 t.op, .int .i64 t.k, .string ⟨t.r.1.toArray⟩, .string ⟨t.r.2.toArray⟩, .slice ax qx cx], .func (.func 15) #[] #[.pointer (some ⟨L, 0, none⟩)]] W fun e w' => e = .returned (.bool p) ∧ Chg (fun _ => False) W w') := hid (fun W hW => by
                  have h := own_true 15 #[] #[.pointer (some ⟨L, 0, none⟩)] (fun r => hasR xs r) pb_ent t ax qx cx W HOX.out.2.2.2.1 (ownA_keep hW t hox (fun _ _ => id)) hnt (hask W hW)
                  rw [hex, ← hpp] at h
                  exact h)
                have HTY : Hid (∀ W, Chg (fun _ => False) (v4.alloc (.cells #[.int .i64 u.op, .int .i64 u.k, .string ⟨u.r.1.toArray⟩, .string ⟨u.r.2.toArray⟩, .slice ay qy cy] 26)) W → Calls Tryz.prog 17 #[.agg #[.int .i64 u.op, .int .i64 u.k, .string ⟨u.r.1.toArray⟩, .string ⟨u.r.2.toArray⟩, .slice ay qy cy], .func (.func 15) #[] #[.pointer (some ⟨L, 0, none⟩)]] W fun e w' => e = .returned (.bool p) ∧ Chg (fun _ => False) W w') := hid (fun W hW => by
                  have h := own_true 15 #[] #[.pointer (some ⟨L, 0, none⟩)] (fun r => hasR xs r) pb_ent u ay qy cy W e2 (ownA_keep hW u hoy (fun _ _ => id)) hnu (hask W hW)
                  rw [e1, ← hpp] at h
                  exact h)
                have x0 := cell_blk hXb 0
                have x1 := cell_blk hXb 1
                have x2 := cell_blk hXb 2
                have x3 := cell_blk hXb 3
                have x4 := cell_blk hXb 4
                have y0 := cell_blk hYb 0
                have y1 := cell_blk hYb 1
                have y2 := cell_blk hYb 2
                have y3 := cell_blk hYb 3
                have y4 := cell_blk hYb 4
                simp only [List.getElem?_toArray, List.getElem?_cons_zero, List.getElem?_cons_succ] at x0 x1 x2 x3 x4 y0 y1 y2 y3 y4
                have HXC := hid (And.intro x0 (And.intro x1 (And.intro x2 (And.intro x3 x4))))
                have HYC := hid (And.intro y0 (And.intro y1 (And.intro y2 (And.intro y3 y4))))
                have HCX := hid hbt
                clear hXb hYb hLb hbt hrl hnt hnu hask hpp x0 x1 x2 x3 x4 y0 y1 y2 y3 y4 hox hoy hnx hex hq4 hl4 hc4 e1 e2 e3 e4 hp HPS HX3 HO3 HC3 HPT HP2 HOX HFR
                unfold FmVal
                rw [← hX]
                clear hX
                go_wp2_with fail
                rw [← hY, ← hL]
                clear hY hL
                generalize (v4.alloc (.cells #[.int .i64 u.op, .int .i64 u.k, .string ⟨u.r.1.toArray⟩, .string ⟨u.r.2.toArray⟩, .slice ay qy cy] 26)) = wy at *
                have HCW := HCX
                refine wp_region_specs [.any, .any, .any, .any, .any, .any, .eq (.bool true), .any, .any, .eq (.pointer (some ⟨X, 0, none⟩)), .eq (.int .i64 0), .eq (.pointer (some ⟨Y, 0, none⟩)), .eq (.func (.func 15) #[] #[.pointer (some ⟨L, 0, none⟩)]), .any, .any, .any, .any, .any, .any, .any, .any, .any, .any, .any, .any, .any, .any, .any, .any, .any, .any, .any, .any, .any, .any, .any, .any, .any, .any, .any, .any, .any, .any, .any, .any, .any, .any, .any, .any, .any, .any, .any, .any, .any, .any, .any, .any, .any, .any, .any, .any, .any, .any, .any, .any, .any, .any, .any, .any, .any, .any, .eq (.int .i64 0), .eq (.bool true), .eq (.bool true), .eq (.agg #[.int .i64 t.op, .int .i64 t.k, .string ⟨t.r.1.toArray⟩, .string ⟨t.r.2.toArray⟩, .slice ax qx cx]), .eq (.agg #[.int .i64 u.op, .int .i64 u.k, .string ⟨u.r.1.toArray⟩, .string ⟨u.r.2.toArray⟩, .slice ay qy cy]), .eq (.bool true), .eq (.bool true), .eq (.bool true), .eq (.agg #[.int .i64 t.op, .int .i64 t.k, .string ⟨t.r.1.toArray⟩, .string ⟨t.r.2.toArray⟩, .slice ax qx cx]), .eq (.func (.func 15) #[] #[.pointer (some ⟨L, 0, none⟩)]), .eq (.bool p), .eq (.agg #[.int .i64 u.op, .int .i64 u.k, .string ⟨u.r.1.toArray⟩, .string ⟨u.r.2.toArray⟩, .slice ay qy cy]), .eq (.func (.func 15) #[] #[.pointer (some ⟨L, 0, none⟩)]), .eq (.bool p), .eq (.bool true), .eq (.bool true)] [71, 72, 73, 74, 75, 76, 77, 78, 79, 80, 81, 82, 83, 84, 85, 86, 6] [9, 10, 11, 12] (by kernel_rfl) (by kernel_rfl) (by rfl) (by kernel_rfl) ?start ?obs ?fin
                case start =>
                  simp only [List.forall_mem_cons]; exact ⟨⟨_, rfl, rfl⟩, ⟨_, rfl, rfl⟩, ⟨_, rfl, rfl⟩, ⟨_, rfl, rfl⟩, fun _ h => by cases h⟩
                case obs =>
                  skip
                  refine Obs.cons none (by kernel_rfl) ?_ ?_
                  · refine Ob.plain fun a w hR hk K k => ?_
                    obtain ⟨_, e10, f10⟩ := hk 10 (by decide)
                    clear hk
                    go_simp
                    exact k _ _ (Chg.refl _ _) f10
                  refine Obs.cons none (by kernel_rfl) ?_ ?_
                  · refine Ob.plain fun a w hR hk K k => ?_
                    obtain ⟨_, e71, rfl⟩ := hk 71 (by decide)
                    clear hk
                    go_simp
                    exact k _ _ (Chg.refl _ _) rfl
                  refine Obs.cons none (by kernel_rfl) ?_ ?_
                  · refine Ob.plain fun a w hR hk K k => ?_
                    obtain ⟨_, e72, f72⟩ := hk 72 (by decide)
                    clear hk
                    go_simp
                    exact k _ _ (Chg.refl _ _) f72
                  refine Obs.cons (some (73, true)) (by kernel_rfl) ?_ ?_
                  · refine Ob.yes (fun _ _ h => h) fun a w hR hk K k => ?_
                    obtain ⟨_, e9, rfl⟩ := hk 9 (by decide)
                    clear hk
                    obtain ⟨k0, k1, k2, k3, k4⟩ := HXC.out
                    have z0 := hR.cell k0 id
                    have z1 := hR.cell k1 id
                    have z2 := hR.cell k2 id
                    have z3 := hR.cell k3 id
                    have z4 := hR.cell k4 id
                    go_simp
                    exact k _ _ (Chg.refl _ _) rfl
                  refine Obs.cons (some (73, true)) (by kernel_rfl) ?_ ?_
                  · refine Ob.yes (fun _ _ h => h) fun a w hR hk K k => ?_
                    obtain ⟨_, e11, rfl⟩ := hk 11 (by decide)
                    clear hk
                    obtain ⟨k0, k1, k2, k3, k4⟩ := HYC.out
                    have z0 := hR.cell k0 id
                    have z1 := hR.cell k1 id
                    have z2 := hR.cell k2 id
                    have z3 := hR.cell k3 id
                    have z4 := hR.cell k4 id
                    go_simp
                    exact k _ _ (Chg.refl _ _) rfl
                  refine Obs.cons (some (73, true)) (by kernel_rfl) ?_ ?_
                  · refine Ob.yes (fun _ _ h => h) fun a w hR hk K k => ?_
                    obtain ⟨_, e74, rfl⟩ := hk 74 (by decide)
                    obtain ⟨_, e75, rfl⟩ := hk 75 (by decide)
                    clear hk
                    go_simp
                    refine (HSM.out w hR).mono ?_
                    rintro e w8 ⟨rfl, hc8⟩
                    exact k _ _ hc8 rfl
                  refine Obs.cons none (by kernel_rfl) ?_ ?_
                  · refine Ob.plain fun a w hR hk K k => ?_
                    obtain ⟨_, e73, rfl⟩ := hk 73 (by decide)
                    obtain ⟨_, e76, rfl⟩ := hk 76 (by decide)
                    clear hk
                    go_simp
                    exact k _ _ (Chg.refl _ _) rfl
                  refine Obs.cons none (by kernel_rfl) ?_ ?_
                  · refine Ob.plain fun a w hR hk K k => ?_
                    obtain ⟨_, e77, f77⟩ := hk 77 (by decide)
                    clear hk
                    go_simp
                    exact k _ _ (Chg.refl _ _) f77
                  refine Obs.cons (some (78, true)) (by kernel_rfl) ?_ ?_
                  · refine Ob.yes (fun _ _ h => h) fun a w hR hk K k => ?_
                    obtain ⟨_, e9, rfl⟩ := hk 9 (by decide)
                    clear hk
                    obtain ⟨k0, k1, k2, k3, k4⟩ := HXC.out
                    have z0 := hR.cell k0 id
                    have z1 := hR.cell k1 id
                    have z2 := hR.cell k2 id
                    have z3 := hR.cell k3 id
                    have z4 := hR.cell k4 id
                    go_simp
                    exact k _ _ (Chg.refl _ _) rfl
                  refine Obs.cons (some (78, true)) (by kernel_rfl) ?_ ?_
                  · refine Ob.yes (fun _ _ h => h) fun a w hR hk K k => ?_
                    obtain ⟨_, e12, f12⟩ := hk 12 (by decide)
                    clear hk
                    go_simp
                    exact k _ _ (Chg.refl _ _) f12
                  refine Obs.cons (some (78, true)) (by kernel_rfl) ?_ ?_
                  · refine Ob.yes (fun _ _ h => h) fun a w hR hk K k => ?_
                    obtain ⟨_, e79, rfl⟩ := hk 79 (by decide)
                    obtain ⟨_, e80, rfl⟩ := hk 80 (by decide)
                    clear hk
                    have eg := pb_ent
                    go_simp
                    refine (HTX.out w hR).mono ?_
                    rintro e w8 ⟨rfl, hc8⟩
                    exact k _ _ hc8 rfl
                  refine Obs.cons (some (78, true)) (by kernel_rfl) ?_ ?_
                  · refine Ob.yes (fun _ _ h => h) fun a w hR hk K k => ?_
                    obtain ⟨_, e11, rfl⟩ := hk 11 (by decide)
                    clear hk
                    obtain ⟨k0, k1, k2, k3, k4⟩ := HYC.out
                    have z0 := hR.cell k0 id
                    have z1 := hR.cell k1 id
                    have z2 := hR.cell k2 id
                    have z3 := hR.cell k3 id
                    have z4 := hR.cell k4 id
                    go_simp
                    exact k _ _ (Chg.refl _ _) rfl
                  refine Obs.cons (some (78, true)) (by kernel_rfl) ?_ ?_
                  · refine Ob.yes (fun _ _ h => h) fun a w hR hk K k => ?_
                    obtain ⟨_, e12, f12⟩ := hk 12 (by decide)
                    clear hk
                    go_simp
                    exact k _ _ (Chg.refl _ _) f12
                  refine Obs.cons (some (78, true)) (by kernel_rfl) ?_ ?_
                  · refine Ob.yes (fun _ _ h => h) fun a w hR hk K k => ?_
                    obtain ⟨_, e82, rfl⟩ := hk 82 (by decide)
                    obtain ⟨_, e83, rfl⟩ := hk 83 (by decide)
                    clear hk
                    have eg := pb_ent
                    go_simp
                    refine (HTY.out w hR).mono ?_
                    rintro e w8 ⟨rfl, hc8⟩
                    exact k _ _ hc8 rfl
                  refine Obs.cons (some (78, true)) (by kernel_rfl) ?_ ?_
                  · refine Ob.yes (fun _ _ h => h) fun a w hR hk K k => ?_
                    obtain ⟨_, e81, rfl⟩ := hk 81 (by decide)
                    obtain ⟨_, e84, rfl⟩ := hk 84 (by decide)
                    clear hk
                    cases p
                    · go_simp
                      exact k _ _ (Chg.refl _ _) rfl
                    · go_simp
                      exact k _ _ (Chg.refl _ _) rfl
                  refine Obs.cons none (by kernel_rfl) ?_ ?_
                  · refine Ob.plain fun a w hR hk K k => ?_
                    obtain ⟨_, e78, rfl⟩ := hk 78 (by decide)
                    obtain ⟨_, e85, rfl⟩ := hk 85 (by decide)
                    clear hk
                    go_simp
                    exact k _ _ (Chg.refl _ _) rfl
                  refine Obs.cons none (by kernel_rfl) ?_ ?_
                  · refine Ob.plain fun a w hR hk K k => ?_
                    obtain ⟨_, e86, f86⟩ := hk 86 (by decide)
                    clear hk
                    go_simp
                    exact k _ _ (Chg.refl _ _) f86
                  exact Obs.nil
                case fin =>
                  intro vals w9 hc9 hv
                  have h6 : vals 6 = .bool true := hv 6 (by decide)
                  simp only [putAll, List.setIfInBounds_toArray, List.set_cons_zero, List.set_cons_succ, h6]
                  have HC9 := hid (HCW.out.trans hc9 (fun _ _ h => h))
                  clear hc9 hv h6 HSM HTX HTY HXC HYC
                  go_wp2
                  go_ret
                  exact ⟨rfl, HC9.out⟩
            · have z : ((m : Int) != 0) = true := by simpa using hm0
              clear hm0 hok0
              go_wp2
              go_ret
              exact ⟨rfl, HB.out.2.2.trans HC1.out (fun _ _ h => h)⟩
          · have z8 : decide ((tf.length : Int) ≤ (2048 : Int)) = false := decide_eq_false (by omega)
            clear h48 HPT HTF HC6
            have HPS := hid (pparseF s HS.out w6 (HV2.out.keep HCC.out ⟨id, id⟩))
            go_wp2_with fail
            refine HPS.out.mono ?_
            intro e v1 hp
            obtain ⟨hq1, t, ax, qx, cx, e1, e2, rfl, e3, e4⟩ := hp
            obtain ⟨m, hm⟩ : ∃ m, m = (parseF s).2 := ⟨_, rfl⟩
            obtain ⟨fx, hfx⟩ : ∃ fx, fx = (parseF s).1 := ⟨_, rfl⟩
            have hnx := parse_nodes s
            have hok0 := parse_ok s
            rw [← hm, ← hfx] at hok0
            rw [← hfx] at e1 hnx
            rw [← hm]
            have HC1 := hid ((HCC.out.trans hq1 (fun _ _ h => h)).trans ((Chg.refl (fun _ => False) v1).alloc (.cells #[.int .i64 t.op, .int .i64 t.k, .string ⟨t.r.1.toArray⟩, .string ⟨t.r.2.toArray⟩, .slice ax qx cx] 26)) (fun _ _ h => h))
            have HX1 := hid (heap_alloc_new v1 (.cells #[.int .i64 t.op, .int .i64 t.k, .string ⟨t.r.1.toArray⟩, .string ⟨t.r.2.toArray⟩, .slice ax qx cx] 26))
            have HOX := hid (And.intro (ownA_keep ((Chg.refl (fun _ => False) v1).alloc (.cells #[.int .i64 t.op, .int .i64 t.k, .string ⟨t.r.1.toArray⟩, .string ⟨t.r.2.toArray⟩, .slice ax qx cx] 26)) t e3 (fun _ _ => id)) (And.intro e4 (And.intro e1 (And.intro e2 hnx))))
            clear hm hfx hq1 e1 e2 e3 e4 hnx HPS
            unfold FmVal
            by_cases hm0 : m = 0
            · have hfr := hok0 hm0
              have hz : ((m : Nat) : Int) = 0 := by omega
              rw [hz]
              have hif := isF_right9 hfr
              have htl := text_len fx hif.2.2
              have htx : textP fx = textF fx := by unfold textP; rw [hfr]; rfl
              have hTX := own_text t ax qx cx (v1.alloc (.cells #[.int .i64 t.op, .int .i64 t.k, .string ⟨t.r.1.toArray⟩, .string ⟨t.r.2.toArray⟩, .slice ax qx cx] 26)) HOX.out.2.2.2.1 HOX.out.1 (by rw [HOX.out.2.2.1]; exact HOX.out.2.2.2.2)
              rw [HOX.out.2.2.1, htx] at hTX
              have hpt := fun h => parse_told hfr h
              obtain ⟨tx, htx2⟩ : ∃ tx, tx = textF fx := ⟨_, rfl⟩
              rw [← htx2] at hTX hpt htl
              unfold FmVal at hTX
              have HTX0 := hid hTX
              have HPT := hid hpt
              have HFR := hid (And.intro hfr (And.intro htx (And.intro htx2 (show tx.length ≤ 2560 by omega))))
              have hl1 : tx.length ≤ 2560 := by omega
              clear hm0 hz hif htl htx hTX hpt htx2 hok0 hfr
              have s0 := cell_blk HX1.out 0
              have s1 := cell_blk HX1.out 1
              have s2 := cell_blk HX1.out 2
              have s3 := cell_blk HX1.out 3
              have s4 := cell_blk HX1.out 4
              simp only [List.getElem?_toArray, List.getElem?_cons_zero, List.getElem?_cons_succ] at s0 s1 s2 s3 s4
              go_wp2_with fail
              refine HTX0.out.mono ?_
              rintro e v2 ⟨rfl, hq2⟩
              have HC2 := hid (HC1.out.trans hq2 (fun _ _ h => h))
              have HX2 := hid (blk_keep HX1.out hq2 id)
              have HO2 := hid (ownA_keep hq2 t HOX.out.1 (fun _ _ => id))
              clear hq2 HTX0 s0 s1 s2 s3 s4 HX1 HC1
              by_cases h48 : 2048 < tx.length
              · have z9 : decide ((2048 : Int) < (tx.length : Int)) = true := decide_eq_true (by omega)
                clear h48
                go_wp2
                go_ret
                exact ⟨rfl, HB.out.2.2.trans HC2.out (fun _ _ h => h)⟩
              · have z9 : decide ((2048 : Int) < (tx.length : Int)) = false := decide_eq_false (by omega)
                have HTX1 : Hid (Calls Tryz.prog 11 #[.agg #[.int .i64 t.op, .int .i64 t.k, .string ⟨t.r.1.toArray⟩, .string ⟨t.r.2.toArray⟩, .slice ax qx cx]] v2 fun e w' => e = .returned (.string ⟨tx.toArray⟩) ∧ Chg (fun _ => False) v2 w') := hid (by
                  have h := own_text t ax qx cx v2 HOX.out.2.2.2.1 HO2.out (by rw [HOX.out.2.2.1]; exact HOX.out.2.2.2.2)
                  rw [HOX.out.2.2.1, HFR.out.2.1, ← HFR.out.2.2.1] at h
                  exact h)
                have HP2 := hid (HPT.out (by omega))
                clear h48
                have s0 := cell_blk HX2.out 0
                have s1 := cell_blk HX2.out 1
                have s2 := cell_blk HX2.out 2
                have s3 := cell_blk HX2.out 3
                have s4 := cell_blk HX2.out 4
                simp only [List.getElem?_toArray, List.getElem?_cons_zero, List.getElem?_cons_succ] at s0 s1 s2 s3 s4
                go_wp2_with fail
                refine HTX1.out.mono ?_
                rintro e v3 ⟨rfl, hq3⟩
                have HC3 := hid (HC2.out.trans hq3 (fun _ _ h => h))
                have HX3 := hid (blk_keep HX2.out hq3 id)
                have HO3 := hid (ownA_keep hq3 t HO2.out (fun _ _ => id))
                have HPS := hid (pparseF tx (by omega) v3 (HV2.out.keep HC3.out ⟨id, id⟩))
                clear hq3 HTX1 s0 s1 s2 s3 s4 HX2 HC2 HO2 hl1
                go_wp2_with fail
                refine HPS.out.mono ?_
                intro e v4 hp
                obtain ⟨hq4, u, ay, qy, cy, e1, e2, rfl, e3, e4⟩ := hp.known HP2.out (z := 0) rfl
                have hl4 : Chg (fun _ => False) v4 (v4.alloc (.cells #[.int .i64 u.op, .int .i64 u.k, .string ⟨u.r.1.toArray⟩, .string ⟨u.r.2.toArray⟩, .slice ay qy cy] 26)) := (Chg.refl _ v4).alloc _
                have hc4 := hq4.trans hl4 (fun _ _ h => h)
                have HCW := hid (HC3.out.trans hc4 (fun _ _ h => h))
                have hXb := blk_keep HX3.out hc4 id
                have hYb := heap_alloc_new v4 (.cells #[.int .i64 u.op, .int .i64 u.k, .string ⟨u.r.1.toArray⟩, .string ⟨u.r.2.toArray⟩, .slice ay qy cy] 26)
                have hox := ownA_keep hc4 t HO3.out (fun _ _ => id)
                have hoy := ownA_keep hl4 u e3 (fun _ _ => id)
                have hnx := HOX.out.2.2.2.2
                have hex := HOX.out.2.2.1
                have hLb := blk_keep HB.out.2.1 HCW.out id
                obtain ⟨X, hX⟩ : ∃ X, X = v1.heap.size := ⟨_, rfl⟩
                obtain ⟨Y, hY⟩ : ∃ Y, Y = v4.heap.size := ⟨_, rfl⟩
                obtain ⟨L, hL⟩ : ∃ L, L = w.heap.size + 1 := ⟨_, rfl⟩
                rw [← hX] at hXb
                rw [← hY] at hYb
                rw [← hL] at hLb
                have hbt := HB.out.2.2.trans HCW.out (fun _ _ h => h)
                have hrl := HY.out.2.2.2.1.keep hbt (fun _ _ => id)
                have hnt : nodesF (eraseA t) ≤ 4096 := by rw [hex]; exact hnx
                have hnu : nodesF (eraseA u) ≤ 4096 := by rw [e1]; exact hnx
                have HSM : Hid (∀ W, Chg (fun _ => False) (v4.alloc (.cells #[.int .i64 u.op, .int .i64 u.k, .string ⟨u.r.1.toArray⟩, .string ⟨u.r.2.toArray⟩, .slice ay qy cy] 26)) W → Calls Tryz.prog 14 #[.agg #[.int .i64 t.op, .int .i64 t.k, .string ⟨t.r.1.toArray⟩, .string ⟨t.r.2.toArray⟩, .slice ax qx cx], .agg #[.int .i64 u.op, .int .i64 u.k, .string ⟨u.r.1.toArray⟩, .string ⟨u.r.2.toArray⟩, .slice ay qy cy]] W fun e w' => e = .returned (.bool true) ∧ Chg (fun _ => False) W w') := hid (fun W hW => by
                  have h := own_same2 t u ax ay qx cx qy cy W HOX.out.2.2.2.1 (ownA_keep hW t hox (fun _ _ => id)) HOX.out.2.1 hnt e2 (ownA_keep hW u hoy (fun _ _ => id)) hnu
                  unfold FmVal at h
                  refine h.mono ?_
                  rintro e w' ⟨b, rfl, hb, hc⟩
                  have : b = true := hb.2 (hex.trans e1.symm)
                  subst this
                  exact ⟨rfl, hc⟩)
                obtain ⟨p, hpp⟩ : ∃ p, p = (isF fx && holdsF (fun r => hasR xs r) fx) := ⟨_, rfl⟩
                have hask : ∀ W, Chg (fun _ => False) (v4.alloc (.cells #[.int .i64 u.op, .int .i64 u.k, .string ⟨u.r.1.toArray⟩, .string ⟨u.r.2.toArray⟩, .slice ay qy cy] 26)) W → AskR 15 #[] #[.pointer (some ⟨L, 0, none⟩)] (fun r => hasR xs r) W := fun W hW => pb_ask xs a1 la c1 L W HL.out (by have := HY.out.2.2.2.2.2.2; omega) (blk_keep hLb hW id) (hrl.keep hW (fun _ _ => id))
                have HTX : Hid (∀ W, Chg (fun _ => False) (v4.alloc (.cells #[.int .i64 u.op, .int .i64 u.k, .string ⟨u.r.1.toArray⟩, .string ⟨u.r.2.toArray⟩, .slice ay qy cy] 26)) W → Calls Tryz.prog 17 #[.agg #[.int .i64 t.op, .int .i64 t.k, .string ⟨t.r.1.toArray⟩, .string ⟨t.r.2.toArray⟩, .slice ax qx cx], .func (.func 15) #[] #[.pointer (some ⟨L, 0, none⟩)]] W fun e w' => e = .returned (.bool p) ∧ Chg (fun _ => False) W w') := hid (fun W hW => by
                  have h := own_true 15 #[] #[.pointer (some ⟨L, 0, none⟩)] (fun r => hasR xs r) pb_ent t ax qx cx W HOX.out.2.2.2.1 (ownA_keep hW t hox (fun _ _ => id)) hnt (hask W hW)
                  rw [hex, ← hpp] at h
                  exact h)
                have HTY : Hid (∀ W, Chg (fun _ => False) (v4.alloc (.cells #[.int .i64 u.op, .int .i64 u.k, .string ⟨u.r.1.toArray⟩, .string ⟨u.r.2.toArray⟩, .slice ay qy cy] 26)) W → Calls Tryz.prog 17 #[.agg #[.int .i64 u.op, .int .i64 u.k, .string ⟨u.r.1.toArray⟩, .string ⟨u.r.2.toArray⟩, .slice ay qy cy], .func (.func 15) #[] #[.pointer (some ⟨L, 0, none⟩)]] W fun e w' => e = .returned (.bool p) ∧ Chg (fun _ => False) W w') := hid (fun W hW => by
                  have h := own_true 15 #[] #[.pointer (some ⟨L, 0, none⟩)] (fun r => hasR xs r) pb_ent u ay qy cy W e2 (ownA_keep hW u hoy (fun _ _ => id)) hnu (hask W hW)
                  rw [e1, ← hpp] at h
                  exact h)
                have x0 := cell_blk hXb 0
                have x1 := cell_blk hXb 1
                have x2 := cell_blk hXb 2
                have x3 := cell_blk hXb 3
                have x4 := cell_blk hXb 4
                have y0 := cell_blk hYb 0
                have y1 := cell_blk hYb 1
                have y2 := cell_blk hYb 2
                have y3 := cell_blk hYb 3
                have y4 := cell_blk hYb 4
                simp only [List.getElem?_toArray, List.getElem?_cons_zero, List.getElem?_cons_succ] at x0 x1 x2 x3 x4 y0 y1 y2 y3 y4
                have HXC := hid (And.intro x0 (And.intro x1 (And.intro x2 (And.intro x3 x4))))
                have HYC := hid (And.intro y0 (And.intro y1 (And.intro y2 (And.intro y3 y4))))
                have HCX := hid hbt
                clear hXb hYb hLb hbt hrl hnt hnu hask hpp x0 x1 x2 x3 x4 y0 y1 y2 y3 y4 hox hoy hnx hex hq4 hl4 hc4 e1 e2 e3 e4 hp HPS HX3 HO3 HC3 HPT HP2 HOX HFR
                unfold FmVal
                rw [← hX]
                clear hX
                go_wp2_with fail
                rw [← hY, ← hL]
                clear hY hL
                generalize (v4.alloc (.cells #[.int .i64 u.op, .int .i64 u.k, .string ⟨u.r.1.toArray⟩, .string ⟨u.r.2.toArray⟩, .slice ay qy cy] 26)) = wy at *
                have HCW := HCX
                refine wp_region_specs [.any, .any, .any, .any, .any, .any, .eq (.bool true), .any, .any, .eq (.pointer (some ⟨X, 0, none⟩)), .eq (.int .i64 0), .eq (.pointer (some ⟨Y, 0, none⟩)), .eq (.func (.func 15) #[] #[.pointer (some ⟨L, 0, none⟩)]), .any, .any, .any, .any, .any, .any, .any, .any, .any, .any, .any, .any, .any, .any, .any, .any, .any, .any, .any, .any, .any, .any, .any, .any, .any, .any, .any, .any, .any, .any, .any, .any, .any, .any, .any, .any, .any, .any, .any, .any, .any, .any, .any, .any, .any, .any, .any, .any, .any, .any, .any, .any, .any, .any, .any, .any, .any, .any, .eq (.int .i64 0), .eq (.bool true), .eq (.bool true), .eq (.agg #[.int .i64 t.op, .int .i64 t.k, .string ⟨t.r.1.toArray⟩, .string ⟨t.r.2.toArray⟩, .slice ax qx cx]), .eq (.agg #[.int .i64 u.op, .int .i64 u.k, .string ⟨u.r.1.toArray⟩, .string ⟨u.r.2.toArray⟩, .slice ay qy cy]), .eq (.bool true), .eq (.bool true), .eq (.bool true), .eq (.agg #[.int .i64 t.op, .int .i64 t.k, .string ⟨t.r.1.toArray⟩, .string ⟨t.r.2.toArray⟩, .slice ax qx cx]), .eq (.func (.func 15) #[] #[.pointer (some ⟨L, 0, none⟩)]), .eq (.bool p), .eq (.agg #[.int .i64 u.op, .int .i64 u.k, .string ⟨u.r.1.toArray⟩, .string ⟨u.r.2.toArray⟩, .slice ay qy cy]), .eq (.func (.func 15) #[] #[.pointer (some ⟨L, 0, none⟩)]), .eq (.bool p), .eq (.bool true), .eq (.bool true)] [71, 72, 73, 74, 75, 76, 77, 78, 79, 80, 81, 82, 83, 84, 85, 86, 6] [9, 10, 11, 12] (by kernel_rfl) (by kernel_rfl) (by rfl) (by kernel_rfl) ?start ?obs ?fin
                case start =>
                  simp only [List.forall_mem_cons]; exact ⟨⟨_, rfl, rfl⟩, ⟨_, rfl, rfl⟩, ⟨_, rfl, rfl⟩, ⟨_, rfl, rfl⟩, fun _ h => by cases h⟩
                case obs =>
                  skip
                  refine Obs.cons none (by kernel_rfl) ?_ ?_
                  · refine Ob.plain fun a w hR hk K k => ?_
                    obtain ⟨_, e10, f10⟩ := hk 10 (by decide)
                    clear hk
                    go_simp
                    exact k _ _ (Chg.refl _ _) f10
                  refine Obs.cons none (by kernel_rfl) ?_ ?_
                  · refine Ob.plain fun a w hR hk K k => ?_
                    obtain ⟨_, e71, rfl⟩ := hk 71 (by decide)
                    clear hk
                    go_simp
                    exact k _ _ (Chg.refl _ _) rfl
                  refine Obs.cons none (by kernel_rfl) ?_ ?_
                  · refine Ob.plain fun a w hR hk K k => ?_
                    obtain ⟨_, e72, f72⟩ := hk 72 (by decide)
                    clear hk
                    go_simp
                    exact k _ _ (Chg.refl _ _) f72
                  refine Obs.cons (some (73, true)) (by kernel_rfl) ?_ ?_
                  · refine Ob.yes (fun _ _ h => h) fun a w hR hk K k => ?_
                    obtain ⟨_, e9, rfl⟩ := hk 9 (by decide)
                    clear hk
                    obtain ⟨k0, k1, k2, k3, k4⟩ := HXC.out
                    have z0 := hR.cell k0 id
                    have z1 := hR.cell k1 id
                    have z2 := hR.cell k2 id
                    have z3 := hR.cell k3 id
                    have z4 := hR.cell k4 id
                    go_simp
                    exact k _ _ (Chg.refl _ _) rfl
                  refine Obs.cons (some (73, true)) (by kernel_rfl) ?_ ?_
                  · refine Ob.yes (fun _ _ h => h) fun a w hR hk K k => ?_
                    obtain ⟨_, e11, rfl⟩ := hk 11 (by decide)
                    clear hk
                    obtain ⟨k0, k1, k2, k3, k4⟩ := HYC.out
                    have z0 := hR.cell k0 id
                    have z1 := hR.cell k1 id
                    have z2 := hR.cell k2 id
                    have z3 := hR.cell k3 id
                    have z4 := hR.cell k4 id
                    go_simp
                    exact k _ _ (Chg.refl _ _) rfl
                  refine Obs.cons (some (73, true)) (by kernel_rfl) ?_ ?_
                  · refine Ob.yes (fun _ _ h => h) fun a w hR hk K k => ?_
                    obtain ⟨_, e74, rfl⟩ := hk 74 (by decide)
                    obtain ⟨_, e75, rfl⟩ := hk 75 (by decide)
                    clear hk
                    go_simp
                    refine (HSM.out w hR).mono ?_
                    rintro e w8 ⟨rfl, hc8⟩
                    exact k _ _ hc8 rfl
                  refine Obs.cons none (by kernel_rfl) ?_ ?_
                  · refine Ob.plain fun a w hR hk K k => ?_
                    obtain ⟨_, e73, rfl⟩ := hk 73 (by decide)
                    obtain ⟨_, e76, rfl⟩ := hk 76 (by decide)
                    clear hk
                    go_simp
                    exact k _ _ (Chg.refl _ _) rfl
                  refine Obs.cons none (by kernel_rfl) ?_ ?_
                  · refine Ob.plain fun a w hR hk K k => ?_
                    obtain ⟨_, e77, f77⟩ := hk 77 (by decide)
                    clear hk
                    go_simp
                    exact k _ _ (Chg.refl _ _) f77
                  refine Obs.cons (some (78, true)) (by kernel_rfl) ?_ ?_
                  · refine Ob.yes (fun _ _ h => h) fun a w hR hk K k => ?_
                    obtain ⟨_, e9, rfl⟩ := hk 9 (by decide)
                    clear hk
                    obtain ⟨k0, k1, k2, k3, k4⟩ := HXC.out
                    have z0 := hR.cell k0 id
                    have z1 := hR.cell k1 id
                    have z2 := hR.cell k2 id
                    have z3 := hR.cell k3 id
                    have z4 := hR.cell k4 id
                    go_simp
                    exact k _ _ (Chg.refl _ _) rfl
                  refine Obs.cons (some (78, true)) (by kernel_rfl) ?_ ?_
                  · refine Ob.yes (fun _ _ h => h) fun a w hR hk K k => ?_
                    obtain ⟨_, e12, f12⟩ := hk 12 (by decide)
                    clear hk
                    go_simp
                    exact k _ _ (Chg.refl _ _) f12
                  refine Obs.cons (some (78, true)) (by kernel_rfl) ?_ ?_
                  · refine Ob.yes (fun _ _ h => h) fun a w hR hk K k => ?_
                    obtain ⟨_, e79, rfl⟩ := hk 79 (by decide)
                    obtain ⟨_, e80, rfl⟩ := hk 80 (by decide)
                    clear hk
                    have eg := pb_ent
                    go_simp
                    refine (HTX.out w hR).mono ?_
                    rintro e w8 ⟨rfl, hc8⟩
                    exact k _ _ hc8 rfl
                  refine Obs.cons (some (78, true)) (by kernel_rfl) ?_ ?_
                  · refine Ob.yes (fun _ _ h => h) fun a w hR hk K k => ?_
                    obtain ⟨_, e11, rfl⟩ := hk 11 (by decide)
                    clear hk
                    obtain ⟨k0, k1, k2, k3, k4⟩ := HYC.out
                    have z0 := hR.cell k0 id
                    have z1 := hR.cell k1 id
                    have z2 := hR.cell k2 id
                    have z3 := hR.cell k3 id
                    have z4 := hR.cell k4 id
                    go_simp
                    exact k _ _ (Chg.refl _ _) rfl
                  refine Obs.cons (some (78, true)) (by kernel_rfl) ?_ ?_
                  · refine Ob.yes (fun _ _ h => h) fun a w hR hk K k => ?_
                    obtain ⟨_, e12, f12⟩ := hk 12 (by decide)
                    clear hk
                    go_simp
                    exact k _ _ (Chg.refl _ _) f12
                  refine Obs.cons (some (78, true)) (by kernel_rfl) ?_ ?_
                  · refine Ob.yes (fun _ _ h => h) fun a w hR hk K k => ?_
                    obtain ⟨_, e82, rfl⟩ := hk 82 (by decide)
                    obtain ⟨_, e83, rfl⟩ := hk 83 (by decide)
                    clear hk
                    have eg := pb_ent
                    go_simp
                    refine (HTY.out w hR).mono ?_
                    rintro e w8 ⟨rfl, hc8⟩
                    exact k _ _ hc8 rfl
                  refine Obs.cons (some (78, true)) (by kernel_rfl) ?_ ?_
                  · refine Ob.yes (fun _ _ h => h) fun a w hR hk K k => ?_
                    obtain ⟨_, e81, rfl⟩ := hk 81 (by decide)
                    obtain ⟨_, e84, rfl⟩ := hk 84 (by decide)
                    clear hk
                    cases p
                    · go_simp
                      exact k _ _ (Chg.refl _ _) rfl
                    · go_simp
                      exact k _ _ (Chg.refl _ _) rfl
                  refine Obs.cons none (by kernel_rfl) ?_ ?_
                  · refine Ob.plain fun a w hR hk K k => ?_
                    obtain ⟨_, e78, rfl⟩ := hk 78 (by decide)
                    obtain ⟨_, e85, rfl⟩ := hk 85 (by decide)
                    clear hk
                    go_simp
                    exact k _ _ (Chg.refl _ _) rfl
                  refine Obs.cons none (by kernel_rfl) ?_ ?_
                  · refine Ob.plain fun a w hR hk K k => ?_
                    obtain ⟨_, e86, f86⟩ := hk 86 (by decide)
                    clear hk
                    go_simp
                    exact k _ _ (Chg.refl _ _) f86
                  exact Obs.nil
                case fin =>
                  intro vals w9 hc9 hv
                  have h6 : vals 6 = .bool true := hv 6 (by decide)
                  simp only [putAll, List.setIfInBounds_toArray, List.set_cons_zero, List.set_cons_succ, h6]
                  have HC9 := hid (HCW.out.trans hc9 (fun _ _ h => h))
                  clear hc9 hv h6 HSM HTX HTY HXC HYC
                  go_wp2
                  go_ret
                  exact ⟨rfl, HC9.out⟩
            · have z : ((m : Int) != 0) = true := by simpa using hm0
              clear hm0 hok0
              go_wp2
              go_ret
              exact ⟨rfl, HB.out.2.2.trans HC1.out (fun _ _ h => h)⟩
end Go.Proofs.YtojbhlbknjnioaaGreatDoor
