/- The contract of the document's Right of layer 5. -/
import Derived.Test.YtmmkopdcbiiedaaKb4
import Derived.Test.YtmmkopdcbiiedaaKb11
namespace Go.Proofs.Ytmmkopdcbiiedaa
open Go.RowKit

theorem isCred_not1 {c : CredB} (k : c.kind ≠ 1) (h : (c.who == [] && isRole c.b) = false) : isCred c = false := by
  unfold isCred
  rw [if_neg k, h]
  simp

set_option maxRecDepth 100000 in
set_option maxHeartbeats 2000000 in
theorem cright_ref (c : CredB) (w : World) (hs : credShort c 9223372036854775807) :
    Calls Try.prog 32 #[credV c] w fun e w' => e = .returned (.bool (isCred c)) ∧ Chg (fun _ => False) w w' := by
  have hc0 : Chg (fun _ => False) w ((w.alloc (.cells (credBox c) 32)).alloc (.cells #[.string ⟨#[]⟩, .string ⟨#[]⟩] 25)) := ((Chg.refl _ w).alloc _).alloc _
  have hA := blk_keep (heap_alloc_new w (.cells (credBox c) 32)) ((Chg.refl (fun _ => False) _).alloc (.cells #[.string ⟨#[]⟩, .string ⟨#[]⟩] 25)) id
  have hN := heap_alloc_new (w.alloc (.cells (credBox c) 32)) (.cells #[.string ⟨#[]⟩, .string ⟨#[]⟩] 25)
  rw [show (w.alloc (.cells (credBox c) 32)).heap.size = w.heap.size + 1 by simp] at hN
  obtain ⟨k, ⟨ho, hw⟩, who, ⟨bo, bw⟩, ⟨co, cw⟩, w2⟩ := c
  obtain ⟨s1, s2, s3, s4, s5, s6, s7, s8⟩ := hs
  dsimp only at s1 s2 s3 s4 s5 s6 s7 s8
  have hd := cred_at_blk hA
  have n0 := cell_blk hN 0
  have n1 := cell_blk hN 1
  simp only [List.getElem?_toArray, List.getElem?_cons_zero, List.getElem?_cons_succ] at n0 n1
  obtain ⟨a0, a1, a2, a3, a4, a5, a6, a7, a8⟩ := hd
  simp only [Nat.zero_add] at a0 a1 a2 a3 a4 a5 a6 a7 a8
  show Calls Try.prog 32 #[.agg #[.int .i64 k, .string ⟨ho.toArray⟩, .string ⟨hw.toArray⟩, .string ⟨who.toArray⟩, .string ⟨bo.toArray⟩, .string ⟨bw.toArray⟩, .string ⟨co.toArray⟩, .string ⟨cw.toArray⟩, .string ⟨w2.toArray⟩]] w _
  clear hA hN
  cases hr : isRole (ho, hw) with
  | false =>
    have hh : Hid (isCred ⟨k, (ho, hw), who, (bo, bw), (co, cw), w2⟩ = false) := hid (by simp [isCred, hr])
    go_enter Try.func32, Try.ntmps32
    go_wp2_with fail
    refine (rright_ref (ho, hw) _ s1 s2).mono ?_
    rintro e w1 ⟨rfl, hc1⟩
    rw [hr]
    have HC := hid (hc0.trans hc1 (fun _ _ h => h))
    clear hc0 hc1
    go_wp2
    go_ret
    exact ⟨by rw [hh.out]; rfl, HC.out⟩
  | true =>
    go_enter Try.func32, Try.ntmps32
    go_wp2_with fail
    refine (rright_ref (ho, hw) _ s1 s2).mono ?_
    rintro e w1 ⟨rfl, hc1⟩
    rw [hr]
    have hcw := hc0.trans hc1 (fun _ _ h => h)
    replace a0 := hc1.cell a0 id
    replace a1 := hc1.cell a1 id
    replace a2 := hc1.cell a2 id
    replace a3 := hc1.cell a3 id
    replace a4 := hc1.cell a4 id
    replace a5 := hc1.cell a5 id
    replace a6 := hc1.cell a6 id
    replace a7 := hc1.cell a7 id
    replace a8 := hc1.cell a8 id
    replace n0 := hc1.cell n0 id
    replace n1 := hc1.cell n1 id
    have HC := hid hcw
    clear hc0 hc1 hcw
    by_cases k1 : k = 1
    · subst k1
      have hh : Hid (isCred ⟨1, (ho, hw), who, (bo, bw), (co, cw), w2⟩ = (isName who && ((bo == [] && bw == []) && ((co == [] && cw == []) && w2 == [])))) := hid (by
        simp only [isCred, hr, if_true, Bool.true_and]
        rfl)
      go_wp2_with fail
      refine (refright_any who _ s3).mono ?_
      rintro e w2 ⟨rfl, rfl⟩
      cases hx : isName who <;> clear s1 s2 s3 s4 s5 s6 s7 s8 <;> go_wp2 <;> (go_ret; refine ⟨congrArg (fun b => Ending.returned (.bool b)) ?_, HC.out⟩; rw [hh.out, hx]; simp [*])
    · by_cases hw0 : who = []
      · subst hw0
        have z1 : (k == 1) = false := beq_eq_false_iff_ne.2 k1
        go_wp2_with fail
        refine (rright_ref (bo, bw) _ s4 s5).mono ?_
        rintro e w3 ⟨rfl, hc3⟩
        replace a0 := hc3.cell a0 id
        replace a1 := hc3.cell a1 id
        replace a4 := hc3.cell a4 id
        replace a5 := hc3.cell a5 id
        replace a6 := hc3.cell a6 id
        replace a7 := hc3.cell a7 id
        replace a8 := hc3.cell a8 id
        replace n0 := hc3.cell n0 id
        replace n1 := hc3.cell n1 id
        have HC2 := hid (HC.out.trans hc3 (fun _ _ h => h))
        clear HC hc3 a2 a3
        cases hb : isRole (bo, bw) with
        | false =>
          have hh : Hid (isCred ⟨k, (ho, hw), [], (bo, bw), (co, cw), w2⟩ = false) := hid (isCred_not1 k1 (by simp [hb]))
          go_wp2
          go_ret
          exact ⟨by rw [hh.out]; rfl, HC2.out⟩
        | true =>
          have hh : Hid (isCred ⟨k, (ho, hw), [], (bo, bw), (co, cw), w2⟩ = (if k = 2 then (co == [] && cw == []) && w2 == [] else if k = 3 then (co == [] && cw == []) && (bo == ho && isName w2) else k == 4 && (w2 == [] && (isRole (co, cw) && ltR (bo, bw) (co, cw))))) := hid (by
            simp only [isCred, hr, hb, if_neg k1, Bool.true_and, Bool.and_true]
            rfl)
          by_cases k2 : k = 2
          · subst k2
            clear s1 s2 s3 s4 s5 s6 s7 s8
            go_wp2 <;> (go_ret; refine ⟨congrArg (fun b => Ending.returned (.bool b)) ?_, HC2.out⟩; rw [hh.out]; simp [*])
          · have z2 : (k == 2) = false := beq_eq_false_iff_ne.2 k2
            by_cases k3 : k = 3
            · subst k3
              clear s1 s2 s3 s4 s5 s6 s7
              go_wp2_with fail
              · refine (refright_any w2 _ s8).mono ?_
                rintro e w4 ⟨rfl, rfl⟩
                generalize isName w2 = nw at *
                go_wp2
                go_ret
                exact ⟨congrArg (fun b => Ending.returned (.bool b)) (by rw [hh.out]; simp [*]), HC2.out⟩
              all_goals (go_ret; exact ⟨congrArg (fun b => Ending.returned (.bool b)) (by rw [hh.out]; simp [*]), HC2.out⟩)
            · have z3 : (k == 3) = false := beq_eq_false_iff_ne.2 k3
              by_cases k4 : k = 4
              · subst k4
                by_cases hz : w2 = []
                · subst hz
                  go_wp2_with fail
                  refine (rright_ref (co, cw) _ s6 s7).mono ?_
                  rintro e w4 ⟨rfl, hc4⟩
                  replace a4 := hc4.cell a4 id
                  replace a5 := hc4.cell a5 id
                  replace a6 := hc4.cell a6 id
                  replace a7 := hc4.cell a7 id
                  have HC3 := hid (HC2.out.trans hc4 (fun _ _ h => h))
                  clear HC2 hc4 a0 a1 a8 n0 n1
                  cases hcr : isRole (co, cw) with
                  | false =>
                    rw [hcr] at hh
                    go_wp2
                    go_ret
                    exact ⟨by rw [hh.out]; rfl, HC3.out⟩
                  | true =>
                    rw [hcr] at hh
                    go_wp2_with fail
                    refine (less_ref (bo, bw) (co, cw) _).mono ?_
                    rintro e w5 ⟨rfl, hc5⟩
                    have HC4 := hid (HC3.out.trans hc5 (fun _ _ h => h))
                    clear HC3 hc5
                    generalize ltR (bo, bw) (co, cw) = lt at *
                    go_wp2
                    go_ret
                    exact ⟨by rw [hh.out]; rfl, HC4.out⟩
                · clear s1 s2 s3 s4 s5 s6 s7 s8
                  go_wp2
                  go_ret
                  exact ⟨congrArg (fun b => Ending.returned (.bool b)) (by rw [hh.out]; simp [*]), HC2.out⟩
              · have z4 : (k == 4) = false := beq_eq_false_iff_ne.2 k4
                clear s1 s2 s3 s4 s5 s6 s7 s8
                go_wp2
                go_ret
                exact ⟨congrArg (fun b => Ending.returned (.bool b)) (by rw [hh.out]; simp [*]), HC2.out⟩
      · have hh : Hid (isCred ⟨k, (ho, hw), who, (bo, bw), (co, cw), w2⟩ = false) := hid (isCred_not1 k1 (by simp [hw0]))
        have z1 : (k == 1) = false := beq_eq_false_iff_ne.2 k1
        have z0 : (who != []) = true := by simp [hw0]
        clear s1 s2 s3 s4 s5 s6 s7 s8
        go_wp2
        go_ret
        exact ⟨by rw [hh.out]; rfl, HC.out⟩
end Go.Proofs.Ytmmkopdcbiiedaa
