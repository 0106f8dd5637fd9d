/- Texts that the proof leans on, in one: RefKGreat, DrewN, RefCredSame, VaultK, VaultSt. -/
import Derived.Test.YtfpaoaflhbppgaaVm7
import Derived.Test.YtfpaoaflhbppgaaVm5
import Derived.Test.YtfpaoaflhbppgaaVm1
import Derived.Test.YtfpaoaflhbppgaaProg
import Derived.Test.YtfpaoaflhbppgaaChecked
import Derived.Deep.QuietTactic
import Derived.BigQuiet
import Derived.Test.YtfpaoaflhbppgaaVm6
/- How great keys and signed credentials are: the contract of layer 6's Great. -/
namespace Go.Proofs.Ytfpaoaflhbppgaa
open Go.RowKit

theorem creds_one {w : World} {g : Nat} {c : CredB} {ty : TypeId} {f : Nat × Nat} (h : w.heap[g]? = some (.cells (credBox c) ty f)) (hs : credShort c 9223372036854775807) : CredsAt (fun _ => True) w (some ⟨g, 0, none⟩) [c] := fun i hi => by
  have : i = 0 := by simp at hi; omega
  subst this
  exact ⟨g, 0, rfl, trivial, cred_at_blk h, hs⟩

/-- A slice of credentials that lie in some block. -/
def Spec.creds (l : List CredB) : Spec := ⟨fun v w => ∃ ao cp, v = .slice ao l.length cp ∧ l = l ∧ CredsAt (fun _ => True) w ao l, fun _ _ _ hc ⟨ao, cp, h1, h2, h3⟩ => ⟨ao, cp, h1, h2, h3.keep hc (fun _ _ => id)⟩⟩
def kgSpecs (A m cap : Nat) (ta : Option Addr) (s : SignB) : List Spec := [.any, .any, .any, .any, .any, .eq (.int .i64 (m + sizeS s : Nat)), .any, .any, .any, .eq (.pointer (some ⟨A, 0, none⟩)), .any, .any, .any, .any, .any, .any, .any, .any, .any, .any, .any, .any, .any, .any, .any, .any, .any, .any, .any, .any, .any, .any, .any, .eq (.int .i64 m), .eq (.pointer (some ⟨A, 0, none⟩)), .eq (credV s.c), .creds [s.c], .eq (.int .i64 (totalC [s.c] : Nat)), .eq (.pointer (some ⟨A, 9, none⟩)), .eq (.slice ta s.tag.length cap), .eq (.int .i64 s.tag.length), .eq (.int .i64 (sizeS s : Nat)), .eq (.int .i64 (m + sizeS s : Nat))]

set_option maxRecDepth 100000 in
set_option maxHeartbeats 4000000 in
theorem kgreat_any {D E : Nat → Prop} (ao so : Option Addr) (cp sp : Nat) (ls : List KeyB) (ss : List SignB) (w : World) (hn : totalK ls + totalS ss ≤ 4503599627370496) (h : KeysAt D w ao ls) (hss : SignsAt E w so ss) :
    Calls Try.prog 14 #[.slice ao ls.length cp, .slice so ss.length sp] w fun e w' => e = .returned (.int .i64 (totalK ls + totalS ss : Nat)) ∧ Chg (fun _ => False) w w' := by
  have hl := totalK_len ls
  have hl2 := totalS_len ss
  go_enter Try.func14, Try.ntmps14
  go_wp2
  go_loopw [5, 12] (fun n i wr => ∃ k m : Nat, k ≤ ls.length ∧ i = .int .i64 k ∧ n = .int .i64 m ∧ Hid (m = totalK (ls.take k)) ∧ m ≤ 4503599627370496 ∧ Chg (fun _ => False) w wr) (fun _ i _ => ls.length - (intOf i).toNat)
  case atStart => exact ⟨0, 0, Nat.zero_le _, rfl, rfl, rfl, by omega, Chg.refl _ _⟩
  case round =>
    obtain ⟨k, m, hk, rfl, rfl, hm, hml, hc⟩ := hrel
    by_cases hlt : k < ls.length
    · obtain ⟨b, off, rfl, _, hat⟩ := (h.keep hc (fun _ _ => id)) k hlt
      have ht := totalK_take ls k hlt
      have hle := totalK_take_le ls (k + 1)
      rw [ht, ← hm.out] at hle
      have hx : Hid (m + sizeK ls[k] = totalK (ls.take (k + 1))) := hid (by rw [ht, hm.out])
      clear h ht
      have hsl2 : m + sizeK ls[k] ≤ 4503599627370496 := by omega
      clear hle
      generalize ls[k] = s at *
      obtain ⟨a0, ⟨ka, cap, a1, _⟩, s1, s2⟩ := hat
      simp only [sizeK] at a0 a1 s1 s2 hx hsl2
      have HC := hid hc
      clear hc hss
      go_wp2
      go_roundw
      case rel => exact ⟨k + 1, m + (10 + s.who.length + s.key.length), by omega, by go_num, by go_num, hx, hsl2, HC.out.alloc _⟩
      case measure => simp [intOf]; omega
    · have hk2 : k = ls.length := by omega
      have hx : m = totalK ls := by have := hm.out; rwa [List.take_of_length_le (by omega)] at this
      subst hx
      have HC := hid hc
      clear h hc hm
      go_wp2
      have hc := HC.out
      clear HC
      go_loopw [5, 29] (fun n i wr => ∃ k m : Nat, k ≤ ss.length ∧ i = .int .i64 k ∧ n = .int .i64 m ∧ Hid (m = totalK ls + totalS (ss.take k)) ∧ m ≤ 4503599627370496 ∧ Chg (fun _ => False) w wr) (fun _ i _ => ss.length - (intOf i).toNat)
      case atStart => exact ⟨0, totalK ls, Nat.zero_le _, rfl, rfl, hid (by simp [totalS]), by omega, hc⟩
      case round =>
        obtain ⟨k, m, hk, rfl, rfl, hm, hml, hc⟩ := hrel
        by_cases hlt : k < ss.length
        · obtain ⟨b, off, rfl, _, hat⟩ := (hss.keep hc (fun _ _ => id)) k hlt
          have ht := totalS_take ss k hlt
          have hle := totalS_take_le ss (k + 1)
          rw [ht] at hle
          have hx : Hid (m + sizeS ss[k] = totalK ls + totalS (ss.take (k + 1))) := hid (by rw [ht, hm.out]; omega)
          have hsl2 : m + sizeS ss[k] ≤ 4503599627370496 := by have := hm.out; omega
          clear hss ht hle
          generalize ss[k] = s at *
          obtain ⟨⟨a0, a1, a2, a3, a4, a5, a6, a7, a8⟩, ⟨ta, cap, a9, hbt⟩, hsh, hln⟩ := hat
          have HC := hid (And.intro hc (And.intro hbt hsh))
          clear hc hbt hsh
          go_wp2
          have hA : (wr.alloc (.cells #[.int .i64 s.c.kind, .string ⟨s.c.head.1.toArray⟩, .string ⟨s.c.head.2.toArray⟩, .string ⟨s.c.who.toArray⟩, .string ⟨s.c.b.1.toArray⟩, .string ⟨s.c.b.2.toArray⟩, .string ⟨s.c.c.1.toArray⟩, .string ⟨s.c.c.2.toArray⟩, .string ⟨s.c.w2.toArray⟩, .slice ta s.tag.length cap] 35)).heap[wr.heap.size]? = some (.cells (signBox s.c (.slice ta s.tag.length cap)) 35 (0, 0)) := heap_alloc_new wr _
          have hcA : Chg (fun _ => False) w (wr.alloc (.cells #[.int .i64 s.c.kind, .string ⟨s.c.head.1.toArray⟩, .string ⟨s.c.head.2.toArray⟩, .string ⟨s.c.who.toArray⟩, .string ⟨s.c.b.1.toArray⟩, .string ⟨s.c.b.2.toArray⟩, .string ⟨s.c.c.1.toArray⟩, .string ⟨s.c.c.2.toArray⟩, .string ⟨s.c.w2.toArray⟩, .slice ta s.tag.length cap] 35)) := HC.out.1.alloc _
          have HA := hid hA
          have hy1 : sizeS s = totalC [s.c] + s.tag.length := by simp [totalC, sizeS]
          have HG : Hid (totalC [s.c] ≤ 4503599627370496) := hid (by omega)
          have HB1 := hid hcA
          have HSH := hid HC.out.2.2
          clear hA hcA HC a0 a1 a2 a3 a4 a5 a6 a7 a8 a9 hm
          generalize (wr.alloc (.cells #[.int .i64 s.c.kind, .string ⟨s.c.head.1.toArray⟩, .string ⟨s.c.head.2.toArray⟩, .string ⟨s.c.who.toArray⟩, .string ⟨s.c.b.1.toArray⟩, .string ⟨s.c.b.2.toArray⟩, .string ⟨s.c.c.1.toArray⟩, .string ⟨s.c.c.2.toArray⟩, .string ⟨s.c.w2.toArray⟩, .slice ta s.tag.length cap] 35)) = wa at *
          generalize wr.heap.size = A at *
          refine wp_region_specsE (kgSpecs A m cap ta s) [33, 34, 35, 36, 37, 38, 39, 40, 41, 42, 5] [9] 5 (.int .i64 m) (by kernel_rfl) (by kernel_rfl) (by rfl) (by rfl) (by kernel_rfl) ?start ?obs ?fin
          case start =>
            simp only [List.forall_mem_cons]
            exact ⟨⟨_, rfl, rfl⟩, fun _ h => by cases h⟩
          case obs =>
            refine ObsE.cons none (by kernel_rfl) ?_ ?_
            · refine ObE.plain fun a w hR hk K k => ?_
              obtain ⟨_, e5, f5⟩ := hk 5 (by decide)
              clear hk
              go_simp
              exact k _ _ (Chg.refl _ _) f5
            refine ObsE.cons none (by kernel_rfl) ?_ ?_
            · refine ObE.plain fun a w hR hk K k => ?_
              obtain ⟨_, e9, rfl⟩ := hk 9 (by decide)
              clear hk
              go_simp
              exact k _ _ (Chg.refl _ _) rfl
            refine ObsE.cons none (by kernel_rfl) ?_ ?_
            · refine ObE.plain fun a w hR hk K k => ?_
              obtain ⟨_, e34, rfl⟩ := hk 34 (by decide)
              clear hk
              obtain ⟨hq, y9⟩ := cred_at_sign (blk_keep HA.out hR id)
              obtain ⟨y0, y1, y2, y3, y4, y5, y6, y7, y8⟩ := hq
              simp only [Nat.zero_add] at y0 y1 y2 y3 y4 y5 y6 y7 y8
              go_simp
              exact k _ _ (Chg.refl _ _) rfl
            refine ObsE.cons none (by kernel_rfl) ?_ ?_
            · refine ObE.plain fun a w hR hk K k => ?_
              obtain ⟨_, e35, rfl⟩ := hk 35 (by decide)
              clear hk
              unfold credV credBox at e35
              go_simp
              exact k (.slice (some ⟨w.heap.size, 0, none⟩) 1 1) _ ((Chg.refl _ w).alloc _) ⟨_, _, rfl, rfl, creds_one (heap_alloc_new w (.cells (credBox s.c) 32)) HSH.out⟩
            refine ObsE.cons none (by kernel_rfl) ?_ ?_
            · refine ObE.plain fun a w hR hk K k => ?_
              obtain ⟨_, e36, f36⟩ := hk 36 (by decide)
              clear hk
              obtain ⟨b, cap, rfl, _, hcr⟩ := f36
              have HB := hid hcr
              clear hcr
              go_simp
              refine (great_any (D := fun _ => True) _ _ [s.c] w HG.out HB.out).mono ?_
              rintro e w5 ⟨rfl, hcc⟩
              exact k _ _ hcc rfl
            refine ObsE.cons none (by kernel_rfl) ?_ ?_
            · refine ObE.plain fun a w hR hk K k => ?_
              obtain ⟨_, e9, rfl⟩ := hk 9 (by decide)
              clear hk
              go_simp
              exact k _ _ (Chg.refl _ _) rfl
            refine ObsE.cons none (by kernel_rfl) ?_ ?_
            · refine ObE.plain fun a w hR hk K k => ?_
              obtain ⟨_, e38, rfl⟩ := hk 38 (by decide)
              clear hk
              obtain ⟨hq, y9⟩ := cred_at_sign (blk_keep HA.out hR id)
              obtain ⟨y0, y1, y2, y3, y4, y5, y6, y7, y8⟩ := hq
              simp only [Nat.zero_add] at y0 y1 y2 y3 y4 y5 y6 y7 y8
              go_simp
              exact k _ _ (Chg.refl _ _) rfl
            refine ObsE.cons none (by kernel_rfl) ?_ ?_
            · refine ObE.plain fun a w hR hk K k => ?_
              obtain ⟨_, e39, rfl⟩ := hk 39 (by decide)
              clear hk
              go_simp
              exact k _ _ (Chg.refl _ _) rfl
            refine ObsE.cons none (by kernel_rfl) ?_ ?_
            · refine ObE.plain fun a w hR hk K k => ?_
              obtain ⟨_, e37, rfl⟩ := hk 37 (by decide)
              obtain ⟨_, e40, rfl⟩ := hk 40 (by decide)
              clear hk
              have hw1 : IntKind.i64.wrap (((totalC [s.c] : Nat) : Int) + (s.tag.length : Int)) = ((sizeS s : Nat) : Int) := by rw [IntKind.wrap_i64]; omega
              go_simp
              exact k _ _ (Chg.refl _ _) rfl
            refine ObsE.cons none (by kernel_rfl) ?_ ?_
            · refine ObE.plain fun a w hR hk K k => ?_
              obtain ⟨_, e33, rfl⟩ := hk 33 (by decide)
              obtain ⟨_, e41, rfl⟩ := hk 41 (by decide)
              clear hk
              clear hy1
              have hw1 : IntKind.i64.wrap ((m : Int) + ((sizeS s : Nat) : Int)) = ((m + sizeS s : Nat) : Int) := by rw [IntKind.wrap_i64]; omega
              go_simp
              exact k _ _ (Chg.refl _ _) rfl
            refine ObsE.cons none (by kernel_rfl) ?_ ?_
            · refine ObE.plain fun a w hR hk K k => ?_
              obtain ⟨_, e42, f42⟩ := hk 42 (by decide)
              clear hk
              go_simp
              exact k _ _ (Chg.refl _ _) f42
            exact ObsE.nil
          case fin =>
            intro vals w9 hc9 hv
            have h5 : vals 5 = .int .i64 (m + sizeS s : Nat) := hv 5 (by decide)
            have HF := hid (HB1.out.trans hc9 (fun _ _ h => h))
            clear hv hc9 HB1 HA HSH
            simp only [putAll, List.setIfInBounds_toArray, List.set_cons_zero, List.set_cons_succ, h5]
            clear h5
            go_wp2
            go_roundw
            case rel => exact ⟨k + 1, m + sizeS s, by omega, by go_num, rfl, hx, hsl2, HF.out⟩
            case measure => simp [intOf]; omega
        · have hk2 : k = ss.length := by omega
          have hx : m = totalK ls + totalS ss := by have := hm.out; rwa [List.take_of_length_le (by omega)] at this
          subst hx
          have HC := hid hc
          clear hss hc
          go_wp2
          go_ret
          exact ⟨rfl, HC.out⟩
end Go.Proofs.Ytfpaoaflhbppgaa

/- Draws add up. -/
namespace Go.Proofs.Ytfpaoaflhbppgaa
open Go.RowKit

theorem drewN_add (w : World) (n m : Nat) : (w.drewN n).drewN m = w.drewN (n + m) := by
  simp only [World.drewN, Nat.add_assoc]
end Go.Proofs.Ytfpaoaflhbppgaa

/- The contract of the document's Same of layer 5. -/
namespace Go.Proofs.Ytfpaoaflhbppgaa
open Go.RowKit

set_option maxRecDepth 100000 in
set_option maxHeartbeats 2000000 in
theorem csame_ref {D1 D2 : Nat → Prop} (a1 a2 : Option Addr) (c1 c2 : Nat) (l1 l2 : List CredB) (w : World) (hn : l1.length ≤ 4611686018427387904) (hm : l2.length ≤ 4611686018427387904) (h1 : CredsAt D1 w a1 l1) (h2 : CredsAt D2 w a2 l2) :
    Calls Try.prog 19 #[.slice a1 l1.length c1, .slice a2 l2.length c2] w fun e w' => e = .returned (.bool (sameC l1 l2)) ∧ ∃ n, w' = w.drewN n := by
  by_cases hl : l1.length = l2.length
  · have z1 : ((l1.length : Int) != (l2.length : Int)) = false := by simp; omega
    have HL := hid hl
    have hl1 : l1.length ≤ l2.length := by omega
    have hl2 : l2.length ≤ l1.length := by omega
    clear hl
    go_enter Try.func19, Try.ntmps19
    go_wp2
    go_loopw [13] (fun i wr => ∃ k n : Nat, k ≤ l1.length ∧ i = .int .i64 k ∧ wr = w.drewN n ∧ Hid (l1.take k = l2.take k)) (fun i _ => l1.length - (intOf i).toNat)
    case atStart => exact ⟨0, 0, Nat.zero_le _, rfl, rfl, by rw [List.take_zero, List.take_zero]; rfl⟩
    case round =>
      obtain ⟨k, n, hk, rfl, rfl, hc⟩ := hrel
      by_cases hlt : k < l1.length
      · obtain ⟨b, off, rfl, _, hat, _⟩ := h1 k hlt
        obtain ⟨b2, off2, rfl, _, hat2, _⟩ := h2 k (by omega)
        clear h1 h2
        have e0 : (0 : Int) ≤ (k : Int) := by omega
        have e1 : (k : Int) < (l1.length : Int) := by omega
        have e2 : (k : Int) < (l2.length : Int) := by omega
        have hx1 : Hid (l1[k] = l2[k]'(by omega) → l1.take (k + 1) = l2.take (k + 1)) := hid (fun he => by rw [List.take_succ_eq_append_getElem hlt, List.take_succ_eq_append_getElem (HL.out ▸ hlt), hc.out, he])
        have hx2 : Hid (l1[k] ≠ l2[k]'(by omega) → sameC l1 l2 = false) := hid (fun he => by
          simp only [sameC, beq_eq_false_iff_ne, ne_eq]
          intro h
          subst h
          exact he rfl)
        generalize l1[k] = s1 at *
        generalize l2[k]'(by omega) = s2 at *
        by_cases e : s1 = s2
        · subst e
          have hx := hid (hx1.out rfl)
          clear hx1 hx2
          obtain ⟨k0, ⟨ho, hw⟩, who, ⟨bo, bw⟩, ⟨co, cw⟩, w2⟩ := s1
          obtain ⟨a0, a1, a2, a3, a4, a5, a6, a7, a8⟩ := hat
          obtain ⟨b0, b1, b2, b3, b4, b5, b6, b7, b8⟩ := hat2
          dsimp only at a0 a1 a2 a3 a4 a5 a6 a7 a8 b0 b1 b2 b3 b4 b5 b6 b7 b8
          go_wp2
          go_quiet (fail)
          go_wp2
          go_roundw
          case rel => exact ⟨k + 1, n + nq, by omega, by go_num, rfl, hx⟩
          case measure => simp [intOf]; omega
        · have hx := hid (hx2.out e)
          have HE := hid e
          clear hx1 hx2 e
          obtain ⟨k0, ⟨ho, hw⟩, who, ⟨bo, bw⟩, ⟨co, cw⟩, w2⟩ := s1
          obtain ⟨k0', ⟨ho', hw'⟩, who', ⟨bo', bw'⟩, ⟨co', cw'⟩, w2'⟩ := s2
          obtain ⟨a0, a1, a2, a3, a4, a5, a6, a7, a8⟩ := hat
          obtain ⟨b0, b1, b2, b3, b4, b5, b6, b7, b8⟩ := hat2
          dsimp only at a0 a1 a2 a3 a4 a5 a6 a7 a8 b0 b1 b2 b3 b4 b5 b6 b7 b8
          by_cases f0 : k0 = k0'
          · subst f0
            have g0 : (k0 == k0) = true := by simp
            by_cases f1 : ho = ho'
            · subst f1
              have g1 : (ho == ho) = true := by simp
              by_cases f2 : hw = hw'
              · subst f2
                have g2 : (hw == hw) = true := by simp
                by_cases f3 : who = who'
                · subst f3
                  have g3 : (who == who) = true := by simp
                  by_cases f4 : bo = bo'
                  · subst f4
                    have g4 : (bo == bo) = true := by simp
                    by_cases f5 : bw = bw'
                    · subst f5
                      have g5 : (bw == bw) = true := by simp
                      by_cases f6 : co = co'
                      · subst f6
                        have g6 : (co == co) = true := by simp
                        by_cases f7 : cw = cw'
                        · subst f7
                          have g7 : (cw == cw) = true := by simp
                          by_cases f8 : w2 = w2'
                          · subst f8
                            have g8 : (w2 == w2) = true := by simp
                            exact (HE.out rfl).elim
                          · have g8 : (w2 == w2') = false := beq_eq_false_iff_ne.2 f8
                            clear f8
                            go_wp2
                            go_quiet (fail)
                            go_wp2
                            go_ret
                            exact ⟨by rw [hx.out]; rfl, _, drewN_add w n nq⟩
                        · have g7 : (cw == cw') = false := beq_eq_false_iff_ne.2 f7
                          clear f7
                          go_wp2
                          go_quiet (fail)
                          go_wp2
                          go_ret
                          exact ⟨by rw [hx.out]; rfl, _, drewN_add w n nq⟩
                      · have g6 : (co == co') = false := beq_eq_false_iff_ne.2 f6
                        clear f6
                        go_wp2
                        go_quiet (fail)
                        go_wp2
                        go_ret
                        exact ⟨by rw [hx.out]; rfl, _, drewN_add w n nq⟩
                    · have g5 : (bw == bw') = false := beq_eq_false_iff_ne.2 f5
                      clear f5
                      go_wp2
                      go_quiet (fail)
                      go_wp2
                      go_ret
                      exact ⟨by rw [hx.out]; rfl, _, drewN_add w n nq⟩
                  · have g4 : (bo == bo') = false := beq_eq_false_iff_ne.2 f4
                    clear f4
                    go_wp2
                    go_quiet (fail)
                    go_wp2
                    go_ret
                    exact ⟨by rw [hx.out]; rfl, _, drewN_add w n nq⟩
                · have g3 : (who == who') = false := beq_eq_false_iff_ne.2 f3
                  clear f3
                  go_wp2
                  go_quiet (fail)
                  go_wp2
                  go_ret
                  exact ⟨by rw [hx.out]; rfl, _, drewN_add w n nq⟩
              · have g2 : (hw == hw') = false := beq_eq_false_iff_ne.2 f2
                clear f2
                go_wp2
                go_quiet (fail)
                go_wp2
                go_ret
                exact ⟨by rw [hx.out]; rfl, _, drewN_add w n nq⟩
            · have g1 : (ho == ho') = false := beq_eq_false_iff_ne.2 f1
              clear f1
              go_wp2
              go_quiet (fail)
              go_wp2
              go_ret
              exact ⟨by rw [hx.out]; rfl, _, drewN_add w n nq⟩
          · have g0 : (k0 == k0') = false := beq_eq_false_iff_ne.2 f0
            clear f0
            go_wp2
            go_quiet (fail)
            go_wp2
            go_ret
            exact ⟨by rw [hx.out]; rfl, _, drewN_add w n nq⟩
      · have hk2 : k = l1.length := by omega
        subst hk2
        have hx : Hid (sameC l1 l2 = true) := by
          have := hc.out
          rw [List.take_of_length_le (Nat.le_refl _), List.take_of_length_le (by rw [HL.out]; omega)] at this
          exact hid (by simp [sameC, this])
        clear h1 h2
        go_wp2
        go_ret
        exact ⟨by rw [hx.out]; rfl, n, rfl⟩
  · have z1 : ((l1.length : Int) != (l2.length : Int)) = true := by simp; omega
    have hx : Hid (sameC l1 l2 = false) := hid (by
      simp only [sameC, beq_eq_false_iff_ne, ne_eq]
      intro h
      exact hl (by rw [h]))
    clear hl h1 h2
    go_enter Try.func19, Try.ntmps19
    go_wp2
    go_ret
    exact ⟨by rw [hx.out]; rfl, 0, rfl⟩
end Go.Proofs.Ytfpaoaflhbppgaa

/- What the law of layer 7 asks of the program's vault: its contracts, as the fields of a structure; and the operations that the law is given. -/
namespace Go.Proofs.Ytfpaoaflhbppgaa
open Go.RowKit

/-- One operation of the law. -/
structure OpB where
  kind : Int
  s : SignB
  deriving Inhabited

/-- The operation lies at eleven cells from o on. -/
structure OpAt (D : Nat → Prop) (w : World) (b o : Nat) (x : OpB) : Prop where
  kd : w.cell? ⟨b, o, none⟩ = some (.int .i64 x.kind)
  sg : SignAt D w b (o + 1) x.s

theorem OpAt.keep {D S : Nat → Prop} {w w' : World} {b o : Nat} {x : OpB} (h : OpAt D w b o x) (hc : Chg S w w') (hb : ¬ S b) (hD : ∀ i, D i → ¬ S i) : OpAt D w' b o x := ⟨hc.cell h.kd hb, h.sg.keep hc hb hD⟩

/-- The operations ls can be read from the address ao on. -/
def OpsAt (D : Nat → Prop) (w : World) (ao : Option Addr) (ls : List OpB) : Prop :=
  ∀ i (h : i < ls.length), ∃ b off, ao = some ⟨b, off, none⟩ ∧ D b ∧ OpAt D w b (off + i * 11) ls[i]

theorem OpsAt.keep {S D : Nat → Prop} {w w' : World} {ao : Option Addr} {ls : List OpB} (h : OpsAt D w ao ls) (hc : Chg S w w') (hS : ∀ i, D i → ¬ S i) : OpsAt D w' ao ls := fun i hi =>
  let ⟨b, off, h1, h2, h3⟩ := h i hi
  ⟨b, off, h1, h2, h3.keep hc (hS b h2) hS⟩

/-- An operation's eleven cells. -/
def opBox (x : OpB) (v : Value) : Array Value :=
  #[.int .i64 x.kind, .int .i64 x.s.c.kind, .string ⟨x.s.c.head.1.toArray⟩, .string ⟨x.s.c.head.2.toArray⟩, .string ⟨x.s.c.who.toArray⟩, .string ⟨x.s.c.b.1.toArray⟩, .string ⟨x.s.c.b.2.toArray⟩, .string ⟨x.s.c.c.1.toArray⟩, .string ⟨x.s.c.c.2.toArray⟩, .string ⟨x.s.c.w2.toArray⟩, v]

/-- What Get tells. -/
def GotV (es : List EntB) (c : CredB) (e : Ending) (w' : World) : Prop :=
  ∃ (t : SignB) (ta : Option Addr) (cap : Nat), e = .returned (.tuple #[signV t.c (.slice ta t.tag.length cap), .bool (getV es c).isSome]) ∧ BytesAt (fun _ => True) w' (.slice ta t.tag.length cap) t.tag ∧ t = ((getV es c).map EntB.s).getD noSign

/-- A list of credentials, told. -/
def TellsC (cs : List CredB) (e : Ending) (w' : World) : Prop :=
  ∃ ao cap, e = .returned (.slice ao cs.length cap) ∧ CredsAt (fun _ => True) w' ao cs

/-- The contracts of the program's vault. VA O D w g ss m: at the block g lies a vault that holds ss, of at most m; it may change the blocks of O, and looks at those of D. -/
structure VK (VA : (Nat → Prop) → (Nat → Prop) → World → Nat → List SignB → Int → Prop) : Prop where
  keep : ∀ {O D S : Nat → Prop} {w w' : World} {g : Nat} {ss : List SignB} {m : Int}, VA O D w g ss m → Chg S w w' → (∀ i, O i ∨ D i → ¬ S i) → VA O D w' g ss m
  low : ∀ {O D : Nat → Prop} {w : World} {g : Nat} {ss : List SignB} {m : Int}, VA O D w g ss m → ∀ i, O i → i < w.heap.size
  new : ∀ (D : Nat → Prop) (w : World) (m : Int), 0 ≤ m → m ≤ 256 → (∀ i, D i → i < w.heap.size) → Calls Try.prog 5 #[.int .i64 m] w fun e w' => ∃ g O, e = .returned (.tuple #[.pointer (some ⟨g, 0, none⟩), .int .i64 0]) ∧ VA O D w' g [] m ∧ (∀ i, O i → w.heap.size ≤ i) ∧ Chg (fun _ => False) w w'
  newBad : ∀ (w : World) (m : Int), ¬ (0 ≤ m ∧ m ≤ 256) → Calls Try.prog 5 #[.int .i64 m] w fun e w' => e = .returned (.tuple #[.pointer none, .int .i64 2]) ∧ Chg (fun _ => False) w w'
  getNil : ∀ (w : World), Calls Try.prog 6 #[.pointer none, credV noCred] w fun e w' => e = .returned (.tuple #[signV noCred (.slice none 0 0), .bool false]) ∧ Chg (fun _ => False) w w'
  addNil : ∀ (c : CredB) (v : Value) (w : World), Calls Try.prog 7 #[.pointer none, signV c v] w fun e w' => e = .returned (.int .i64 1) ∧ Chg (fun _ => False) w w'
  dropNil : ∀ (c : CredB) (w : World), Calls Try.prog 8 #[.pointer none, credV c] w fun e w' => e = .returned (.int .i64 1) ∧ Chg (fun _ => False) w w'
  lenNil : ∀ (w : World), Calls Try.prog 9 #[.pointer none] w fun e w' => e = .returned (.int .i64 0) ∧ Chg (fun _ => False) w w'
  roomNil : ∀ (w : World), Calls Try.prog 10 #[.pointer none] w fun e w' => e = .returned (.int .i64 0) ∧ Chg (fun _ => False) w w'
  credsNil : ∀ (w : World), Calls Try.prog 11 #[.pointer none] w fun e w' => (∃ ao cap, e = .returned (.slice ao 0 cap)) ∧ Chg (fun _ => False) w w'
  issuerNil : ∀ (s : List UInt8) (w : World), Calls Try.prog 12 #[.pointer none, .string ⟨s.toArray⟩] w fun e w' => (∃ ao cap, e = .returned (.slice ao 0 cap)) ∧ Chg (fun _ => False) w w'
  cloneNil : ∀ (w : World), Calls Try.prog 13 #[.pointer none] w fun e w' => e = .returned (.pointer none) ∧ Chg (fun _ => False) w w'
  clone : ∀ {O D : Nat → Prop} (w : World) (g : Nat) (m : Int), VA O D w g [] m → Calls Try.prog 13 #[.pointer (some ⟨g, 0, none⟩)] w fun e w' => ∃ g' O', e = .returned (.pointer (some ⟨g', 0, none⟩)) ∧ VA O' D w' g' [] m ∧ (∀ i, O' i → w.heap.size ≤ i) ∧ Chg (fun _ => False) w w'
  add : ∀ {O D : Nat → Prop} (w : World) (g : Nat) (es : List EntB) (m : Int) (s : EntB), VA O D w g (es.map EntB.s) m → (∀ i, D i → i < w.heap.size) → es.length ≤ 256 → credShort s.c 1048576 → s.tag.length ≤ 1048576 → BytesAt D w (.slice s.ta s.tag.length s.cap) s.tag → Calls Try.prog 7 #[.pointer (some ⟨g, 0, none⟩), signV s.c (.slice s.ta s.tag.length s.cap)] w fun e w' => ∃ O', e = .returned (.int .i64 (addErr es m s)) ∧ VA O' D w' g ((addV es m s).map EntB.s) m ∧ (∀ i, O' i → O i ∨ w.heap.size ≤ i) ∧ Chg O w w'
  drop : ∀ {O D : Nat → Prop} (w : World) (g : Nat) (es : List EntB) (m : Int) (c : CredB), VA O D w g (es.map EntB.s) m → (∀ i, D i → i < w.heap.size) → es.length ≤ 256 → credShort c 1048576 → Calls Try.prog 8 #[.pointer (some ⟨g, 0, none⟩), credV c] w fun e w' => ∃ O', e = .returned (.int .i64 (dropErr es c)) ∧ VA O' D w' g ((dropV es c).map EntB.s) m ∧ (∀ i, O' i → O i ∨ w.heap.size ≤ i) ∧ Chg O w w'
  get : ∀ {O D : Nat → Prop} (w : World) (g : Nat) (es : List EntB) (m : Int) (c : CredB), VA O D w g (es.map EntB.s) m → es.length ≤ 256 → credShort c 1048576 → Calls Try.prog 6 #[.pointer (some ⟨g, 0, none⟩), credV c] w fun e w' => GotV es c e w' ∧ Chg (fun _ => False) w w'
  len : ∀ {O D : Nat → Prop} (w : World) (g : Nat) (es : List EntB) (m : Int), VA O D w g (es.map EntB.s) m → Calls Try.prog 9 #[.pointer (some ⟨g, 0, none⟩)] w fun e w' => e = .returned (.int .i64 (es.length : Nat)) ∧ Chg (fun _ => False) w w'
  room : ∀ {O D : Nat → Prop} (w : World) (g : Nat) (es : List EntB) (m : Int), VA O D w g (es.map EntB.s) m → 0 ≤ m → m ≤ 256 → es.length ≤ 256 → Calls Try.prog 10 #[.pointer (some ⟨g, 0, none⟩)] w fun e w' => e = .returned (.int .i64 (m - (es.length : Nat))) ∧ Chg (fun _ => False) w w'
  creds : ∀ {O D : Nat → Prop} (w : World) (g : Nat) (es : List EntB) (m : Int), VA O D w g (es.map EntB.s) m → es.length ≤ 256 → Calls Try.prog 11 #[.pointer (some ⟨g, 0, none⟩)] w fun e w' => TellsC (es.map (·.c)) e w' ∧ Chg (fun _ => False) w w'
  head : ∀ {O D : Nat → Prop} (w : World) (g : Nat) (es : List EntB) (m : Int) (r : RoleB), VA O D w g (es.map EntB.s) m → es.length ≤ 256 → r.1.length ≤ 1048576 → r.2.length ≤ 1048576 → Calls Try.prog 21 #[.pointer (some ⟨g, 0, none⟩), .agg #[.string ⟨r.1.toArray⟩, .string ⟨r.2.toArray⟩]] w fun e w' => TellsC ((es.map (·.c)).filter (whichC 0 r [])) e w' ∧ Chg (fun _ => False) w w'
  issuer : ∀ {O D : Nat → Prop} (w : World) (g : Nat) (es : List EntB) (m : Int) (s : List UInt8), VA O D w g (es.map EntB.s) m → es.length ≤ 256 → s.length ≤ 1048576 → Calls Try.prog 12 #[.pointer (some ⟨g, 0, none⟩), .string ⟨s.toArray⟩] w fun e w' => TellsC ((es.map (·.c)).filter (whichC 1 ([], []) s)) e w' ∧ Chg (fun _ => False) w w'
  subject : ∀ {O D : Nat → Prop} (w : World) (g : Nat) (es : List EntB) (m : Int) (s : List UInt8), VA O D w g (es.map EntB.s) m → es.length ≤ 256 → s.length ≤ 1048576 → Calls Try.prog 23 #[.pointer (some ⟨g, 0, none⟩), .string ⟨s.toArray⟩] w fun e w' => TellsC ((es.map (·.c)).filter (whichC 2 ([], []) s)) e w' ∧ Chg (fun _ => False) w w'
  word : ∀ {O D : Nat → Prop} (w : World) (g : Nat) (es : List EntB) (m : Int) (s : List UInt8), VA O D w g (es.map EntB.s) m → es.length ≤ 256 → s.length ≤ 1048576 → Calls Try.prog 24 #[.pointer (some ⟨g, 0, none⟩), .string ⟨s.toArray⟩] w fun e w' => TellsC ((es.map (·.c)).filter (whichC 3 ([], []) s)) e w' ∧ Chg (fun _ => False) w w'
end Go.Proofs.Ytfpaoaflhbppgaa

/- The state of the law of layer 7 between two operations. -/
namespace Go.Proofs.Ytfpaoaflhbppgaa
open Go.RowKit

theorem drewN_chg7 (w : World) (n : Nat) : Chg (fun _ => False) w (w.drewN n) := ⟨rfl, rfl, rfl, Nat.le_refl _, fun _ _ _ => rfl⟩

theorem vsigns_one {D : Nat → Prop} {w : World} {g : Nat} {s : SignB} {a : Option Addr} {c : Nat} {T : TypeId} {f : Nat × Nat} (hb : w.heap[g]? = some (.cells (signBox s.c (.slice a s.tag.length c)) T f)) (h1 : BytesAt D w (.slice a s.tag.length c) s.tag) (hs : credShort s.c 9223372036854775807) (hl : s.tag.length ≤ 9223372036854775807) :
    SignsAt (fun _ => True) w (some ⟨g, 0, none⟩) [s] := fun i hi => by
  match i, hi with
  | 0, _ => exact ⟨g, 0, rfl, trivial, (cred_at_sign hb).1, ⟨a, c, (cred_at_sign hb).2, h1.mono (fun _ _ => trivial)⟩, hs, hl⟩

/-- What holds between two operations: es are held, by the document's vault (which lies at V, its row in blocks of E) and by the program's (at g, which may change the blocks of O); the clone at gc holds nothing. -/
structure VSt (VA : (Nat → Prop) → (Nat → Prop) → World → Nat → List SignB → Int → Prop) (D Oc : Nat → Prop) (w0 : World) (A V g gc : Nat) (p : List UInt8 × List UInt8) (m : Int) (O E : Nat → Prop) (wr : World) (es : List EntB) (ao : Option Addr) (cap : Nat) : Prop where
  hA : wr.heap[A]? = some (.cells #[.string ⟨p.1.toArray⟩, .string ⟨p.2.toArray⟩] 23 (0, 0))
  hV : wr.heap[V]? = some (.cells #[.slice ao es.length cap, .int .i64 m] 47 (0, 0))
  ents : EntsAt E wr ao es
  cap0 : ao = none → cap = 0
  tags : TagsIn D wr es
  va : VA O D wr g (es.map EntB.s) m
  vc : VA Oc D wr gc [] m
  hO : ∀ i, O i → A ≤ i ∧ i ≠ A ∧ i ≠ V ∧ ¬ E i ∧ ¬ Oc i
  hE : ∀ i, E i → i < wr.heap.size ∧ i ≠ V
  hOc : ∀ i, Oc i → i ≠ V ∧ i < wr.heap.size
  hc : Chg (fun _ => False) w0 wr

theorem VSt.keep {VA : (Nat → Prop) → (Nat → Prop) → World → Nat → List SignB → Int → Prop} {D Oc : Nat → Prop} {w0 : World} {A V g gc : Nat} {p : List UInt8 × List UInt8} {m : Int} {O E : Nat → Prop} {wr wr' : World} {es : List EntB} {ao : Option Addr} {cap : Nat}
    (h : VSt VA D Oc w0 A V g gc p m O E wr es ao cap) (hk : VK VA) (hc : Chg (fun _ => False) wr wr') : VSt VA D Oc w0 A V g gc p m O E wr' es ao cap where
  hA := blk_keep h.hA hc id
  hV := blk_keep h.hV hc id
  ents := h.ents.keep hc (fun _ _ => id)
  cap0 := h.cap0
  tags := h.tags.keep hc (fun _ _ => id)
  va := hk.keep h.va hc (fun _ _ => id)
  vc := hk.keep h.vc hc (fun _ _ => id)
  hO := h.hO
  hE := fun i hi => ⟨Nat.lt_of_lt_of_le (h.hE i hi).1 hc.size, (h.hE i hi).2⟩
  hOc := fun i hi => ⟨(h.hOc i hi).1, Nat.lt_of_lt_of_le (h.hOc i hi).2 hc.size⟩
  hc := h.hc.trans hc (fun _ _ h => h)

/-- A new list in the document's vault. -/
theorem VSt.setV {VA : (Nat → Prop) → (Nat → Prop) → World → Nat → List SignB → Int → Prop} {D Oc : Nat → Prop} {w0 : World} {A V g gc : Nat} {p : List UInt8 × List UInt8} {m : Int} {O E E' : Nat → Prop} {wr : World} {es es' : List EntB} {ao ao' : Option Addr} {cap cap' : Nat}
    (h : VSt VA D Oc w0 A V g gc p m O E wr es ao cap) (hk : VK VA) (hV : A ≤ V) (hA0 : A ≠ V) (hw : w0.heap.size = A) (hD : ∀ i, D i → i < A) (hes : EntsAt E' wr ao' es') (hz : ao' = none → cap' = 0) (htg : TagsIn D wr es')
    {O' : Nat → Prop} {w5 : World} (hw5 : Chg O (setVault wr V (.slice ao' es'.length cap') m) w5) (hva : VA O' D w5 g (es'.map EntB.s) m) (hO' : ∀ i, O' i → O i ∨ wr.heap.size ≤ i) (hE' : ∀ i, E' i → i < wr.heap.size ∧ i ≠ V ∧ ¬ O i) (hAl : A < wr.heap.size) (hVl : V < wr.heap.size) : VSt VA D Oc w0 A V g gc p m O' E' w5 es' ao' cap' := by
  have hcs := setVault_chg wr V (.slice ao' es'.length cap') m
  have hset := setVault_blk (.slice ao' es'.length cap') m h.hV
  have hsz := hcs.size
  have hsz5 := hw5.size
  refine ⟨blk_keep (blk_keep h.hA hcs (fun e => hA0 e)) hw5 (fun e => (h.hO _ e).2.1 rfl), blk_keep hset hw5 (fun e => (h.hO _ e).2.2.1 rfl), (hes.keep hcs (fun i hi e => (hE' i hi).2.1 e)).keep hw5 (fun i hi => (hE' i hi).2.2), hz, (htg.keep hcs (fun i hi e => by have := hD i hi; have : i = V := e; omega)).keep hw5 (fun i hi e => by have := hD i hi; have := (h.hO i e).1; omega), hva, ?_, ?_, ?_, ?_, ?_⟩
  · refine hk.keep (hk.keep h.vc hcs ?_) hw5 ?_
    · rintro i (hi | hi) e
      · exact (h.hOc i hi).1 e
      · have := hD i hi; have : i = V := e; omega
    · rintro i (hi | hi) e
      · exact (h.hO i e).2.2.2.2 hi
      · have := hD i hi; have := (h.hO i e).1; omega
  · intro i hi
    rcases hO' i hi with ho | hge
    · obtain ⟨a, b, c, d, e⟩ := h.hO i ho
      exact ⟨a, b, c, fun he => (hE' i he).2.2 ho, e⟩
    · exact ⟨by omega, by omega, by omega, fun he => by have := (hE' i he).1; omega, fun he => by have := (h.hOc i he).2; omega⟩
  · exact fun i hi => ⟨by have := (hE' i hi).1; omega, (hE' i hi).2.1⟩
  · exact fun i hi => ⟨(h.hOc i hi).1, by have := (h.hOc i hi).2; omega⟩
  · exact (h.hc.trans hcs (fun i hi e => by have : i = V := e; omega)).trans hw5 (fun i hi e => by have := (h.hO i e).1; omega)

/-- What the document's Get gives, as a signed credential that can be read. -/
theorem getVal_at {D : Nat → Prop} {w : World} {es : List EntB} (ht : TagsIn D w es) (c : CredB) :
    ∃ a n, getVal (getV es c) = signV (((getV es c).map EntB.s).getD noSign).c (.slice a (((getV es c).map EntB.s).getD noSign).tag.length n) ∧ BytesAt (fun _ => True) w (.slice a (((getV es c).map EntB.s).getD noSign).tag.length n) (((getV es c).map EntB.s).getD noSign).tag := by
  cases hg : getV es c with
  | none => exact ⟨none, 0, rfl, BytesAt.nil _ _⟩
  | some t =>
    have hm : t ∈ es := List.mem_of_find?_eq_some hg
    exact ⟨t.ta, t.cap, rfl, (ht t hm).2.mono (fun _ _ => trivial)⟩

theorem insSt_mem {s : EntB} : ∀ (ls : List EntB) (q : List EntB × Bool) (t : EntB), t ∈ (ls.foldl (insStep s) q).1 → t ∈ q.1 ∨ t ∈ ls ∨ t = s
  | [], q, t, h => .inl h
  | x :: l, q, t, h => by
    rw [List.foldl_cons] at h
    rcases insSt_mem l _ t h with h1 | h1 | h1
    · unfold insStep at h1
      split at h1
      · simp only [List.mem_append, List.mem_cons, List.not_mem_nil, or_false] at h1
        rcases h1 with h1 | h1 | h1
        · exact .inl h1
        · exact .inr (.inr h1)
        · exact .inr (.inl (by rw [h1]; exact List.mem_cons_self))
      · simp only [List.mem_append, List.mem_singleton] at h1
        rcases h1 with h1 | h1
        · exact .inl h1
        · exact .inr (.inl (by rw [h1]; exact List.mem_cons_self))
    · exact .inr (.inl (List.mem_cons_of_mem _ h1))
    · exact .inr (.inr h1)

theorem addV_tags {D : Nat → Prop} {w : World} {es : List EntB} {m : Int} {s : EntB} (h : TagsIn D w es) (hs : BytesAt D w (.slice s.ta s.tag.length s.cap) s.tag) : TagsIn D w (addV es m s) := by
  unfold addV
  split
  · next he =>
    have hsg : isSign s.s = true := by
      unfold addErr at he
      split at he
      · next h1 => exact h1
      · cases he
    intro t ht
    have : t ∈ es ∨ t = s := by
      unfold insV at ht
      split at ht
      · rcases insSt_mem es _ t ht with h1 | h1 | h1
        · cases h1
        · exact .inl h1
        · exact .inr h1
      · rcases List.mem_append.1 ht with h0 | h0
        · rcases insSt_mem es _ t h0 with h1 | h1 | h1
          · cases h1
          · exact .inl h1
          · exact .inr h1
        · exact .inr (List.mem_singleton.1 h0)
    rcases this with h1 | h1
    · exact h t h1
    · rw [h1]; exact ⟨hsg, hs⟩
  · exact h

theorem dropV_tags {D : Nat → Prop} {w : World} {es : List EntB} {c : CredB} (h : TagsIn D w es) : TagsIn D w (dropV es c) := by
  unfold dropV
  split
  · exact h
  · exact fun t ht => h t (List.mem_filter.1 ht).1

theorem addV_len (es : List EntB) (m : Int) (s : EntB) : (addV es m s).length ≤ es.length + 1 := by
  unfold addV
  split
  · rw [insV_len]; exact Nat.le_refl _
  · omega
theorem dropV_len (es : List EntB) (c : CredB) : (dropV es c).length ≤ es.length := by
  unfold dropV
  split
  · omega
  · exact List.length_filter_le _ _

theorem own_tells {B : Nat} {w : World} {ao : Option Addr} {n cap : Nat} {cs : List CredB} (hs : ∀ c ∈ cs, credShort c 9223372036854775807) (h : OwnC B w (.slice ao n cap) cs) : ∃ ao2 cap2, (Value.slice ao n cap) = .slice ao2 cs.length cap2 ∧ CredsAt (fun _ => True) w ao2 cs := by
  obtain ⟨ao2, cap2, h1, h2, _⟩ := h.creds hs
  exact ⟨ao2, cap2, h1, h2.mono (fun _ _ => trivial)⟩

/-- A list of credentials that can be read. -/
def Spec.credL (l : List CredB) : Spec := ⟨fun v w => ∃ ao cp, v = .slice ao l.length cp ∧ CredsAt (fun _ => True) w ao l, fun _ _ _ hc ⟨ao, cp, h1, h2⟩ => ⟨ao, cp, h1, h2.keep hc (fun _ _ => id)⟩⟩
end Go.Proofs.Ytfpaoaflhbppgaa
