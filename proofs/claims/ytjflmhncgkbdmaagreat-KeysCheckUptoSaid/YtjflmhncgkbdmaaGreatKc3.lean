/- Texts that the proof leans on, in one: RefGood, RefCredSame. -/
import Derived.Test.YtjflmhncgkbdmaaGreatKb14
import Derived.Test.YtjflmhncgkbdmaaGreatKc2
import Derived.Test.YtjflmhncgkbdmaaGreatKb2
import Derived.Test.YtjflmhncgkbdmaaGreatKc1
import Derived.Test.YtjflmhncgkbdmaaGreatProg
import Derived.Test.YtjflmhncgkbdmaaGreatChecked
import Derived.Deep.QuietTactic
import Derived.BigQuiet
/- The contract of the document's Good, of layer 6. -/
namespace Go.Proofs.YtjflmhncgkbdmaaGreat
open Go.RowKit

set_option maxRecDepth 100000 in
set_option maxHeartbeats 4000000 in
theorem rgood_any {D E : Nat → Prop} (ao : Option Addr) (cp : Nat) (l : List KeyB) (so : Option Addr) (sp : Nat) (ss : List SignB) (w : World) (hn : l.length ≤ 4611686018427387904) (h : KeysAt D w ao l) (hreg : newErr l = 0) (hsn : ss.length ≤ 4194304) (hss : SignsAt E w so ss)
    (hshort : ∀ s ∈ ss, credShort s.c 1048576) (hce : ∀ s ∈ ss, isCred s.c = true → (credEnc s.c).length ≤ 1048576) :
    Calls Tryz.prog 19 #[.slice ao l.length cp, .slice so ss.length sp] w (SetPostC (goodC l ss) w) := by
  obtain ⟨i0, hi, hz0, hz1, hz2⟩ := info_parts Tryz.info35
  have HP := hid (And.intro hreg (And.intro hshort hce))
  clear hreg hshort hce
  go_enter Tryz.func19, Tryz.ntmps19
  go_wp2
  go_loopw [5, 10] (fun v i wr => ∃ (k : Nat) (out : List CredB) (ao' : Option Addr) (cap : Nat), i = .int .i64 k ∧ k ≤ ss.length ∧ v = .slice ao' out.length cap ∧ Hid (out = goodC l (ss.take k)) ∧ out.length ≤ k ∧ OwnC w.heap.size wr (.slice ao' out.length cap) out ∧ Chg (fun _ => False) w wr) (fun _ i _ => ss.length - (intOf i).toNat)
  case atStart => exact ⟨0, [], none, 0, rfl, Nat.zero_le _, rfl, rfl, Nat.zero_le _, World.ownsRow_nil _ _ _ _, Chg.refl _ _⟩
  case round =>
    obtain ⟨k, out, ao', cap', rfl, hk, rfl, hout, hol, ho, hc⟩ := hrel
    by_cases hlt : k < ss.length
    · obtain ⟨b, off, rfl, _, hat⟩ := (hss.keep hc (fun _ _ => id)) k hlt
      have hmem := List.getElem_mem hlt
      have hgt := goodC_take l ss k hlt
      have hsh := HP.out.2.1 _ hmem
      have hen := HP.out.2.2 _ hmem
      have hreg := HP.out.1
      obtain ⟨s, hs⟩ : ∃ s, s = ss[k] := ⟨_, rfl⟩
      rw [← hs] at hat hgt hsh hen
      have hkeys := h.keep hc (fun _ _ => id)
      have HQ := hid (And.intro hss h)
      clear hs hmem hss h
      obtain ⟨c, tag⟩ := s
      obtain ⟨hcr, ⟨ta, tcap, c9, hby⟩, _, hln⟩ := hat
      dsimp only at hcr c9 hby hln hgt hsh hen
      obtain ⟨c0, c1, c2, c3, c4, c5, c6, c7, c8⟩ := hcr
      have hS : (wr.alloc (.cells #[.int .i64 c.kind, .string ⟨c.head.1.toArray⟩, .string ⟨c.head.2.toArray⟩, .string ⟨c.who.toArray⟩, .string ⟨c.b.1.toArray⟩, .string ⟨c.b.2.toArray⟩, .string ⟨c.c.1.toArray⟩, .string ⟨c.c.2.toArray⟩, .string ⟨c.w2.toArray⟩, .slice ta tag.length tcap] 38)).heap[wr.heap.size]? = some (.cells (signBox c (.slice ta tag.length tcap)) 38 (0, 0)) := heap_alloc_new wr _
      have hal : Chg (fun _ => False) wr (wr.alloc (.cells #[.int .i64 c.kind, .string ⟨c.head.1.toArray⟩, .string ⟨c.head.2.toArray⟩, .string ⟨c.who.toArray⟩, .string ⟨c.b.1.toArray⟩, .string ⟨c.b.2.toArray⟩, .string ⟨c.c.1.toArray⟩, .string ⟨c.c.2.toArray⟩, .string ⟨c.w2.toArray⟩, .slice ta tag.length tcap] 38)) := (Chg.refl _ wr).alloc _
      have hck := rcheck_any ao cp l c tag ta tcap (wr.alloc (.cells #[.int .i64 c.kind, .string ⟨c.head.1.toArray⟩, .string ⟨c.head.2.toArray⟩, .string ⟨c.who.toArray⟩, .string ⟨c.b.1.toArray⟩, .string ⟨c.b.2.toArray⟩, .string ⟨c.c.1.toArray⟩, .string ⟨c.c.2.toArray⟩, .string ⟨c.w2.toArray⟩, .slice ta tag.length tcap] 38)) hn (hkeys.keep hal (fun _ _ => id)) hreg hsh hen (hby.keep hal (fun _ _ => id))
      have HH := hid (And.intro hck (And.intro hS (And.intro (ho.keep hal (fun _ _ => id)) (hc.trans hal (fun _ _ h => h)))))
      have HG := hid hgt
      clear hck hS hal ho hc hgt hkeys hby hsh hen hreg
      go_wp2_with fail
      obtain ⟨hck, hS, ho, hc⟩ := HH.out
      clear HH c0 c1 c2 c3 c4 c5 c6 c7 c8 c9
      generalize wr.alloc (.cells #[.int .i64 c.kind, .string ⟨c.head.1.toArray⟩, .string ⟨c.head.2.toArray⟩, .string ⟨c.who.toArray⟩, .string ⟨c.b.1.toArray⟩, .string ⟨c.b.2.toArray⟩, .string ⟨c.c.1.toArray⟩, .string ⟨c.c.2.toArray⟩, .string ⟨c.w2.toArray⟩, .slice ta tag.length tcap] 38) = w3 at *
      generalize wr.heap.size = X at *
      refine hck.mono ?_
      rintro e w4 ⟨rfl, hc4⟩
      have hS4 := blk_keep hS hc4 id
      have ho4 := ho.keep hc4 (fun _ _ => id)
      have hcw4 := hc.trans hc4 (fun _ _ h => h)
      clear hck hS ho hc hc4
      obtain ⟨⟨b0, b1, b2, b3, b4, b5, b6, b7, b8⟩, _⟩ := cred_at_sign hS4
      simp only [Nat.zero_add] at b0 b1 b2 b3 b4 b5 b6 b7 b8
      have HR := hid (And.intro ho4 hcw4)
      have hszw := hcw4.size
      clear hS4 ho4 hcw4
      by_cases h0 : checkErr l ⟨c, tag⟩ = 0
      · have hn2 : Hid (out ++ [c] = goodC l (ss.take (k + 1))) := hid (by rw [HG.out, if_pos h0, ← hout.out])
        rw [h0]
        clear h0
        go_wp2_with (at_builtin; refine wpList_append_own_at _ rfl (.tmp 18) (.tmp 21) 41 rfl w.heap.size 35 i0 (.agg #[.int .i64 0, .string ⟨#[]⟩, .string ⟨#[]⟩, .string ⟨#[]⟩, .string ⟨#[]⟩, .string ⟨#[]⟩, .string ⟨#[]⟩, .string ⟨#[]⟩, .string ⟨#[]⟩]) 9 136 Tryz.underlying41 hi hz0 hz1 hz2 rfl (by decide) _ _ _ rfl (World.ownsRow.alloc HR.out.1 _) ⟨w4.heap.size, 0, none⟩ 1 1 (credCells c) rfl rfl ?c1 ?c2 ?c3 ?c4 ?c5 ?_)
        case c1 => exact fun j u hj => cred_cells_new w4 c j u hj
        case c2 => intro u hu; simp only [credCells, List.mem_cons, List.not_mem_nil, or_false] at hu; rcases hu with rfl | rfl | rfl | rfl | rfl | rfl | rfl | rfl | rfl <;> rfl
        case c3 => unfold maxLen; omega
        case c4 => omega
        case c5 => simp; omega
        intro v' w2 hown hgrow _ hat2
        obtain ⟨ho6, hc6⟩ := HR.out
        have hrow : ∀ k, Value.ownBlock (.slice ao' out.length cap') = some k → w.heap.size ≤ k := fun k hk => (ownsRow_lt ho6 k hk).1
        have ho2 : OwnC w.heap.size w2 v' (out ++ [c]) := by
          unfold OwnC
          rw [credRow_snoc, List.length_append, List.length_singleton]
          exact hown
        have hc2 : Chg (fun _ => False) w w2 := (hc6.alloc _).grown hgrow (fun k e hk => by have := hrow k e; omega)
        obtain ⟨ao5, cap5, hv5⟩ := ho2.shape
        have hl : (out ++ [c]).length = out.length + 1 := by simp
        subst hv5
        have HY := hid (And.intro ho2 hc2)
        clear hown hgrow hat2 hrow ho6 hc6 ho2 hc2 HR b0 b1 b2 b3 b4 b5 b6 b7 b8
        rw [hl]
        go_wp2
        obtain ⟨ho2, hc2⟩ := HY.out
        go_roundw
        case rel => exact ⟨k + 1, out ++ [c], ao5, cap5, by go_num, by omega, by rw [hl], hn2, by rw [hl]; omega, ho2, hc2⟩
        case measure => simp [intOf]; omega
      · have hn2 : Hid (out = goodC l (ss.take (k + 1))) := hid (by rw [HG.out, if_neg h0, ← hout.out]; simp)
        obtain ⟨e0, he0⟩ : ∃ e0 : Int, ((checkErr l ⟨c, tag⟩ : Nat) : Int) = e0 := ⟨_, rfl⟩
        have hne : (e0 == 0) = false := beq_eq_false_iff_ne.2 (by omega)
        rw [he0]
        clear h0 he0
        go_wp2
        obtain ⟨ho4, hcw4⟩ := HR.out
        go_roundw
        case rel => exact ⟨k + 1, out, ao', cap', by go_num, by omega, rfl, hn2, by omega, ho4, hcw4⟩
        case measure => simp [intOf]; omega
    · have ho2 : Hid (out = goodC l ss) := by
        have := hout.out
        rw [List.take_of_length_le (by omega)] at this
        exact hid this
      have hbd : ∀ x ∈ out, credShort x 9223372036854775807 := fun x hx => by
        rw [ho2.out, goodC, List.mem_map] at hx
        obtain ⟨s, hs, rfl⟩ := hx
        exact (HP.out.2.1 s (List.mem_filter.1 hs).1).mono (by decide)
      obtain ⟨ao5, cap5, hv, hst, _⟩ := ho.creds hbd
      cases hv
      have HS := hid (And.intro hst hc)
      have hol2 : out.length ≤ 4194304 := by omega
      clear hbd ho hst hc h hss hout
      go_wp2_with fail
      refine (cset_ref _ _ out wr hol2 HS.out.1 (fun i hi => hi.2)).mono ?_
      rintro e w3 ⟨so2, ao7, cap7, rfl, hset, hst7, hc37, hz7⟩
      have hsz := HS.out.2.size
      have HF := hid (And.intro hset (And.intro hst7 (And.intro hc37 hz7)))
      clear hset hst7 hc37 hz7
      go_wp2
      go_ret
      exact ⟨so2, _, _, rfl, by rw [← ho2.out]; exact HF.out.1, HF.out.2.1.mono (fun i hi => ⟨Nat.le_trans hsz hi.1, hi.2⟩), HS.out.2.trans HF.out.2.2.1 (fun _ _ h => h), HF.out.2.2.2⟩
end Go.Proofs.YtjflmhncgkbdmaaGreat

/- The contract of the document's Same of layer 5. -/
namespace Go.Proofs.YtjflmhncgkbdmaaGreat
open Go.RowKit

set_option maxRecDepth 100000 in
set_option maxHeartbeats 2000000 in
theorem csame_ref {D1 D2 : Nat → Prop} (a1 a2 : Option Addr) (c1 c2 : Nat) (l1 l2 : List CredB) (w : World) (hn : l1.length ≤ 4611686018427387904) (hm : l2.length ≤ 4611686018427387904) (h1 : CredsAt D1 w a1 l1) (h2 : CredsAt D2 w a2 l2) :
    Calls Tryz.prog 18 #[.slice a1 l1.length c1, .slice a2 l2.length c2] w fun e w' => e = .returned (.bool (sameC l1 l2)) ∧ ∃ n, w' = w.drewN n := by
  by_cases hl : l1.length = l2.length
  · have z1 : ((l1.length : Int) != (l2.length : Int)) = false := by simp; omega
    have HL := hid hl
    have hl1 : l1.length ≤ l2.length := by omega
    have hl2 : l2.length ≤ l1.length := by omega
    clear hl
    go_enter Tryz.func18, Tryz.ntmps18
    go_wp2
    go_loopw [13] (fun i wr => ∃ k n : Nat, k ≤ l1.length ∧ i = .int .i64 k ∧ wr = w.drewN n ∧ Hid (l1.take k = l2.take k)) (fun i _ => l1.length - (intOf i).toNat)
    case atStart => exact ⟨0, 0, Nat.zero_le _, rfl, rfl, by rw [List.take_zero, List.take_zero]; rfl⟩
    case round =>
      obtain ⟨k, n, hk, rfl, rfl, hc⟩ := hrel
      by_cases hlt : k < l1.length
      · obtain ⟨b, off, rfl, _, hat, _⟩ := h1 k hlt
        obtain ⟨b2, off2, rfl, _, hat2, _⟩ := h2 k (by omega)
        clear h1 h2
        have e0 : (0 : Int) ≤ (k : Int) := by omega
        have e1 : (k : Int) < (l1.length : Int) := by omega
        have e2 : (k : Int) < (l2.length : Int) := by omega
        have hx1 : Hid (l1[k] = l2[k]'(by omega) → l1.take (k + 1) = l2.take (k + 1)) := hid (fun he => by rw [List.take_succ_eq_append_getElem hlt, List.take_succ_eq_append_getElem (HL.out ▸ hlt), hc.out, he])
        have hx2 : Hid (l1[k] ≠ l2[k]'(by omega) → sameC l1 l2 = false) := hid (fun he => by
          simp only [sameC, beq_eq_false_iff_ne, ne_eq]
          intro h
          subst h
          exact he rfl)
        generalize l1[k] = s1 at *
        generalize l2[k]'(by omega) = s2 at *
        by_cases e : s1 = s2
        · subst e
          have hx := hid (hx1.out rfl)
          clear hx1 hx2
          obtain ⟨k0, ⟨ho, hw⟩, who, ⟨bo, bw⟩, ⟨co, cw⟩, w2⟩ := s1
          obtain ⟨a0, a1, a2, a3, a4, a5, a6, a7, a8⟩ := hat
          obtain ⟨b0, b1, b2, b3, b4, b5, b6, b7, b8⟩ := hat2
          dsimp only at a0 a1 a2 a3 a4 a5 a6 a7 a8 b0 b1 b2 b3 b4 b5 b6 b7 b8
          go_wp2
          go_quiet (fail)
          go_wp2
          go_roundw
          case rel => exact ⟨k + 1, n + nq, by omega, by go_num, rfl, hx⟩
          case measure => simp [intOf]; omega
        · have hx := hid (hx2.out e)
          have HE := hid e
          clear hx1 hx2 e
          obtain ⟨k0, ⟨ho, hw⟩, who, ⟨bo, bw⟩, ⟨co, cw⟩, w2⟩ := s1
          obtain ⟨k0', ⟨ho', hw'⟩, who', ⟨bo', bw'⟩, ⟨co', cw'⟩, w2'⟩ := s2
          obtain ⟨a0, a1, a2, a3, a4, a5, a6, a7, a8⟩ := hat
          obtain ⟨b0, b1, b2, b3, b4, b5, b6, b7, b8⟩ := hat2
          dsimp only at a0 a1 a2 a3 a4 a5 a6 a7 a8 b0 b1 b2 b3 b4 b5 b6 b7 b8
          by_cases f0 : k0 = k0'
          · subst f0
            have g0 : (k0 == k0) = true := by simp
            by_cases f1 : ho = ho'
            · subst f1
              have g1 : (ho == ho) = true := by simp
              by_cases f2 : hw = hw'
              · subst f2
                have g2 : (hw == hw) = true := by simp
                by_cases f3 : who = who'
                · subst f3
                  have g3 : (who == who) = true := by simp
                  by_cases f4 : bo = bo'
                  · subst f4
                    have g4 : (bo == bo) = true := by simp
                    by_cases f5 : bw = bw'
                    · subst f5
                      have g5 : (bw == bw) = true := by simp
                      by_cases f6 : co = co'
                      · subst f6
                        have g6 : (co == co) = true := by simp
                        by_cases f7 : cw = cw'
                        · subst f7
                          have g7 : (cw == cw) = true := by simp
                          by_cases f8 : w2 = w2'
                          · subst f8
                            have g8 : (w2 == w2) = true := by simp
                            exact (HE.out rfl).elim
                          · have g8 : (w2 == w2') = false := beq_eq_false_iff_ne.2 f8
                            clear f8
                            go_wp2
                            go_quiet (fail)
                            go_wp2
                            go_ret
                            exact ⟨by rw [hx.out]; rfl, _, drewN_add w n nq⟩
                        · have g7 : (cw == cw') = false := beq_eq_false_iff_ne.2 f7
                          clear f7
                          go_wp2
                          go_quiet (fail)
                          go_wp2
                          go_ret
                          exact ⟨by rw [hx.out]; rfl, _, drewN_add w n nq⟩
                      · have g6 : (co == co') = false := beq_eq_false_iff_ne.2 f6
                        clear f6
                        go_wp2
                        go_quiet (fail)
                        go_wp2
                        go_ret
                        exact ⟨by rw [hx.out]; rfl, _, drewN_add w n nq⟩
                    · have g5 : (bw == bw') = false := beq_eq_false_iff_ne.2 f5
                      clear f5
                      go_wp2
                      go_quiet (fail)
                      go_wp2
                      go_ret
                      exact ⟨by rw [hx.out]; rfl, _, drewN_add w n nq⟩
                  · have g4 : (bo == bo') = false := beq_eq_false_iff_ne.2 f4
                    clear f4
                    go_wp2
                    go_quiet (fail)
                    go_wp2
                    go_ret
                    exact ⟨by rw [hx.out]; rfl, _, drewN_add w n nq⟩
                · have g3 : (who == who') = false := beq_eq_false_iff_ne.2 f3
                  clear f3
                  go_wp2
                  go_quiet (fail)
                  go_wp2
                  go_ret
                  exact ⟨by rw [hx.out]; rfl, _, drewN_add w n nq⟩
              · have g2 : (hw == hw') = false := beq_eq_false_iff_ne.2 f2
                clear f2
                go_wp2
                go_quiet (fail)
                go_wp2
                go_ret
                exact ⟨by rw [hx.out]; rfl, _, drewN_add w n nq⟩
            · have g1 : (ho == ho') = false := beq_eq_false_iff_ne.2 f1
              clear f1
              go_wp2
              go_quiet (fail)
              go_wp2
              go_ret
              exact ⟨by rw [hx.out]; rfl, _, drewN_add w n nq⟩
          · have g0 : (k0 == k0') = false := beq_eq_false_iff_ne.2 f0
            clear f0
            go_wp2
            go_quiet (fail)
            go_wp2
            go_ret
            exact ⟨by rw [hx.out]; rfl, _, drewN_add w n nq⟩
      · have hk2 : k = l1.length := by omega
        subst hk2
        have hx : Hid (sameC l1 l2 = true) := by
          have := hc.out
          rw [List.take_of_length_le (Nat.le_refl _), List.take_of_length_le (by rw [HL.out]; omega)] at this
          exact hid (by simp [sameC, this])
        clear h1 h2
        go_wp2
        go_ret
        exact ⟨by rw [hx.out]; rfl, n, rfl⟩
  · have z1 : ((l1.length : Int) != (l2.length : Int)) = true := by simp; omega
    have hx : Hid (sameC l1 l2 = false) := hid (by
      simp only [sameC, beq_eq_false_iff_ne, ne_eq]
      intro h
      exact hl (by rw [h]))
    clear hl h1 h2
    go_enter Tryz.func18, Tryz.ntmps18
    go_wp2
    go_ret
    exact ⟨by rw [hx.out]; rfl, 0, rfl⟩
end Go.Proofs.YtjflmhncgkbdmaaGreat
