/- Texts that the proof leans on, in one: RefNew, DrewN, RefSameS, RefSet, RefNames, RoleSpec. -/
import Derived.Test.YtjflmhncgkbdmaaGreatKb8
import Derived.Test.YtjflmhncgkbdmaaGreatKb2
import Derived.Test.YtjflmhncgkbdmaaGreatKb1
import Derived.Deep.QuietTactic
import Derived.BigQuiet
import Derived.Test.YtjflmhncgkbdmaaGreatKb25
import Derived.Maps.AppendAt
import Derived.Test.YtjflmhncgkbdmaaGreatKb6
/- Is a list of keys a registry's? The contract of the document's New, of layer 6. -/
namespace Go.Proofs.YtjflmhncgkbdmaaGreat
open Go.RowKit

set_option maxRecDepth 100000 in
set_option maxHeartbeats 4000000 in
theorem rnew_any {D : Nat → Prop} (ao : Option Addr) (cp : Nat) (l : List KeyB) (w : World) (hn : l.length ≤ 4611686018427387904) (hcp : l.length ≤ cp) (h : KeysAt D w ao l) :
    Calls Tryz.prog 8 #[.slice ao l.length cp] w fun e w' => e = .returned (.int .i64 (newErr l)) ∧ Chg (fun _ => False) w w' := by
  go_enter Tryz.func8, Tryz.ntmps8
  go_wp2
  go_loopw [9] (fun i wr => ∃ k : Nat, k ≤ l.length ∧ i = .int .i64 k ∧ Hid (okUpto l k) ∧ Chg (fun _ => False) w wr) (fun i _ => l.length - (intOf i).toNat)
  case atStart => exact ⟨0, Nat.zero_le _, rfl, okUpto_zero l, Chg.refl _ _⟩
  case round =>
    obtain ⟨k, hk, rfl, hok, hc⟩ := hrel
    by_cases hlt : k < l.length
    · obtain ⟨b, off, rfl, hDb, hka⟩ := (h.keep hc (fun _ _ => id)) k hlt
      obtain ⟨q, hq⟩ : ∃ q, q = l[k] := ⟨_, rfl⟩
      rw [← hq] at hka
      obtain ⟨c0, ⟨ka, cap, c1, _⟩, l0, l1⟩ := hka
      have hB3 : (wr.alloc (.cells #[.string ⟨q.who.toArray⟩, .slice ka q.key.length cap] 72)).heap[wr.heap.size]? = some (.cells #[.string ⟨q.who.toArray⟩, .slice ka q.key.length cap] 72 (0, 0)) := heap_alloc_new wr _
      have hal : Chg (fun _ => False) wr (wr.alloc (.cells #[.string ⟨q.who.toArray⟩, .slice ka q.key.length cap] 72)) := (Chg.refl _ wr).alloc _
      have HQ := hid hq
      have HC := hid (And.intro hB3 (hc.trans hal (fun _ _ h => h)))
      clear hq hB3 hal hc
      go_wp2_with fail
      clear c0 c1
      obtain ⟨hB3, hc3⟩ := HC.out
      clear HC
      generalize wr.alloc (.cells #[.string ⟨q.who.toArray⟩, .slice ka q.key.length cap] 72) = w3 at *
      generalize wr.heap.size = B at *
      refine (refright_any q.who w3 l0).mono ?_
      rintro e w4 ⟨rfl, rfl⟩
      cases hname : isName q.who with
      | false =>
        have HF : Hid (newErr l = 30) := hid (by
          have e1 : keyErr (l.take k) l[k] = 30 := by rw [← HQ.out, keyErr, hname]; rfl
          rw [newErr_bad hok.out hlt (by rw [e1]; decide), e1])
        have HC := hid hc3
        clear hname hc3 hB3 h
        go_wp2
        go_ret
        exact ⟨by rw [HF.out]; rfl, HC.out⟩
      | true =>
        have HN := hid hname
        clear hname
        have b1 := cell_blk hB3 1
        simp only [List.getElem?_toArray, List.getElem?_cons_zero, List.getElem?_cons_succ] at b1
        by_cases hs : 1 ≤ q.key.length ∧ q.key.length ≤ 32
        · obtain ⟨s1, s2⟩ := hs
          have HS : Hid (keySize q = true) := hid (decide_eq_true ⟨s1, s2⟩)
          have z1 : ((q.key.length : Int) < 1) = False := eq_false (by omega)
          have z2 : ((32 : Int) < (q.key.length : Int)) = False := eq_false (by omega)
          have H3 := hid (And.intro hB3 hc3)
          have H0 := hid h
          clear hB3 hc3 h s1 s2
          go_wp2
          clear z1 z2 b1
          obtain ⟨hB3, hc3⟩ := H3.out
          have h := H0.out
          clear H3 H0
          go_loopw [32] (fun i wq => ∃ j : Nat, j ≤ k ∧ i = .int .i64 j ∧ Hid (hasWho (l.take j) q.who = false) ∧ Chg (fun _ => False) w3 wq) (fun i _ => k - (intOf i).toNat)
          case atStart => exact ⟨0, Nat.zero_le _, rfl, by rw [List.take_zero]; rfl, Chg.refl _ _⟩
          case round =>
            obtain ⟨j, hj, rfl, hh, hc5⟩ := hrel
            by_cases hjt : j < k
            · have hjl : j < l.length := by omega
              obtain ⟨b', off', hbo, _, hkb⟩ := (h.keep (hc3.trans hc5 (fun _ _ h => h)) (fun _ _ => id)) j hjl
              cases hbo
              obtain ⟨o, ho⟩ : ∃ o, o = l[j] := ⟨_, rfl⟩
              rw [← ho] at hkb
              obtain ⟨d0, ⟨kb, capb, d1, _⟩, m0, m1⟩ := hkb
              have hB5 := blk_keep hB3 hc5 id
              have b0 := cell_blk hB5 0
              simp only [List.getElem?_toArray, List.getElem?_cons_zero, List.getElem?_cons_succ] at b0
              have hBl := lt_blk hB5
              have HO := hid ho
              have HC := hid (And.intro (hc3.trans hc5 (fun _ _ h => h)) (And.intro hc5 (And.intro hB3 (And.intro hc3 h))))
              clear ho hc5 hB5 hB3 hc3 h
              by_cases he : o.who = q.who
              · have HF : Hid (newErr l = 41) := hid (by
                  have h3 : hasWho (l.take k) q.who = true := by
                    rw [hasWho, List.any_eq_true]
                    refine ⟨o, ?_, by simpa using he⟩
                    rw [HO.out, List.mem_take_iff_getElem]
                    exact ⟨j, by omega, rfl⟩
                  have e1 : keyErr (l.take k) l[k] = 41 := by rw [← HQ.out, keyErr, if_pos HN.out, if_pos HS.out, if_pos h3]
                  rw [newErr_bad hok.out hlt (by rw [e1]; decide), e1])
                have e2 : (o.who == q.who) = true := beq_iff_eq.2 he
                clear he
                go_wp2
                go_ret
                exact ⟨by rw [HF.out]; rfl, HC.out.1.alloc _⟩
              · have HX : Hid (hasWho (l.take (j + 1)) q.who = false) := hid (hasWho_take hjl hh.out (by rw [← HO.out]; exact he))
                have e2 : (o.who == q.who) = false := beq_eq_false_iff_ne.2 he
                clear he
                go_wp2
                go_roundw
                case rel => exact ⟨j + 1, by omega, by go_num, HX, HC.out.2.1.alloc _⟩
                case measure => simp [intOf]; omega
            · have hj2 : j = k := by omega
              subst hj2
              have HX : Hid (okUpto l (j + 1)) := hid (okUpto_succ hok.out hlt (by rw [← HQ.out, keyErr, if_pos HN.out, if_pos HS.out, if_neg (by rw [hh.out]; decide)]))
              have HC := hid (hc3.trans hc5 (fun _ _ h => h))
              clear hB3 hc3 hc5 h hjt hj
              go_wp2
              go_roundw
              case rel => exact ⟨j + 1, by omega, by go_num, HX, HC.out⟩
              case measure => simp [intOf]; omega
        · have HF : Hid (newErr l = 21) := hid (by
            have hks : keySize q = false := decide_eq_false hs
            have e1 : keyErr (l.take k) l[k] = 21 := by rw [← HQ.out, keyErr, if_pos HN.out, hks]; rfl
            rw [newErr_bad hok.out hlt (by rw [e1]; decide), e1])
          have HC := hid hc3
          clear hc3 hB3 h
          by_cases hs1 : q.key.length < 1
          · have z1 : ((q.key.length : Int) < 1) = True := eq_true (by omega)
            clear hs hs1
            go_wp2
            go_ret
            exact ⟨by rw [HF.out]; rfl, HC.out⟩
          · have z1 : ((q.key.length : Int) < 1) = False := eq_false (by omega)
            have z2 : ((32 : Int) < (q.key.length : Int)) = True := eq_true (by omega)
            clear hs hs1
            go_wp2
            go_ret
            exact ⟨by rw [HF.out]; rfl, HC.out⟩
    · have HF : Hid (newErr l = 0) := hid (newErr_ok (by have := hok.out; rwa [show k = l.length by omega] at this))
      have HC := hid hc
      clear hc h
      go_wp2
      go_ret
      exact ⟨by rw [HF.out]; rfl, HC.out⟩
end Go.Proofs.YtjflmhncgkbdmaaGreat

/- Draws add up. -/
namespace Go.Proofs.YtjflmhncgkbdmaaGreat
open Go.RowKit

theorem drewN_add (w : World) (n m : Nat) : (w.drewN n).drewN m = w.drewN (n + m) := by
  simp only [World.drewN, Nat.add_assoc]
end Go.Proofs.YtjflmhncgkbdmaaGreat

/- The contract of the document's Same, of lists of texts. -/
namespace Go.Proofs.YtjflmhncgkbdmaaGreat
open Go.RowKit

theorem refsame_any {D1 D2 : Nat → Prop} (a1 a2 : Option Addr) (c1 c2 : Nat) (l1 l2 : List (List UInt8)) (w : World) (hn : l1.length ≤ 9223372036854775807) (hm : l2.length ≤ 9223372036854775807) (h1 : StrsAt D1 w a1 l1) (h2 : StrsAt D2 w a2 l2) :
    Calls Tryz.prog 16 #[.slice a1 l1.length c1, .slice a2 l2.length c2] w fun e w' => e = .returned (.bool (sameS l1 l2)) ∧ ∃ n, w' = w.drewN n := by
  by_cases hl : l1.length = l2.length
  · have z1 : ((l1.length : Int) != (l2.length : Int)) = false := by simp; omega
    have HL := hid hl
    have hl1 : l1.length ≤ l2.length := by omega
    have hl2 : l2.length ≤ l1.length := by omega
    clear hl
    go_enter Tryz.func16, Tryz.ntmps16
    go_wp2
    go_loopw [13] (fun i wr => ∃ k n : Nat, k ≤ l1.length ∧ i = .int .i64 k ∧ wr = w.drewN n ∧ Hid (l1.take k = l2.take k)) (fun i _ => l1.length - (intOf i).toNat)
    case atStart => exact ⟨0, 0, Nat.zero_le _, rfl, rfl, by rw [List.take_zero, List.take_zero]; rfl⟩
    case round =>
      obtain ⟨k, n, hk, rfl, rfl, hc⟩ := hrel
      by_cases hlt : k < l1.length
      · obtain ⟨b, off, rfl, _, q0, _⟩ := h1 k hlt
        obtain ⟨b2, off2, rfl, _, q1, _⟩ := h2 k (by omega)
        clear h1 h2
        have e0 : (0 : Int) ≤ (k : Int) := by omega
        have e1 : (k : Int) < (l1.length : Int) := by omega
        have e2 : (k : Int) < (l2.length : Int) := by omega
        by_cases he : l1[k] = l2[k]
        · have e3 : (!l1[k] == l2[k]) = false := by simpa using he
          have hx : Hid (l1.take (k + 1) = l2.take (k + 1)) := hid (by rw [List.take_succ_eq_append_getElem hlt, List.take_succ_eq_append_getElem (HL.out ▸ hlt), hc.out, he])
          have HE := hid he
          clear he
          go_wp2
          go_quiet (fail)
          go_wp2
          go_roundw
          case rel => exact ⟨k + 1, n + nq, by omega, by go_num, rfl, hx⟩
          case measure => simp [intOf]; omega
        · have e3 : (!l1[k] == l2[k]) = true := by simpa using he
          have hx : Hid (sameS l1 l2 = false) := by
            refine hid ?_
            simp only [sameS, beq_eq_false_iff_ne, ne_eq]
            intro h
            subst h
            exact he rfl
          have HE := hid he
          clear he
          go_wp2
          go_quiet (fail)
          go_wp2
          go_ret
          exact ⟨by rw [hx.out]; rfl, _, drewN_add w n nq⟩
      · have hk2 : k = l1.length := by omega
        subst hk2
        have hx : Hid (sameS l1 l2 = true) := by
          have := hc.out
          rw [List.take_of_length_le (Nat.le_refl _), List.take_of_length_le (by rw [HL.out]; omega)] at this
          exact hid (by simp [sameS, this])
        clear h1 h2
        go_wp2
        go_ret
        exact ⟨by rw [hx.out]; rfl, n, rfl⟩
  · have z1 : ((l1.length : Int) != (l2.length : Int)) = true := by simp; omega
    have hx : Hid (sameS l1 l2 = false) := by
      refine hid ?_
      simp only [sameS, beq_eq_false_iff_ne, ne_eq]
      intro h
      exact hl (congrArg List.length h)
    go_enter Tryz.func16, Tryz.ntmps16
    go_wp2
    go_ret
    exact ⟨by rw [hx.out]; rfl, 0, rfl⟩
end Go.Proofs.YtjflmhncgkbdmaaGreat

/- The contract of the document's Set. -/
namespace Go.Proofs.YtjflmhncgkbdmaaGreat
open Go.RowKit

/-- What Set leaves: the set, in new memory. -/
def SetPost (ls : List (List UInt8)) (w : World) (e : Ending) (w' : World) : Prop :=
  ∃ out ao cap, e = .returned (.slice ao out.length cap) ∧ SetOf ls out ∧ StrsAt (fun k => w.heap.size ≤ k ∧ k < w'.heap.size) w' ao out ∧ Chg (fun _ => False) w w'

set_option maxRecDepth 100000 in
set_option maxHeartbeats 2000000 in
theorem refset_any {D : Nat → Prop} (ao : Option Addr) (cp : Nat) (ls : List (List UInt8)) (w : World) (hn : ls.length ≤ 4194304) (h : StrsAt D w ao ls) (hD : ∀ i, D i → i < w.heap.size) :
    Calls Tryz.prog 43 #[.slice ao ls.length cp] w (SetPost ls w) := by
  obtain ⟨i0, hi, hz0, hz1, hz2⟩ := info_parts Tryz.info9
  go_enter Tryz.func43, Tryz.ntmps43
  go_wp2
  go_loopw [3] (fun v wr => ∃ (out : List (List UInt8)) (ao' : Option Addr) (cap : Nat), v = .slice ao' out.length cap ∧ SetPart ls out ∧ OwnS w.heap.size wr (.slice ao' out.length cap) out ∧ Chg (fun _ => False) w wr) (fun v _ => ls.length + 1 - lenOf v)
  case atStart => exact ⟨[], none, 0, rfl, SetPart.nil ls, World.ownsRow_nil _ _ _ _, Chg.refl _ _⟩
  case round =>
    obtain ⟨out, ao', cap, rfl, hp, ho, hc⟩ := hrel
    have hol := hp.len
    have hbd : ∀ x ∈ out, x.length ≤ 9223372036854775807 := fun x hx => by have := isName_len (hp.2.1 x hx).2; omega
    go_wp2
    obtain ⟨wo, rfl⟩ : ∃ wo : World, wo = wr := ⟨_, rfl⟩
    have hsw := h.keep hc (fun _ _ => id)
    go_loop [4, 9] (fun b i => ∃ (k : Nat) (bs : List UInt8), i = .int .i64 k ∧ k ≤ ls.length ∧ b = .string ⟨bs.toArray⟩ ∧ Hid (Best out (ls.take k) bs)) (fun _ i => ls.length - (intOf i).toNat)
    case atStart => exact ⟨0, [], rfl, Nat.zero_le _, rfl, hid (.inl ⟨rfl, fun s hs => by simp at hs⟩)⟩
    case round =>
      obtain ⟨k, bs, rfl, hk, rfl, hb⟩ := hrel
      by_cases hlt : k < ls.length
      · obtain ⟨b, off, rfl, _, c0, hsl⟩ := hsw k hlt
        have htk : Hid (ls.take (k + 1) = ls.take k ++ [ls[k]]) := hid (List.take_succ_eq_append_getElem hlt)
        clear h hsw
        generalize ls[k] = s at *
        by_cases hs : isName s = true
        · by_cases ho0 : out.length = 0
          · have hca : Hid (candS out s = true) := hid (by rw [List.eq_nil_of_length_eq_zero ho0]; simp [candS, hs])
            have z0 : ((out.length : Int) == 0) = true := beq_iff_eq.2 (by omega)
            clear ho0
            by_cases hbe : bs = []
            · have hnx : Hid (Best out (ls.take (k + 1)) s) := hid (by rw [htk.out]; exact hb.out.take hca.out (.inl hbe))
              have e2 : bs.isEmpty = true := by rw [hbe]; rfl
              clear hb htk hbe
              skip
              go_wp2_with (go_at_call 32; refine (refright_any s _ hsl).mono ?_; rintro e w' ⟨rfl, rfl⟩; rw [hs])
              go_round
              case rel => exact ⟨k + 1, s, by go_num, by omega, rfl, hnx⟩
              case measure => simp [intOf]; omega
            · have e2 : bs.isEmpty = false := by simpa using hbe
              by_cases hlb : Op.bytesLess s bs = true
              · have hnx : Hid (Best out (ls.take (k + 1)) s) := hid (by rw [htk.out]; exact hb.out.take hca.out (.inr hlb))
                clear hb htk hbe
                skip
                go_wp2_with (go_at_call 32; refine (refright_any s _ hsl).mono ?_; rintro e w' ⟨rfl, rfl⟩; rw [hs])
                go_round
                case rel => exact ⟨k + 1, s, by go_num, by omega, rfl, hnx⟩
                case measure => simp [intOf]; omega
              · have hlb2 : Op.bytesLess s bs = false := by simpa using hlb
                have hnx : Hid (Best out (ls.take (k + 1)) bs) := hid (by rw [htk.out]; exact hb.out.keep hbe hlb2)
                clear hb htk hbe hlb
                skip
                go_wp2_with (go_at_call 32; refine (refright_any s _ hsl).mono ?_; rintro e w' ⟨rfl, rfl⟩; rw [hs])
                go_round
                case rel => exact ⟨k + 1, bs, by go_num, by omega, rfl, hnx⟩
                case measure => simp [intOf]; omega

          · have z0 : ((out.length : Int) == 0) = false := beq_eq_false_iff_ne.2 (by omega)
            have hlast : out.length - 1 < out.length := by omega
            obtain ⟨_, _, hve, hst⟩ := ho.strs hbd
            cases hve
            obtain ⟨g, goff, rfl, _, q0, _⟩ := hst (out.length - 1) hlast
            have hgl : out[out.length - 1] = out.getLastD [] := by
              rw [List.getLastD_eq_getLast?, List.getLast?_eq_getElem?, List.getElem?_eq_getElem hlast]
              rfl
            rw [hgl] at q0
            have hol2 : 1 ≤ out.length := by omega
            have e7 : ((out.length : Int) - 1).toNat = out.length - 1 := by omega
            clear hst hgl
            by_cases hgt : ltS (out.getLastD []) s = true
            · have hca : Hid (candS out s = true) := hid (by simp only [candS, hs, hgt, Bool.or_true, Bool.and_true])
              have e5 : Op.bytesLess s (out.getLastD []) = false := by
                cases hx : Op.bytesLess s (out.getLastD []) with
                | false => rfl
                | true =>
                  have := ltS_trans _ _ _ hgt hx
                  rw [ltS_irrefl] at this
                  cases this
              have e6 : (s == out.getLastD []) = false := by
                rw [beq_eq_false_iff_ne]
                intro hx
                rw [hx, ltS_irrefl] at hgt
                cases hgt
              generalize hla : out.getLastD [] = la at *
              have HLA := hid hla
              clear hla hgt
              by_cases hbe : bs = []
              · have hnx : Hid (Best out (ls.take (k + 1)) s) := hid (by rw [htk.out]; exact hb.out.take hca.out (.inl hbe))
                have e2 : bs.isEmpty = true := by rw [hbe]; rfl
                clear hb htk hbe
                skip
                go_wp2_with (go_at_call 32; refine (refright_any s _ hsl).mono ?_; rintro e w' ⟨rfl, rfl⟩; rw [hs])
                go_round
                case rel => exact ⟨k + 1, s, by go_num, by omega, rfl, hnx⟩
                case measure => simp [intOf]; omega
              · have e2 : bs.isEmpty = false := by simpa using hbe
                by_cases hlb : Op.bytesLess s bs = true
                · have hnx : Hid (Best out (ls.take (k + 1)) s) := hid (by rw [htk.out]; exact hb.out.take hca.out (.inr hlb))
                  clear hb htk hbe
                  skip
                  go_wp2_with (go_at_call 32; refine (refright_any s _ hsl).mono ?_; rintro e w' ⟨rfl, rfl⟩; rw [hs])
                  go_round
                  case rel => exact ⟨k + 1, s, by go_num, by omega, rfl, hnx⟩
                  case measure => simp [intOf]; omega
                · have hlb2 : Op.bytesLess s bs = false := by simpa using hlb
                  have hnx : Hid (Best out (ls.take (k + 1)) bs) := hid (by rw [htk.out]; exact hb.out.keep hbe hlb2)
                  clear hb htk hbe hlb
                  skip
                  go_wp2_with (go_at_call 32; refine (refright_any s _ hsl).mono ?_; rintro e w' ⟨rfl, rfl⟩; rw [hs])
                  go_round
                  case rel => exact ⟨k + 1, bs, by go_num, by omega, rfl, hnx⟩
                  case measure => simp [intOf]; omega

            · have hnc : candS out s = false := by
                have : out.isEmpty = false := by cases out with | nil => simp at ho0 | cons _ _ => rfl
                simp only [candS, this, Bool.false_or, hs, Bool.true_and]
                simpa only [Bool.not_eq_true] using hgt
              have hnx : Hid (Best out (ls.take (k + 1)) bs) := hid (by rw [htk.out]; exact hb.out.skip hnc)
              have e5 : (Op.bytesLess s (out.getLastD []) || s == out.getLastD []) = true := by
                rcases ltS_tri s (out.getLastD []) with hx | hx | hx
                · rw [show Op.bytesLess s (out.getLastD []) = true from hx]; rfl
                · simp [hx]
                · exact absurd hx hgt
              generalize hla : out.getLastD [] = la at *
              have HLA := hid hla
              clear hla hgt hnc hb htk
              go_wp2_with (go_at_call 32; refine (refright_any s _ hsl).mono ?_; rintro e w' ⟨rfl, rfl⟩; rw [hs])
              go_round
              case rel => exact ⟨k + 1, bs, by go_num, by omega, rfl, hnx⟩
              case measure => simp [intOf]; omega
        · have hsf : isName s = false := by simpa using hs
          have hnx : Hid (Best out (ls.take (k + 1)) bs) := hid (by rw [htk.out]; exact hb.out.skip (by simp [candS, hsf]))
          clear hb htk hs
          go_wp2_with (go_at_call 32; refine (refright_any s _ hsl).mono ?_; rintro e w' ⟨rfl, rfl⟩; rw [hsf])
          go_round
          case rel => exact ⟨k + 1, bs, by go_num, by omega, rfl, hnx⟩
          case measure => simp [intOf]; omega
      · have hk2 : k = ls.length := by omega
        have hb2 : Hid (Best out ls bs) := hid (by have := hb.out; rwa [List.take_of_length_le (by omega)] at this)
        clear hb hsw
        by_cases hbe : bs = []
        · subst hbe
          have hso := hp.done hb2.out
          obtain ⟨ao2, cap2, hve, hst⟩ := ho.strs hbd
          cases hve
          go_wp2
          go_ret
          exact ⟨out, _, _, rfl, hso, hst, hc⟩
        · have e2 : bs.isEmpty = false := by simpa using hbe
          have hps := hp.step hb2.out hbe
          have hpl := hps.len
          rw [List.length_append, List.length_singleton] at hpl
          clear hb2 hbe
          go_wp2_with (at_builtin; refine wpList_append_own_at _ rfl (.tmp 44) (.tmp 46) 39 rfl w.heap.size 9 i0 (.string ⟨#[]⟩) 1 16 Tryz.underlying39 hi hz0 hz1 hz2 rfl (by decide) _ _ _ rfl (World.ownsRow.alloc ho _) ⟨wo.heap.size, 0, none⟩ 1 1 [strV bs] rfl rfl ?c1 ?c2 ?c3 ?c4 ?c5 ?_)
          case c1 => exact fun j u h => h
          case c2 => rfl
          case c3 => unfold maxLen; omega
          case c4 => omega
          case c5 => have := hc.size; simp; omega
          intro v' w1 hown hgrow _ hat
          have hl : (out ++ [bs]).length = out.length + 1 := by simp
          have ho2 : OwnS w.heap.size w1 v' (out ++ [bs]) := by
            unfold OwnS
            rw [hl, List.map_append]
            exact hown
          have hrow : ∀ k, Value.ownBlock (.slice ao' out.length cap) = some k → w.heap.size ≤ k := by
            intro k hk
            rcases ho.2 with ⟨hx, _⟩ | ⟨g, cap', cur, hx, hg, _⟩
            · rw [hx] at hk; cases hk
            · rw [hx] at hk; cases hk; exact hg
          have hc2 : Chg (fun _ => False) w w1 := (hc.alloc _).grown hgrow (fun k e hk => by have := hrow k e; omega)
          obtain ⟨ao3, cap3, hv, _⟩ := ho2.strs (fun x hx => by have := isName_len (hps.2.1 x hx).2; omega)
          subst hv
          clear hown hgrow hat hrow ho hc
          rw [hl]
          go_wp2
          go_roundw
          case rel => exact ⟨out ++ [bs], ao3, cap3, by rw [hl], hps, ho2, hc2⟩
          case measure => simp [lenOf]; omega
end Go.Proofs.YtjflmhncgkbdmaaGreat

/- The contract of the document's Names, of layer 6. -/
namespace Go.Proofs.YtjflmhncgkbdmaaGreat
open Go.RowKit

set_option maxRecDepth 100000 in
set_option maxHeartbeats 2000000 in
theorem rnames_any {D : Nat → Prop} (ao : Option Addr) (cp : Nat) (l : List KeyB) (w : World) (hn : l.length ≤ 4194304) (h : KeysAt D w ao l) :
    Calls Tryz.prog 17 #[.slice ao l.length cp] w (SetPost (l.map (·.who)) w) := by
  obtain ⟨i0, hi, hz0, hz1, hz2⟩ := info_parts Tryz.info9
  go_enter Tryz.func17, Tryz.ntmps17
  go_wp2
  go_loopw [3, 8] (fun v i wr => ∃ (k : Nat) (out : List (List UInt8)) (ao' : Option Addr) (cap : Nat), i = .int .i64 k ∧ k ≤ l.length ∧ v = .slice ao' out.length cap ∧ Hid (out = (l.take k).map (·.who)) ∧ out.length ≤ k ∧ OwnS w.heap.size wr (.slice ao' out.length cap) out ∧ Chg (fun _ => False) w wr) (fun _ i _ => l.length - (intOf i).toNat)
  case atStart => exact ⟨0, [], none, 0, rfl, Nat.zero_le _, rfl, rfl, Nat.zero_le _, World.ownsRow_nil _ _ _ _, Chg.refl _ _⟩
  case round =>
    obtain ⟨k, out, ao', cap', rfl, hk, rfl, hout, hol, ho, hc⟩ := hrel
    by_cases hlt : k < l.length
    · obtain ⟨b, off, rfl, _, hka⟩ := (h.keep hc (fun _ _ => id)) k hlt
      obtain ⟨q, hq⟩ : ∃ q, q = l[k] := ⟨_, rfl⟩
      rw [← hq] at hka
      obtain ⟨c0, ⟨ka, cap, c1, _⟩, l0, l1⟩ := hka
      have hn2 : Hid (out ++ [q.who] = (l.take (k + 1)).map (·.who)) := hid (by rw [List.take_succ_eq_append_getElem hlt, List.map_append, ← hout.out, hq]; rfl)
      have HR := hid (And.intro ho hc)
      have hszw := hc.size
      clear ho hc hq h
      go_wp2_with (at_builtin; refine wpList_append_own_at _ rfl (.tmp 12) (.tmp 15) 39 rfl w.heap.size 9 i0 (.string ⟨#[]⟩) 1 16 Tryz.underlying39 hi hz0 hz1 hz2 rfl (by decide) _ _ _ rfl (World.ownsRow.alloc (World.ownsRow.alloc HR.out.1 _) _) ⟨wr.heap.size + 1, 0, none⟩ 1 1 [strV q.who] rfl rfl ?c1 ?c2 ?c3 ?c4 ?c5 ?_)
      case c1 =>
        intro j u hj
        have := cell_blk (heap_alloc_new (wr.alloc (.cells #[.string ⟨q.who.toArray⟩, .slice ka q.key.length cap] 72)) (.cells #[.string ⟨q.who.toArray⟩] 9)) 0
        match j, hj with
        | 0, hj =>
          cases hj
          rw [add_off, show (wr.alloc (.cells #[.string ⟨q.who.toArray⟩, .slice ka q.key.length cap] 72)).heap.size = wr.heap.size + 1 by simp] at *
          exact this
      case c2 => intro u hu; rw [List.mem_singleton.1 hu]; rfl
      case c3 => unfold maxLen; omega
      case c4 => omega
      case c5 => simp; omega
      intro v' w2 hown hgrow _ hat
      obtain ⟨ho, hc⟩ := HR.out
      have hl : (out ++ [q.who]).length = out.length + 1 := by simp
      have ho2 : OwnS w.heap.size w2 v' (out ++ [q.who]) := by
        unfold OwnS
        rw [hl, List.map_append]
        exact hown
      have hrow : ∀ k, Value.ownBlock (.slice ao' out.length cap') = some k → w.heap.size ≤ k := fun k hk => (ownsRow_lt ho k hk).1
      have hc2 : Chg (fun _ => False) w w2 := ((hc.alloc _).alloc _).grown hgrow (fun k e hk => by have := hrow k e; omega)
      obtain ⟨ao5, cap5, hv5⟩ : ∃ ao5 cap5, v' = .slice ao5 (out ++ [q.who]).length cap5 := by
        rcases ho2.2 with ⟨e, h0⟩ | ⟨g, cap, cur, e, _⟩
        · exact ⟨none, 0, by rw [e, h0]⟩
        · exact ⟨_, _, e⟩
      subst hv5
      have HY := hid (And.intro ho2 hc2)
      clear hown hgrow hat hrow ho hc ho2 hc2 HR c0 c1
      rw [hl]
      go_wp2
      obtain ⟨ho2, hc2⟩ := HY.out
      go_roundw
      case rel => exact ⟨k + 1, out ++ [q.who], ao5, cap5, by go_num, by omega, by rw [hl], hn2, by rw [hl]; omega, ho2, hc2⟩
      case measure => simp [intOf]; omega
    · have ho2 : Hid (out = l.map (·.who)) := by
        have := hout.out
        rw [List.take_of_length_le (by omega)] at this
        exact hid this
      have hlen : ∀ x ∈ out, x.length ≤ 9223372036854775807 := by
        intro x hx
        rw [ho2.out, List.mem_map] at hx
        obtain ⟨q, hq, rfl⟩ := hx
        obtain ⟨j, hj, rfl⟩ := List.getElem_of_mem hq
        obtain ⟨_, _, _, _, hka⟩ := h j hj
        exact hka.l0
      obtain ⟨ao5, cap5, hv, hst⟩ := ho.strs hlen
      cases hv
      have HS := hid (And.intro hst hc)
      have hol2 : out.length ≤ 4194304 := by omega
      clear hlen ho hst hc h hout
      go_wp2_with fail
      refine (refset_any _ _ out wr hol2 HS.out.1 (fun i hi => hi.2)).mono ?_
      rintro e w3 ⟨so, ao7, cap7, rfl, hset, hst7, hc37⟩
      have hsz := HS.out.2.size
      have HF := hid (And.intro hset (And.intro hst7 hc37))
      clear hset hst7 hc37
      go_wp2
      go_ret
      exact ⟨so, _, _, rfl, by rw [← ho2.out]; exact HF.out.1, HF.out.2.1.mono (fun i hi => ⟨Nat.le_trans hsz hi.1, hi.2⟩), HS.out.2.trans HF.out.2.2 (fun _ _ h => h)⟩
end Go.Proofs.YtjflmhncgkbdmaaGreat

/- Roles in slots. -/
namespace Go.Proofs.YtjflmhncgkbdmaaGreat
open Go.RowKit

/-- A pointer to a role. -/
def Spec.roleP (r : RoleB) : Spec :=
  ⟨fun v w => ∃ b off, v = .pointer (some ⟨b, off, none⟩) ∧ RoleAt w b off r, fun _ _ _ hc ⟨b, off, h1, h2⟩ => ⟨b, off, h1, h2.keep hc id⟩⟩

/-- An operation whose guard was not run. -/
theorem Ob.und {P : Program} {Q : Exit → Act → World → Prop} {R : World → World → Prop} {G : Tmp → Value → World → Prop} {w0 : World} {o : Oper} {t : Tmp} {b : Bool}
    (hb : ∀ v w, G t v w → v = undef) (hrefl : ∀ w, R w w) (hd : ∀ w, R w0 w → Gd G o.dst undef w) : Ob P Q R G w0 (some (t, b)) o := by
  intro a w hR hk K hK
  obtain ⟨v, hv, hg⟩ := hk t (by simp [looks, gTmps])
  have := hb v w hg
  subst this
  have hne : ¬ (says b a.tmps[t]? = true) := by
    rw [hv]
    simp [says, undef]
  simp only [if_neg hne]
  exact hK _ _ (hrefl w) (hd w hR)

theorem name_len' {s : List UInt8} (hn : isName s = true) : 0 < s.length ∧ s.length ≤ 16 := isName_len hn
end Go.Proofs.YtjflmhncgkbdmaaGreat
