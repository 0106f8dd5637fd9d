/- The contracts of the document's Has and Same. -/
import Derived.Test.YtaejhkjigppelaaRefRight
import Derived.Deep.QuietTactic
import Derived.BigQuiet
namespace Go.Proofs.Ytaejhkjigppelaa
open Go.RowKit
theorem refhas_any {D : Nat → Prop} (ao : Option Addr) (cp : Nat) (ls : List (List UInt8)) (s : List UInt8) (w : World) (hn : ls.length ≤ 9223372036854775807) (h : StrsAt D w ao ls) :
    Calls Try.prog 52 #[.slice ao ls.length cp, .string ⟨s.toArray⟩] w fun e w' => e = .returned (.bool (hasS ls s)) ∧ w = w' := by
  go_enter Try.func52, Try.ntmps52
  go_wp2
  go_loop [9] (fun i => ∃ k : Nat, k ≤ ls.length ∧ i = .int .i64 k ∧ Hid (hasS (ls.take k) s = false)) (fun i => ls.length - (intOf i).toNat)
  case atStart => exact ⟨0, Nat.zero_le _, rfl, by rw [List.take_zero]; rfl⟩
  case round =>
    obtain ⟨k, hk, rfl, hc⟩ := hrel
    by_cases hlt : k < ls.length
    · obtain ⟨b, off, rfl, _, c0, _⟩ := h k hlt
      clear h
      by_cases he : ls[k] = s
      · have hx : Hid (hasS ls s = true) := hid (by simpa [hasS] using he ▸ List.getElem_mem hlt)
        have e1 : (ls[k] == s) = true := by simpa using he
        have HE := hid he
        clear he
        go_wp2
        go_ret
        exact ⟨by rw [hx.out]; rfl, rfl⟩
      · have hx := hid (contains_take ls s k hlt hc.out he)
        have e1 : (ls[k] == s) = false := by simpa using he
        have HE := hid he
        clear he
        go_wp2
        go_round
        case rel => exact ⟨k + 1, by omega, by go_num, hx⟩
        case measure => simp [intOf]; omega
    · have hk2 : k = ls.length := by omega
      subst hk2
      have hx : Hid (hasS ls s = false) := by have := hc.out; rwa [List.take_of_length_le (Nat.le_refl _)] at this
      clear h
      go_wp2
      go_ret
      exact ⟨by rw [hx.out]; rfl, rfl⟩

theorem drewN_add (w : World) (n m : Nat) : (w.drewN n).drewN m = w.drewN (n + m) := by
  simp only [World.drewN, Nat.add_assoc]

theorem refsame_any {D1 D2 : Nat → Prop} (a1 a2 : Option Addr) (c1 c2 : Nat) (l1 l2 : List (List UInt8)) (w : World) (hn : l1.length ≤ 9223372036854775807) (hm : l2.length ≤ 9223372036854775807) (h1 : StrsAt D1 w a1 l1) (h2 : StrsAt D2 w a2 l2) :
    Calls Try.prog 48 #[.slice a1 l1.length c1, .slice a2 l2.length c2] w fun e w' => e = .returned (.bool (sameS l1 l2)) ∧ ∃ n, w' = w.drewN n := by
  by_cases hl : l1.length = l2.length
  · have z1 : ((l1.length : Int) != (l2.length : Int)) = false := by simp; omega
    have HL := hid hl
    have hl1 : l1.length ≤ l2.length := by omega
    have hl2 : l2.length ≤ l1.length := by omega
    clear hl
    go_enter Try.func48, Try.ntmps48
    go_wp2
    go_loopw [13] (fun i wr => ∃ k n : Nat, k ≤ l1.length ∧ i = .int .i64 k ∧ wr = w.drewN n ∧ Hid (l1.take k = l2.take k)) (fun i _ => l1.length - (intOf i).toNat)
    case atStart => exact ⟨0, 0, Nat.zero_le _, rfl, rfl, by rw [List.take_zero, List.take_zero]; rfl⟩
    case round =>
      obtain ⟨k, n, hk, rfl, rfl, hc⟩ := hrel
      by_cases hlt : k < l1.length
      · obtain ⟨b, off, rfl, _, q0, _⟩ := h1 k hlt
        obtain ⟨b2, off2, rfl, _, q1, _⟩ := h2 k (by omega)
        clear h1 h2
        have e0 : (0 : Int) ≤ (k : Int) := by omega
        have e1 : (k : Int) < (l1.length : Int) := by omega
        have e2 : (k : Int) < (l2.length : Int) := by omega
        by_cases he : l1[k] = l2[k]
        · have e3 : (!l1[k] == l2[k]) = false := by simpa using he
          have hx : Hid (l1.take (k + 1) = l2.take (k + 1)) := hid (by rw [List.take_succ_eq_append_getElem hlt, List.take_succ_eq_append_getElem (HL.out ▸ hlt), hc.out, he])
          have HE := hid he
          clear he
          go_wp2
          go_quiet (fail)
          go_wp2
          go_roundw
          case rel => exact ⟨k + 1, n + nq, by omega, by go_num, rfl, hx⟩
          case measure => simp [intOf]; omega
        · have e3 : (!l1[k] == l2[k]) = true := by simpa using he
          have hx : Hid (sameS l1 l2 = false) := by
            refine hid ?_
            simp only [sameS, beq_eq_false_iff_ne, ne_eq]
            intro h
            subst h
            exact he rfl
          have HE := hid he
          clear he
          go_wp2
          go_quiet (fail)
          go_wp2
          go_ret
          exact ⟨by rw [hx.out]; rfl, _, drewN_add w n nq⟩
      · have hk2 : k = l1.length := by omega
        subst hk2
        have hx : Hid (sameS l1 l2 = true) := by
          have := hc.out
          rw [List.take_of_length_le (Nat.le_refl _), List.take_of_length_le (by rw [HL.out]; omega)] at this
          exact hid (by simp [sameS, this])
        clear h1 h2
        go_wp2
        go_ret
        exact ⟨by rw [hx.out]; rfl, n, rfl⟩
  · have z1 : ((l1.length : Int) != (l2.length : Int)) = true := by simp; omega
    have hx : Hid (sameS l1 l2 = false) := by
      refine hid ?_
      simp only [sameS, beq_eq_false_iff_ne, ne_eq]
      intro h
      exact hl (congrArg List.length h)
    go_enter Try.func48, Try.ntmps48
    go_wp2
    go_ret
    exact ⟨by rw [hx.out]; rfl, 0, rfl⟩
end Go.Proofs.Ytaejhkjigppelaa
