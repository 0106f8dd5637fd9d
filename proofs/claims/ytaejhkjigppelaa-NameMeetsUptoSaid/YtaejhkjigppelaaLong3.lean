/- The contract of law 3's long. -/
import Derived.Test.YtaejhkjigppelaaOpenS
namespace Go.Proofs.Ytaejhkjigppelaa
open Go.RowKit

theorem totalS_take (ls : List (List UInt8)) (k : Nat) (h : k < ls.length) : totalS (ls.take (k + 1)) = totalS (ls.take k) + (1 + ls[k].length) := by
  rw [List.take_succ_eq_append_getElem h, totalS_append]
  simp [totalS]
theorem totalS_take_le (ls : List (List UInt8)) (k : Nat) : totalS (ls.take k) ≤ totalS ls := by
  have := totalS_append (ls.take k) (ls.drop k)
  rw [List.take_append_drop] at this
  omega

theorem long_any {D : Nat → Prop} (ao : Option Addr) (cp : Nat) (ls : List (List UInt8)) (w : World) (hn : totalS ls ≤ 4194304) (h : StrsAt D w ao ls) :
    Calls Try.prog 43 #[.slice ao ls.length cp] w fun e w' => e = .returned (.bool (decide (600 < totalS ls))) ∧ w = w' := by
  have hl := totalS_len ls
  go_enter Try.func43, Try.ntmps43
  go_wp2
  go_loop [3, 8] (fun n i => ∃ k m : Nat, k ≤ ls.length ∧ i = .int .i64 k ∧ n = .int .i64 m ∧ Hid (m = totalS (ls.take k)) ∧ m ≤ 4194304) (fun _ i => ls.length - (intOf i).toNat)
  case atStart => exact ⟨0, 0, Nat.zero_le _, rfl, rfl, rfl, by omega⟩
  case round =>
    obtain ⟨k, m, hk, rfl, rfl, hm, hml⟩ := hrel
    by_cases hlt : k < ls.length
    · obtain ⟨b, off, rfl, _, c0, hsl⟩ := h k hlt
      have ht := totalS_take ls k hlt
      have hle := totalS_take_le ls (k + 1)
      rw [ht, ← hm.out] at hle
      have hx : Hid (m + (1 + ls[k].length) = totalS (ls.take (k + 1))) := hid (by rw [ht, hm.out])
      clear h ht
      have hsl2 : m + (1 + ls[k].length) ≤ 4194304 := by omega
      clear hle
      generalize ls[k] = s at *
      go_wp2
      go_round
      case rel => exact ⟨k + 1, m + (1 + s.length), by omega, by go_num, by go_num, hx, hsl2⟩
      case measure => simp [intOf]; omega
    · have hk2 : k = ls.length := by omega
      have hx : m = totalS ls := by have := hm.out; rwa [List.take_of_length_le (by omega)] at this
      subst hx
      clear h
      go_wp2
      go_ret
      exact ⟨congrArg (fun b => Ending.returned (.bool b)) (by rw [decide_eq_decide]; omega), rfl⟩
end Go.Proofs.Ytaejhkjigppelaa
