/- The contract of tape.number. -/
import Derived.Test.YtaejhkjigppelaaBase
namespace Go.Proofs.Ytaejhkjigppelaa
open Go.RowKit

theorem ret3 {k1 k2 k3 : IntKind} {a b c a' b' c' : Int} (h1 : a = a') (h2 : b = b') (h3 : c = c') :
    Ending.returned (.tuple #[.int k1 a, .int k2 b, .int k3 c]) = .returned (.tuple #[.int k1 a', .int k2 b', .int k3 c']) := by rw [h1, h2, h3]

def NumPost (l : List UInt8) (w : World) (e : Ending) (w' : World) : Prop :=
  e = .returned (.tuple #[.int .i64 (numN 9 l 0 0).1, .int .i64 (numN 9 l 0 0).2.1, .int .i64 (numN 9 l 0 0).2.2]) ∧ w = w'

theorem numPost_of {l : List UInt8} {w : World} {a b c : Int} {r : Nat × Nat × Nat} (h : Hid (numN 9 l 0 0 = r)) (h1 : a = r.1) (h2 : b = r.2.1) (h3 : c = r.2.2) :
    NumPost l w (.returned (.tuple #[.int .i64 a, .int .i64 b, .int .i64 c])) w := by
  subst h1; subst h2; subst h3
  unfold NumPost
  rw [h.out]
  exact ⟨rfl, rfl⟩

set_option maxRecDepth 100000 in
set_option maxHeartbeats 400000 in
theorem number_some (b off cap : Nat) (l : List UInt8) (w : World) (hl : l.length ≤ 9223372036854775807)
    (hc : ∀ i (h : i < l.length), w.cell? ⟨b, off + i, none⟩ = some (.int .u8 (l[i].toNat : Int))) :
    Calls Try.prog 67 #[.slice (some ⟨b, off, none⟩) l.length cap] w (NumPost l w) := by
  go_enter Try.func67, Try.ntmps67
  go_wp2
  go_loop [2, 3] (fun n i => ∃ k m : Nat, k ≤ 9 ∧ k ≤ l.length ∧ i = .int .i64 k ∧ n = .int .i64 m ∧ m < 128 ^ k ∧ Hid (numN 9 l 0 0 = numN (9 - k) (l.drop k) k m)) (fun _ i => 9 - (intOf i).toNat)
  case atStart => exact ⟨0, 0, by omega, by omega, rfl, rfl, by decide, rfl⟩
  case round =>
    obtain ⟨k, m, hk, hkl, rfl, rfl, hm, HS⟩ := hrel
    by_cases h9 : k < 9
    · by_cases hkk : k < l.length
      · have hcell := hc k hkk
        have hst := numN_step l k m h9 hkk
        have HT := HS.out.trans hst
        have HU : Hid (numN 9 l 0 0 = _) := HT
        clear HT hst HS
        go_wp2
        · have h0 : l[k].toNat = 0 := by assumption
          have h1 : (1 : Int) < (k : Int) + 1 := by assumption
          have hU := HU.out
          rw [if_pos ⟨h0, by omega⟩] at hU
          go_ret3
          exact numPost_of hU rfl rfl rfl
        · have h0 : l[k].toNat = 0 := by assumption
          have h1 : (k : Int) + 1 ≤ 1 := by assumption
          have hU := HU.out
          have hd := digit_or k m 0 h9 hm (by omega)
          rw [if_neg (by omega), if_pos (by omega)] at hU
          go_ret3
          refine numPost_of hU ?_ (by simp) rfl
          rw [h0]
          simpa using hd
        · have h0 : ¬ l[k].toNat = 0 := by assumption
          have h1 : (l[k].toNat : Int) < 128 := by assumption
          have hU := HU.out
          have hd := digit_or k m l[k].toNat h9 hm (UInt8.toNat_lt _)
          rw [if_neg (by omega), if_pos (by omega)] at hU
          go_ret3
          refine numPost_of hU ?_ (by simp) rfl
          rw [Nat.mod_eq_of_lt (by omega)] at hd
          exact hd
        · have h0 : ¬ l[k].toNat = 0 := by assumption
          have h1 : 128 ≤ (l[k].toNat : Int) := by assumption
          have hlt := UInt8.toNat_lt l[k]
          have hd := digit_or k m l[k].toNat h9 hm hlt
          have hU := HU.out
          rw [if_neg (by omega), if_neg (by omega)] at hU
          have e : l[k].toNat % 128 = l[k].toNat - 128 := by omega
          rw [e] at hd
          go_round
          case rel => exact ⟨k + 1, _, by omega, by omega, by go_num, congrArg _ hd, num_lt k m _ hm (by omega), hU⟩
          case measure => simp [intOf]; omega
      · have hkl2 : k = l.length := by omega
        subst hkl2
        have hU : Hid (numN 9 l 0 0 = (0, 0, 10)) := HS.out.trans (numN_end l _ m h9 (Nat.le_refl _))
        clear HS
        go_wp2
        go_ret3
        exact numPost_of hU rfl rfl rfl
    · have hk9 : k = 9 := by omega
      subst hk9
      have hU : Hid (numN 9 l 0 0 = (0, 0, 11)) := HS.out
      clear HS
      go_wp2
      go_ret3
      exact numPost_of hU rfl rfl rfl

set_option maxRecDepth 100000 in
theorem number_nil (ao : Option Addr) (cp : Nat) (w : World) : Calls Try.prog 67 #[.slice ao 0 cp] w (NumPost [] w) := by
  go_enter Try.func67, Try.ntmps67
  go_wp2
  go_loop [2, 3] (fun n i => i = .int .i64 0 ∧ n = .int .i64 0) (fun _ i => 9 - (intOf i).toNat)
  case atStart => exact ⟨rfl, rfl⟩
  case round =>
    obtain ⟨rfl, rfl⟩ := hrel
    go_wp2
    go_ret3
    exact ⟨rfl, rfl⟩

theorem number_any {D : Nat → Prop} {v : Value} {l : List UInt8} {w : World} (hl : l.length ≤ 9223372036854775807) (h : BytesAt D w v l) : Calls Try.prog 67 #[v] w (NumPost l w) := by
  rcases h with ⟨ao, cp, rfl, rfl, _⟩ | ⟨b, off, cap, rfl, h1, h2, h3, h4⟩
  · exact number_nil ao cp w
  · exact number_some b off cap l w hl h4

end Go.Proofs.Ytaejhkjigppelaa
