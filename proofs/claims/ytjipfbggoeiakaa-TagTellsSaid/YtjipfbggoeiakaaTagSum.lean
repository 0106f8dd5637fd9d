/- The contracts of the two sums: of the document's answer, of the program. -/
import Derived.Test.YtjipfbggoeiakaaRows
import Derived.Test.YtjipfbggoeiakaaMem
import Derived.Test.YtjipfbggoeiakaaTagMath
namespace Go.Proofs.Ytjipfbggoeiakaa
open Go.RowKit
set_option maxHeartbeats 400000 in
theorem refsum_any (s : ByteArray) (w : World) (hs : s.size ≤ 9223372036854775807) :
    Calls Try.prog 36 #[.string s] w fun e w' => e = .returned (.int .u64 (sumOf s.data.toList : Nat)) ∧ w = w' := by
  go_enter Try.func36, Try.ntmps36
  go_wp2
  go_loop [3, 4] (fun h i => ∃ k : Nat, k ≤ s.size ∧ i = .int .i64 k ∧ h = .int .u64 ((fnv fnvBasis (s.data.toList.take k) : Nat) : Int)) (fun _ i => s.size - (intOf i).toNat)
  case atStart => exact ⟨0, Nat.zero_le _, rfl, rfl⟩
  case round =>
    obtain ⟨k, hk, rfl, rfl⟩ := hrel
    by_cases hlt : k < s.size
    · have hw := fnvStep_walk (fnv fnvBasis (s.data.toList.take k)) s[k] (fnv_lt _ _ (by unfold fnvBasis two64; omega))
      have ht := fnv_take fnvBasis s.data.toList k (by simpa using hlt)
      have HS : Hid (IntKind.u64.wrap (bits .xor .u64 (fnv fnvBasis (s.data.toList.take k) : Int) (IntKind.u64.wrap (s[k].toNat : Int)) * 1099511628211) = ((fnv fnvBasis (s.data.toList.take (k + 1)) : Nat) : Int)) := by rw [hw, ht]; rfl
      clear hw ht
      go_wp2
      go_round
      case rel => exact ⟨k + 1, by omega, by go_num, by rw [HS.out]⟩
      case measure => simp [intOf]; omega
    · go_wp2
      go_ret
      refine ⟨?_, rfl⟩
      rw [List.take_of_length_le (by simp; omega)]
      rfl

/-- The cells from ao on hold slices of the bytes ls. -/
def PartsAt (D : Nat → Prop) (w : World) (ao : Option Addr) (ls : List (List UInt8)) : Prop :=
  ∀ i (h : i < ls.length), ∃ b off v, ao = some ⟨b, off, none⟩ ∧ w.cell? ⟨b, off + i, none⟩ = some v ∧ BytesAt D w v ls[i] ∧ ls[i].length ≤ 9223372036854775807

theorem flat_take (ls : List (List UInt8)) (i : Nat) (h : i < ls.length) : (ls.take (i + 1)).flatten = (ls.take i).flatten ++ ls[i] := by
  rw [List.take_succ_eq_append_getElem h, List.flatten_append, List.flatten_singleton]

set_option maxHeartbeats 400000 in
theorem sum_any {D : Nat → Prop} (ao : Option Addr) (cp : Nat) (ls : List (List UInt8)) (w : World) (hn : ls.length ≤ 9223372036854775807) (hp : PartsAt D w ao ls) :
    Calls Try.prog 35 #[.slice ao ls.length cp] w fun e w' => e = .returned (.int .u64 (sumOf ls.flatten : Nat)) ∧ w = w' := by
  go_enter Try.func35, Try.ntmps35
  go_wp2
  go_loop [3, 10] (fun h i => ∃ k : Nat, k ≤ ls.length ∧ i = .int .i64 k ∧ h = .int .u64 ((fnv fnvBasis (ls.take k).flatten : Nat) : Int)) (fun _ i => ls.length - (intOf i).toNat)
  case atStart => exact ⟨0, Nat.zero_le _, rfl, rfl⟩
  case round =>
    obtain ⟨k, hk, rfl, rfl⟩ := hrel
    by_cases hlt : k < ls.length
    · obtain ⟨b, off, v, rfl, hc, hb, hbl⟩ := hp k hlt
      have hft := flat_take ls k hlt
      clear hp
      obtain ⟨ao2, cp2, rfl⟩ := hb.shape
      have HF := hid hft
      clear hft
      generalize ls[k] = l at *
      go_wp2
      go_loop [3, 16] (fun h i => ∃ j : Nat, j ≤ l.length ∧ i = .int .i64 j ∧ h = .int .u64 ((fnv fnvBasis ((ls.take k).flatten ++ l.take j) : Nat) : Int)) (fun _ i => l.length - (intOf i).toNat)
      case atStart => exact ⟨0, Nat.zero_le _, rfl, by simp⟩
      case round =>
        obtain ⟨j, hj, rfl, rfl⟩ := hrel
        by_cases hjl : j < l.length
        · rcases hb with ⟨_, _, h1, h2, _⟩ | ⟨b2, off2, cap2, h1, h2, h3, h4, h5⟩
          · subst h2
            simp at hjl
          · have hcell := h5 j hjl
            cases h1
            clear h5
            have hw := fnvStep_walk (fnv fnvBasis ((ls.take k).flatten ++ l.take j)) l[j] (fnv_lt _ _ (by unfold fnvBasis two64; omega))
            have ht : fnv fnvBasis ((ls.take k).flatten ++ l.take (j + 1)) = fnvStep (fnv fnvBasis ((ls.take k).flatten ++ l.take j)) l[j] := by
              rw [fnv_append, fnv_append, fnv_take _ _ _ hjl]
            have HS : Hid (IntKind.u64.wrap (bits .xor .u64 (fnv fnvBasis ((ls.take k).flatten ++ l.take j) : Int) (IntKind.u64.wrap (l[j].toNat : Int)) * 1099511628211) = ((fnv fnvBasis ((ls.take k).flatten ++ l.take (j + 1)) : Nat) : Int)) := by rw [hw, ht]; rfl
            clear hw ht
            go_wp2
            go_round
            case rel => exact ⟨j + 1, by omega, by go_num, by rw [HS.out]⟩
            case measure => simp [intOf]; omega
        · have hjj : j = l.length := by omega
          subst hjj
          go_wp2
          go_round
          case rel => exact ⟨k + 1, by omega, by go_num, by rw [HF.out, List.take_of_length_le (Nat.le_refl _)]⟩
          case measure => simp [intOf]; omega
    · go_wp2
      go_ret
      refine ⟨?_, rfl⟩
      rw [List.take_of_length_le (by omega)]
      rfl
end Go.Proofs.Ytjipfbggoeiakaa
