/- The contract of the document's Make. -/
import Derived.Test.YtjipfbggoeiakaaTagGood
namespace Go.Proofs.Ytjipfbggoeiakaa
open Go.RowKit

theorem conv_one (d : UInt8) (x : Int) (w : World) (hx : x = (d.toNat : Int)) : (convert 25 9 (.slice (some ⟨w.heap.size, 0, none⟩) 1 1)).run Try.prog (w.alloc (.cells #[.int .u8 x] 5)) = .ok (.string ⟨#[d]⟩) (w.alloc (.cells #[.int .u8 x] 5)) := by
  subst hx
  refine conv_bytes (D := fun _ => True) (l := [d]) (.inr ⟨_, 0, 1, rfl, Nat.le_refl 1, by decide, trivial, fun i hi => ?_⟩)
  rw [cell_blk (heap_alloc_new w _)]
  match i, hi with
  | 0, _ => rfl

/-- The last k bytes of eight. -/
def sfx (n k : Nat) : List UInt8 := (bytes8 n).drop (8 - k)
theorem sfx_zero (n : Nat) : sfx n 0 = [] := List.drop_eq_nil_of_le (by rw [bytes8_length]; omega)
theorem sfx_eight (n : Nat) : sfx n 8 = bytes8 n := List.drop_zero
theorem sfx_length (n k : Nat) (h : k ≤ 8) : (sfx n k).length = k := by rw [sfx, List.length_drop, bytes8_length]; omega
theorem pow256 (k : Nat) : 256 ^ k = 2 ^ (8 * k) := by rw [Nat.pow_mul]
theorem sfx_succ (n k : Nat) (h : k < 8) : sfx n (k + 1) = UInt8.ofNat (n / 256 ^ k % 256) :: sfx n k := by
  unfold sfx
  rw [List.drop_eq_getElem_cons (by rw [bytes8_length]; omega)]
  rw [show 8 - (k + 1) + 1 = 8 - k from by omega]
  congr 1
  simp only [bytes8, List.getElem_map, List.getElem_range]
  rw [pow256, show 8 * (7 - (8 - (k + 1))) = 8 * k from by omega]

set_option maxRecDepth 100000 in
theorem refmake_any (key b : List UInt8) (w : World) (h2 : key.length ≤ 32) (hb : b.length ≤ 70368744177664) :
    Calls Try.prog 34 #[.string ⟨key.toArray⟩, .string ⟨b.toArray⟩] w fun e w' => e = .returned (.string ⟨(tagOf key b).toArray⟩) ∧ Chg (fun _ => False) w w' := by
  have hcv := conv_one (UInt8.ofNat key.length) key.length w (by rw [ofNat_u8 _ (by omega)])
  go_enter Try.func34, Try.ntmps34
  have hbs : (⟨#[UInt8.ofNat key.length]⟩ ++ ⟨key.toArray⟩ ++ ⟨b.toArray⟩ ++ ⟨key.toArray⟩ : ByteArray) = ⟨([UInt8.ofNat key.length] ++ key ++ b ++ key).toArray⟩ := by
    rw [show (#[UInt8.ofNat key.length] : Array UInt8) = [UInt8.ofNat key.length].toArray from rfl, ByteArray.mk_append_mk, ByteArray.mk_append_mk, ByteArray.mk_append_mk]
  have HB := hid hbs
  clear hbs
  go_wp2_with fail
  clear hcv
  rw [HB.out]
  refine (refsum_any ⟨([UInt8.ofNat key.length] ++ key ++ b ++ key).toArray⟩ _ ?_).mono ?_
  · show ([UInt8.ofNat key.length] ++ key ++ b ++ key).toArray.size ≤ _
    simp
    omega
  rintro e w1 ⟨rfl, rfl⟩
  clear HB
  rw [show sumOf (⟨([UInt8.ofNat key.length] ++ key ++ b ++ key).toArray⟩ : ByteArray).data.toList = tagSum key b from rfl]
  have hlt := tagSum_lt key b
  have hc := (Chg.refl (fun _ => False) w).alloc (.cells #[.int .u8 (key.length : Int)] 5)
  obtain ⟨n, hn⟩ : ∃ n, n = tagSum key b := ⟨_, rfl⟩
  rw [← hn] at hlt ⊢
  have HN := hid hn
  clear hn
  generalize w.alloc (.cells #[.int .u8 (key.length : Int)] 5) = w1 at *
  go_wp2
  go_loopw [5, 6, 7] (fun h s i wr => ∃ k : Nat, k ≤ 8 ∧ i = .int .i64 k ∧ h = .int .u64 ((n / 256 ^ k : Nat) : Int) ∧ s = .string ⟨(sfx n k).toArray⟩ ∧ Chg (fun _ => False) w wr) (fun _ _ i _ => 8 - (intOf i).toNat)
  case atStart => exact ⟨0, by omega, rfl, by simp, by rw [sfx_zero], hc⟩
  case round =>
    clear hc
    obtain ⟨k, hk, rfl, rfl, rfl, hc⟩ := hrel
    by_cases hlt8 : k < 8
    · have hm : n / 256 ^ k < 18446744073709551616 := Nat.lt_of_le_of_lt (Nat.div_le_self _ _) hlt
      have hs := sfx_succ n k hlt8
      have hq : n / 256 ^ (k + 1) = n / 256 ^ k / 256 := by rw [Nat.pow_succ, Nat.div_div_eq_div_mul]
      have hl := sfx_length n k hk
      have HS := hid (And.intro hs hq)
      clear hs hq
      generalize n / 256 ^ k = m at *
      have hcv := conv_one (UInt8.ofNat (m % 256)) ((m : Int) % 256) wr (by rw [ofNat_u8 _ (by omega)]; omega)
      go_wp2
      go_roundw
      case rel =>
        refine ⟨k + 1, by omega, by go_num, ?_, ?_, hc.alloc _⟩
        · rw [HS.out.2]; rfl
        · rw [HS.out.1]
          exact congrArg Value.string (ByteArray.mk_append_mk [UInt8.ofNat (m % 256)] (sfx n k))
      case measure => simp [intOf]; omega
    · have hk8 : k = 8 := by omega
      subst hk8
      go_wp2
      go_ret
      refine ⟨?_, hc⟩
      rw [sfx_eight, HN.out]
      rfl
end Go.Proofs.Ytjipfbggoeiakaa
