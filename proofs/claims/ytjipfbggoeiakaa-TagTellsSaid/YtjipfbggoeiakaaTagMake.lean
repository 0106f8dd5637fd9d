/- The contracts of rightKey and Make. -/
import Derived.Test.YtjipfbggoeiakaaTagSum
namespace Go.Proofs.Ytjipfbggoeiakaa
open Go.RowKit
theorem rightKey_yes (ao : Option Addr) (n cp : Nat) (w : World) (h1 : 1 ≤ n) (h2 : n ≤ 32) :
    Calls Try.prog 48 #[.slice ao n cp] w fun e w' => e = .returned (.bool true) ∧ w = w' := by
  have d : decide ((n : Int) ≤ 32) = true := by simp; omega
  go_enter Try.func48, Try.ntmps48
  go_wp2
  go_ret
  exact ⟨rfl, rfl⟩
theorem rightKey_no (ao : Option Addr) (n cp : Nat) (w : World) (h : n = 0 ∨ 32 < n) (hn : n ≤ 9223372036854775807) :
    Calls Try.prog 48 #[.slice ao n cp] w fun e w' => e = .returned (.bool false) ∧ w = w' := by
  rcases h with rfl | h
  · go_enter Try.func48, Try.ntmps48
    go_wp2
    go_ret
    exact ⟨rfl, rfl⟩
  · have d : decide ((n : Int) ≤ 32) = false := by simp; omega
    go_enter Try.func48, Try.ntmps48
    go_wp2
    go_ret
    exact ⟨rfl, rfl⟩

theorem ofNat_u8 (n : Nat) (h : n < 256) : (UInt8.ofNat n).toNat = n := by
  rw [UInt8.toNat_ofNat']
  exact Nat.mod_eq_of_lt h

/-- A block of one byte. -/
theorem bytes_one {w : World} {B : Nat} {T : TypeId} {f : Nat × Nat} (n : Nat) (hn : n < 256) (h : w.heap[B]? = some (.cells #[.int .u8 (n : Int)] T f)) : BytesAt (fun k => k = B) w (.slice (some ⟨B, 0, none⟩) 1 1) [UInt8.ofNat n] := by
  refine .inr ⟨B, 0, 1, rfl, by simp, by decide, rfl, fun i hi => ?_⟩
  have : i = 0 := by simp at hi; omega
  subst this
  rw [cell_blk h]
  simp only [List.getElem_cons_zero, ofNat_u8 n hn]
  rfl

/-- A block of four slices. -/
theorem parts4 {D : Nat → Prop} {w : World} {B : Nat} {T : TypeId} {f : Nat × Nat} {v0 v1 v2 v3 : Value} {l0 l1 l2 l3 : List UInt8} (h : w.heap[B]? = some (.cells #[v0, v1, v2, v3] T f))
    (h0 : BytesAt D w v0 l0) (h1 : BytesAt D w v1 l1) (h2 : BytesAt D w v2 l2) (h3 : BytesAt D w v3 l3) (b0 : l0.length ≤ 9223372036854775807) (b1 : l1.length ≤ 9223372036854775807) (b2 : l2.length ≤ 9223372036854775807) (b3 : l3.length ≤ 9223372036854775807) :
    PartsAt D w (some ⟨B, 0, none⟩) [l0, l1, l2, l3] := by
  intro i hi
  match i, hi with
  | 0, _ => exact ⟨B, 0, v0, rfl, by rw [cell_blk h]; rfl, h0, b0⟩
  | 1, _ => exact ⟨B, 0, v1, rfl, by rw [cell_blk h]; rfl, h1, b1⟩
  | 2, _ => exact ⟨B, 0, v2, rfl, by rw [cell_blk h]; rfl, h2, b2⟩
  | 3, _ => exact ⟨B, 0, v3, rfl, by rw [cell_blk h]; rfl, h3, b3⟩

/-- The cells of a tag of which k bytes are written. -/
def tagCells (h k : Nat) : List Value := (List.range 8).map fun i => if i < k then .int .u8 ((h / 2 ^ (8 * (7 - i)) % 256 : Nat) : Int) else .int .u8 0

theorem tagCells_zero (h : Nat) : tagCells h 0 = [.int .u8 0, .int .u8 0, .int .u8 0, .int .u8 0, .int .u8 0, .int .u8 0, .int .u8 0, .int .u8 0] := by
  simp [tagCells, List.range, List.range.loop]

theorem tagCells_length (h k : Nat) : (tagCells h k).length = 8 := by simp [tagCells]

theorem tagCells_set (h k : Nat) : (tagCells h k).toArray.setIfInBounds k (.int .u8 ((h / 2 ^ (8 * (7 - k)) % 256 : Nat) : Int)) = (tagCells h (k + 1)).toArray := by
  rw [List.setIfInBounds_toArray]
  congr 1
  refine List.ext_getElem (by simp [tagCells]) fun i h1 h2 => ?_
  rw [List.getElem_set]
  simp only [tagCells, List.getElem_map, List.getElem_range]
  by_cases hik : k = i
  · subst hik
    rw [if_pos rfl, if_pos (by omega)]
  · rw [if_neg hik]
    by_cases h3 : i < k
    · rw [if_pos h3, if_pos (by omega)]
    · rw [if_neg h3, if_neg (by omega)]

theorem tagCells_bytes {w : World} {B : Nat} {T : TypeId} {f : Nat × Nat} (n : Nat) (h : w.heap[B]? = some (.cells (tagCells n 8).toArray T f)) : BytesAt (fun k => k = B) w (.slice (some ⟨B, 0, none⟩) 8 8) (bytes8 n) := by
  refine .inr ⟨B, 0, 8, by rw [bytes8_length], by rw [bytes8_length]; omega, by decide, rfl, fun i hi => ?_⟩
  have hi' : i < 8 := by rw [bytes8_length] at hi; exact hi
  rw [cell_blk h, Nat.zero_add]
  simp only [tagCells, bytes8, List.getElem?_toArray, List.getElem?_map, List.getElem_map, List.getElem_range, List.getElem?_range hi', Option.map_some, if_pos hi']
  rw [ofNat_u8 _ (Nat.mod_lt _ (by omega))]

set_option maxHeartbeats 400000 in
theorem make_yes {D : Nat → Prop} (a1 a2 : Option Addr) (c1 c2 : Nat) (key b : List UInt8) (w : World) (h1 : 1 ≤ key.length) (h2 : key.length ≤ 32) (hb : b.length ≤ 9223372036854775807)
   (k1 : BytesAt D w (.slice a1 key.length c1) key) (k2 : BytesAt D w (.slice a2 b.length c2) b) :
    Calls Try.prog 37 #[.slice a1 key.length c1, .slice a2 b.length c2] w fun e w' => ∃ g, e = .returned (.slice (some ⟨g, 0, none⟩) 8 8) ∧ w.heap.size ≤ g ∧ w'.heap[g]? = some (.cells (tagCells (tagSum key b) 8).toArray 5 (0, 0)) ∧ Chg (fun _ => False) w w' := by
  go_enter Try.func37, Try.ntmps37
  go_wp2_with (go_at_call 48; refine (rightKey_yes _ _ _ _ h1 h2).mono ?_; rintro e w' ⟨rfl, rfl⟩)
  have hc := ((Chg.refl (fun _ => False) w).alloc (.cells #[.int .u8 (key.length : Int)] 5)).alloc (.cells #[.slice (some ⟨w.heap.size, 0, none⟩) 1 1, .slice a1 key.length c1, .slice a2 b.length c2, .slice a1 key.length c1] 25)
  have hB := heap_alloc_new (w.alloc (.cells #[.int .u8 (key.length : Int)] 5)) (.cells #[.slice (some ⟨w.heap.size, 0, none⟩) 1 1, .slice a1 key.length c1, .slice a2 b.length c2, .slice a1 key.length c1] 25)
  rw [show (w.alloc (.cells #[.int .u8 (key.length : Int)] 5)).heap.size = w.heap.size + 1 from by simp] at hB
  have hA : ((w.alloc (.cells #[.int .u8 (key.length : Int)] 5)).alloc (.cells #[.slice (some ⟨w.heap.size, 0, none⟩) 1 1, .slice a1 key.length c1, .slice a2 b.length c2, .slice a1 key.length c1] 25)).heap[w.heap.size]? = some (.cells #[.int .u8 (key.length : Int)] 5 (0, 0)) := by
    rw [Below.heap_alloc _ _ _ (by simp)]
    exact heap_alloc_new w _
  have hsz : w.heap.size + 2 ≤ ((w.alloc (.cells #[.int .u8 (key.length : Int)] 5)).alloc (.cells #[.slice (some ⟨w.heap.size, 0, none⟩) 1 1, .slice a1 key.length c1, .slice a2 b.length c2, .slice a1 key.length c1] 25)).heap.size := by simp
  have k1' := k1.keep hc (fun _ _ => id)
  have k2' := k2.keep hc (fun _ _ => id)
  generalize (w.alloc (.cells #[.int .u8 (key.length : Int)] 5)).alloc (.cells #[.slice (some ⟨w.heap.size, 0, none⟩) 1 1, .slice a1 key.length c1, .slice a2 b.length c2, .slice a1 key.length c1] 25) = w3 at *
  have hp := parts4 (D := fun _ => True) hB ((bytes_one key.length (by omega) hA).mono (fun _ _ => trivial)) (k1'.mono (fun _ _ => trivial)) (k2'.mono (fun _ _ => trivial)) (k1'.mono (fun _ _ => trivial)) (by simp) (by omega) hb (by omega)
  clear hA hB k1' k2' k1 k2
  refine (sum_any (some ⟨w.heap.size + 1, 0, none⟩) 4 [[UInt8.ofNat key.length], key, b, key] w3 (by simp) hp).mono ?_
  rintro e w4 ⟨rfl, rfl⟩
  have hfl : ([[UInt8.ofNat key.length], key, b, key] : List (List UInt8)).flatten = [UInt8.ofNat key.length] ++ key ++ b ++ key := by simp
  rw [hfl]
  clear hfl hp
  have hlt := tagSum_lt key b
  rw [show sumOf ([UInt8.ofNat key.length] ++ key ++ b ++ key) = tagSum key b from rfl]
  obtain ⟨n, hn⟩ : ∃ n, n = tagSum key b := ⟨_, rfl⟩
  rw [← hn] at hlt ⊢
  have HN := hid hn
  clear hn
  have hmk : ∀ w, (Instr.makeSlice 25 (.int .i64 8) (.int .i64 8)).run Try.prog w = .ok (.slice (some ⟨w.heap.size, 0, none⟩) 8 8) (w.alloc (.cells #[.int .u8 0, .int .u8 0, .int .u8 0, .int .u8 0, .int .u8 0, .int .u8 0, .int .u8 0, .int .u8 0] 5)) := fun _ => by kernel_rfl
  go_wp2
  have hg := heap_alloc_new w3 (.cells #[.int .u8 0, .int .u8 0, .int .u8 0, .int .u8 0, .int .u8 0, .int .u8 0, .int .u8 0, .int .u8 0] 5)
  have hcw := hc.alloc (.cells #[.int .u8 0, .int .u8 0, .int .u8 0, .int .u8 0, .int .u8 0, .int .u8 0, .int .u8 0, .int .u8 0] 5)
  generalize w3.alloc (.cells #[.int .u8 0, .int .u8 0, .int .u8 0, .int .u8 0, .int .u8 0, .int .u8 0, .int .u8 0, .int .u8 0] 5) = w4 at *
  have hgw : w.heap.size ≤ w3.heap.size := by omega
  generalize w3.heap.size = g at *
  clear hc hsz hmk
  go_loopw [23] (fun i wr => ∃ k : Nat, k ≤ 8 ∧ i = .int .i64 k ∧ wr.heap[g]? = some (.cells (tagCells n k).toArray 5 (0, 0)) ∧ Chg (fun _ => False) w wr) (fun i _ => 8 - (intOf i).toNat)
  case atStart => exact ⟨0, by omega, rfl, by rw [tagCells_zero]; exact hg, hcw⟩
  case round =>
    clear hg hcw
    obtain ⟨k, hk, rfl, hg, hcw⟩ := hrel
    by_cases hlt : k < 8
    · have hcell : wr.cell? ⟨g, k, none⟩ = some (.int .u8 0) := by
        rw [cell_blk hg]
        simp [tagCells, hlt]
      have hfr := froz_blk hg k
      have hset := set_blk hg k (.int .u8 ((n / 2 ^ (8 * (7 - k)) % 256 : Nat) : Int))
      rw [tagCells_set n k] at hset
      have hcs := hcw.setCell (p := ⟨g, k, none⟩) (fun h => by simp at h; omega) (.int .u8 ((n / 2 ^ (8 * (7 - k)) % 256 : Nat) : Int))
      have HS := hid (And.intro hset hcs)
      clear hset hcs
      go_wp2
      go_roundw
      case rel => exact ⟨k + 1, by omega, by go_num, by rw [← byte8_int]; exact HS.out.1, by rw [← byte8_int]; exact HS.out.2⟩
      case measure => simp [intOf]; omega
    · have hk8 : k = 8 := by omega
      subst hk8
      go_wp2
      go_ret
      exact ⟨g, rfl, hgw, by rw [← HN.out]; exact hg, hcw⟩

theorem make_no (a1 : Option Addr) (v2 : Value) (n1 c1 : Nat) (w : World) (h : n1 = 0 ∨ 32 < n1) (hn : n1 ≤ 9223372036854775807) :
    Calls Try.prog 37 #[.slice a1 n1 c1, v2] w fun e w' => e = .returned (.slice none 0 0) ∧ w = w' := by
  go_enter Try.func37, Try.ntmps37
  go_wp2_with (go_at_call 48; refine (rightKey_no _ _ _ _ h hn).mono ?_; rintro e w' ⟨rfl, rfl⟩)
  go_ret
  exact ⟨rfl, rfl⟩

end Go.Proofs.Ytjipfbggoeiakaa
