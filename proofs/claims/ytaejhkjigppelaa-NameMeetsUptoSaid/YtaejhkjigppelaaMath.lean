/- Plain arithmetic of layer 1's numbers: nothing of the program's text. -/
import Derived.Test.YtaejhkjigppelaaMem
namespace Go.Proofs.Ytaejhkjigppelaa
open Go.RowKit

/-- The number that the bytes begin with, how many bytes it has, and the error. -/
def numN : Nat → List UInt8 → Nat → Nat → Nat × Nat × Nat
  | 0, _, _, _ => (0, 0, 11)
  | _ + 1, [], _, _ => (0, 0, 10)
  | f + 1, d :: l, k, n =>
    if d.toNat = 0 ∧ 0 < k then (0, 0, 11)
    else if d.toNat < 128 then (n + d.toNat * 128 ^ k, k + 1, 0)
    else numN f l (k + 1) (n + (d.toNat - 128) * 128 ^ k)

theorem bits_and_u8_127 (d : Nat) (h : d < 256) : bits .and .u8 (d : Int) 127 = ((d % 128 : Nat) : Int) := by
  have h1 : (BitVec.ofInt 8 (d : Int)).toNat = d := by
    rw [BitVec.ofInt_natCast, BitVec.toNat_ofNat]; exact Nat.mod_eq_of_lt (by omega)
  show IntKind.u8.wrap ((BitVec.ofInt 8 (d : Int) &&& BitVec.ofInt 8 127).toNat : Int) = _
  rw [BitVec.toNat_and, h1]
  have h2 : (BitVec.ofInt 8 127).toNat = 2 ^ 7 - 1 := by decide
  rw [h2, Nat.and_two_pow_sub_one_eq_mod]
  simp [IntKind.wrap, IntKind.bits, IntKind.signed]
  omega

theorem bits_or_i64 (a b : Nat) (ha : a < 9223372036854775808) (hb : b < 9223372036854775808) : bits .or .i64 (a : Int) (b : Int) = ((a ||| b : Nat) : Int) := by
  have h1 : (BitVec.ofInt 64 (a : Int)).toNat = a := by
    rw [BitVec.ofInt_natCast, BitVec.toNat_ofNat]; exact Nat.mod_eq_of_lt (by omega)
  have h2 : (BitVec.ofInt 64 (b : Int)).toNat = b := by
    rw [BitVec.ofInt_natCast, BitVec.toNat_ofNat]; exact Nat.mod_eq_of_lt (by omega)
  have hx : a ||| b < 2 ^ 63 := Nat.or_lt_two_pow (by omega) (by omega)
  show IntKind.i64.wrap ((BitVec.ofInt 64 (a : Int) ||| BitVec.ofInt 64 (b : Int)).toNat : Int) = _
  rw [BitVec.toNat_or, h1, h2]
  exact IntWalk.i64_in _ (by omega)

theorem pow_le9 (k : Nat) (h : k ≤ 8) : 128 ^ k ≤ 72057594037927936 := by
  have : 128 ^ k ≤ 128 ^ 8 := Nat.pow_le_pow_right (by omega) h
  simpa using this

theorem two7 (k : Nat) : 2 ^ (7 * k) = 128 ^ k := by rw [Nat.pow_mul]

theorem digit_or (k m d : Nat) (hk : k < 9) (hm : m < 128 ^ k) (hd : d < 256) :
    bits .or .i64 (m : Int) (wrap64 (wrap64 (bits .and .u8 (d : Int) 127) * 2 ^ (7 * k))) = ((m + d % 128 * 128 ^ k : Nat) : Int) := by
  have hp := pow_le9 k (by omega)
  have hc : d % 128 < 128 := Nat.mod_lt _ (by decide)
  have e1 : wrap64 ((d % 128 : Nat) : Int) = ((d % 128 : Nat) : Int) := by unfold wrap64; omega
  have hb : d % 128 * 128 ^ k ≤ 127 * 72057594037927936 := Nat.mul_le_mul (by omega) hp
  have e2 : ((d % 128 : Nat) : Int) * 2 ^ (7 * k) = ((d % 128 * 128 ^ k : Nat) : Int) := by
    rw [Int.natCast_mul, ← two7 k, Int.natCast_pow]; rfl
  have e3 : wrap64 ((d % 128 * 128 ^ k : Nat) : Int) = ((d % 128 * 128 ^ k : Nat) : Int) := by unfold wrap64; omega
  rw [bits_and_u8_127 d hd, e1, e2, e3, bits_or_i64 _ _ (by omega) (by omega)]
  congr 1
  rw [← two7 k, ← Nat.shiftLeft_eq, Nat.or_comm, ← Nat.shiftLeft_add_eq_or_of_lt (by rw [two7]; exact hm)]
  omega

/-- One byte of a number. -/
theorem numN_step (l : List UInt8) (k m : Nat) (hk : k < 9) (hl : k < l.length) :
    numN (9 - k) (l.drop k) k m = if l[k].toNat = 0 ∧ 0 < k then (0, 0, 11) else if l[k].toNat < 128 then (m + l[k].toNat * 128 ^ k, k + 1, 0) else numN (9 - (k + 1)) (l.drop (k + 1)) (k + 1) (m + (l[k].toNat - 128) * 128 ^ k) := by
  have e : 9 - k = (9 - (k + 1)) + 1 := by omega
  rw [e, List.drop_eq_getElem_cons hl]
  rfl

theorem numN_end (l : List UInt8) (k m : Nat) (hk : k < 9) (hl : l.length ≤ k) : numN (9 - k) (l.drop k) k m = (0, 0, 10) := by
  have e : 9 - k = (9 - (k + 1)) + 1 := by omega
  rw [e, List.drop_eq_nil_of_le hl]
  rfl

theorem num_lt (k m c : Nat) (hm : m < 128 ^ k) (hc : c < 128) : m + c * 128 ^ k < 128 ^ (k + 1) := by
  have : c * 128 ^ k ≤ 127 * 128 ^ k := Nat.mul_le_mul_right _ (by omega)
  rw [Nat.pow_succ]
  omega

/-- What a number's reading comes to. -/
theorem numN_facts : ∀ (f : Nat) (l : List UInt8) (k n : Nat), n < 128 ^ k →
    ((numN f l k n).2.2 = 0 ∧ k < (numN f l k n).2.1 ∧ (numN f l k n).2.1 ≤ k + l.length ∧ (numN f l k n).2.1 ≤ k + f ∧ (numN f l k n).1 < 128 ^ (numN f l k n).2.1) ∨
    (((numN f l k n).2.2 = 10 ∨ (numN f l k n).2.2 = 11) ∧ (numN f l k n).1 = 0 ∧ (numN f l k n).2.1 = 0)
  | 0, _, _, _, _ => .inr ⟨.inr rfl, rfl, rfl⟩
  | _ + 1, [], _, _, _ => .inr ⟨.inl rfl, rfl, rfl⟩
  | f + 1, d :: l, k, n, hn => by
    unfold numN
    by_cases h1 : d.toNat = 0 ∧ 0 < k
    · rw [if_pos h1]
      exact .inr ⟨.inr rfl, rfl, rfl⟩
    · rw [if_neg h1]
      by_cases h2 : d.toNat < 128
      · rw [if_pos h2]
        exact .inl ⟨rfl, by simp, by simp only [List.length_cons]; omega, by simp only []; omega, num_lt k n _ hn h2⟩
      · rw [if_neg h2]
        have hd := UInt8.toNat_lt d
        rcases numN_facts f l (k + 1) (n + (d.toNat - 128) * 128 ^ k) (num_lt k n _ hn (by omega)) with ⟨a, b, c, e, g⟩ | h
        · exact .inl ⟨a, by omega, by simp only [List.length_cons]; omega, by omega, g⟩
        · exact .inr h

theorem numN_ok {l : List UInt8} (h : (numN 9 l 0 0).2.2 = 0) : 0 < (numN 9 l 0 0).2.1 ∧ (numN 9 l 0 0).2.1 ≤ l.length ∧ (numN 9 l 0 0).1 < 9223372036854775808 := by
  rcases numN_facts 9 l 0 0 (by decide) with ⟨_, b, c, d, e⟩ | ⟨h1, _⟩
  · refine ⟨b, by omega, Nat.lt_of_lt_of_le e ?_⟩
    have : 128 ^ (numN 9 l 0 0).2.1 ≤ 128 ^ 9 := Nat.pow_le_pow_right (by omega) (by omega)
    simpa using this
  · omega

theorem numN_bad {l : List UInt8} (h : (numN 9 l 0 0).2.2 ≠ 0) : ((numN 9 l 0 0).2.2 = 10 ∨ (numN 9 l 0 0).2.2 = 11) ∧ (numN 9 l 0 0).1 = 0 ∧ (numN 9 l 0 0).2.1 = 0 := by
  rcases numN_facts 9 l 0 0 (by decide) with ⟨a, _⟩ | h1
  · exact absurd a h
  · exact h1

/-- The error of a number that is read. -/
def errNum (l : List UInt8) (most : Int) : Nat :=
  if (numN 9 l 0 0).2.2 = 0 then (if most < ((numN 9 l 0 0).1 : Int) then 12 else 0) else (numN 9 l 0 0).2.2

/-- The error of a text that is read. -/
def errText (l : List UInt8) (most : Int) : Nat :=
  if (numN 9 l 0 0).2.2 = 0 then
    (if most < ((numN 9 l 0 0).1 : Int) then 12 else if l.length - (numN 9 l 0 0).2.1 < (numN 9 l 0 0).1 then 10 else 0)
  else (numN 9 l 0 0).2.2

/-- A number's bytes: one that isn't the last; the last. -/
def dg (n : Nat) : UInt8 := UInt8.ofNat (128 + n % 128)
def ds (n : Nat) : UInt8 := UInt8.ofNat n
def enc (n : Nat) : List UInt8 := if n < 128 then [ds n] else dg n :: enc (n / 128)
  termination_by n
  decreasing_by omega

theorem enc_small {n : Nat} (h : n < 128) : enc n = [ds n] := by rw [enc, if_pos h]
theorem enc_big {n : Nat} (h : 128 ≤ n) : enc n = dg n :: enc (n / 128) := by rw [enc, if_neg (by omega)]

theorem enc_length : ∀ (k n : Nat), n < 128 ^ (k + 1) → (enc n).length ≤ k + 1
  | 0, n, h => by rw [enc_small (by omega)]; simp
  | k + 1, n, h => by
    by_cases h1 : n < 128
    · rw [enc_small h1]; simp
    · rw [enc_big (by omega)]
      have := enc_length k (n / 128) (by rw [Nat.pow_succ] at h; omega)
      simp only [List.length_cons]
      omega

theorem enc_length9 {n : Nat} (h : n < 9223372036854775808) : (enc n).length ≤ 9 := enc_length 8 n (by simpa using h)

theorem enc_pos (n : Nat) : 0 < (enc n).length := by
  by_cases h1 : n < 128
  · rw [enc_small h1]; simp
  · rw [enc_big (by omega)]; simp

theorem bits_and_i64_127 (n : Nat) (h : n < 9223372036854775808) : bits .and .i64 (n : Int) 127 = ((n % 128 : Nat) : Int) := by
  have h1 : (BitVec.ofInt 64 (n : Int)).toNat = n := by
    rw [BitVec.ofInt_natCast, BitVec.toNat_ofNat]; exact Nat.mod_eq_of_lt (by omega)
  show IntKind.i64.wrap ((BitVec.ofInt 64 (n : Int) &&& BitVec.ofInt 64 127).toNat : Int) = _
  rw [BitVec.toNat_and, h1]
  have h2 : (BitVec.ofInt 64 127).toNat = 2 ^ 7 - 1 := by decide
  rw [h2, Nat.and_two_pow_sub_one_eq_mod]
  exact IntWalk.i64_in _ (by omega)

theorem bits_or_u8_128 (d : Nat) (h : d < 128) : bits .or .u8 (d : Int) 128 = ((128 + d : Nat) : Int) := by
  have h1 : (BitVec.ofInt 8 (d : Int)).toNat = d := by
    rw [BitVec.ofInt_natCast, BitVec.toNat_ofNat]; exact Nat.mod_eq_of_lt (by omega)
  show IntKind.u8.wrap ((BitVec.ofInt 8 (d : Int) ||| BitVec.ofInt 8 128).toNat : Int) = _
  rw [BitVec.toNat_or, h1]
  have h2 : (BitVec.ofInt 8 128).toNat = 1 <<< 7 := by decide
  rw [h2, Nat.or_comm, ← Nat.shiftLeft_add_eq_or_of_lt (by simpa using h)]
  simp only [Nat.shiftLeft_eq]
  exact IntWalk.u8_in _ (by omega)

theorem dg_toNat (n : Nat) : (dg n).toNat = 128 + n % 128 := ofNat_u8 _ (by omega)
theorem ds_toNat {n : Nat} (h : n < 128) : (ds n).toNat = n := ofNat_u8 _ (by omega)

theorem digit_of (n : Nat) (h : n < 9223372036854775808) : bits .or .u8 (bits .and .i64 (n : Int) 127 % 256) 128 = ((dg n).toNat : Int) := by
  have e : ((n % 128 : Nat) : Int) % 256 = ((n % 128 : Nat) : Int) := by omega
  rw [bits_and_i64_127 n h, e, bits_or_u8_128 _ (Nat.mod_lt _ (by decide)), dg_toNat]

end Go.Proofs.Ytaejhkjigppelaa
