/- Plain arithmetic of layer 2's sums and tags: nothing of the program's text. -/
import Derived.WalkKit
namespace Go.Proofs.Ytjipfbggoeiakaa
open Go.RowKit

def two64 : Nat := 18446744073709551616
def fnvPrime : Nat := 1099511628211
def fnvBasis : Nat := 14695981039346656037
/-- The sum behind one byte more. -/
def fnvStep (h : Nat) (x : UInt8) : Nat := (h ^^^ x.toNat) * fnvPrime % two64
def fnv (h : Nat) (l : List UInt8) : Nat := l.foldl fnvStep h
/-- The sum of bytes. -/
def sumOf (l : List UInt8) : Nat := fnv fnvBasis l

theorem foldl_snoc' {α β : Type} (f : α → β → α) (h : α) (a : List β) (x : β) : (a ++ [x]).foldl f h = f (a.foldl f h) x := by simp
theorem foldl_take' {α β : Type} (f : α → β → α) (h : α) (l : List β) (k : Nat) (hk : k < l.length) : (l.take (k + 1)).foldl f h = f ((l.take k).foldl f h) l[k] := by
  rw [List.take_succ_eq_append_getElem hk, foldl_snoc']
theorem foldl_all {α β : Type} (f : α → β → α) (p : α → Prop) (hf : ∀ a b, p (f a b)) (l : List β) : ∀ h, p h → p (l.foldl f h) := by
  induction l with
  | nil => intro h hh; exact hh
  | cons x l ih => intro h _; exact ih _ (hf h x)
theorem fnv_nil (h : Nat) : fnv h [] = h := List.foldl_nil
theorem fnv_append (h : Nat) (a b : List UInt8) : fnv h (a ++ b) = fnv (fnv h a) b := List.foldl_append
theorem fnv_take (h : Nat) (l : List UInt8) (k : Nat) (hk : k < l.length) : fnv h (l.take (k + 1)) = fnvStep (fnv h (l.take k)) l[k] := foldl_take' fnvStep h l k hk

theorem two64_pos : 0 < two64 := by unfold two64; omega
theorem fnvStep_lt (h : Nat) (x : UInt8) : fnvStep h x < two64 := by unfold fnvStep; exact Nat.mod_lt _ two64_pos
theorem fnv_lt (l : List UInt8) (h : Nat) (hh : h < two64) : fnv h l < two64 := foldl_all fnvStep (· < two64) fnvStep_lt l h hh
theorem sumOf_lt (l : List UInt8) : sumOf l < two64 := fnv_lt l _ (by unfold fnvBasis two64; omega)
theorem sumOf_lt' (l : List UInt8) : sumOf l < 18446744073709551616 := sumOf_lt l

theorem bits_xor_u64 (a b : Nat) (ha : a < two64) (hb : b < two64) : bits .xor .u64 (a : Int) (b : Int) = ((a ^^^ b : Nat) : Int) := by
  unfold two64 at ha hb
  have h1 : (BitVec.ofInt 64 (a : Int)).toNat = a := by
    rw [BitVec.ofInt_natCast, BitVec.toNat_ofNat]; exact Nat.mod_eq_of_lt (by omega)
  have h2 : (BitVec.ofInt 64 (b : Int)).toNat = b := by
    rw [BitVec.ofInt_natCast, BitVec.toNat_ofNat]; exact Nat.mod_eq_of_lt (by omega)
  have hx : a ^^^ b < 2 ^ 64 := Nat.xor_lt_two_pow (by omega) (by omega)
  show IntKind.u64.wrap ((BitVec.ofInt 64 (a : Int) ^^^ BitVec.ofInt 64 (b : Int)).toNat : Int) = _
  rw [BitVec.toNat_xor, h1, h2]
  simp [IntKind.wrap, IntKind.bits, IntKind.signed]
  omega

/-- One byte of a sum, as the code reckons it. -/
theorem fnvStep_of (h : Nat) (x : UInt8) (hh : h < two64) : bits .xor .u64 (h : Int) (x.toNat : Int) * 1099511628211 % 18446744073709551616 = ((fnvStep h x : Nat) : Int) := by
  have hx := UInt8.toNat_lt x
  rw [bits_xor_u64 h x.toNat hh (by unfold two64; omega)]
  unfold fnvStep fnvPrime two64
  generalize h ^^^ x.toNat = y
  omega

theorem fnvStep_walk (h : Nat) (x : UInt8) (hh : h < two64) : IntKind.u64.wrap (bits .xor .u64 (h : Int) (IntKind.u64.wrap (x.toNat : Int)) * 1099511628211) = ((fnvStep h x : Nat) : Int) := by
  have hx := UInt8.toNat_lt x
  have e1 : IntKind.u64.wrap (x.toNat : Int) = (x.toNat : Int) := IntWalk.u64_in _ (by omega)
  rw [e1, ← fnvStep_of h x hh]
  simp [IntKind.wrap, IntKind.bits, IntKind.signed]

/-- The eight bytes of a number, the greatest one first. -/
def bytes8 (h : Nat) : List UInt8 := (List.range 8).map fun i => UInt8.ofNat (h / 2 ^ (8 * (7 - i)) % 256)
/-- The tag of bytes with a key. -/
def tagSum (key b : List UInt8) : Nat := sumOf ([UInt8.ofNat key.length] ++ key ++ b ++ key)
theorem tagSum_lt (key b : List UInt8) : tagSum key b < 18446744073709551616 := sumOf_lt' _
def tagOf (key b : List UInt8) : List UInt8 := bytes8 (tagSum key b)

theorem byte8_int (n m : Nat) : ((n / 2 ^ m % 256 : Nat) : Int) = (n : Int) / 2 ^ m % 256 := by
  rw [Int.natCast_emod, Int.natCast_ediv, Int.natCast_pow]
  rfl
theorem bytes8_length (h : Nat) : (bytes8 h).length = 8 := by simp [bytes8]
theorem tagOf_length (key b : List UInt8) : (tagOf key b).length = 8 := bytes8_length _

end Go.Proofs.Ytjipfbggoeiakaa
