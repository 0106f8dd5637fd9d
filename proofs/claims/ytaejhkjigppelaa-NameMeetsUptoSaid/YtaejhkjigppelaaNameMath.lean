/- Names, and sets of them: plain words, nothing of the program's text. -/
import Derived.Test.YtaejhkjigppelaaMem
namespace Go.Proofs.Ytaejhkjigppelaa
open Go.RowKit

/-- A sign of a name. -/
def okByte (c : UInt8) : Bool := (decide (97 ≤ c.toNat) && decide (c.toNat ≤ 122)) || (decide (48 ≤ c.toNat) && decide (c.toNat ≤ 57)) || decide (c.toNat = 45)
def okFirst (c : UInt8) : Bool := decide (97 ≤ c.toNat) && decide (c.toNat ≤ 122)
/-- A name. -/
def isName : List UInt8 → Bool
  | [] => false
  | c :: l => okFirst c && decide (l.length < 16) && (c :: l).all okByte

theorem okByte_yes {c : UInt8} (h : okByte c = true) : (97 ≤ c.toNat ∧ c.toNat ≤ 122) ∨ (48 ≤ c.toNat ∧ c.toNat ≤ 57) ∨ c.toNat = 45 := by
  simp only [okByte, Bool.or_eq_true, Bool.and_eq_true, decide_eq_true_eq] at h
  omega
theorem okByte_no {c : UInt8} (h : okByte c = false) : (c.toNat < 48 ∧ c.toNat ≠ 45) ∨ (57 < c.toNat ∧ c.toNat < 97) ∨ 122 < c.toNat := by
  simp only [okByte, Bool.or_eq_false_iff, Bool.and_eq_false_iff, decide_eq_false_iff_not] at h
  omega

theorem isName_long {l : List UInt8} (h : 16 < l.length) : isName l = false := by
  cases l with
  | nil => rfl
  | cons c l =>
    have : decide (l.length < 16) = false := by simp at h ⊢; omega
    simp [isName, this]

theorem isName_first {l : List UInt8} (h0 : 0 < l.length) (h : okFirst l[0] = false) : isName l = false := by
  cases l with
  | nil => simp at h0
  | cons c l => simp at h; simp [isName, h]

theorem isName_all {l : List UInt8} (h0 : 0 < l.length) (h : okFirst l[0] = true) (h1 : l.length ≤ 16) : isName l = l.all okByte := by
  cases l with
  | nil => simp at h0
  | cons c l =>
    have h2 : decide (l.length < 16) = true := by simp at h1 ⊢; omega
    simp only [List.getElem_cons_zero] at h
    simp only [isName, h, h2, Bool.true_and]

theorem isName_len {l : List UInt8} (h : isName l = true) : 0 < l.length ∧ l.length ≤ 16 := by
  cases l with
  | nil => cases h
  | cons c l =>
    simp only [isName, Bool.and_eq_true, decide_eq_true_eq] at h
    simp
    omega

theorem all_take_succ (l : List UInt8) (k : Nat) (h : k < l.length) (ha : (l.take k).all okByte = true) : (l.take (k + 1)).all okByte = okByte l[k] := by
  rw [List.take_succ_eq_append_getElem h, List.all_append, ha]
  simp

theorem all_of_bad (l : List UInt8) (k : Nat) (h : k < l.length) (hb : okByte l[k] = false) : l.all okByte = false := by
  rw [List.all_eq_false]
  exact ⟨l[k], List.getElem_mem h, by simp [hb]⟩

end Go.Proofs.Ytaejhkjigppelaa
