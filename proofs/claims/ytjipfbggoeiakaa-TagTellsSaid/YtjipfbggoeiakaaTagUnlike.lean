/- One unlike byte makes another tag: plain arithmetic, nothing of the program's text. -/
import Derived.Test.YtjipfbggoeiakaaTagMath
namespace Go.Proofs.Ytjipfbggoeiakaa
open Go.RowKit

/-- A product with an inverse, behind names: no great numeral is unfolded here. -/
theorem mul_mod_inj (m p q c a b : Nat) (hpq : p * q = m * c + 1) (ha : a < m) (hb : b < m) (h : a * p % m = b * p % m) : a = b := by
  have key : ∀ x, x < m → x * p % m * q % m = x := by
    intro x hx
    have e : x * p * q = x + x * c * m := by
      rw [Nat.mul_assoc, hpq, Nat.mul_add, Nat.mul_one, Nat.mul_comm m c, ← Nat.mul_assoc, Nat.add_comm]
    rw [Nat.mod_mul_mod, e, Nat.add_mul_mod_self_right, Nat.mod_eq_of_lt hx]
  rw [← key a ha, ← key b hb, h]

def fnvInv : Nat := 14886173955864302971
theorem fnv_inv : fnvPrime * fnvInv = two64 * 887285111055 + 1 := by decide +kernel

theorem xor_inj_left (a b c : Nat) (h : a ^^^ c = b ^^^ c) : a = b := by
  have := congrArg (· ^^^ c) h
  simpa [Nat.xor_assoc] using this
theorem xor_inj_right (a b c : Nat) (h : c ^^^ a = c ^^^ b) : a = b := by
  rw [Nat.xor_comm c a, Nat.xor_comm c b] at h
  exact xor_inj_left a b c h

theorem step_lt (h : Nat) (x : UInt8) (hh : h < two64) : h ^^^ x.toNat < two64 := by
  have hx := UInt8.toNat_lt x
  have e : two64 = 2 ^ 64 := by decide +kernel
  rw [e] at hh ⊢
  exact Nat.xor_lt_two_pow hh (by omega)

theorem fnvStep_eq (h h' : Nat) (x x' : UInt8) (hh : h < two64) (hh' : h' < two64) (e : fnvStep h x = fnvStep h' x') : h ^^^ x.toNat = h' ^^^ x'.toNat :=
  mul_mod_inj two64 fnvPrime fnvInv _ _ _ fnv_inv (step_lt h x hh) (step_lt h' x' hh') e

theorem foldl_inj {α β : Type} (f : α → β → α) (p : α → Prop) (hf : ∀ a b, p (f a b)) (hi : ∀ a b x, p a → p b → f a x = f b x → a = b) (l : List β) : ∀ a b, p a → p b → l.foldl f a = l.foldl f b → a = b := by
  induction l with
  | nil => intro a b _ _ h; exact h
  | cons x l ih => intro a b ha hb h; exact hi a b x ha hb (ih _ _ (hf a x) (hf b x) h)

theorem fnv_inj (l : List UInt8) (a b : Nat) (ha : a < two64) (hb : b < two64) (h : fnv a l = fnv b l) : a = b :=
  foldl_inj fnvStep (· < two64) fnvStep_lt (fun a b x ha hb e => xor_inj_left _ _ _ (fnvStep_eq a b x x ha hb e)) l a b ha hb h

theorem fnvBasis_lt : fnvBasis < two64 := by decide +kernel

theorem fnv_one (h : Nat) (x : UInt8) : fnv h [x] = fnvStep h x := by
  have := fnv_take h [x] 0 (by simp)
  exact this

theorem sum_unlike (a c : List UInt8) (x y : UInt8) (h : sumOf (a ++ ([x] ++ c)) = sumOf (a ++ ([y] ++ c))) : x = y := by
  unfold sumOf at h
  rw [fnv_append, fnv_append, fnv_append, fnv_append, fnv_one, fnv_one] at h
  have h1 := fnv_inj c _ _ (fnvStep_lt _ _) (fnvStep_lt _ _) h
  have hl := fnv_lt a fnvBasis fnvBasis_lt
  have h2 := fnvStep_eq _ _ _ _ hl hl h1
  exact UInt8.toNat_inj.1 (xor_inj_right _ _ _ h2)

theorem ofNat_u8_inj (a b : Nat) (ha : a < 256) (hb : b < 256) (h : UInt8.ofNat a = UInt8.ofNat b) : a = b := by
  have := congrArg UInt8.toNat h
  rw [UInt8.toNat_ofNat', UInt8.toNat_ofNat', Nat.mod_eq_of_lt ha, Nat.mod_eq_of_lt hb] at this
  exact this

theorem bytes8_inj (n m : Nat) (hn : n < 2 ^ 64) (hm : m < 2 ^ 64) (h : bytes8 n = bytes8 m) : n = m := by
  have each : ∀ k, k < 8 → n / 2 ^ (8 * k) % 256 = m / 2 ^ (8 * k) % 256 := by
    intro k hk
    have := congrArg (fun l : List UInt8 => l[7 - k]?) h
    simp only [bytes8, List.getElem?_map, List.getElem?_range (show 7 - k < 8 by omega), Option.map_some, Option.some.injEq] at this
    rw [show 7 - (7 - k) = k from by omega] at this
    exact ofNat_u8_inj _ _ (Nat.mod_lt _ (by omega)) (Nat.mod_lt _ (by omega)) this
  have down : ∀ j, j ≤ 8 → n / 2 ^ (8 * (8 - j)) = m / 2 ^ (8 * (8 - j)) := by
    intro j
    induction j with
    | zero => intro _; rw [Nat.div_eq_of_lt hn, Nat.div_eq_of_lt hm]
    | succ j ih =>
      intro hj
      have h1 := ih (by omega)
      have h2 := each (8 - (j + 1)) (by omega)
      have e : 8 * (8 - j) = 8 * (8 - (j + 1)) + 8 := by omega
      rw [e, Nat.pow_add, ← Nat.div_div_eq_div_mul, ← Nat.div_div_eq_div_mul] at h1
      generalize n / 2 ^ (8 * (8 - (j + 1))) = a at *
      generalize m / 2 ^ (8 * (8 - (j + 1))) = b at *
      omega
  simpa using down 8 (Nat.le_refl _)

theorem tagSum_lt2 (key b : List UInt8) : tagSum key b < 2 ^ 64 := by
  have := tagSum_lt key b
  omega

/-- A tag of bytes with one unlike byte is another. -/
theorem tag_unlike (key b : List UInt8) (i : Nat) (hi : i < b.length) (y : UInt8) (hy : y ≠ b[i]) : tagOf key (b.set i y) ≠ tagOf key b := by
  intro h
  have h1 := bytes8_inj _ _ (tagSum_lt2 _ _) (tagSum_lt2 _ _) h
  have e1 : b = b.take i ++ ([b[i]] ++ b.drop (i + 1)) := by
    rw [List.singleton_append, ← List.drop_eq_getElem_cons hi, List.take_append_drop]
  have e2 : b.set i y = b.take i ++ ([y] ++ b.drop (i + 1)) := by
    rw [List.set_eq_take_append_cons_drop, if_pos hi, List.singleton_append]
  have h3 : tagSum key (b.take i ++ ([y] ++ b.drop (i + 1))) = tagSum key (b.take i ++ ([b[i]] ++ b.drop (i + 1))) := by
    rw [← e1, ← e2]
    exact h1
  unfold tagSum at h3
  obtain ⟨x, hx⟩ : ∃ x, x = b[i] := ⟨_, rfl⟩
  rw [← hx] at h3 hy
  have h2 := sum_unlike ([UInt8.ofNat key.length] ++ key ++ b.take i) (b.drop (i + 1) ++ key) y x (by
    simpa [List.append_assoc] using h3)
  exact hy h2

theorem bits_xor_u8 (a b : Nat) (ha : a < 256) (hb : b < 256) : bits .xor .u8 (a : Int) (b : Int) = ((a ^^^ b : Nat) : Int) := by
  have h1 : (BitVec.ofInt 8 (a : Int)).toNat = a := by
    rw [BitVec.ofInt_natCast, BitVec.toNat_ofNat]; exact Nat.mod_eq_of_lt (by omega)
  have h2 : (BitVec.ofInt 8 (b : Int)).toNat = b := by
    rw [BitVec.ofInt_natCast, BitVec.toNat_ofNat]; exact Nat.mod_eq_of_lt (by omega)
  have hx : a ^^^ b < 2 ^ 8 := Nat.xor_lt_two_pow (by omega) (by omega)
  show IntKind.u8.wrap ((BitVec.ofInt 8 (a : Int) ^^^ BitVec.ofInt 8 (b : Int)).toNat : Int) = _
  rw [BitVec.toNat_xor, h1, h2]
  exact IntWalk.u8_in _ (by omega)

/-- A byte laid over by a number that isn't nought. -/
theorem xor_byte (x : UInt8) (d : Nat) (h0 : 0 < d) (h1 : d < 256) : ∃ y : UInt8, y ≠ x ∧ bits .xor .u8 (x.toNat : Int) (d : Int) = (y.toNat : Int) := by
  have hx := UInt8.toNat_lt x
  have hy : x.toNat ^^^ d < 2 ^ 8 := Nat.xor_lt_two_pow (by omega) (by omega)
  refine ⟨UInt8.ofNat (x.toNat ^^^ d), fun h => ?_, ?_⟩
  · have h2 := congrArg UInt8.toNat h
    rw [UInt8.toNat_ofNat', Nat.mod_eq_of_lt hy] at h2
    have : d = 0 := by
      have h3 := congrArg (x.toNat ^^^ ·) h2
      simpa [← Nat.xor_assoc] using h3
    omega
  · rw [bits_xor_u8 _ _ (by omega) h1, UInt8.toNat_ofNat', Nat.mod_eq_of_lt hy]

theorem list_unlike (t : List UInt8) (i : Nat) (hi : i < t.length) (y : UInt8) (hy : y ≠ t[i]) : t ≠ t.set i y := by
  intro h
  have := congrArg (fun l : List UInt8 => l[i]?) h
  simp [hi] at this
  exact hy this.symm

end Go.Proofs.Ytjipfbggoeiakaa
