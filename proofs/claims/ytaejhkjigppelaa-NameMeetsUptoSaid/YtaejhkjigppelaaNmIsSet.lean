/- The contract of the program's IsSet. -/
import Derived.Test.YtaejhkjigppelaaNmRight
import Derived.Test.YtaejhkjigppelaaSetMath
namespace Go.Proofs.Ytaejhkjigppelaa
open Go.RowKit

/-- Is the i-th one right, and behind the one before it? -/
def stepS (ls : List (List UInt8)) (i : Nat) : Bool := isName (ls.getD i []) && (decide (i = 0) || ltS (ls.getD (i - 1) []) (ls.getD i []))
/-- Is it a set of names? -/
def isSetB (ls : List (List UInt8)) : Bool := (List.range ls.length).all (stepS ls)
def upTo (ls : List (List UInt8)) (k : Nat) : Bool := (List.range k).all (stepS ls)

theorem upTo_succ (ls : List (List UInt8)) (k : Nat) : upTo ls (k + 1) = (upTo ls k && stepS ls k) := by
  simp [upTo, List.range_succ]

theorem isSetB_bad (ls : List (List UInt8)) (k : Nat) (h : k < ls.length) (hb : stepS ls k = false) : isSetB ls = false := by
  rw [isSetB, List.all_eq_false]
  exact ⟨k, List.mem_range.2 h, by simp [hb]⟩

theorem isSetB_cons (x : List UInt8) (l : List (List UInt8)) (h : isSetB (x :: l) = true) : isSetB l = true ∧ isName x = true ∧ (∀ y ∈ l.head?, ltS x y = true) := by
  simp only [isSetB, List.all_eq_true, List.mem_range] at h
  refine ⟨?_, ?_, ?_⟩
  · simp only [isSetB, List.all_eq_true, List.mem_range]
    intro i hi
    have h1 := h (i + 1) (by simp; omega)
    simp only [stepS, List.getD_cons_succ, Bool.and_eq_true, Bool.or_eq_true, decide_eq_true_eq] at h1 ⊢
    refine ⟨h1.1, ?_⟩
    cases i with
    | zero => exact .inl rfl
    | succ j =>
      rcases h1.2 with h2 | h2
      · omega
      · exact .inr (by simpa using h2)
  · have h1 := h 0 (by simp)
    simp [stepS] at h1
    exact h1
  · intro y hy
    cases l with
    | nil => simp at hy
    | cons z l =>
      have h1 := h 1 (by simp)
      simp [stepS] at h1 hy
      rw [← hy]
      exact h1.2

theorem isSetB_rising : ∀ (ls : List (List UInt8)), isSetB ls = true → Rising ls ∧ ∀ x ∈ ls, isName x = true
  | [], _ => ⟨trivial, fun _ h => by cases h⟩
  | [x], h => ⟨⟨(fun _ h => by cases h), trivial⟩, fun y hy => by rw [List.mem_singleton.1 hy]; exact (isSetB_cons x [] h).2.1⟩
  | x :: z :: l, h => by
    obtain ⟨h1, h2, h3⟩ := isSetB_cons x (z :: l) h
    obtain ⟨h4, h5⟩ := isSetB_rising (z :: l) h1
    have hz := h3 z (by simp)
    refine ⟨⟨fun y hy => ?_, h4⟩, fun y hy => ?_⟩
    · rcases List.mem_cons.1 hy with rfl | k
      · exact hz
      · exact ltS_trans _ _ _ hz (h4.1 y k)
    · rcases List.mem_cons.1 hy with rfl | k
      · exact h2
      · exact h5 y k

theorem Rising.lt : ∀ {ls : List (List UInt8)}, Rising ls → ∀ (i j : Nat) (hj : j < ls.length) (hi : i < j), ltS (ls[i]'(Nat.lt_trans hi hj)) ls[j] = true
  | [], _, _, _, hj, _ => by simp at hj
  | x :: l, h, 0, j + 1, hj, _ => h.1 _ (by simp)
  | x :: l, h, i + 1, j + 1, hj, hi => h.2.lt i j (by simpa using hj) (by omega)

theorem isSetB_of (ls : List (List UInt8)) (h : Rising ls) (hn : ∀ x ∈ ls, isName x = true) : isSetB ls = true := by
  simp only [isSetB, List.all_eq_true, List.mem_range]
  intro i hi
  have e : ls.getD i [] = ls[i] := by simp [List.getD, hi]
  simp only [stepS, Bool.and_eq_true, Bool.or_eq_true, decide_eq_true_eq]
  refine ⟨by rw [e]; exact hn _ (List.getElem_mem hi), ?_⟩
  by_cases h0 : i = 0
  · exact .inl h0
  · have e1 : ls.getD (i - 1) [] = ls[i - 1]'(by omega) := by simp [List.getD, show i - 1 < ls.length by omega]
    exact .inr (by rw [e, e1]; exact h.lt (i - 1) i hi (by omega))

/-- A list is a set just where it is its own. -/
theorem isSetB_iff {ls s : List (List UInt8)} (h : SetOf ls s) : isSetB ls = sameS ls s := by
  cases hb : isSetB ls with
  | true =>
    obtain ⟨h1, h2⟩ := isSetB_rising ls hb
    have : ls = s := SetOf.one (ls := ls) ⟨h1, fun x => ⟨fun k => ⟨k, h2 x k⟩, fun k => k.1⟩⟩ h
    simp [sameS, ← this]
  | false =>
    cases hs : sameS ls s with
    | false => rfl
    | true =>
      have e : ls = s := by simpa [sameS] using hs
      have := isSetB_of ls (e ▸ h.1) (fun x hx => ((h.2 x).1 (e ▸ hx)).2)
      rw [hb] at this
      cases this

set_option maxRecDepth 100000 in
theorem isset_any {D : Nat → Prop} (ao : Option Addr) (cp : Nat) (ls : List (List UInt8)) (w : World) (hn : ls.length ≤ 9223372036854775807) (h : StrsAt D w ao ls) :
    Calls Try.prog 50 #[.slice ao ls.length cp] w fun e w' => e = .returned (.bool (isSetB ls)) ∧ w = w' := by
  go_enter Try.func50, Try.ntmps50
  go_wp2
  go_loop [7] (fun i => ∃ k : Nat, k ≤ ls.length ∧ i = .int .i64 k ∧ Hid (upTo ls k = true)) (fun i => ls.length - (intOf i).toNat)
  case atStart => exact ⟨0, Nat.zero_le _, rfl, rfl⟩
  case round =>
    obtain ⟨k, hk, rfl, hc⟩ := hrel
    by_cases hlt : k < ls.length
    · obtain ⟨b, off, rfl, _, c0, hsl⟩ := h k hlt
      have e : Hid (ls.getD k [] = ls[k]) := hid (by simp [List.getD, hlt])
      cases hnm : isName ls[k] with
      | false =>
        have hx : Hid (isSetB ls = false) := hid (isSetB_bad ls k hlt (by rw [stepS, e.out, hnm]; rfl))
        clear h
        generalize ls[k] = s at *
        go_wp2_with (go_at_call 46; refine (right_any s _ hsl).mono ?_; rintro e w' ⟨rfl, rfl⟩; rw [hnm])
        go_ret
        exact ⟨by rw [hx.out]; rfl, rfl⟩
      | true =>
        by_cases h0 : k = 0
        · have hx : Hid (upTo ls (k + 1) = true) := hid (by rw [upTo_succ, hc.out, stepS, e.out, hnm, show decide (k = 0) = true from decide_eq_true h0]; rfl)
          subst h0
          clear h
          rw [Nat.add_zero] at c0
          generalize ls[0] = s at *
          go_wp2_with (go_at_call 46; refine (right_any s _ hsl).mono ?_; rintro e w' ⟨rfl, rfl⟩; rw [hnm])
          go_round
          case rel => exact ⟨1, by omega, by go_num, hx⟩
          case measure => simp [intOf]; omega
        · obtain ⟨m, rfl⟩ : ∃ m, k = m + 1 := ⟨k - 1, by omega⟩
          obtain ⟨b', off', he, _, c1, hsl1⟩ := h m (by omega)
          cases he
          have e1 : Hid (ls.getD m [] = ls[m]) := hid (by simp [List.getD, show m < ls.length by omega])
          clear h h0
          have d0 : decide ((0 : Int) < (m : Int) + 1) = true := decide_eq_true (by omega)
          have d1 : ((m : Int) + 1 - 1) = (m : Int) := by omega
          have e0 : (0 : Int) ≤ (m : Int) := by omega
          have e2 : (m : Int) < (ls.length : Int) := by omega
          cases hl : ltS ls[m] ls[m + 1] with
          | true =>
            have hx : Hid (upTo ls (m + 1 + 1) = true) := hid (by rw [upTo_succ, hc.out]; simp only [stepS, e.out, hnm, Nat.add_sub_cancel, e1.out, hl]; simp)
            generalize ls[m] = r at *
            generalize ls[m + 1] = s at *
            have f0 : Op.bytesLess r s = true := hl
            go_wp2_with (go_at_call 46; refine (right_any s _ hsl).mono ?_; rintro e w' ⟨rfl, rfl⟩; rw [hnm])
            go_round
            case rel => exact ⟨m + 1 + 1, by omega, by go_num, hx⟩
            case measure => simp [intOf]; omega
          | false =>
            have hx : Hid (isSetB ls = false) := hid (isSetB_bad ls (m + 1) hlt (by simp only [stepS, e.out, hnm, Nat.add_sub_cancel, e1.out, hl]; simp))
            generalize ls[m] = r at *
            generalize ls[m + 1] = s at *
            have f0 : Op.bytesLess r s = false := hl
            go_wp2_with (go_at_call 46; refine (right_any s _ hsl).mono ?_; rintro e w' ⟨rfl, rfl⟩; rw [hnm])
            go_ret
            exact ⟨by rw [hx.out]; rfl, rfl⟩
    · have hk2 : k = ls.length := by omega
      subst hk2
      clear h
      have hx : Hid (isSetB ls = true) := hc
      go_wp2
      go_ret
      exact ⟨by rw [hx.out]; rfl, rfl⟩
end Go.Proofs.Ytaejhkjigppelaa
