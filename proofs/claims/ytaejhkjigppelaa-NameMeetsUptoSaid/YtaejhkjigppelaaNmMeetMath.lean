/- Sets that meet, the same both ways; a name that is put is got: plain words. -/
import Derived.Test.YtaejhkjigppelaaNmBoth
import Derived.Test.YtaejhkjigppelaaNmRead
import Derived.Test.YtaejhkjigppelaaBackNum
namespace Go.Proofs.Ytaejhkjigppelaa
open Go.RowKit

theorem Rising.filter {p : List UInt8 → Bool} : ∀ {l : List (List UInt8)}, Rising l → Rising (l.filter p)
  | [], _ => trivial
  | x :: l, h => by
    rw [List.filter_cons]
    split
    · exact ⟨fun y hy => h.1 y (List.mem_filter.1 hy).1, h.2.filter⟩
    · exact h.2.filter

theorem setB_of_set {ls u : List (List UInt8)} (h : SetOf ls u) : isSetB u = true := isSetB_of u h.1 fun x hx => ((h.2 x).1 hx).2

theorem setB_both {la x : List (List UInt8)} (lb : List (List UInt8)) (h : SetOf la x) : isSetB (bothS x lb) = true :=
  isSetB_of _ h.1.filter fun y hy => ((h.2 y).1 (List.mem_filter.1 hy).1).2

theorem set_comm {la lb u : List (List UInt8)} (h : SetOf (la ++ lb) u) : SetOf (lb ++ la) u :=
  ⟨h.1, fun x => by rw [h.2 x]; simp only [List.mem_append]; exact ⟨fun ⟨a, b⟩ => ⟨a.symm, b⟩, fun ⟨a, b⟩ => ⟨a.symm, b⟩⟩⟩

theorem hasS_iff (l : List (List UInt8)) (s : List UInt8) : hasS l s = true ↔ s ∈ l := by simp [hasS]

theorem both_mem {la x : List (List UInt8)} (lb : List (List UInt8)) (h : SetOf la x) (s : List UInt8) : s ∈ bothS x lb ↔ s ∈ la ∧ isName s = true ∧ s ∈ lb := by
  unfold bothS
  rw [List.mem_filter, h.2 s, hasS_iff]
  exact ⟨fun ⟨⟨a, b⟩, c⟩ => ⟨a, b, c⟩, fun ⟨a, b, c⟩ => ⟨⟨a, b⟩, c⟩⟩

theorem both_comm {la lb x y : List (List UInt8)} (hx : SetOf la x) (hy : SetOf lb y) : bothS y la = bothS x lb :=
  hy.1.filter.ext hx.1.filter fun s => by
    have h1 := both_mem la hy s
    have h2 := both_mem lb hx s
    exact h1.trans (Iff.trans ⟨fun ⟨a, b, c⟩ => ⟨c, b, a⟩, fun ⟨a, b, c⟩ => ⟨c, b, a⟩⟩ h2.symm)

theorem withinB_iff (a b : List (List UInt8)) : withinB a b = true ↔ ∀ s ∈ a, isName s = true → s ∈ b := by
  simp only [withinB, List.all_eq_true, Bool.or_eq_true, Bool.not_eq_true', hasS_iff]
  constructor
  · intro h s hs hn
    rcases h s hs with k | k
    · rw [hn] at k; cases k
    · exact k
  · intro h s hs
    cases hn : isName s with
    | false => exact .inl rfl
    | true => exact .inr (h s hs hn)

theorem within_both {la x : List (List UInt8)} (lb : List (List UInt8)) (h : SetOf la x) : withinB (bothS x lb) la = true :=
  (withinB_iff _ _).2 fun s hs _ => ((both_mem lb h s).1 hs).1
theorem within_left {la lb u : List (List UInt8)} (h : SetOf (la ++ lb) u) : withinB la u = true :=
  (withinB_iff _ _).2 fun s hs hn => (h.2 s).2 ⟨List.mem_append_left _ hs, hn⟩
theorem within_right {la lb u : List (List UInt8)} (h : SetOf (la ++ lb) u) : withinB lb u = true :=
  (withinB_iff _ _).2 fun s hs hn => (h.2 s).2 ⟨List.mem_append_right _ hs, hn⟩

theorem has_meets {la x : List (List UInt8)} (lb : List (List UInt8)) (h : SetOf la x) (s : List UInt8) : hasN (bothS x lb) s = (hasN la s && hasN lb s) := by
  rw [Bool.eq_iff_iff]
  simp only [hasN, Bool.and_eq_true, hasS_iff, both_mem lb h s]
  exact ⟨fun ⟨a, b, _, d⟩ => ⟨⟨a, b⟩, a, d⟩, fun ⟨⟨a, b⟩, _, d⟩ => ⟨a, b, a, d⟩⟩

/-- What is put is got. -/
theorem put_got {s : List UInt8} (hn : isName s = true) : nameErr (enc s.length ++ s) = 0 ∧ nameGot (enc s.length ++ s) [] = s := by
  have hl := name_len hn
  have hN := numN_enc9 (m := s.length) (by omega) s
  have h1 : errText (enc s.length ++ s) 16 = 0 := by
    unfold errText
    rw [hN]
    simp only [if_true, List.length_append]
    rw [if_neg (by omega), if_neg (by omega)]
  have h2 : nameOf (enc s.length ++ s) = s := by
    unfold nameOf
    rw [hN]
    simp
  have h3 : nameRest (enc s.length ++ s) = [] := by
    unfold nameRest
    rw [hN]
    exact List.drop_eq_nil_of_le (by simp)
  have hok : nameOk (enc s.length ++ s) = true := by rw [nameOk, decide_eq_true h1, h2, hn]; rfl
  refine ⟨?_, by rw [nameGot, if_pos hok, h2]⟩
  rw [nameErr, if_pos hok, h3]
  rfl
end Go.Proofs.Ytaejhkjigppelaa
