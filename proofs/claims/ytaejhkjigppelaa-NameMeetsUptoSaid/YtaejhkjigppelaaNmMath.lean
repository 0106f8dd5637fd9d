/- Sorted and compacted: the set; what a search in a set comes to. Plain words, nothing of the program's text. -/
import Derived.Test.YtaejhkjigppelaaNmIsSet
import Derived.Lib.SlicesCompact
import Derived.Shelf.Spec.SearchS
namespace Go.Proofs.Ytaejhkjigppelaa
open Go.RowKit

theorem ltS_eq : ∀ (x y : List UInt8), ltS x y = decide (x < y)
  | [], [] => by simp [ltS_nil]
  | _ :: _, [] => by simp [ltS_nil]
  | [], _ :: _ => by simp [ltS_nil_cons]
  | x :: xs, y :: ys => by
    rw [ltS_cons, ltS_eq xs ys]
    by_cases h : x < y
    · simp [h, List.cons_lt_cons_iff]
    · by_cases e : x = y
      · subst e; simp [List.cons_lt_cons_iff]
      · simp [h, e, List.cons_lt_cons_iff]

theorem le_ltS (x y : List UInt8) : decide (x ≤ y) = !ltS y x := by
  rw [ltS_eq]
  by_cases h : y < x
  · simp [h]
  · simp [h, List.not_lt.1 h]

/-- In order, some more than once. -/
def sortS (l : List (List UInt8)) : List (List UInt8) := l.mergeSort fun x y => decide (x ≤ y)
theorem sortS_length (l : List (List UInt8)) : (sortS l).length = l.length := List.length_mergeSort l
theorem sortS_mem (l : List (List UInt8)) (x : List UInt8) : x ∈ sortS l ↔ x ∈ l := (List.mergeSort_perm l _).mem_iff
theorem sortS_sorted (l : List (List UInt8)) : (sortS l).Pairwise fun x y => ltS y x = false := by
  have h : (sortS l).Pairwise fun x y => decide (x ≤ y) = true := by
    refine List.pairwise_mergeSort (fun a b c h1 h2 => ?_) (fun a b => ?_) l
    · rw [le_ltS] at *
      simp only [Bool.not_eq_true'] at *
      cases hx : ltS c a with
      | false => rfl
      | true =>
        rcases ltS_tri a b with k | k | k
        · have := ltS_trans _ _ _ hx k; rw [h2] at this; cases this
        · subst k; rw [hx] at h2; cases h2
        · rw [k] at h1; cases h1
    · rw [le_ltS, le_ltS]
      cases h1 : ltS b a with
      | false => rfl
      | true =>
        cases h2 : ltS a b with
        | false => rfl
        | true => have := ltS_trans _ _ _ h1 h2; rw [ltS_irrefl] at this; cases this
  exact h.imp fun {a b} k => by rw [le_ltS] at k; simpa using k

/-- What is kept, so far. -/
theorem compact_inv (d : List (List UInt8)) (hs : d.Pairwise fun x y => ltS y x = false) : ∀ m, m ≤ d.length →
    Rising (Lib.compactUpTo d.toArray m) ∧ (∀ y, y ∈ Lib.compactUpTo d.toArray m ↔ y ∈ d.take m)
  | 0, _ => ⟨trivial, fun y => by simp [Lib.compactUpTo]⟩
  | m + 1, h => by
    obtain ⟨h1, h2⟩ := compact_inv d hs m (by omega)
    have hm : m < d.length := by omega
    have hg : d.toArray[m]! = d[m] := by simp [hm]
    rw [Lib.compactUpTo_succ, hg]
    by_cases h0 : m = 0
    · subst h0
      have : Lib.keeps d.toArray 0 = true := by simp [Lib.keeps]
      rw [this, if_pos rfl]
      have e : Lib.compactUpTo d.toArray 0 = [] := rfl
      rw [e]
      refine ⟨⟨(fun _ h => by cases h), trivial⟩, fun y => ?_⟩
      rw [List.take_succ_eq_append_getElem hm]
      simp
    · have hp : m - 1 < d.length := by omega
      have hg1 : d.toArray[m - 1]! = d[m - 1] := by simp [hp]
      have hle : ltS d[m] d[m - 1] = false := List.pairwise_iff_getElem.1 hs (m - 1) m hp hm (by omega)
      have hmem : d[m - 1] ∈ d.take m := List.mem_take_iff_getElem.2 ⟨m - 1, by omega, rfl⟩
      by_cases hk : Lib.keeps d.toArray m = true
      · rw [hk, if_pos rfl]
        have hne : d[m] ≠ d[m - 1] := by
          have : m = 0 ∨ d.toArray[m]! ≠ d.toArray[m - 1]! := by simpa [Lib.keeps] using hk
          rw [hg, hg1] at this
          exact this.resolve_left h0
        have hlt : ltS d[m - 1] d[m] = true := by
          rcases ltS_tri d[m - 1] d[m] with k | k | k
          · exact k
          · exact absurd k.symm hne
          · rw [hle] at k; cases k
        refine ⟨h1.snoc fun y hy => ?_, fun y => ?_⟩
        · obtain ⟨j, hj, rfl⟩ := List.mem_take_iff_getElem.1 ((h2 y).1 hy)
          by_cases hjm : j = m - 1
          · subst hjm; exact hlt
          · have hjl : ltS d[m - 1] d[j] = false := List.pairwise_iff_getElem.1 hs j (m - 1) (by omega) hp (by omega)
            rcases ltS_tri d[j] d[m - 1] with k | k | k
            · exact ltS_trans _ _ _ k hlt
            · rw [k]; exact hlt
            · rw [hjl] at k; cases k
        · rw [List.take_succ_eq_append_getElem hm]
          simp only [List.mem_append, h2 y]
      · have hk' : Lib.keeps d.toArray m = false := by simpa using hk
        rw [hk', if_neg (by simp), List.append_nil]
        have he : d[m] = d[m - 1] := by
          have : ¬ (m = 0 ∨ d.toArray[m]! ≠ d.toArray[m - 1]!) := by simpa [Lib.keeps] using hk'
          rw [hg, hg1] at this
          simp only [not_or, Decidable.not_not] at this
          exact this.2
        refine ⟨h1, fun y => ?_⟩
        rw [List.take_succ_eq_append_getElem hm, h2 y]
        simp only [List.mem_append, List.mem_singleton]
        exact ⟨.inl, fun k => k.elim id fun e => by rw [e, he]; exact hmem⟩

theorem compact_set (ls : List (List UInt8)) : SetOf ls (Lib.compact (sortS (ls.filter isName))) := by
  obtain ⟨h1, h2⟩ := compact_inv (sortS (ls.filter isName)) (sortS_sorted _) _ (Nat.le_refl _)
  refine ⟨h1, fun x => ?_⟩
  rw [List.take_of_length_le (Nat.le_refl _)] at h2
  rw [show Lib.compact (sortS (ls.filter isName)) = Lib.compactUpTo (sortS (ls.filter isName)).toArray (sortS (ls.filter isName)).length from rfl, h2 x, sortS_mem, List.mem_filter]

/-- How many are less. -/
def lessN (l : List (List UInt8)) (s : List UInt8) : Nat := (l.takeWhile fun x => ltS x s).length

theorem lessN_le (l : List (List UInt8)) (s : List UInt8) : lessN l s ≤ l.length := by
  induction l with
  | nil => simp [lessN]
  | cons x l ih =>
    simp only [lessN, List.takeWhile_cons]
    split
    · simp only [lessN] at ih; simp; omega
    · simp

theorem lessN_lt : ∀ (l : List (List UInt8)) (s : List UInt8) (t : Nat), t < lessN l s → ltS (l.getD t []) s = true
  | [], s, t, h => by simp [lessN] at h
  | x :: l, s, t, h => by
    simp only [lessN, List.takeWhile_cons] at h
    split at h
    · rename_i hx
      cases t with
      | zero => simpa using hx
      | succ t => simpa using lessN_lt l s t (by simpa [lessN] using h)
    · simp at h

theorem lessN_ge : ∀ (l : List (List UInt8)) (s : List UInt8) (t : Nat), Rising l → lessN l s ≤ t → t < l.length → ltS (l.getD t []) s = false
  | [], s, t, _, _, h => by simp at h
  | x :: l, s, t, hr, h, hl => by
    simp only [lessN, List.takeWhile_cons] at h
    split at h
    · cases t with
      | zero => simp at h
      | succ t => simpa using lessN_ge l s t hr.2 (by simpa [lessN] using h) (by simpa using hl)
    · rename_i hx
      have hx : ltS x s = false := by simpa using hx
      cases t with
      | zero => simpa using hx
      | succ t =>
        have hl' : t < l.length := by simpa using hl
        have e : (x :: l).getD (t + 1) [] = l[t] := by simp [List.getD, hl']
        rw [e]
        cases hk : ltS l[t] s with
        | false => rfl
        | true =>
          have := ltS_trans _ _ _ (hr.1 _ (List.getElem_mem hl')) hk
          rw [hx] at this; cases this

/-- Is the one behind those the one that is looked for? Just where it is in the set. -/
theorem lessN_has {l : List (List UInt8)} (s : List UInt8) (hr : Rising l) : (decide (lessN l s < l.length) && l.getD (lessN l s) [] == s) = hasS l s := by
  cases hh : hasS l s with
  | true =>
    have hm : s ∈ l := by simpa [hasS] using hh
    obtain ⟨j, hj, e⟩ := List.getElem_of_mem hm
    have ej : l.getD j [] = s := by simp [List.getD, hj, e]
    have h1 : ¬ j < lessN l s := fun k => by have := lessN_lt l s j k; rw [ej, ltS_irrefl] at this; cases this
    have h2 : ¬ lessN l s < j := fun k => by
      have h3 := lessN_ge l s (lessN l s) hr (Nat.le_refl _) (by omega)
      have e2 : l.getD (lessN l s) [] = l[lessN l s]'(by omega) := by simp [List.getD, show lessN l s < l.length by omega]
      have h4 := hr.lt (lessN l s) j hj k
      rw [e2] at h3
      rw [e, h3] at h4
      cases h4
    have h5 : lessN l s = j := by omega
    rw [h5, ej]
    simp [hj]
  | false =>
    have hm : ¬ s ∈ l := by simpa [hasS] using hh
    by_cases hl : lessN l s < l.length
    · have e2 : l.getD (lessN l s) [] = l[lessN l s] := by simp [List.getD, hl]
      rw [e2]
      have : l[lessN l s] ≠ s := fun e => hm (e ▸ List.getElem_mem hl)
      simp [this]
    · simp [hl]

theorem go_lessN (l : List (List UInt8)) (s : List UInt8) (hr : Rising l) :
    Lib.bsGo (fun t => ltS (l.getD t []) s) l.length 0 l.length = lessN l s := by
  have := Lib.bsGo_spec (fun t => decide (t < l.length) && ltS (l.getD t []) s) (lessN l s) (fun t ht => by have := lessN_le l s; have h := lessN_lt l s t ht; rw [h, decide_eq_true (show t < l.length by omega)]; rfl)
    (fun t ht => by
      by_cases hl : t < l.length
      · have := lessN_ge l s t hr ht hl
        rw [this, Bool.and_false]
      · simp [hl]) l.length 0 l.length (by omega) (Nat.zero_le _) (lessN_le l s)
  rw [← this]
  -- below the length the two tests say the same
  have gen : ∀ (f lo hi : Nat), hi ≤ l.length → Lib.bsGo (fun t => ltS (l.getD t []) s) f lo hi = Lib.bsGo (fun t => decide (t < l.length) && ltS (l.getD t []) s) f lo hi := by
    intro f
    induction f with
    | zero => intros; rfl
    | succ f ih =>
      intro lo hi hh
      unfold Lib.bsGo
      by_cases h : lo < hi
      · rw [if_pos h, if_pos h, ih _ _ hh, ih _ ((lo + hi) / 2) (by omega)]
        have : decide ((lo + hi) / 2 < l.length) = true := decide_eq_true (by omega)
        simp only [this, Bool.true_and]
      · rw [if_neg h, if_neg h]
  exact gen _ _ _ (Nat.le_refl _)

end Go.Proofs.Ytaejhkjigppelaa
