/- Texts that the proof leans on, in one: ChRev, ChOk. -/
import Derived.Test.YtjaplnainlbldaaUc8
import Derived.Test.YtjaplnainlbldaaUc36
import Derived.Sort.OwnSorted
import Derived.Test.YtjaplnainlbldaaUc10
/- slices.Reverse at steps, of a row of the call's own. -/
namespace Go.Proofs.Ytjaplnainlbldaa
open Go.RowKit Go.Sort Go.Lib Go.Shelf

instance stepInh : Inhabited StepB := ⟨⟨noCred, (([], []), [])⟩⟩

theorem flat_steps (ls : List StepB) : (flatK stepCells 12 ls.toArray).toList = stepRow ls := by
  apply List.ext_getElem?
  intro t
  have hs : ls.toArray.size = ls.length := by simp
  by_cases ht : t < ls.length * 12
  · have hj : t / 12 < ls.length := by omega
    have h1 := stepRow_get ls (t / 12) (t % 12) hj (Nat.mod_lt _ (by decide))
    rw [show t / 12 * 12 + t % 12 = t by omega] at h1
    rw [h1]
    have h2 := get_flatK stepCells 12 ls.toArray t (by rw [hs]; exact ht)
    have hsz : t < (flatK stepCells 12 ls.toArray).size := by rw [size_flatK, hs]; exact ht
    rw [getElem!_pos (flatK stepCells 12 ls.toArray) t hsz] at h2
    rw [Array.getElem?_toList, Array.getElem?_eq_getElem hsz, h2]
    rw [show ls.toArray[t / 12]! = ls[t / 12] by simp [hj]]
    have h12 : t % 12 < (stepCells ls[t / 12]).length := Nat.mod_lt _ (by decide)
    rw [List.getElem?_eq_getElem h12, getElem!_pos (stepCells ls[t / 12]) (t % 12) h12]
  · rw [List.getElem?_eq_none (by simp; omega), List.getElem?_eq_none (by rw [stepRow_len]; omega)]

theorem take_putSt (cur F : Array Value) (h : F.size ≤ cur.size) : (putCells id 0 F cur).toList.take F.size = F.toList := by
  apply List.ext_getElem?
  intro j
  by_cases hj : j < F.size
  · rw [List.getElem?_take_of_lt hj, Array.getElem?_toList]
    simp [putCells, hj, show j < cur.size by omega]
  · rw [List.getElem?_take_eq_none (by omega), List.getElem?_eq_none (by simp; omega)]

theorem ch_rev {B : Nat} {w : World} {ao : Option Addr} {cap : Nat} {ls : List StepB} (h : OwnSt B w (.slice ao ls.length cap) ls) (hl : ls.length ≤ 4194304) :
    Calls Try.prog 82 #[.slice ao ls.length cap] w fun e w' => e = .returned (.tuple #[]) ∧ OwnSt B w' (.slice ao ls.length cap) ls.reverse ∧ Chg (fun i => (Value.slice ao ls.length cap).ownBlock = some i) w w' := by
  have hall := h
  rcases h.2 with ⟨he, h0⟩ | ⟨g, cap', cur, he, hg, hh, h1, h2, h3, h4⟩
  · have : ls = [] := List.eq_nil_of_length_eq_zero h0
    subst this
    cases he
    have hcon := AnyQ.slices_Reverse_empty Try.revSt none 0 w
    change Calls Try.prog 82 _ _ _ at hcon
    refine hcon.mono ?_
    rintro e w' ⟨rfl, rfl⟩
    exact ⟨rfl, hall, Chg.refl _ _⟩
  · cases he
    have hs : ls.toArray.size = ls.length := by simp
    have hF := flat_steps ls
    have hFs : (flatK stepCells 12 ls.toArray).size = ls.length * 12 := by rw [size_flatK, hs]
    have hH : HoldsK stepCells 12 w g 0 ls.toArray := by
      intro t ht
      refine ⟨?_, by simp [World.frozen?, hh]⟩
      have h5 := hall.cells (g := g) rfl t (flatK stepCells 12 ls.toArray)[t]! (by rw [← hF, Array.getElem?_toList, Array.getElem?_eq_getElem ht, getElem!_pos (flatK stepCells 12 ls.toArray) t ht])
      rw [add_off, Nat.zero_add] at h5
      rw [Nat.zero_add, h5]
      rfl
    have hcon := AnyQ.slices_Reverse Try.revSt 12 Try.isAgg43 Try.sizeOf43 stepCells (fun _ => rfl) (fun x v hv => step_one x v hv) g 0 cap ls.toArray w hH (by rw [hs]; omega)
    change Calls Try.prog 82 _ _ _ at hcon
    rw [hs] at hcon
    refine hcon.mono ?_
    rintro e w' ⟨rfl, n, rfl⟩
    have hrev : ls.toArray.reverse = ls.reverse.toArray := by simp
    have hb : (putRowK stepCells 12 (Sort.ahead w n) g 0 ls.toArray.reverse).heap[g]? = some (.cells (putCells id 0 (flatK stepCells 12 ls.toArray.reverse) cur) 43 (0, 0)) := by
      simp [putRowK, putRow, mapBlock, Sort.ahead, Array.getElem?_modify, hh, onCells]
    refine ⟨rfl, ⟨by rw [stepRow_len, List.length_reverse], .inr ⟨g, cap, _, by rw [List.length_reverse], hg, hb, by rw [List.length_reverse]; exact h1, h2, by simp [putCells, h3], ?_⟩⟩, ⟨rfl, rfl, rfl, by simp [putRowK, putRow, mapBlock, Sort.ahead], fun k hk hkn => ?_⟩⟩
    · rw [hrev]
      have e1 : (flatK stepCells 12 ls.reverse.toArray).size = ls.reverse.length * 12 := by rw [size_flatK]; simp
      rw [← e1, take_putSt _ _ (by rw [e1, h3, List.length_reverse]; exact Nat.mul_le_mul_right 12 h1)]
      exact flat_steps ls.reverse
    · have : g ≠ k := fun e => hkn (by rw [← e]; rfl)
      simp [putRowK, putRow, mapBlock, Sort.ahead, Array.getElem?_modify, this]
end Go.Proofs.Ytjaplnainlbldaa

/- What is kept is a tight chain: plain words, nothing of the program's text. -/
namespace Go.Proofs.Ytjaplnainlbldaa
open Go.RowKit

theorem getD_lt {S : List StepB} {i : Nat} (h : i < S.length) : S.getD i noStC = S[i] := by rw [List.getD_eq_getElem?_getD, List.getElem?_eq_getElem h]; rfl

end Go.Proofs.Ytjaplnainlbldaa
