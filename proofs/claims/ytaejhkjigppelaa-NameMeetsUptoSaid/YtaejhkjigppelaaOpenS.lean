/- Lists of texts that came in, opened; how much they hold. -/
import Derived.Test.YtaejhkjigppelaaOpenB
import Derived.Test.YtaejhkjigppelaaStrs
import Derived.SliceStrings
namespace Go.Proofs.Ytaejhkjigppelaa
open Go.ChangeShapes Go.WideShapes Go.ChangeAt Go.RowKit Go.Deep

/-- Texts and bytes, all together. -/
def totalS : List (List UInt8) → Nat
  | [] => 0
  | x :: l => 1 + x.length + totalS l

theorem totalS_append (a b : List (List UInt8)) : totalS (a ++ b) = totalS a + totalS b := by
  induction a with
  | nil => simp [totalS]
  | cons x a ih => simp only [List.cons_append, totalS, ih]; omega

theorem totalS_len (a : List (List UInt8)) : a.length ≤ totalS a := by
  induction a with
  | nil => exact Nat.zero_le _
  | cons x a ih => simp only [List.length_cons, totalS]; omega

theorem totalS_mem {a : List (List UInt8)} {x : List UInt8} (h : x ∈ a) : x.length ≤ totalS a := by
  induction a with
  | nil => cases h
  | cons y a ih =>
    simp only [totalS]
    rcases List.mem_cons.1 h with rfl | h
    · omega
    · have := ih h; omega

section
variable {H : Type} {enc : TypeId × Value → H} {w : World} {base : Nat} {held : Bool} {fuel : Nat}

theorem bulk_strs (ss : List ByteArray) : totalS (ss.map fun s => s.data.toList) ≤ Rows.uptoBulkAll (strs (H := H) ss) := by
  induction ss with
  | nil => exact Nat.zero_le _
  | cons s ss ih =>
    simp only [strs, List.map_cons, totalS, Rows.uptoBulkAll, Rows.uptoBulk] at ih ⊢
    omega

theorem open_strsAt {cs : List Value} {x : DataW H × List MemPlace} (h : DataW.trod enc Try.prog w base (fun _ => true) held fuel 60 cs = some x) :
    ∃ (ao : Option Addr) (cap : Nat) (ls : List (List UInt8)), cs = [.slice ao ls.length cap] ∧ ls.length ≤ 9223372036854775807 ∧ StrsAt (fun k => k < w.heap.size) w ao ls ∧ totalS ls ≤ Rows.uptoBulk x.1 := by
  rcases open_strings Try.underlying60 Try.underlying9 (by kernel_rfl) h with ⟨rfl, rfl⟩ | ⟨a, len, cap, ss, rfl, _, hl, hm, hss, rfl, hcell, hsz⟩
  · exact ⟨none, 0, [], rfl, by simp, StrsAt.nil _ _ _, Nat.zero_le _⟩
  · simp only [if_true] at hss
    have hlen : ((ss.take len).map fun s => s.data.toList).length = len := by simp; omega
    refine ⟨some a, cap, (ss.take len).map fun s => s.data.toList, by rw [hlen], by rw [hlen]; unfold maxLen at hm; omega, fun i hi => ?_, ?_⟩
    · rw [hlen] at hi
      have h0 := hcell 0 (by omega)
      rw [add_zero] at h0
      have ha := spot_none h0
      have h1 := hcell i (by omega)
      have hget : ss.getD i ByteArray.empty = ss[i]'(by omega) := by simp [List.getD, show i < ss.length by omega]
      rw [ha, add_off, hget] at h1
      have h2 := hsz _ (List.getElem_mem (show i < ss.length by omega))
      unfold maxLen at h2
      refine ⟨a.block, a.off, congrArg some ha, World.block_lt_of_cell? w _ h0, ?_, ?_⟩
      · rw [h1]
        simp
      · simp
        exact h2
    · have := bulk_strs (H := H) (ss.take len)
      simp only [Rows.uptoBulk]
      omega
end

end Go.Proofs.Ytaejhkjigppelaa
