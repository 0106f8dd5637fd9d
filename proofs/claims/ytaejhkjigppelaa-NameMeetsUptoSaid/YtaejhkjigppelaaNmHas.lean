/- The contracts of slices.Contains, of the search in a set, and of the program's Has. -/
import Derived.Test.YtaejhkjigppelaaNmMath
import Derived.Test.YtaejhkjigppelaaShelf
namespace Go.Proofs.Ytaejhkjigppelaa
open Go.RowKit

theorem contains_map (ls : List (List UInt8)) (s : List UInt8) : Lib.containsS (ls.map fun l => (⟨l.toArray⟩ : ByteArray)) ⟨s.toArray⟩ = hasS ls s := by
  have h : Lib.containsS (ls.map fun l => (⟨l.toArray⟩ : ByteArray)) ⟨s.toArray⟩ = true ↔ hasS ls s = true := by
    rw [Lib.containsS_iff]
    simp only [hasS, List.contains_eq_mem, decide_eq_true_eq, List.mem_map]
    exact ⟨fun ⟨x, hx, e⟩ => by
      have : x = s := by simpa using congrArg (fun b : ByteArray => b.data.toList) e
      exact this ▸ hx, fun h => ⟨s, h, rfl⟩⟩
  cases h1 : hasS ls s with
  | true => exact h.2 h1
  | false =>
    cases h2 : Lib.containsS (ls.map fun l => (⟨l.toArray⟩ : ByteArray)) ⟨s.toArray⟩ with
    | false => rfl
    | true => rw [h.1 h2] at h1; cases h1

theorem contains_any {D : Nat → Prop} (ao : Option Addr) (cp : Nat) (ls : List (List UInt8)) (s : List UInt8) (w : World) (hn : ls.length ≤ 9223372036854775807) (h : StrsAt D w ao ls) :
    Calls Try.prog 78 #[.slice ao ls.length cp, .string ⟨s.toArray⟩] w fun e w' => e = .returned (.bool (hasS ls s)) ∧ w = w' := by
  by_cases h0 : ls.length = 0
  · have he : ls = [] := List.eq_nil_of_length_eq_zero h0
    subst he
    refine (Try.slices_Contains_string_empty ao cp ⟨s.toArray⟩ w).mono ?_
    rintro e w' ⟨rfl, rfl⟩
    exact ⟨rfl, rfl⟩
  · obtain ⟨b, off, rfl, _⟩ := h 0 (by omega)
    refine (Try.slices_Contains_string b off ls.length cp (ls.map fun l => (⟨l.toArray⟩ : ByteArray)) ⟨s.toArray⟩ w (by simp) hn (fun j hj => ?_)).mono ?_
    · have hj' : j < ls.length := by simpa using hj
      obtain ⟨b', off', e, _, c, _⟩ := h j hj'
      cases e
      rw [c]
      simp [List.getD, hj']
    · rintro e w' ⟨rfl, rfl⟩
      refine ⟨?_, rfl⟩
      rw [List.take_of_length_le (by simp), contains_map]

theorem search_any {D : Nat → Prop} (ao : Option Addr) (cp : Nat) (ls : List (List UInt8)) (s : List UInt8) (w : World) (hn : ls.length < 4611686018427387904) (hr : Rising ls) (h : StrsAt D w ao ls) :
    Calls Try.prog 85 #[.slice ao ls.length cp, .string ⟨s.toArray⟩] w fun e w' => (∃ i, e = .returned (.tuple #[i, .bool (hasS ls s)])) ∧ ∃ q, w' = w.drewN q := by
  by_cases h0 : ls.length = 0
  · have he : ls = [] := List.eq_nil_of_length_eq_zero h0
    subst he
    refine (Any2.slices_BinarySearch_string_empty Try.lays2_26 ao cp ⟨s.toArray⟩ w).mono ?_
    rintro e w' ⟨rfl, rfl⟩
    exact ⟨⟨_, rfl⟩, 0, rfl⟩
  · obtain ⟨b, off, rfl, _⟩ := h 0 (by omega)
    refine (Any2.slices_BinarySearch_string Try.lays2_26 b off ls.length cp (fun j => ⟨(ls.getD j []).toArray⟩) ⟨s.toArray⟩ w hn (fun j hj => ?_)).mono ?_
    · obtain ⟨b', off', e, _, c, _⟩ := h j hj
      cases e
      rw [c]
      simp [List.getD, hj]
    · rintro e w' ⟨rfl, hq⟩
      refine ⟨⟨.int .i64 (lessN ls s : Nat), ?_⟩, hq⟩
      have e1 : Lib.bsGo (fun t => Op.bytesLess (⟨(ls.getD t []).toArray⟩ : ByteArray).toList (⟨s.toArray⟩ : ByteArray).toList) ls.length 0 ls.length = lessN ls s := by
        simp only [Lib.toList_data]
        exact go_lessN ls s hr
      rw [e1, ← lessN_has s hr]
      congr 5
      have e2 : ((⟨(ls.getD (lessN ls s) []).toArray⟩ : ByteArray) = ⟨s.toArray⟩) ↔ ls.getD (lessN ls s) [] = s := ⟨fun e => by simpa using congrArg (fun b : ByteArray => b.data.toList) e, fun e => by rw [e]⟩
      by_cases k1 : lessN ls s < ls.length
      · by_cases k2 : ls.getD (lessN ls s) [] = s
        · rw [decide_eq_true ⟨k1, e2.2 k2⟩, decide_eq_true k1, k2]; simp
        · rw [decide_eq_false (fun k => k2 (e2.1 k.2)), decide_eq_true k1]; simp only [Bool.true_and]; symm; simpa using k2
      · rw [decide_eq_false (fun k => k1 k.1), decide_eq_false k1]; rfl

theorem inset_any {D : Nat → Prop} (ao : Option Addr) (cp : Nat) (ls : List (List UInt8)) (s : List UInt8) (w : World) (hn : ls.length < 4611686018427387904) (hr : Rising ls) (h : StrsAt D w ao ls) :
    Calls Try.prog 80 #[.slice ao ls.length cp, .string ⟨s.toArray⟩] w fun e w' => e = .returned (.bool (hasS ls s)) ∧ ∃ q, w' = w.drewN q := by
  go_enter Try.func80, Try.ntmps80
  go_wp2_with (go_at_call 85; refine (search_any ao cp ls s _ hn hr h).mono ?_; rintro e w' ⟨⟨i, rfl⟩, q, rfl⟩)
  go_ret
  exact ⟨rfl, q, rfl⟩

/-- Is it in it, by the right ones? -/
def hasN (ls : List (List UInt8)) (s : List UInt8) : Bool := isName s && hasS ls s

theorem has_any {D : Nat → Prop} (ao : Option Addr) (cp : Nat) (ls : List (List UInt8)) (s : List UInt8) (w : World) (hn : ls.length ≤ 9223372036854775807) (hs : s.length ≤ 9223372036854775807) (h : StrsAt D w ao ls) :
    Calls Try.prog 51 #[.slice ao ls.length cp, .string ⟨s.toArray⟩] w fun e w' => e = .returned (.bool (hasN ls s)) ∧ w = w' := by
  cases hx : isName s with
  | false =>
    have hh : Hid (hasN ls s = false) := hid (by rw [hasN, hx]; rfl)
    go_enter Try.func51, Try.ntmps51
    go_wp2_with (go_at_call 46; refine (right_any s _ hs).mono ?_; rintro e w' ⟨rfl, rfl⟩; rw [hx])
    go_ret
    exact ⟨by rw [hh.out]; rfl, rfl⟩
  | true =>
    have hh : Hid (hasN ls s = hasS ls s) := hid (by rw [hasN, hx]; rfl)
    go_enter Try.func51, Try.ntmps51
    go_wp2_with (first
      | (go_at_call 46; refine (right_any s _ hs).mono ?_; rintro e w' ⟨rfl, rfl⟩; rw [hx])
      | (go_at_call 78; refine (contains_any ao cp ls s _ hn h).mono ?_; rintro e w' ⟨rfl, rfl⟩))
    go_ret
    exact ⟨by rw [hh.out]; rfl, rfl⟩

end Go.Proofs.Ytaejhkjigppelaa
