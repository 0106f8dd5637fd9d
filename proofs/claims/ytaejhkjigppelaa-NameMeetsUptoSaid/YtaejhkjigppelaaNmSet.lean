/- The contract of the program's Set. -/
import Derived.Test.YtaejhkjigppelaaNmHas
import Derived.Test.YtaejhkjigppelaaShelfSort
import Derived.Test.YtaejhkjigppelaaRefSet
import Derived.Sort.OwnSorted
namespace Go.Proofs.Ytaejhkjigppelaa
open Go.RowKit

theorem ahead_drewN (w : World) (q : Nat) : Sort.ahead w q = w.drewN q := rfl

theorem OwnS.own {B : Nat} {w : World} {v : Value} {ls : List (List UInt8)} (h : OwnS B w v ls) : (v = .slice none 0 0 ∧ ls = []) ∨
    ∃ g cap cur, v = .slice (some ⟨g, 0, none⟩) ls.length cap ∧ B ≤ g ∧ w.heap[g]? = some (.cells cur 9 (0, 0)) ∧ ls.length ≤ cap ∧ cap ≤ maxLen ∧ cur.size = cap * 1 ∧ cur.toList.take ls.length = ls.map encStr := by
  rcases h.2 with ⟨rfl, h0⟩ | ⟨g, cap, cur, rfl, hg, hh, h1, h2, h3, h4⟩
  · exact .inl ⟨rfl, List.eq_nil_of_length_eq_zero h0⟩
  · exact .inr ⟨g, cap, cur, rfl, hg, hh, h1, h2, h3, by rw [Nat.mul_one] at h4; exact h4⟩

/-- The sort of a row of the call's own. -/
theorem sort_own {B : Nat} {w : World} {v : Value} {ls : List (List UInt8)} (h : OwnS B w v ls) (hl : ls.length < 4611686018427387904) :
    Calls Try.prog 76 #[v] w fun e w' => e = .returned (.tuple #[]) ∧ OwnS B w' v (sortS ls) ∧ (∀ S : Nat → Prop, (∀ k, B ≤ k → S k) → Chg S w w') := by
  rcases h.own with ⟨rfl, rfl⟩ | ⟨g, cap, cur, rfl, hg, hh, h1, h2, h3, h4⟩
  · refine (Try.slices_Sort_string_none none 0 w).mono ?_
    rintro e w' ⟨rfl, rfl⟩
    exact ⟨rfl, by rw [show sortS [] = [] by simp [sortS]]; exact h, fun S _ => Chg.refl _ _⟩
  · refine (Try.slices_Sort_string g 0 cap ls w (holds_of_block hh h4) (lt_blk hh) hl).mono ?_
    rintro e w' ⟨rfl, n, os, rfl⟩
    refine ⟨rfl, ?_, fun S hS => (Chg.refl S w).grown (grownBy_sorted _) (fun k e _ => by cases e; exact hS _ hg)⟩
    have h5 := ownsRow_sorted (ts := sortS ls) (n := n) (os := os) (sortS_length ls) hg hh h1 h2 h3
    unfold OwnS
    rw [sortS_length]
    exact h5

/-- Compact, of a row of the call's own. -/
theorem compact_own {B : Nat} {w : World} {v : Value} {ls : List (List UInt8)} (h : OwnS B w v ls) (hl : ls.length ≤ 9223372036854775807) :
    Calls Try.prog 77 #[v] w fun e w' => (∃ ao cap, e = .returned (.slice ao (Lib.compact ls).length cap) ∧ OwnS B w' (.slice ao (Lib.compact ls).length cap) (Lib.compact ls)) ∧ (∀ S : Nat → Prop, (∀ k, B ≤ k → S k) → Chg S w w') := by
  rcases h.own with ⟨rfl, rfl⟩ | ⟨g, cap, cur, rfl, hg, hh, h1, h2, h3, h4⟩
  · refine (Try.slices_Compact_string_empty none 0 w).mono ?_
    rintro e w' ⟨rfl, rfl⟩
    exact ⟨⟨none, 0, rfl, h⟩, fun S _ => Chg.refl _ _⟩
  · refine (Try.slices_Compact_string g 0 cap ls w (holds_of_block hh h4) hl h1).mono ?_
    rintro e w' ⟨rfl, q, rfl⟩
    have hcl := Lib.compact_length_le ls
    generalize hts : Lib.compact ls ++ List.replicate (ls.length - (Lib.compact ls).length) [] = ts
    have htl : ts.length = ls.length := by rw [← hts, List.length_append, List.length_replicate]; omega
    have hgr := grownBy_sorted (w := w) (g := g) (n := q) (os := #[]) ts.toArray
    rw [Sort.grow_empty] at hgr
    refine ⟨⟨_, _, rfl, ?_⟩, fun S hS => (Chg.refl S w).grown hgr (fun k e _ => by cases e; exact hS _ hg)⟩
    have h5 := heap_sorted (n := q) (os := #[]) ts.toArray hh
    rw [Sort.grow_empty] at h5
    have h6 := take_putCells cur ts (by omega)
    refine ⟨by simp, .inr ⟨g, cap, _, rfl, hg, h5, by omega, h2, by simp [Sort.putCells, h3], ?_⟩⟩
    have h7 := congrArg (List.take (Lib.compact ls).length) h6
    rw [List.take_take, Nat.min_eq_left (by omega), ← List.map_take, ← hts, List.take_left] at h7
    rw [Nat.mul_one, hts] at *
    exact h7

set_option maxRecDepth 100000 in
set_option maxHeartbeats 2000000 in
theorem set_any {D : Nat → Prop} (ao : Option Addr) (cp : Nat) (ls : List (List UInt8)) (w : World) (hn : ls.length ≤ 16777216) (h : StrsAt D w ao ls) (hD : ∀ i, D i → i < w.heap.size) :
    Calls Try.prog 49 #[.slice ao ls.length cp] w (SetPost ls w) := by
  obtain ⟨i0, hi, hz0, hz1, hz2⟩ := info_parts Try.info9
  go_enter Try.func49, Try.ntmps49
  go_wp2
  go_loopw [3, 8] (fun v i wr => ∃ (k : Nat) (out : List (List UInt8)) (ao' : Option Addr) (cap : Nat), i = .int .i64 k ∧ k ≤ ls.length ∧ v = .slice ao' out.length cap ∧ Hid (out = (ls.take k).filter isName) ∧ out.length ≤ k ∧ (∀ x ∈ out, x.length ≤ 9223372036854775807) ∧ OwnS w.heap.size wr (.slice ao' out.length cap) out ∧ Chg (fun _ => False) w wr) (fun _ i _ => ls.length - (intOf i).toNat)
  case atStart => exact ⟨0, [], none, 0, rfl, Nat.zero_le _, rfl, rfl, Nat.zero_le _, (fun _ h => by cases h), World.ownsRow_nil _ _ _ _, Chg.refl _ _⟩
  case round =>
    obtain ⟨k, out, ao', cap', rfl, hk, rfl, hout, hol, hob, ho, hc⟩ := hrel
    by_cases hlt : k < ls.length
    · obtain ⟨b, off, rfl, hbD, c0, hsl⟩ := h k hlt
      replace c0 := hc.cell c0 id
      have HF := hid (List.take_succ_eq_append_getElem hlt)
      clear h
      generalize ls[k] = s at *
      cases hx : isName s with
      | false =>
        have hn2 : Hid (out = (ls.take (k + 1)).filter isName) := hid (by rw [HF.out, List.filter_append, ← hout.out]; simp [hx])
        go_wp2_with (go_at_call 46; refine (right_any s _ hsl).mono ?_; rintro e w' ⟨rfl, rfl⟩; rw [hx])
        go_roundw
        case rel => exact ⟨k + 1, out, ao', cap', by go_num, by omega, rfl, hn2, by omega, hob, ho, hc⟩
        case measure => simp [intOf]; omega
      | true =>
        have hn2 : Hid (out ++ [s] = (ls.take (k + 1)).filter isName) := hid (by rw [HF.out, List.filter_append, ← hout.out]; simp [hx])
        go_wp2_with (first
          | (go_at_call 46; refine (right_any s _ hsl).mono ?_; rintro e w' ⟨rfl, rfl⟩; rw [hx])
          | (at_builtin; refine wpList_append_own_at _ rfl (.tmp 14) (.tmp 16) 60 rfl w.heap.size 9 i0 (.string ⟨#[]⟩) 1 16 Try.underlying60 hi hz0 hz1 hz2 rfl (by decide) _ _ _ rfl (World.ownsRow.alloc ho _) ⟨wr.heap.size, 0, none⟩ 1 1 [strV s] rfl rfl ?c1 ?c2 ?c3 ?c4 ?c5 ?_))
        case c1 => exact (cell_one_new _ _ _)
        case c2 => intro u hu; rw [List.mem_singleton.1 hu]; rfl
        case c3 => unfold maxLen; omega
        case c4 => omega
        case c5 => have := hc.size; simp; omega
        intro v' w2 hown hgrow _ hat
        have hl : (out ++ [s]).length = out.length + 1 := by simp
        have ho2 : OwnS w.heap.size w2 v' (out ++ [s]) := by
          unfold OwnS
          rw [hl, List.map_append]
          exact hown
        have hrow : ∀ k, Value.ownBlock (.slice ao' out.length cap') = some k → w.heap.size ≤ k := by
          intro k hk
          rcases ho.2 with ⟨hx, _⟩ | ⟨g, cap', cur, hx, hg, _⟩
          · rw [hx] at hk; cases hk
          · rw [hx] at hk; cases hk; exact hg
        have hc2 : Chg (fun _ => False) w w2 := (hc.alloc _).grown hgrow (fun k e hk => by have := hrow k e; omega)
        have hob2 : ∀ x ∈ out ++ [s], x.length ≤ 9223372036854775807 := fun x hx => (List.mem_append.1 hx).elim (hob x) (fun e => by rw [List.mem_singleton.1 e]; exact hsl)
        obtain ⟨ao3, cap3, hv, _⟩ := ho2.strs hob2
        subst hv
        clear hown hgrow hat hrow ho hc
        rw [hl]
        go_wp2
        go_roundw
        case rel => exact ⟨k + 1, out ++ [s], ao3, cap3, by go_num, by omega, by rw [hl], hn2, by rw [hl]; omega, hob2, ho2, hc2⟩
        case measure => simp [intOf]; omega
    · have hk2 : k = ls.length := by omega
      have ho2 : Hid (out = ls.filter isName) := by
        have := hout.out
        rw [List.take_of_length_le (by omega)] at this
        exact hid this
      have hw : wr = wr := rfl
      clear h hout
      go_wp2_with fail
      refine (sort_own ho (by omega)).mono ?_
      rintro e w2 ⟨rfl, ho3, hch3⟩
      have hc2 : Chg (fun _ => False) w w2 := hc.trans (hch3 (fun k => w.heap.size ≤ k) (fun _ h => h)) (fun i hi hk => by omega)
      clear hch3 hc ho
      go_wp2_with fail
      refine (compact_own ho3 (by rw [sortS_length]; omega)).mono ?_
      rintro e w3 ⟨⟨ao4, cap4, rfl, ho4⟩, hch4⟩
      have hc3 : Chg (fun _ => False) w w3 := hc2.trans (hch4 (fun k => w.heap.size ≤ k) (fun _ h => h)) (fun i hi hk => by omega)
      clear hch4 hc2 ho3
      have hso : SetOf ls (Lib.compact (sortS out)) := by rw [ho2.out]; exact compact_set ls
      have hbd : ∀ x ∈ Lib.compact (sortS out), x.length ≤ 9223372036854775807 := fun x hx => by have := isName_len ((hso.2 x).1 hx).2; omega
      obtain ⟨ao5, cap5, hv, hst⟩ := ho4.strs hbd
      cases hv
      go_wp2
      go_ret
      exact ⟨_, _, _, rfl, hso, hst, hc3⟩
end Go.Proofs.Ytaejhkjigppelaa
