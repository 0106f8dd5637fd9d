/- The contracts of the program's Put and Get. -/
import Derived.Test.YtaejhkjigppelaaNmRight
import Derived.Test.YtaejhkjigppelaaPenMore
import Derived.Test.YtaejhkjigppelaaRText
import Derived.Test.YtaejhkjigppelaaConv
namespace Go.Proofs.Ytaejhkjigppelaa
open Go.RowKit

theorem put_no (p : Value) (s : List UInt8) (w : World) (hs : s.length ≤ 9223372036854775807) (hn : isName s = false) :
    Calls Try.prog 56 #[p, .string ⟨s.toArray⟩] w fun e w' => e = .returned (.bool false) ∧ w = w' := by
  go_enter Try.func56, Try.ntmps56
  go_wp2_with (go_at_call 46; refine (right_any s _ hs).mono ?_; rintro e w' ⟨rfl, rfl⟩; rw [hn])
  go_ret
  exact ⟨rfl, rfl⟩

theorem name_len {s : List UInt8} (hn : isName s = true) : 0 < s.length ∧ s.length ≤ 16 := by
  cases s with
  | nil => cases hn
  | cons c l =>
    simp only [isName, Bool.and_eq_true, decide_eq_true_eq] at hn
    simp
    omega

theorem put_nil (s : List UInt8) (w : World) (hs : s.length ≤ 9223372036854775807) :
    Calls Try.prog 56 #[.pointer none, .string ⟨s.toArray⟩] w fun e w' => e = .returned (.bool false) ∧ Chg (fun _ => False) w w' := by
  cases hn : isName s with
  | false => exact (put_no _ s w hs hn).mono (by rintro e w' ⟨rfl, rfl⟩; exact ⟨rfl, Chg.refl _ _⟩)
  | true =>
    have hcv := conv_str s w
    have hc3 : Chg (fun _ => False) w (w.drew.alloc (.cells (bytesRow ⟨s.toArray⟩ (grownCap w s.length 0 5)) 5 ((bytesRow ⟨s.toArray⟩ (grownCap w s.length 0 5)).size, (bytesRow ⟨s.toArray⟩ (grownCap w s.length 0 5)).size + 1))) := ((Chg.refl _ w).drew).alloc _
    have HC := hid hc3
    clear hc3
    go_enter Try.func56, Try.ntmps56
    go_wp2_with (first
      | (go_at_call 46; refine (right_any s _ hs).mono ?_; rintro e w' ⟨rfl, rfl⟩; rw [hn])
      | (go_at_call 15; refine (text_nil _ _ _ _).mono ?_; rintro e w' ⟨rfl, rfl⟩))
    go_ret
    exact ⟨rfl, HC.out⟩

set_option maxRecDepth 100000 in
theorem put_yes (B P cap : Nat) (ao : Option Addr) (zs s : List UInt8) (w : World) (hp : PenAt B w P ao cap zs) (hB : B ≤ w.heap.size) (hPB : P < B) (hx : zs.length ≤ 1000000) (hn : isName s = true) :
    Calls Try.prog 56 #[.pointer (some ⟨P, 0, none⟩), .string ⟨s.toArray⟩] w fun e w' => e = .returned (.bool true) ∧ PenPost B P ao (zs ++ (enc s.length ++ s)) w w' := by
  have hl := name_len hn
  have hcv := conv_str s w
  have hg1 := grownCap_ge w s.length 0 5
  have hg2 := grownCap_le_maxLen w s.length 0 5 (by unfold maxLen; omega)
  have hba := bytes_of s w.drew (grownCap w s.length 0 5) hg1 hg2 ((bytesRow ⟨s.toArray⟩ (grownCap w s.length 0 5)).size, (bytesRow ⟨s.toArray⟩ (grownCap w s.length 0 5)).size + 1)
  have hPw := lt_blk hp.cell
  have hrow : ∀ k, rowOf ao = some k → k < w.heap.size := fun k hk => (hp.row.lt k ((rowOf_block _ _ _).trans hk)).2
  have hc3 : Chg (fun _ => False) w (w.drew.alloc (.cells (bytesRow ⟨s.toArray⟩ (grownCap w s.length 0 5)) 5 ((bytesRow ⟨s.toArray⟩ (grownCap w s.length 0 5)).size, (bytesRow ⟨s.toArray⟩ (grownCap w s.length 0 5)).size + 1))) := ((Chg.refl _ w).drew).alloc _
  have hp3 := hp.keep hc3 id (fun _ _ => id)
  have hs3 := hc3.size
  have htx := text_any B P cap ao zs s _ _ hp3 (by omega) hPB (by omega) (by omega) hba (fun i hi => by subst hi; exact ⟨by show w.heap.size ≠ P; omega, fun e => by have := hrow _ e; exact absurd this (Nat.lt_irrefl _)⟩)
  have HC := hid hc3
  clear hc3 hp3 hba hg1 hg2 hs3 hrow hp
  go_enter Try.func56, Try.ntmps56
  go_wp2_with (first
    | (go_at_call 46; refine (right_any s _ (by omega)).mono ?_; rintro e w' ⟨rfl, rfl⟩; rw [hn])
    | (go_at_call 15; refine htx.mono ?_; rintro e w' ⟨rfl, ao', cap', hp', hch⟩))
  go_ret
  refine ⟨rfl, ao', cap', hp', ⟨(HC.out.mono (fun _ _ h => h.elim)).trans hch.chg (fun i _ h => h), ?_⟩⟩
  rcases hch.row with h | ⟨g, h1, h2⟩
  · exact .inl h
  · have := HC.out.size
    exact .inr ⟨g, h1, by omega⟩
end Go.Proofs.Ytaejhkjigppelaa
