/- The contracts of the document's Has of layer 5, and of how great credentials are. -/
import Derived.Test.YtjohiggfjpfbeaaCm1
import Derived.Test.YtjohiggfjpfbeaaProg
import Derived.Test.YtjohiggfjpfbeaaChecked
import Derived.Deep.QuietTactic
import Derived.BigQuiet
namespace Go.Proofs.Ytjohiggfjpfbeaa
open Go.RowKit

/-- How great credentials are. -/
def sizeC (c : CredB) : Nat := 20 + c.head.1.length + c.head.2.length + c.who.length + c.b.1.length + c.b.2.length + c.c.1.length + c.c.2.length + c.w2.length
def totalC : List CredB → Nat
  | [] => 0
  | c :: l => sizeC c + totalC l

theorem totalC_append (a b : List CredB) : totalC (a ++ b) = totalC a + totalC b := by
  induction a with
  | nil => simp [totalC]
  | cons x l ih => rw [List.cons_append, totalC, totalC, ih]; omega

theorem totalC_len (a : List CredB) : a.length ≤ totalC a := by
  induction a with
  | nil => simp [totalC]
  | cons x l ih => rw [totalC, List.length_cons, sizeC]; omega

theorem totalC_mem {a : List CredB} {x : CredB} (h : x ∈ a) : sizeC x ≤ totalC a := by
  induction a with
  | nil => simp at h
  | cons y l ih =>
    rw [totalC]
    rcases List.mem_cons.1 h with rfl | h
    · omega
    · have := ih h; omega

theorem totalC_take (ls : List CredB) (k : Nat) (h : k < ls.length) : totalC (ls.take (k + 1)) = totalC (ls.take k) + sizeC ls[k] := by
  rw [List.take_succ_eq_append_getElem h, totalC_append]; simp [totalC]

theorem totalC_take_le (ls : List CredB) (k : Nat) : totalC (ls.take k) ≤ totalC ls := by
  conv => rhs; rw [← List.take_append_drop k ls]
  rw [totalC_append]; omega

theorem sizeC_short {c : CredB} {n : Nat} (h : sizeC c ≤ n) : credShort c n := by
  unfold sizeC at h
  exact ⟨by omega, by omega, by omega, by omega, by omega, by omega, by omega, by omega⟩

set_option maxRecDepth 100000 in
set_option maxHeartbeats 2000000 in
theorem great_any {D : Nat → Prop} (ao : Option Addr) (cp : Nat) (ls : List CredB) (w : World) (hn : totalC ls ≤ 4503599627370496) (h : CredsAt D w ao ls) :
    Calls Try.prog 8 #[.slice ao ls.length cp] w fun e w' => e = .returned (.int .i64 (totalC ls)) ∧ Chg (fun _ => False) w w' := by
  have hl := totalC_len ls
  go_enter Try.func8, Try.ntmps8
  go_wp2
  go_loopw [3, 8] (fun n i wr => ∃ k m : Nat, k ≤ ls.length ∧ i = .int .i64 k ∧ n = .int .i64 m ∧ Hid (m = totalC (ls.take k)) ∧ m ≤ 4503599627370496 ∧ Chg (fun _ => False) w wr) (fun _ i _ => ls.length - (intOf i).toNat)
  case atStart => exact ⟨0, 0, Nat.zero_le _, rfl, rfl, rfl, by omega, Chg.refl _ _⟩
  case round =>
    obtain ⟨k, m, hk, rfl, rfl, hm, hml, hc⟩ := hrel
    by_cases hlt : k < ls.length
    · obtain ⟨b, off, rfl, _, hat, hs⟩ := (h.keep hc (fun _ _ => id)) k hlt
      have ht := totalC_take ls k hlt
      have hle := totalC_take_le ls (k + 1)
      rw [ht, ← hm.out] at hle
      have hx : Hid (m + sizeC ls[k] = totalC (ls.take (k + 1))) := hid (by rw [ht, hm.out])
      clear h ht
      have hsl2 : m + sizeC ls[k] ≤ 4503599627370496 := by omega
      clear hle
      generalize ls[k] = s at *
      obtain ⟨kk, ⟨ho, hw⟩, who, ⟨bo, bw⟩, ⟨co, cw⟩, w2⟩ := s
      obtain ⟨a0, a1, a2, a3, a4, a5, a6, a7, a8⟩ := hat
      obtain ⟨s1, s2, s3, s4, s5, s6, s7, s8⟩ := hs
      simp only [sizeC] at a0 a1 a2 a3 a4 a5 a6 a7 a8 s1 s2 s3 s4 s5 s6 s7 s8 hx hsl2
      have HC := hid hc
      clear hc
      go_wp2
      go_roundw
      case rel => exact ⟨k + 1, m + (20 + ho.length + hw.length + who.length + bo.length + bw.length + co.length + cw.length + w2.length), by omega, by go_num, by go_num, hx, hsl2, HC.out.alloc _⟩
      case measure => simp [intOf]; omega
    · have hk2 : k = ls.length := by omega
      have hx : m = totalC ls := by have := hm.out; rwa [List.take_of_length_le (by omega)] at this
      subst hx
      have HC := hid hc
      clear h hc
      go_wp2
      go_ret
      exact ⟨rfl, HC.out⟩

set_option maxRecDepth 100000 in
set_option maxHeartbeats 2000000 in
theorem chas_ref {D : Nat → Prop} (ao : Option Addr) (cp : Nat) (ls : List CredB) (c : CredB) (w : World) (hn : ls.length ≤ 9223372036854775807) (h : CredsAt D w ao ls) :
    Calls Try.prog 31 #[.slice ao ls.length cp, credV c] w fun e w' => e = .returned (.bool (hasC ls c)) ∧ Chg (fun _ => False) w w' := by
  have hc : Chg (fun _ => False) w (w.alloc (.cells (credBox c) 25)) := (Chg.refl _ w).alloc _
  have hA := heap_alloc_new w (.cells (credBox c) 25)
  have h' := h.keep hc (fun _ _ => id)
  obtain ⟨k', ⟨ho', hw'⟩, who', ⟨bo', bw'⟩, ⟨co', cw'⟩, w2'⟩ := c
  show Calls Try.prog 31 #[.slice ao ls.length cp, .agg #[.int .i64 k', .string ⟨ho'.toArray⟩, .string ⟨hw'.toArray⟩, .string ⟨who'.toArray⟩, .string ⟨bo'.toArray⟩, .string ⟨bw'.toArray⟩, .string ⟨co'.toArray⟩, .string ⟨cw'.toArray⟩, .string ⟨w2'.toArray⟩]] w _
  simp only [credBox] at hc hA h'
  go_enter Try.func31, Try.ntmps31
  go_wp2
  generalize hw1 : w.alloc (.cells #[.int .i64 k', .string ⟨ho'.toArray⟩, .string ⟨hw'.toArray⟩, .string ⟨who'.toArray⟩, .string ⟨bo'.toArray⟩, .string ⟨bw'.toArray⟩, .string ⟨co'.toArray⟩, .string ⟨cw'.toArray⟩, .string ⟨w2'.toArray⟩] 25) = w1 at *
  generalize w.heap.size = A at *
  clear h hw1
  go_loopw [9] (fun i wr => ∃ k : Nat, k ≤ ls.length ∧ i = .int .i64 k ∧ Hid (hasC (ls.take k) ⟨k', (ho', hw'), who', (bo', bw'), (co', cw'), w2'⟩ = false) ∧ Chg (fun _ => False) w1 wr) (fun i _ => ls.length - (intOf i).toNat)
  case atStart => exact ⟨0, Nat.zero_le _, rfl, by rw [List.take_zero]; rfl, Chg.refl _ _⟩
  case round =>
    obtain ⟨k, hk, rfl, hf, hc1⟩ := hrel
    have hA1 := cred_at_blk (c := ⟨k', (ho', hw'), who', (bo', bw'), (co', cw'), w2'⟩) (blk_keep hA hc1 id)
    by_cases hlt : k < ls.length
    · obtain ⟨b, off, rfl, _, hat, _⟩ := (h'.keep hc1 (fun _ _ => id)) k hlt
      have HFT := hid (hasC_take ls _ k hlt hf.out)
      clear h'
      have hmem : Hid (ls[k] ∈ ls) := hid (List.getElem_mem hlt)
      generalize ls[k] = q at *
      by_cases e : q = ⟨k', (ho', hw'), who', (bo', bw'), (co', cw'), w2'⟩
      · subst e
        have hh : Hid (hasC ls ⟨k', (ho', hw'), who', (bo', bw'), (co', cw'), w2'⟩ = true) := hid (by simpa [hasC] using hmem.out)
        have hal : Chg (fun _ => False) wr (wr.alloc (.cells (credBox ⟨k', (ho', hw'), who', (bo', bw'), (co', cw'), w2'⟩) 25)) := (Chg.refl _ wr).alloc _
        have hA2 := hA1.keep hal id
        obtain ⟨a0, a1, a2, a3, a4, a5, a6, a7, a8⟩ := hat
        obtain ⟨b0, b1, b2, b3, b4, b5, b6, b7, b8⟩ := hA2
        simp only [Nat.zero_add, credBox] at b0 b1 b2 b3 b4 b5 b6 b7 b8 a0 a1 a2 a3 a4 a5 a6 a7 a8
        have HC := hid (hc.trans (hc1.trans hal (fun _ _ h => h)) (fun _ _ h => h))
        clear hc hc1 hA hA1 hal HFT hf
        go_wp2
        go_ret
        exact ⟨by rw [hh.out]; rfl, HC.out⟩
      · have hx := hid (HFT.out e)
        obtain ⟨k0, ⟨ho, hw⟩, who, ⟨bo, bw⟩, ⟨co, cw⟩, w2⟩ := q
        have hal : Chg (fun _ => False) wr (wr.alloc (.cells (credBox ⟨k0, (ho, hw), who, (bo, bw), (co, cw), w2⟩) 25)) := (Chg.refl _ wr).alloc _
        have hA2 := hA1.keep hal id
        obtain ⟨a0, a1, a2, a3, a4, a5, a6, a7, a8⟩ := hat
        obtain ⟨b0, b1, b2, b3, b4, b5, b6, b7, b8⟩ := hA2
        simp only [Nat.zero_add, credBox] at b0 b1 b2 b3 b4 b5 b6 b7 b8 a0 a1 a2 a3 a4 a5 a6 a7 a8
        have HC := hid hc1
        have HE := hid e
        clear hc hc1 hA hA1 hal HFT hf e hmem
        go_wp2
        all_goals first
          | (refine (HE.out ?_).elim; simp only [CredB.mk.injEq, Prod.mk.injEq]; refine ⟨?_, ⟨?_, ?_⟩, ?_, ⟨?_, ?_⟩, ⟨?_, ?_⟩, ?_⟩ <;> assumption)
          | (go_roundw <;> first | exact ⟨k + 1, by omega, by go_num, hx, HC.out.alloc _⟩ | (simp [intOf]; omega))
    · have hk2 : k = ls.length := by omega
      have hh : Hid (hasC ls ⟨k', (ho', hw'), who', (bo', bw'), (co', cw'), w2'⟩ = false) := by have := hf.out; rwa [List.take_of_length_le (by omega)] at this
      have HC := hid (hc.trans hc1 (fun _ _ h => h))
      clear h' hc hc1 hA hA1
      go_wp2
      go_ret
      exact ⟨by rw [hh.out]; rfl, HC.out⟩
end Go.Proofs.Ytjohiggfjpfbeaa
