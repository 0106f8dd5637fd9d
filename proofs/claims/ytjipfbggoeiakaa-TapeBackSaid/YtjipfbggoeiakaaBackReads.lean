/- TapeBack's two readings. -/
import Derived.Test.YtjipfbggoeiakaaBackDone
import Derived.Test.YtjipfbggoeiakaaFirst
namespace Go.Proofs.Ytjipfbggoeiakaa
open Go.RowKit

theorem entersB1 : ∀ args w, (callFunc 31 args).run Try.prog w = .ok (.enter 31 args) w := enters Try.func31 (by kernel_rfl) (by kernel_rfl)
theorem entersB2 : ∀ args w, (callFunc 32 args).run Try.prog w = .ok (.enter 32 args) w := enters Try.func32 (by kernel_rfl) (by kernel_rfl)

/-- What was written is read again. -/
theorem back_read1 {LO V G : Nat} {ps : List (OpR × Value)} {acc : List UInt8} {a2 ao : Option Addr} {c2 cp : Nat} {w : World} (hLO : LO ≤ V) (hVG : V < G) (hGw : G < w.heap.size)
    (hpl : ps.length ≤ 60) (hal : acc.length ≤ 30000) (hA : acc = encAll (ps.map (·.1))) (hT : ∀ p ∈ ps, Taken p.1)
    (he : ∀ p ∈ ps, BytesAt (fun k => k < LO) w p.2 p.1.b ∧ (-9223372036854775808 ≤ p.1.kind ∧ p.1.kind ≤ 9223372036854775807) ∧ (-9223372036854775808 ≤ p.1.n ∧ p.1.n ≤ 9223372036854775807))
    (hV : w.heap[V]? = some (.cells #[.slice a2 ps.length c2] 22 (0, 0))) (hrow : w.ownsRow (V + 1) 29 3 (.slice a2 ps.length c2) ps.length (opsCells ps)) (hrG : ∀ k, rowOf a2 = some k → k < G)
    (hG : w.heap[G]? = some (.cells #[.bool true] 4 (0, 0))) (hb : BytesAt (fun k => G < k ∧ k < w.heap.size) w (.slice ao acc.length cp) acc) :
    Calls Try.prog 16 #[.slice ao acc.length cp, .func (.func 31) #[] #[.pointer (some ⟨V, 0, none⟩), .pointer (some ⟨G, 0, none⟩)]] w fun e w' =>
      e = .returned (.int .i64 0) ∧ w'.heap[G]? = some (.cells #[.bool true] 4 (0, 0)) ∧ Chg (· = G) w w' := by
  have hrw := readWorld_chg w (.slice ao acc.length cp) (fun _ => False)
  have hrs := readWorld_size w (.slice ao acc.length cp)
  have hops := ops_of_done hrow he
  have hlen : (ps.map (·.1)).length = ps.length := by simp
  refine (read_returns (T := fun k => k = G) (P := fun w1 => w1.heap[G]? = some (.cells #[.bool true] 4 (0, 0))) (n := 0) (by rintro k rfl; exact hGw) entersB1 ?_).mono ?_
  · have hc := c29_any (w.heap.size + 1) V G (fun k => k < LO ∨ rowOf a2 = some k ∨ (G < k ∧ k < w.heap.size)) a2 c2 (ps.map (·.1)) (readWorld w (.slice ao acc.length cp))
      (by rintro i (h | h | h)
          · omega
          · have := hrG _ h; omega
          · omega)
      (by rintro i (h | h | h)
          · omega
          · have := hrG _ h; omega
          · omega)
      (by omega) (by omega) (by omega) (by rw [hlen]; exact hpl) (by intro x hx; obtain ⟨p, hp, rfl⟩ := List.mem_map.1 hx; exact hT p hp) (by rw [← hA]; exact hal)
      (by rw [hlen]; exact blk_keep hV hrw id)
      (fun i hi => by
        obtain ⟨b, off, e1, e2, e3⟩ := hops i hi
        obtain ⟨q1, q2, v, q3, q4⟩ := e3.keep e2 hrw (fun _ _ => id)
        exact ⟨b, off, e1, e2.elim .inl (fun h => .inr (.inl h)), q1, q2, v, q3, q4.mono (fun k h => h.elim .inl (fun h => .inr (.inl h)))⟩)
      ⟨⟨_, by rw [← hA]; exact (hb.keep hrw (fun _ _ => id)).mono (fun _ h => Or.inr (Or.inr h)), readWorld_R w _⟩, blk_keep hG hrw id, Chg.refl _ _⟩
    refine hc.mono ?_
    rintro e w1 ⟨rfl, ⟨v, hv, hR⟩, hg, hch⟩
    obtain ⟨ao', cp', rfl⟩ := hv.shape
    exact ⟨rfl, ⟨⟨ao', 0, cp', hR, fun _ => rfl⟩, hch⟩, hg⟩
  · rintro e w' ⟨rfl, w1, hg, hl⟩
    exact ⟨rfl, blk_keep hg hl.2.1 (by rintro (h | h) <;> omega), hl.2.2⟩

theorem back_read2 {LO P Q : Nat} {l : List UInt8} {ao : Option Addr} {cp : Nat} {w : World} (hLO : LO ≤ P) (hPQ : P < Q) (hQw : Q < w.heap.size) (hl : l.length ≤ 2000)
    (hb : BytesAt (fun k => k < LO) w (.slice ao l.length cp) l) (hP : ∀ B, PenAt B w P none 0 []) (hQ : w.heap[Q]? = some (.cells #[.pointer (some ⟨P, 0, none⟩)] 24 (0, 0))) :
    Calls Try.prog 16 #[.slice ao l.length cp, .func (.func 32) #[] #[.pointer (some ⟨Q, 0, none⟩)]] w fun e w' =>
      ((numsErr l.length l = 0 ∧ e = .returned (.int .i64 0) ∧ ∃ B a c, PenAt B w' P a c l) ∨ (numsErr l.length l ≠ 0 ∧ e = .returned (.int .i64 (numsErr l.length l)))) ∧ w'.heap[Q]? = some (.cells #[.pointer (some ⟨P, 0, none⟩)] 24 (0, 0)) ∧ Chg (· = P) w w' := by
  have hrw := readWorld_chg w (.slice ao l.length cp) (fun _ => False)
  have hrs := readWorld_size w (.slice ao l.length cp)
  have hc := c30_any (w.heap.size + 1) P Q (w.heap.size + 3) LO l (readWorld w (.slice ao l.length cp)) (by omega) hl
    ⟨⟨_, hb.keep hrw (fun _ _ => id), readWorld_R w _⟩, ⟨none, 0, (hP _).keep hrw id (fun _ h => by cases h)⟩, blk_keep hQ hrw id, Chg.refl _ _⟩
  by_cases hz : numsErr l.length l = 0
  · refine (read_returns (T := fun k => k = P) (P := fun w1 => ∃ a c, PenAt (w.heap.size + 3) w1 P a c l ∧ w1.heap[Q]? = some (.cells #[.pointer (some ⟨P, 0, none⟩)] 24 (0, 0))) (n := 0) (by rintro k rfl; omega) entersB2 ?_).mono ?_
    · refine hc.mono ?_
      rintro e w1 (⟨_, rfl, hi⟩ | ⟨h, _⟩)
      · obtain ⟨⟨v, hv, hR⟩, ⟨a, c, hp⟩, hbx, hch⟩ := hi
        obtain ⟨ao', cp', rfl⟩ := hv.shape
        exact ⟨rfl, ⟨⟨ao', 0, cp', hR, fun _ => rfl⟩, hch⟩, a, c, hp, hbx⟩
      · exact absurd hz h
    · rintro e w' ⟨rfl, w1, ⟨a, c, hp, hbx⟩, hl⟩
      refine ⟨.inl ⟨hz, rfl, _, a, c, hp.keep hl.2.1 (by rintro (h | h) <;> omega) ?_⟩, blk_keep hbx hl.2.1 (by rintro (h | h) <;> omega), hl.2.2⟩
      intro k hk
      have := (hp.row.lt k ((rowOf_block _ _ _).trans hk)).1
      rintro (h | h) <;> omega
  · refine (read_stops (T := fun k => k = P) (P := fun w1 => w1.heap[Q]? = some (.cells #[.pointer (some ⟨P, 0, none⟩)] 24 (0, 0))) (n := 0) (flt := numsErr l.length l) [] rfl (by rintro k rfl; omega) entersB2 ?_).mono ?_
    · refine hc.mono ?_
      rintro e w1 (⟨h, _⟩ | ⟨_, rfl, ⟨ao', m, cp', hR⟩, hch⟩)
      · exact absurd h hz
      · refine ⟨rfl, ⟨⟨ao', m, cp', hR, fun h => by omega⟩, hch⟩, ?_⟩
        exact blk_keep (blk_keep hQ hrw id) hch (by rintro (h | h) <;> omega)
    · rintro e w' ⟨rfl, w1, hbx, hl⟩
      refine ⟨.inr ⟨hz, ?_⟩, blk_keep hbx hl.2.1 (by rintro (h | h) <;> omega), hl.2.2⟩
      unfold endOf
      rw [if_neg (by omega)]

end Go.Proofs.Ytjipfbggoeiakaa
