/- The walk of CredGets. -/
import Derived.Test.YtjohiggfjpfbeaaCm17
import Derived.Test.YtjohiggfjpfbeaaGm2
import Derived.Test.YtjohiggfjpfbeaaCm2
namespace Go.Proofs.Ytjohiggfjpfbeaa
open Go.RowKit

set_option maxRecDepth 100000 in
set_option maxHeartbeats 4000000 in
theorem cgets_walk {D : Nat → Prop} (ao : Option Addr) (cp : Nat) (l : List UInt8) (w : World) (hl0 : l.length ≤ 9223372036854775807) (hv : BytesAt D w (.slice ao l.length cp) l) (hD : ∀ i, D i → i < w.heap.size) (hm : MaxAt w) :
    Calls Try.prog 4 #[.slice ao l.length cp] w fun e w' => e = .returned (.bool true) ∧ Chg (fun _ => False) w w' := by
  go_enter Try.func4, Try.ntmps4
  go_wp2_with fail
  refine (cfirst_any w hm).mono ?_
  rintro e w1 ⟨rfl, hc1⟩
  by_cases hlen : 300 < l.length
  · have z : ((300 : Int) < (l.length : Int)) = True := eq_true (by omega)
    have HC := hid hc1
    clear hc1 hv hlen
    go_wp2
    go_ret
    exact ⟨rfl, HC.out⟩
  · have z : ¬ ((300 : Int) < (l.length : Int)) := by omega
    have hl : l.length ≤ 140737488355328 := by omega
    have hv1 := hv.keep hc1 (fun _ _ => id)
    have hs1 := hc1.size
    have hcv := conv_bytes hv1
    have hX2 : TapeAt (w1.alloc (.cells #[.string ⟨l.toArray⟩, .int .i64 0] 40)) w1.heap.size l 0 := heap_alloc_new w1 _
    have ha2 : Chg (fun _ => False) w1 (w1.alloc (.cells #[.string ⟨l.toArray⟩, .int .i64 0] 40)) := (Chg.refl _ w1).alloc _
    have hc2 := hc1.trans ha2 (fun _ _ h => h)
    have hv2 := hv1.keep ha2 (fun _ _ => id)
    have hsz2 : (w1.alloc (.cells #[.string ⟨l.toArray⟩, .int .i64 0] 40)).heap.size = w1.heap.size + 1 := by simp
    obtain ⟨w2, hw2⟩ : ∃ w2, w2 = w1.alloc (.cells #[.string ⟨l.toArray⟩, .int .i64 0] 40) := ⟨_, rfl⟩
    rw [← hw2] at hX2 ha2 hc2 hv2 hsz2
    have ha3 : Chg (fun _ => False) w2 (w2.alloc (.cells (credBox noCred) 25)) := (Chg.refl _ w2).alloc _
    have hG3 := heap_alloc_new w2 (.cells (credBox noCred) 25)
    rw [hsz2] at hG3
    have hX3 : TapeAt _ w1.heap.size l 0 := blk_keep hX2 ha3 id
    have hv3 := hv2.keep ha3 (fun _ _ => id)
    have hc3 := hc2.trans ha3 (fun _ _ h => h)
    have hrd := creadG_any (w := w2.alloc (.cells (credBox noCred) 25)) (l := l) (X := w1.heap.size + 1) (z := noCred) hl hv3 (fun i hi => by have := hD i hi; have := ha3.size; omega) (fun h => by have := hD _ h; omega) hG3
    rw [hw2] at hrd hX3 hc3
    have HH := hid (And.intro hrd (And.intro hX3 hc3))
    clear hrd hX3 hc3 hX2 ha2 hc2 hv2 hw2 hsz2 ha3 hG3 hv3 hv1 hc1 hv w2
    go_wp2_with fail
    obtain ⟨hrd, hX3, hc3⟩ := HH.out
    clear HH hcv
    refine hrd.mono ?_
    rintro e w4 ⟨rfl, hG4, hc34⟩
    have hX4 : TapeAt w4 w1.heap.size l 0 := blk_keep hX3 hc34 (by omega)
    have hc4 : Chg (fun _ => False) w w4 := hc3.trans hc34 (T := fun k => k = w1.heap.size + 1) (S := fun _ => False) (fun i hi h => by have : i = w1.heap.size + 1 := h; omega)
    have hgt := cget_ref w1.heap.size l w4 (by omega) hX4
    have HH := hid (And.intro hgt (And.intro hG4 hc4))
    clear hgt hX4 hG4 hc4 hrd hX3 hc3 hc34
    go_wp2_with fail
    obtain ⟨hgt, hG4, hc4⟩ := HH.out
    clear HH
    refine hgt.mono ?_
    rintro e w5 ⟨rfl, ⟨l', e', hX5, hend⟩, hc45⟩
    have hG5 := blk_keep hG4 hc45 (show ¬ w1.heap.size + 1 = w1.heap.size by omega)
    have hc5 : Chg (fun _ => False) w w5 := hc4.trans hc45 (T := fun k => k = w1.heap.size) (S := fun _ => False) (fun i hi h => by have : i = w1.heap.size := h; omega)
    have HE := hid hend
    clear hgt hG4 hc4 hc45 hend
    generalize credErr l = er at *
    generalize credGot l noCred = c at *
    rw [show credV c = .agg #[.int .i64 c.kind, .string ⟨c.head.1.toArray⟩, .string ⟨c.head.2.toArray⟩, .string ⟨c.who.toArray⟩, .string ⟨c.b.1.toArray⟩, .string ⟨c.b.2.toArray⟩, .string ⟨c.c.1.toArray⟩, .string ⟨c.c.2.toArray⟩, .string ⟨c.w2.toArray⟩] from rfl]
    have ha6 : Chg (fun _ => False) w5 (w5.alloc (.cells #[.int .i64 c.kind, .string ⟨c.head.1.toArray⟩, .string ⟨c.head.2.toArray⟩, .string ⟨c.who.toArray⟩, .string ⟨c.b.1.toArray⟩, .string ⟨c.b.2.toArray⟩, .string ⟨c.c.1.toArray⟩, .string ⟨c.c.2.toArray⟩, .string ⟨c.w2.toArray⟩] 25)) := (Chg.refl _ w5).alloc _
    have hX6 : TapeAt _ w1.heap.size l' e' := blk_keep hX5 ha6 id
    have hG6 := blk_keep hG5 ha6 id
    obtain ⟨g0, g1, g2, g3, g4, g5, g6, g7, g8⟩ := cred_at_blk hG6
    simp only [Nat.zero_add] at g0 g1 g2 g3 g4 g5 g6 g7 g8
    have htn := tend_any w1.heap.size l' e' _ hX6
    have HH := hid (And.intro htn (hc5.trans ha6 (fun _ _ h => h)))
    clear htn hX5 hG5 ha6 hX6 hG6 hc5
    go_wp2_with fail
    refine HH.out.1.mono ?_
    rintro e w7 ⟨rfl, rfl⟩
    rw [HE.out]
    have HC := hid HH.out.2
    clear HH g0 g1 g2 g3 g4 g5 g6 g7 g8 HE
    go_wp2
    go_ret
    exact ⟨rfl, HC.out⟩
end Go.Proofs.Ytjohiggfjpfbeaa
