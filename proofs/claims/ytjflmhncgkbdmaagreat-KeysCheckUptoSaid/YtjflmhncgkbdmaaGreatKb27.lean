/- Texts that the proof leans on, in one: KeysFirst, RefCredGreat, KeySize. -/
import Derived.Test.YtjflmhncgkbdmaaGreatKb25
import Derived.Test.YtjflmhncgkbdmaaGreatKb10
import Derived.Test.YtjflmhncgkbdmaaGreatKb26
import Derived.Test.YtjflmhncgkbdmaaGreatKb2
import Derived.Test.YtjflmhncgkbdmaaGreatProg
import Derived.Test.YtjflmhncgkbdmaaGreatChecked
import Derived.Deep.QuietTactic
import Derived.BigQuiet
import Derived.Test.YtjflmhncgkbdmaaGreatKb8
/- Law 6's first: it answers true, and turns nothing that was there. -/
namespace Go.Proofs.YtjflmhncgkbdmaaGreat
open Go.RowKit

/-- What first has made, ahead of the pen: two registries, the credential, the signed one. -/
structure FSt (n : Nat) (w : World) (g C S o : Nat) (ta : Option Addr) (cap : Nat) : Prop where
  rg : RegAt (fun i => i < n) w g [kA, kB]
  ro : RegAt (fun i => i < n) w o [kM]
  cC : w.heap[C]? = some (.cells (credBox c0) 35 (0, 0))
  cS : w.heap[S]? = some (.cells (signBox c0 (.slice ta tag0.length cap)) 38 (0, 0))
  bt : BytesAt (fun i => i < n) w (.slice ta tag0.length cap) tag0
  lC : C < n
  lS : S < n

theorem FSt.keep {n : Nat} {w w' : World} {g C S o : Nat} {ta : Option Addr} {cap : Nat} {Q : Nat → Prop} (h : FSt n w g C S o ta cap) (hc : Chg Q w w') (hQ : ∀ i, i < n → ¬ Q i) : FSt n w' g C S o ta cap :=
  ⟨h.rg.keep hc hQ, h.ro.keep hc hQ, blk_keep h.cC hc (hQ _ h.lC), blk_keep h.cS hc (hQ _ h.lS), h.bt.keep hc hQ, h.lC, h.lS⟩

theorem keys_AB (w : World) : KeysAt (fun _ => True) (((w.alloc (.cells #[.int .u8 107] 5 (1, 2))).alloc (.cells #[.int .u8 108] 5 (1, 2))).alloc (.cells #[.string ⟨#[97]⟩, .slice (some ⟨w.heap.size, 0, none⟩) 1 1, .string ⟨#[98]⟩, .slice (some ⟨w.heap.size + 1, 0, none⟩) 1 1] 72)) (some ⟨w.heap.size + 2, 0, none⟩) [kA, kB] := by
  have h1 := bytes_lit1 107 107 (1, 2) rfl w
  have h2 := bytes_lit1 108 108 (1, 2) rfl (w.alloc (.cells #[.int .u8 107] 5 (1, 2)))
  rw [show (w.alloc (.cells #[.int .u8 107] 5 (1, 2))).heap.size = w.heap.size + 1 by simp] at h2
  have hb := heap_alloc_new ((w.alloc (.cells #[.int .u8 107] 5 (1, 2))).alloc (.cells #[.int .u8 108] 5 (1, 2))) (.cells #[.string ⟨#[97]⟩, .slice (some ⟨w.heap.size, 0, none⟩) 1 1, .string ⟨#[98]⟩, .slice (some ⟨w.heap.size + 1, 0, none⟩) 1 1] 72)
  rw [show ((w.alloc (.cells #[.int .u8 107] 5 (1, 2))).alloc (.cells #[.int .u8 108] 5 (1, 2))).heap.size = w.heap.size + 2 by simp] at hb
  have k1 := (h1.keep ((Chg.refl (fun _ => False) _).alloc (.cells #[.int .u8 108] 5 (1, 2))) (fun _ _ => id)).keep ((Chg.refl (fun _ => False) _).alloc (.cells #[.string ⟨#[97]⟩, .slice (some ⟨w.heap.size, 0, none⟩) 1 1, .string ⟨#[98]⟩, .slice (some ⟨w.heap.size + 1, 0, none⟩) 1 1] 72)) (fun _ _ => id)
  have k2 := h2.keep ((Chg.refl (fun _ => False) _).alloc (.cells #[.string ⟨#[97]⟩, .slice (some ⟨w.heap.size, 0, none⟩) 1 1, .string ⟨#[98]⟩, .slice (some ⟨w.heap.size + 1, 0, none⟩) 1 1] 72)) (fun _ _ => id)
  exact keys_two (k := kA) (q := kB) hb k1 k2 (by decide) (by decide)

theorem keys_E (w2 : World) : KeysAt (fun _ => True) (w2.alloc (.cells #[.string ⟨#[97]⟩, .slice none 0 0] 72)) (some ⟨w2.heap.size, 0, none⟩) [kE] :=
  keys_one (k := kE) (heap_alloc_new w2 _) (BytesAt.nil _ _) (by decide)

theorem keys_M (w6 : World) : KeysAt (fun _ => True) ((w6.alloc (.cells #[.int .u8 109] 5 (1, 2))).alloc (.cells #[.string ⟨#[97]⟩, .slice (some ⟨w6.heap.size, 0, none⟩) 1 1] 72)) (some ⟨w6.heap.size + 1, 0, none⟩) [kM] := by
  have h1 := bytes_lit1 109 109 (1, 2) rfl w6
  have hb := heap_alloc_new (w6.alloc (.cells #[.int .u8 109] 5 (1, 2))) (.cells #[.string ⟨#[97]⟩, .slice (some ⟨w6.heap.size, 0, none⟩) 1 1] 72)
  rw [show (w6.alloc (.cells #[.int .u8 109] 5 (1, 2))).heap.size = w6.heap.size + 1 by simp] at hb
  have k1 := h1.keep ((Chg.refl (fun _ => False) _).alloc (.cells #[.string ⟨#[97]⟩, .slice (some ⟨w6.heap.size, 0, none⟩) 1 1] 72)) (fun _ _ => id)
  exact keys_one (k := kM) hb k1 (by decide)

set_option maxRecDepth 100000 in
set_option maxHeartbeats 8000000 in
theorem kfirst (w : World) : Calls Tryz.prog 5 #[] w fun e w' => e = .returned (.bool true) ∧ Chg (fun _ => False) w w' := by
  have kc := kconv_at
  have hnew : Calls Tryz.prog 7 #[.slice (some ⟨w.heap.size + 2, 0, none⟩) 2 2] (((w.alloc (.cells #[.int .u8 107] 5 (1, 2))).alloc (.cells #[.int .u8 108] 5 (1, 2))).alloc (.cells #[.string ⟨#[97]⟩, .slice (some ⟨w.heap.size, 0, none⟩) 1 1, .string ⟨#[98]⟩, .slice (some ⟨w.heap.size + 1, 0, none⟩) 1 1] 72)) (NewPost [kA, kB] (((w.alloc (.cells #[.int .u8 107] 5 (1, 2))).alloc (.cells #[.int .u8 108] 5 (1, 2))).alloc (.cells #[.string ⟨#[97]⟩, .slice (some ⟨w.heap.size, 0, none⟩) 1 1, .string ⟨#[98]⟩, .slice (some ⟨w.heap.size + 1, 0, none⟩) 1 1] 72))) := pnew (some ⟨w.heap.size + 2, 0, none⟩) 2 [kA, kB] _ (by decide) (keys_AB w)
  have hc0 : Chg (fun _ => False) w (((w.alloc (.cells #[.int .u8 107] 5 (1, 2))).alloc (.cells #[.int .u8 108] 5 (1, 2))).alloc (.cells #[.string ⟨#[97]⟩, .slice (some ⟨w.heap.size, 0, none⟩) 1 1, .string ⟨#[98]⟩, .slice (some ⟨w.heap.size + 1, 0, none⟩) 1 1] 72)) := (((Chg.refl _ w).alloc _).alloc _).alloc _
  have HH := hid (And.intro hnew hc0)
  clear hnew hc0
  go_enter Tryz.func5, Tryz.ntmps5
  go_wp2_with fail
  clear kc
  obtain ⟨hnew, hc0⟩ := HH.out
  clear HH
  refine hnew.mono ?_
  rintro e w2 hN
  obtain ⟨g, rfl, hg, hc1⟩ := hN.ok reg_AB
  have hw2 := hc0.trans hc1 (fun _ _ h => h)
  have hg2 : RegAt (fun i => w.heap.size ≤ i ∧ i < w2.heap.size) w2 g [kA, kB] := RegAt.mono hg (fun i hi => ⟨Nat.le_trans hc0.size hi.1, hi.2⟩)
  have hnew2 : Calls Tryz.prog 7 #[.slice (some ⟨w2.heap.size, 0, none⟩) 1 1] (w2.alloc (.cells #[.string ⟨#[97]⟩, .slice none 0 0] 72)) (NewPost [kE] (w2.alloc (.cells #[.string ⟨#[97]⟩, .slice none 0 0] 72))) := pnew (some ⟨w2.heap.size, 0, none⟩) 1 [kE] _ (by decide) (keys_E w2)
  have hal : Chg (fun _ => False) w2 (w2.alloc (.cells #[.string ⟨#[97]⟩, .slice none 0 0] 72)) := (Chg.refl _ w2).alloc _
  have HH := hid (And.intro hnew2 (And.intro (hw2.trans hal (fun _ _ h => h)) (And.intro (hg2.keep hal (fun _ _ => id)) hal.size)))
  clear hnew hN hg hg2 hw2 hc0 hc1 hnew2 hal
  go_wp2_with fail
  obtain ⟨hnew, hc0, hg2, hs2⟩ := HH.out
  clear HH
  generalize (w2.alloc (.cells #[.string ⟨#[97]⟩, .slice none 0 0] 72)) = w22 at *
  refine hnew.mono ?_
  rintro e w3 hN
  obtain ⟨rfl, hc1⟩ := hN.bad (by rw [reg_E]; decide)
  rw [reg_E]
  have hw3 := hc0.trans hc1 (fun _ _ h => h)
  have hg3 := hg2.keep hc1 (fun _ _ => id)
  have hs3 := Nat.le_trans hs2 hc1.size
  clear hnew hN hc0 hc1 hg2 hs2
  have hal : Chg (fun _ => False) w3 (w3.alloc (.cells #[.int .i64 1, .string ⟨#[97]⟩, .string ⟨#[114]⟩, .string ⟨#[100]⟩, .string ⟨#[]⟩, .string ⟨#[]⟩, .string ⟨#[]⟩, .string ⟨#[]⟩, .string ⟨#[]⟩] 35)) := (Chg.refl _ w3).alloc _
  have hC4 : (w3.alloc (.cells #[.int .i64 1, .string ⟨#[97]⟩, .string ⟨#[114]⟩, .string ⟨#[100]⟩, .string ⟨#[]⟩, .string ⟨#[]⟩, .string ⟨#[]⟩, .string ⟨#[]⟩, .string ⟨#[]⟩] 35)).heap[w3.heap.size]? = some (.cells (credBox c0) 35 (0, 0)) := heap_alloc_new w3 _
  have hsg : Calls Tryz.prog 12 #[.pointer (some ⟨g, 0, none⟩), .agg #[.int .i64 1, .string ⟨#[97]⟩, .string ⟨#[114]⟩, .string ⟨#[100]⟩, .string ⟨#[]⟩, .string ⟨#[]⟩, .string ⟨#[]⟩, .string ⟨#[]⟩, .string ⟨#[]⟩]] (w3.alloc (.cells #[.int .i64 1, .string ⟨#[97]⟩, .string ⟨#[114]⟩, .string ⟨#[100]⟩, .string ⟨#[]⟩, .string ⟨#[]⟩, .string ⟨#[]⟩, .string ⟨#[]⟩, .string ⟨#[]⟩] 35)) (SignPost (signed [kA, kB] c0) (signErr [kA, kB] c0) (w3.alloc (.cells #[.int .i64 1, .string ⟨#[97]⟩, .string ⟨#[114]⟩, .string ⟨#[100]⟩, .string ⟨#[]⟩, .string ⟨#[]⟩, .string ⟨#[]⟩, .string ⟨#[]⟩, .string ⟨#[]⟩] 35))) :=
    psign (Bg := w.heap.size) g [kA, kB] c0 _ ((hg3.keep hal (fun _ _ => id)).mono (fun i hi => ⟨hi.1, by have := hal.size; omega⟩)) reg_AB c0_short
  have HH := hid (And.intro hsg (And.intro (hw3.trans hal (fun _ _ h => h)) (And.intro (hg3.keep hal (fun _ _ => id)) (And.intro hC4 hal.size))))
  clear hsg hw3 hg3 hal hC4
  go_wp2_with fail
  obtain ⟨hsg, hc0, hg4, hC4, hs4⟩ := HH.out
  clear HH
  generalize (w3.alloc (.cells #[.int .i64 1, .string ⟨#[97]⟩, .string ⟨#[114]⟩, .string ⟨#[100]⟩, .string ⟨#[]⟩, .string ⟨#[]⟩, .string ⟨#[]⟩, .string ⟨#[]⟩, .string ⟨#[]⟩] 35)) = w4 at *
  obtain ⟨C, hCe⟩ : ∃ C, w3.heap.size = C := ⟨_, rfl⟩
  rw [hCe] at hC4 hs3 hs4
  simp only [hCe]
  clear hCe
  refine hsg.mono ?_
  rintro e w5 ⟨sv, rfl, ⟨ta, cap, rfl, hbt⟩, hc1⟩
  rw [sgn_AB]
  simp only [signed_AB] at hbt ⊢
  have hw5 := hc0.trans hc1 (fun _ _ h => h)
  have hg5 := hg4.keep hc1 (fun _ _ => id)
  have hC5 := blk_keep hC4 hc1 id
  have hCl := lt_blk hC4
  have hs5 := hc1.size
  clear hsg hc0 hc1 hg4 hC4
  rw [show Value.tuple #[signV c0 (.slice ta tag0.length cap), .int .i64 ((0 : Nat) : Int)] = .tuple #[.agg #[.int .i64 1, .string ⟨#[97]⟩, .string ⟨#[114]⟩, .string ⟨#[100]⟩, .string ⟨#[]⟩, .string ⟨#[]⟩, .string ⟨#[]⟩, .string ⟨#[]⟩, .string ⟨#[]⟩, .slice ta tag0.length cap], .int .i64 0] from rfl]
  have hk3 := keys_M (w5.alloc (.cells #[.int .i64 1, .string ⟨#[97]⟩, .string ⟨#[114]⟩, .string ⟨#[100]⟩, .string ⟨#[]⟩, .string ⟨#[]⟩, .string ⟨#[]⟩, .string ⟨#[]⟩, .string ⟨#[]⟩, .slice ta tag0.length cap] 38))
  have hz6 : (w5.alloc (.cells #[.int .i64 1, .string ⟨#[97]⟩, .string ⟨#[114]⟩, .string ⟨#[100]⟩, .string ⟨#[]⟩, .string ⟨#[]⟩, .string ⟨#[]⟩, .string ⟨#[]⟩, .string ⟨#[]⟩, .slice ta tag0.length cap] 38)).heap.size = w5.heap.size + 1 := by simp
  rw [hz6] at hk3
  have hnew3 : Calls Tryz.prog 7 #[.slice (some ⟨w5.heap.size + 1 + 1, 0, none⟩) 1 1] (((w5.alloc (.cells #[.int .i64 1, .string ⟨#[97]⟩, .string ⟨#[114]⟩, .string ⟨#[100]⟩, .string ⟨#[]⟩, .string ⟨#[]⟩, .string ⟨#[]⟩, .string ⟨#[]⟩, .string ⟨#[]⟩, .slice ta tag0.length cap] 38)).alloc (.cells #[.int .u8 109] 5 (1, 2))).alloc (.cells #[.string ⟨#[97]⟩, .slice (some ⟨w5.heap.size + 1, 0, none⟩) 1 1] 72)) (NewPost [kM] (((w5.alloc (.cells #[.int .i64 1, .string ⟨#[97]⟩, .string ⟨#[114]⟩, .string ⟨#[100]⟩, .string ⟨#[]⟩, .string ⟨#[]⟩, .string ⟨#[]⟩, .string ⟨#[]⟩, .string ⟨#[]⟩, .slice ta tag0.length cap] 38)).alloc (.cells #[.int .u8 109] 5 (1, 2))).alloc (.cells #[.string ⟨#[97]⟩, .slice (some ⟨w5.heap.size + 1, 0, none⟩) 1 1] 72))) := pnew (some ⟨w5.heap.size + 1 + 1, 0, none⟩) 1 [kM] _ (by decide) hk3
  have hal0 : Chg (fun _ => False) w5 (w5.alloc (.cells #[.int .i64 1, .string ⟨#[97]⟩, .string ⟨#[114]⟩, .string ⟨#[100]⟩, .string ⟨#[]⟩, .string ⟨#[]⟩, .string ⟨#[]⟩, .string ⟨#[]⟩, .string ⟨#[]⟩, .slice ta tag0.length cap] 38)) := (Chg.refl _ w5).alloc _
  have hal1 : Chg (fun _ => False) (w5.alloc (.cells #[.int .i64 1, .string ⟨#[97]⟩, .string ⟨#[114]⟩, .string ⟨#[100]⟩, .string ⟨#[]⟩, .string ⟨#[]⟩, .string ⟨#[]⟩, .string ⟨#[]⟩, .string ⟨#[]⟩, .slice ta tag0.length cap] 38)) (((w5.alloc (.cells #[.int .i64 1, .string ⟨#[97]⟩, .string ⟨#[114]⟩, .string ⟨#[100]⟩, .string ⟨#[]⟩, .string ⟨#[]⟩, .string ⟨#[]⟩, .string ⟨#[]⟩, .string ⟨#[]⟩, .slice ta tag0.length cap] 38)).alloc (.cells #[.int .u8 109] 5 (1, 2))).alloc (.cells #[.string ⟨#[97]⟩, .slice (some ⟨w5.heap.size + 1, 0, none⟩) 1 1] 72)) := ((Chg.refl _ _).alloc _).alloc _
  have hal : Chg (fun _ => False) w5 (((w5.alloc (.cells #[.int .i64 1, .string ⟨#[97]⟩, .string ⟨#[114]⟩, .string ⟨#[100]⟩, .string ⟨#[]⟩, .string ⟨#[]⟩, .string ⟨#[]⟩, .string ⟨#[]⟩, .string ⟨#[]⟩, .slice ta tag0.length cap] 38)).alloc (.cells #[.int .u8 109] 5 (1, 2))).alloc (.cells #[.string ⟨#[97]⟩, .slice (some ⟨w5.heap.size + 1, 0, none⟩) 1 1] 72)) := hal0.trans hal1 (fun _ _ h => h)
  have hS6 : (w5.alloc (.cells #[.int .i64 1, .string ⟨#[97]⟩, .string ⟨#[114]⟩, .string ⟨#[100]⟩, .string ⟨#[]⟩, .string ⟨#[]⟩, .string ⟨#[]⟩, .string ⟨#[]⟩, .string ⟨#[]⟩, .slice ta tag0.length cap] 38)).heap[w5.heap.size]? = some (.cells (signBox c0 (.slice ta tag0.length cap)) 38 (0, 0)) := heap_alloc_new w5 _
  have HH := hid (And.intro hnew3 (And.intro (hw5.trans hal (fun _ _ h => h)) (And.intro (hg5.keep hal (fun _ _ => id)) (And.intro (blk_keep hC5 hal id) (And.intro (blk_keep hS6 hal1 id) (And.intro (hbt.keep hal (fun _ _ => id)) hal.size))))))
  clear hk3 hz6 hnew3 hal0 hal1 hal hS6 hw5 hg5 hC5 hbt
  have kc := kconv_at
  go_wp2_with fail
  clear kc
  obtain ⟨hnew, hc0, hg6, hC6, hS6, hbt6, hs6⟩ := HH.out
  clear HH
  generalize (((w5.alloc (.cells #[.int .i64 1, .string ⟨#[97]⟩, .string ⟨#[114]⟩, .string ⟨#[100]⟩, .string ⟨#[]⟩, .string ⟨#[]⟩, .string ⟨#[]⟩, .string ⟨#[]⟩, .string ⟨#[]⟩, .slice ta tag0.length cap] 38)).alloc (.cells #[.int .u8 109] 5 (1, 2))).alloc (.cells #[.string ⟨#[97]⟩, .slice (some ⟨w5.heap.size + 1, 0, none⟩) 1 1] 72)) = w6 at *
  obtain ⟨S, hSe⟩ : ∃ S, w5.heap.size = S := ⟨_, rfl⟩
  rw [hSe] at hnew hS6 hbt6 hs5 hs6
  simp only [hSe]
  clear hSe
  refine hnew.mono ?_
  rintro e w7 hN
  obtain ⟨o, rfl, ho, hc1⟩ := hN.ok reg_M
  have hw7 := hc0.trans hc1 (fun _ _ h => h)
  have hs7 := hc1.size
  have hg7 := (hg6.keep hc1 (fun _ _ => id)).mono (E := fun i => i < w7.heap.size) (fun i hi => by omega)
  have hF7 : FSt w7.heap.size w7 g C S o ta cap := ⟨hg7, RegAt.mono ho (fun i hi => hi.2), blk_keep hC6 hc1 id, blk_keep hS6 hc1 id, (hbt6.keep hc1 (fun _ _ => id)).mono (fun i hi => by omega), Nat.lt_of_lt_of_le (lt_blk hC6) hs7, Nat.lt_of_lt_of_le (lt_blk hS6) hs7⟩
  clear hnew hN hg6 hC6 hS6 hbt6 hs6 hs5 hCl hs3 hs4 hc0 hc1 hg7 ho hs7
  have hpn := pen_new w7 (w7.heap.size + 1)
  have hal : Chg (fun _ => False) w7 (w7.alloc (.cells #[.slice none 0 0] 56)) := (Chg.refl _ w7).alloc _
  have hput : Calls Tryz.prog 22 #[.pointer (some ⟨w7.heap.size, 0, none⟩), .agg #[.int .i64 1, .string ⟨#[97]⟩, .string ⟨#[114]⟩, .string ⟨#[100]⟩, .string ⟨#[]⟩, .string ⟨#[]⟩, .string ⟨#[]⟩, .string ⟨#[]⟩, .string ⟨#[]⟩, .slice ta tag0.length cap]] (w7.alloc (.cells #[.slice none 0 0] 56)) fun e w' => e = .returned (.bool true) ∧ PenPost (w7.heap.size + 1) w7.heap.size none ([] ++ signBytes ⟨c0, tag0⟩) (w7.alloc (.cells #[.slice none 0 0] 56)) w' :=
    pkput_yes (w7.heap.size + 1) w7.heap.size 0 none [] c0 tag0 ta cap _ hpn (by simp) (by omega) (by simp) sign_AB c0_short (by rw [bytes_AB]; decide) (hF7.bt.keep hal (fun _ _ => id)) (fun i hi => ⟨by have : i < w7.heap.size := hi; omega, by simp [rowOf], by have : i < w7.heap.size := hi; have := hal.size; omega⟩)
  obtain ⟨⟨b0, b1, b2, b3, b4, b5, b6, b7, b8⟩, b9⟩ := cred_at_sign hF7.cS
  simp only [Nat.zero_add, c0, noneR] at b0 b1 b2 b3 b4 b5 b6 b7 b8
  change _ = some (Value.string ⟨#[97]⟩) at b1
  change _ = some (Value.string ⟨#[114]⟩) at b2
  change _ = some (Value.string ⟨#[100]⟩) at b3
  change _ = some (Value.string ⟨#[]⟩) at b4
  change _ = some (Value.string ⟨#[]⟩) at b5
  change _ = some (Value.string ⟨#[]⟩) at b6
  change _ = some (Value.string ⟨#[]⟩) at b7
  change _ = some (Value.string ⟨#[]⟩) at b8
  have HH := hid (And.intro hput (And.intro hpn (And.intro hal (And.intro hF7 hw7))))
  have hSl := hF7.lS
  clear hput hpn hal hF7 hw7
  go_wp2_with fail
  clear b0 b1 b2 b3 b4 b5 b6 b7 b8 b9
  obtain ⟨hput, hpn, hal, hF7, hw7⟩ := HH.out
  clear HH
  generalize (w7.alloc (.cells #[.slice none 0 0] 56)) = w75 at *
  refine hput.mono ?_
  rintro e w8 ⟨rfl, pa, pc, hp8, hpc⟩
  rw [List.nil_append] at hp8
  have hc78 : Chg (fun _ => False) w7 w8 := pchg_new hal hpn (by omega) (Nat.le_refl _) hpc
  have hF8 := hF7.keep hc78 (fun _ _ => id)
  have hw8 := hw7.trans hc78 (fun _ _ h => h)
  have hs8 := hc78.size
  have hsw7 := hw7.size
  have hP8 := lt_blk hp8.cell
  clear hput hpn hal hF7 hw7 hc78 hpc
  obtain ⟨n, hn⟩ : ∃ n, w7.heap.size = n := ⟨_, rfl⟩
  rw [hn] at hF8 hs8 hp8 hP8 hSl
  simp only [hn]
  have HW0 : Hid (w.heap.size ≤ n) := hid (by rw [← hn]; exact hsw7)
  clear hn hsw7
  have hal : Chg (fun _ => False) w8 (w8.alloc (.cells #[.int .i64 0, .string ⟨#[]⟩, .string ⟨#[]⟩, .string ⟨#[]⟩, .string ⟨#[]⟩, .string ⟨#[]⟩, .string ⟨#[]⟩, .string ⟨#[]⟩, .string ⟨#[]⟩, .slice none 0 0] 38)) := (Chg.refl _ w8).alloc _
  have hX9 : (w8.alloc (.cells #[.int .i64 0, .string ⟨#[]⟩, .string ⟨#[]⟩, .string ⟨#[]⟩, .string ⟨#[]⟩, .string ⟨#[]⟩, .string ⟨#[]⟩, .string ⟨#[]⟩, .string ⟨#[]⟩, .slice none 0 0] 38)).heap[w8.heap.size]? = some (.cells (signBox noCred (.slice none 0 0)) 38 (0, 0)) := heap_alloc_new w8 _
  have hbl : (signBytes ⟨c0, tag0⟩).length ≤ 140737488355328 := by
    rw [signBytes, List.length_append]
    show (credEnc c0).length + (encS tag0).length ≤ _
    rw [bytes_AB, encS, List.length_append, tag0_len, enc_small (by decide)]
    decide
  have hby := bytes_any (n + 1) n pc pa (signBytes ⟨c0, tag0⟩) (w8.alloc (.cells #[.int .i64 0, .string ⟨#[]⟩, .string ⟨#[]⟩, .string ⟨#[]⟩, .string ⟨#[]⟩, .string ⟨#[]⟩, .string ⟨#[]⟩, .string ⟨#[]⟩, .string ⟨#[]⟩, .slice none 0 0] 38)) (hp8.keep hal id (fun _ _ => id)) hbl
  have HH := hid (And.intro hby (And.intro hX9 (And.intro (hF8.keep hal (fun _ _ => id)) (And.intro (hw8.trans hal (fun _ _ h => h)) hal.size))))
  clear hby hX9 hal hF8 hw8 hp8
  go_wp2_with fail
  obtain ⟨hby, hX9, hF9, hw9, hs9⟩ := HH.out
  clear HH
  generalize (w8.alloc (.cells #[.int .i64 0, .string ⟨#[]⟩, .string ⟨#[]⟩, .string ⟨#[]⟩, .string ⟨#[]⟩, .string ⟨#[]⟩, .string ⟨#[]⟩, .string ⟨#[]⟩, .string ⟨#[]⟩, .slice none 0 0] 38)) = w9 at *
  obtain ⟨X, hXe⟩ : ∃ X, w8.heap.size = X := ⟨_, rfl⟩
  rw [hXe] at hX9 hs8 hP8 hs9
  simp only [hXe]
  clear hXe
  refine hby.mono ?_
  rintro e w10 ⟨ba, bc, rfl, hbb, hc910⟩
  have hX10 := blk_keep hX9 hc910 id
  have hXl := lt_blk hX9
  have hrd := sreadF hbl hbb (fun i hi => hi.2) (fun h => by have := h.1; omega) hX10
  have hmf : ∀ (fn : Fn) (first cap : Array Value) (w : World), (Instr.makeFunc fn first cap).run Tryz.prog w = .ok (.func fn first cap) w := fun _ _ _ _ => rfl
  have HH := hid (And.intro hrd (And.intro (hF9.keep hc910 (fun _ _ => id)) (hw9.trans hc910 (fun _ _ h => h))))
  have hs10 := hc910.size
  clear hby hX9 hbb hc910 hX10 hrd hF9 hw9
  go_wp2_with fail
  clear hmf
  obtain ⟨hrd, hF10, hw10⟩ := HH.out
  clear HH
  refine hrd.mono ?_
  rintro e w11 ⟨rfl, ⟨xa, xc, hX11, hxb⟩, hc1011⟩
  rw [sgErr_bytes sign_AB]
  simp only [signGot_bytes sign_AB] at hX11 hxb
  have hF11 := hF10.keep hc1011 (fun i hi h => by have h2 : i = X := h; omega)
  have hw11 : Chg (fun _ => False) w w11 := hw10.trans hc1011 (T := (· = X)) (S := fun _ => False) (fun i hi h => by have h1 : i = X := h; have := HW0.out; omega)
  have HN3 : Hid (n ≤ w11.heap.size) := hid (by have := hc1011.size; omega)
  have HX := hid (And.intro hX11 hxb)
  have HF := hid hF11
  have HW := hid hw11
  have z8 : ((tag0.length : Int) == 8) = true := beq_iff_eq.2 (by rw [tag0_len]; rfl)
  obtain ⟨⟨b0, b1, b2, b3, b4, b5, b6, b7, b8⟩, b9⟩ := cred_at_sign hF11.cS
  simp only [Nat.zero_add, c0, noneR] at b0 b1 b2 b3 b4 b5 b6 b7 b8
  change _ = some (Value.string ⟨#[97]⟩) at b1
  change _ = some (Value.string ⟨#[114]⟩) at b2
  change _ = some (Value.string ⟨#[100]⟩) at b3
  change _ = some (Value.string ⟨#[]⟩) at b4
  change _ = some (Value.string ⟨#[]⟩) at b5
  change _ = some (Value.string ⟨#[]⟩) at b6
  change _ = some (Value.string ⟨#[]⟩) at b7
  change _ = some (Value.string ⟨#[]⟩) at b8
  have hck : Calls Tryz.prog 9 #[.pointer (some ⟨g, 0, none⟩), .agg #[.int .i64 1, .string ⟨#[97]⟩, .string ⟨#[114]⟩, .string ⟨#[100]⟩, .string ⟨#[]⟩, .string ⟨#[]⟩, .string ⟨#[]⟩, .string ⟨#[]⟩, .string ⟨#[]⟩, .slice ta tag0.length cap]] w11 fun e w' => e = .returned (.int .i64 (checkErr [kA, kB] ⟨c0, tag0⟩ : Nat)) ∧ Chg (fun _ => False) w11 w' :=
    pcheck g [kA, kB] c0 tag0 ta cap w11 hF11.rg reg_AB c0_short hF11.bt
  clear hrd hF10 hw10 hc1011 hX11 hxb hF11 hw11
  go_wp2_with fail
  refine hck.mono ?_
  rintro e w12 ⟨rfl, hc⟩
  rw [check_AB]
  have HN35 : Hid (n ≤ w12.heap.size) := hid (by have := hc.size; have := HN3.out; omega)
  have HF2 := hid (HF.out.keep hc (fun _ _ => id))
  have HW2 := hid (HW.out.trans hc (fun _ _ h => h))
  have HX2 := hid (And.intro (blk_keep HX.out.1 hc id) (HX.out.2.keep hc (fun _ _ => id)))
  clear hck hc b0 b1 b2 b3 b4 b5 b6 b7 b8 b9 HF HW HX
  obtain ⟨⟨b0, b1, b2, b3, b4, b5, b6, b7, b8⟩, b9⟩ := cred_at_sign HF2.out.cS
  simp only [Nat.zero_add, c0, noneR] at b0 b1 b2 b3 b4 b5 b6 b7 b8
  change _ = some (Value.string ⟨#[97]⟩) at b1
  change _ = some (Value.string ⟨#[114]⟩) at b2
  change _ = some (Value.string ⟨#[100]⟩) at b3
  change _ = some (Value.string ⟨#[]⟩) at b4
  change _ = some (Value.string ⟨#[]⟩) at b5
  change _ = some (Value.string ⟨#[]⟩) at b6
  change _ = some (Value.string ⟨#[]⟩) at b7
  change _ = some (Value.string ⟨#[]⟩) at b8
  have hck : Calls Tryz.prog 9 #[.pointer (some ⟨o, 0, none⟩), .agg #[.int .i64 1, .string ⟨#[97]⟩, .string ⟨#[114]⟩, .string ⟨#[100]⟩, .string ⟨#[]⟩, .string ⟨#[]⟩, .string ⟨#[]⟩, .string ⟨#[]⟩, .string ⟨#[]⟩, .slice ta tag0.length cap]] w12 fun e w' => e = .returned (.int .i64 (checkErr [kM] ⟨c0, tag0⟩ : Nat)) ∧ Chg (fun _ => False) w12 w' :=
    pcheck o [kM] c0 tag0 ta cap w12 HF2.out.ro reg_M c0_short HF2.out.bt
  go_wp2_with fail
  refine hck.mono ?_
  rintro e w13 ⟨rfl, hc⟩
  rw [check_M]
  have HN4 : Hid (n ≤ w13.heap.size) := hid (by have := hc.size; have := HN35.out; omega)
  have HF3 := hid (HF2.out.keep hc (fun _ _ => id))
  have HW3 := hid (HW2.out.trans hc (fun _ _ h => h))
  have HX3 := hid (And.intro (blk_keep HX2.out.1 hc id) (HX2.out.2.keep hc (fun _ _ => id)))
  clear hck hc b0 b1 b2 b3 b4 b5 b6 b7 b8 b9 HF2 HW2 HX2
  have hnm := pnames (B := 0) g [kA, kB] w13 reg_AB (by decide) (HF3.out.rg.mono (fun i hi => ⟨Nat.zero_le _, by have h1 : i < n := hi; have := HN4.out; omega⟩))
  go_wp2_with fail
  refine hnm.mono ?_
  rintro e w14 ⟨out, na, nc, rfl, _, hlen, _, hc⟩
  have hlen2 : out.length = 2 := hlen
  rw [hlen2]
  have HF4 := hid (HF3.out.keep hc (fun _ _ => id))
  have HW4 := hid (HW3.out.trans hc (fun _ _ h => h))
  have HX4 := hid (And.intro (blk_keep HX3.out.1 hc id) (HX3.out.2.keep hc (fun _ _ => id)))
  clear hnm hc hlen hlen2 HF3 HW3 HX3
  have hal : Chg (fun _ => False) w14 (w14.alloc (.cells #[.int .i64 1, .string ⟨#[97]⟩, .string ⟨#[114]⟩, .string ⟨#[100]⟩, .string ⟨#[]⟩, .string ⟨#[]⟩, .string ⟨#[]⟩, .string ⟨#[]⟩, .string ⟨#[]⟩, .slice ta tag0.length cap, .int .i64 1, .string ⟨#[97]⟩, .string ⟨#[114]⟩, .string ⟨#[100]⟩, .string ⟨#[]⟩, .string ⟨#[]⟩, .string ⟨#[]⟩, .string ⟨#[]⟩, .string ⟨#[]⟩, .slice none 0 0] 38)) := (Chg.refl _ w14).alloc _
  have hsn : SignsAt (fun _ => True) (w14.alloc (.cells #[.int .i64 1, .string ⟨#[97]⟩, .string ⟨#[114]⟩, .string ⟨#[100]⟩, .string ⟨#[]⟩, .string ⟨#[]⟩, .string ⟨#[]⟩, .string ⟨#[]⟩, .string ⟨#[]⟩, .slice ta tag0.length cap, .int .i64 1, .string ⟨#[97]⟩, .string ⟨#[114]⟩, .string ⟨#[100]⟩, .string ⟨#[]⟩, .string ⟨#[]⟩, .string ⟨#[]⟩, .string ⟨#[]⟩, .string ⟨#[]⟩, .slice none 0 0] 38)) (some ⟨w14.heap.size, 0, none⟩) [⟨c0, tag0⟩, ⟨c0, []⟩] := signs_two (s := ⟨c0, tag0⟩) (t := ⟨c0, []⟩) (a := ta) (b := none) (c := cap) (d := 0) (heap_alloc_new w14 _) ((HF4.out.bt.keep hal (fun _ _ => id)).mono (fun _ _ => trivial)) (BytesAt.nil _ _) c0_short c0_short
  have hgd : Calls Tryz.prog 11 #[.pointer (some ⟨g, 0, none⟩), .slice (some ⟨w14.heap.size, 0, none⟩) 2 2] (w14.alloc (.cells #[.int .i64 1, .string ⟨#[97]⟩, .string ⟨#[114]⟩, .string ⟨#[100]⟩, .string ⟨#[]⟩, .string ⟨#[]⟩, .string ⟨#[]⟩, .string ⟨#[]⟩, .string ⟨#[]⟩, .slice ta tag0.length cap, .int .i64 1, .string ⟨#[97]⟩, .string ⟨#[114]⟩, .string ⟨#[100]⟩, .string ⟨#[]⟩, .string ⟨#[]⟩, .string ⟨#[]⟩, .string ⟨#[]⟩, .string ⟨#[]⟩, .slice none 0 0] 38)) (SetPostC (goodC [kA, kB] [⟨c0, tag0⟩, ⟨c0, []⟩]) (w14.alloc (.cells #[.int .i64 1, .string ⟨#[97]⟩, .string ⟨#[114]⟩, .string ⟨#[100]⟩, .string ⟨#[]⟩, .string ⟨#[]⟩, .string ⟨#[]⟩, .string ⟨#[]⟩, .string ⟨#[]⟩, .slice ta tag0.length cap, .int .i64 1, .string ⟨#[97]⟩, .string ⟨#[114]⟩, .string ⟨#[100]⟩, .string ⟨#[]⟩, .string ⟨#[]⟩, .string ⟨#[]⟩, .string ⟨#[]⟩, .string ⟨#[]⟩, .slice none 0 0] 38))) :=
    pgood g [kA, kB] (some ⟨w14.heap.size, 0, none⟩) 2 [⟨c0, tag0⟩, ⟨c0, []⟩] _ (HF4.out.rg.keep hal (fun _ _ => id)) reg_AB (by decide) hsn
  obtain ⟨⟨b0, b1, b2, b3, b4, b5, b6, b7, b8⟩, b9⟩ := cred_at_sign HF4.out.cS
  simp only [Nat.zero_add, c0, noneR] at b0 b1 b2 b3 b4 b5 b6 b7 b8
  change _ = some (Value.string ⟨#[97]⟩) at b1
  change _ = some (Value.string ⟨#[114]⟩) at b2
  change _ = some (Value.string ⟨#[100]⟩) at b3
  change _ = some (Value.string ⟨#[]⟩) at b4
  change _ = some (Value.string ⟨#[]⟩) at b5
  change _ = some (Value.string ⟨#[]⟩) at b6
  change _ = some (Value.string ⟨#[]⟩) at b7
  change _ = some (Value.string ⟨#[]⟩) at b8
  obtain ⟨d0, d1, d2, d3, d4, d5, d6, d7, d8⟩ := cred_at_blk HF4.out.cC
  simp only [Nat.zero_add, c0, noneR] at d0 d1 d2 d3 d4 d5 d6 d7 d8
  change _ = some (Value.string ⟨#[97]⟩) at d1
  change _ = some (Value.string ⟨#[114]⟩) at d2
  change _ = some (Value.string ⟨#[100]⟩) at d3
  change _ = some (Value.string ⟨#[]⟩) at d4
  change _ = some (Value.string ⟨#[]⟩) at d5
  change _ = some (Value.string ⟨#[]⟩) at d6
  change _ = some (Value.string ⟨#[]⟩) at d7
  change _ = some (Value.string ⟨#[]⟩) at d8
  have HF5 := hid (HF4.out.keep hal (fun _ _ => id))
  have HW5 := hid (HW4.out.trans hal (fun _ _ h => h))
  have HX5 := hid (And.intro (blk_keep HX4.out.1 hal id) (HX4.out.2.keep hal (fun _ _ => id)))
  have hlC := HF4.out.lC
  have HG := hid hgd
  clear hal hsn hgd HF4 HW4 HX4
  go_wp2_with fail
  have hgd := HG.out
  generalize (w14.alloc (.cells #[.int .i64 1, .string ⟨#[97]⟩, .string ⟨#[114]⟩, .string ⟨#[100]⟩, .string ⟨#[]⟩, .string ⟨#[]⟩, .string ⟨#[]⟩, .string ⟨#[]⟩, .string ⟨#[]⟩, .slice ta tag0.length cap, .int .i64 1, .string ⟨#[97]⟩, .string ⟨#[114]⟩, .string ⟨#[100]⟩, .string ⟨#[]⟩, .string ⟨#[]⟩, .string ⟨#[]⟩, .string ⟨#[]⟩, .string ⟨#[]⟩, .slice none 0 0] 38)) = w15 at *
  refine hgd.mono ?_
  rintro e w16 ⟨gs, ga, gc, rfl, hset, _, hc, _⟩
  have hgs : gs = [c0] := hset.single c0_cred (by rw [good_AB]; simp) (by rw [good_AB]; simp)
  subst hgs
  have HF6 := hid (HF5.out.keep hc (fun _ _ => id))
  have HW6 := hid (HW5.out.trans hc (fun _ _ h => h))
  have HX6 := hid (And.intro (blk_keep HX5.out.1 hc id) (HX5.out.2.keep hc (fun _ _ => id)))
  clear hgd HG hset hc b0 b1 b2 b3 b4 b5 b6 b7 b8 b9 d0 d1 d2 d3 d4 d5 d6 d7 d8 HF5 HW5 HX5
  obtain ⟨⟨b0, b1, b2, b3, b4, b5, b6, b7, b8⟩, b9⟩ := cred_at_sign HF6.out.cS
  simp only [Nat.zero_add, c0, noneR] at b0 b1 b2 b3 b4 b5 b6 b7 b8
  change _ = some (Value.string ⟨#[97]⟩) at b1
  change _ = some (Value.string ⟨#[114]⟩) at b2
  change _ = some (Value.string ⟨#[100]⟩) at b3
  change _ = some (Value.string ⟨#[]⟩) at b4
  change _ = some (Value.string ⟨#[]⟩) at b5
  change _ = some (Value.string ⟨#[]⟩) at b6
  change _ = some (Value.string ⟨#[]⟩) at b7
  change _ = some (Value.string ⟨#[]⟩) at b8
  obtain ⟨⟨d0, d1, d2, d3, d4, d5, d6, d7, d8⟩, d9⟩ := cred_at_sign HX6.out.1
  simp only [Nat.zero_add, c0, noneR] at d0 d1 d2 d3 d4 d5 d6 d7 d8
  change _ = some (Value.string ⟨#[97]⟩) at d1
  change _ = some (Value.string ⟨#[114]⟩) at d2
  change _ = some (Value.string ⟨#[100]⟩) at d3
  change _ = some (Value.string ⟨#[]⟩) at d4
  change _ = some (Value.string ⟨#[]⟩) at d5
  change _ = some (Value.string ⟨#[]⟩) at d6
  change _ = some (Value.string ⟨#[]⟩) at d7
  change _ = some (Value.string ⟨#[]⟩) at d8
  have hsm : Calls Tryz.prog 14 #[.agg #[.int .i64 1, .string ⟨#[97]⟩, .string ⟨#[114]⟩, .string ⟨#[100]⟩, .string ⟨#[]⟩, .string ⟨#[]⟩, .string ⟨#[]⟩, .string ⟨#[]⟩, .string ⟨#[]⟩, .slice xa tag0.length xc], .agg #[.int .i64 1, .string ⟨#[97]⟩, .string ⟨#[114]⟩, .string ⟨#[100]⟩, .string ⟨#[]⟩, .string ⟨#[]⟩, .string ⟨#[]⟩, .string ⟨#[]⟩, .string ⟨#[]⟩, .slice ta tag0.length cap]] w16 fun e w' => e = .returned (.bool true) ∧ Chg (fun _ => False) w16 w' :=
    rssame_yes c0 tag0 xa ta xc cap w16 HX6.out.2 HF6.out.bt
  go_wp2_with fail
  refine hsm.mono ?_
  rintro e w17 ⟨rfl, hc⟩
  have HW7 := hid (HW6.out.trans hc (fun _ _ h => h))
  clear hsm hc b0 b1 b2 b3 b4 b5 b6 b7 b8 b9 d0 d1 d2 d3 d4 d5 d6 d7 d8 d9 HF6 HW6 HX6
  go_wp2
  go_ret
  exact ⟨rfl, HW7.out⟩
end Go.Proofs.YtjflmhncgkbdmaaGreat

/- How great credentials are: the contract of the law's Great. -/
namespace Go.Proofs.YtjflmhncgkbdmaaGreat
open Go.RowKit

/-- How great credentials are. -/
def sizeC (c : CredB) : Nat := 20 + c.head.1.length + c.head.2.length + c.who.length + c.b.1.length + c.b.2.length + c.c.1.length + c.c.2.length + c.w2.length
def totalC : List CredB → Nat
  | [] => 0
  | c :: l => sizeC c + totalC l

theorem totalC_append (a b : List CredB) : totalC (a ++ b) = totalC a + totalC b := by
  induction a with
  | nil => simp [totalC]
  | cons x l ih => rw [List.cons_append, totalC, totalC, ih]; omega

theorem totalC_len (a : List CredB) : a.length ≤ totalC a := by
  induction a with
  | nil => simp [totalC]
  | cons x l ih => rw [totalC, List.length_cons, sizeC]; omega

theorem totalC_mem {a : List CredB} {x : CredB} (h : x ∈ a) : sizeC x ≤ totalC a := by
  induction a with
  | nil => simp at h
  | cons y l ih =>
    rw [totalC]
    rcases List.mem_cons.1 h with rfl | h
    · omega
    · have := ih h; omega

theorem totalC_take (ls : List CredB) (k : Nat) (h : k < ls.length) : totalC (ls.take (k + 1)) = totalC (ls.take k) + sizeC ls[k] := by
  rw [List.take_succ_eq_append_getElem h, totalC_append]; simp [totalC]

theorem totalC_take_le (ls : List CredB) (k : Nat) : totalC (ls.take k) ≤ totalC ls := by
  conv => rhs; rw [← List.take_append_drop k ls]
  rw [totalC_append]; omega

theorem sizeC_short {c : CredB} {n : Nat} (h : sizeC c ≤ n) : credShort c n := by
  unfold sizeC at h
  exact ⟨by omega, by omega, by omega, by omega, by omega, by omega, by omega, by omega⟩

set_option maxRecDepth 100000 in
set_option maxHeartbeats 2000000 in
theorem great_any {D : Nat → Prop} (ao : Option Addr) (cp : Nat) (ls : List CredB) (w : World) (hn : totalC ls ≤ 4503599627370496) (h : CredsAt D w ao ls) :
    Calls Tryz.prog 30 #[.slice ao ls.length cp] w fun e w' => e = .returned (.int .i64 (totalC ls)) ∧ Chg (fun _ => False) w w' := by
  have hl := totalC_len ls
  go_enter Tryz.func30, Tryz.ntmps30
  go_wp2
  go_loopw [3, 8] (fun n i wr => ∃ k m : Nat, k ≤ ls.length ∧ i = .int .i64 k ∧ n = .int .i64 m ∧ Hid (m = totalC (ls.take k)) ∧ m ≤ 4503599627370496 ∧ Chg (fun _ => False) w wr) (fun _ i _ => ls.length - (intOf i).toNat)
  case atStart => exact ⟨0, 0, Nat.zero_le _, rfl, rfl, rfl, by omega, Chg.refl _ _⟩
  case round =>
    obtain ⟨k, m, hk, rfl, rfl, hm, hml, hc⟩ := hrel
    by_cases hlt : k < ls.length
    · obtain ⟨b, off, rfl, _, hat, hs⟩ := (h.keep hc (fun _ _ => id)) k hlt
      have ht := totalC_take ls k hlt
      have hle := totalC_take_le ls (k + 1)
      rw [ht, ← hm.out] at hle
      have hx : Hid (m + sizeC ls[k] = totalC (ls.take (k + 1))) := hid (by rw [ht, hm.out])
      clear h ht
      have hsl2 : m + sizeC ls[k] ≤ 4503599627370496 := by omega
      clear hle
      generalize ls[k] = s at *
      obtain ⟨kk, ⟨ho, hw⟩, who, ⟨bo, bw⟩, ⟨co, cw⟩, w2⟩ := s
      obtain ⟨a0, a1, a2, a3, a4, a5, a6, a7, a8⟩ := hat
      obtain ⟨s1, s2, s3, s4, s5, s6, s7, s8⟩ := hs
      simp only [sizeC] at a0 a1 a2 a3 a4 a5 a6 a7 a8 s1 s2 s3 s4 s5 s6 s7 s8 hx hsl2
      have HC := hid hc
      clear hc
      go_wp2
      go_roundw
      case rel => exact ⟨k + 1, m + (20 + ho.length + hw.length + who.length + bo.length + bw.length + co.length + cw.length + w2.length), by omega, by go_num, by go_num, hx, hsl2, HC.out.alloc _⟩
      case measure => simp [intOf]; omega
    · have hk2 : k = ls.length := by omega
      have hx : m = totalC ls := by have := hm.out; rwa [List.take_of_length_le (by omega)] at this
      subst hx
      have HC := hid hc
      clear h hc
      go_wp2
      go_ret
      exact ⟨rfl, HC.out⟩

end Go.Proofs.YtjflmhncgkbdmaaGreat

/- How great keys and signed credentials are. -/
namespace Go.Proofs.YtjflmhncgkbdmaaGreat
open Go.RowKit

def sizeK (k : KeyB) : Nat := 10 + k.who.length + k.key.length
def totalK : List KeyB → Nat
  | [] => 0
  | k :: l => sizeK k + totalK l
def sizeS (s : SignB) : Nat := sizeC s.c + s.tag.length
def totalS : List SignB → Nat
  | [] => 0
  | s :: l => sizeS s + totalS l

theorem totalK_append (a b : List KeyB) : totalK (a ++ b) = totalK a + totalK b := by
  induction a with
  | nil => simp [totalK]
  | cons x l ih => rw [List.cons_append, totalK, totalK, ih]; omega
theorem totalK_len (a : List KeyB) : a.length ≤ totalK a := by
  induction a with
  | nil => simp [totalK]
  | cons x l ih => rw [totalK, List.length_cons, sizeK]; omega
theorem totalK_take (ls : List KeyB) (k : Nat) (h : k < ls.length) : totalK (ls.take (k + 1)) = totalK (ls.take k) + sizeK ls[k] := by
  rw [List.take_succ_eq_append_getElem h, totalK_append]; simp [totalK]
theorem totalK_take_le (ls : List KeyB) (k : Nat) : totalK (ls.take k) ≤ totalK ls := by
  conv => rhs; rw [← List.take_append_drop k ls]
  rw [totalK_append]; omega
theorem totalK_mem {a : List KeyB} {x : KeyB} (h : x ∈ a) : sizeK x ≤ totalK a := by
  induction a with
  | nil => simp at h
  | cons y l ih =>
    rw [totalK]
    rcases List.mem_cons.1 h with rfl | h
    · omega
    · have := ih h; omega
theorem totalS_append (a b : List SignB) : totalS (a ++ b) = totalS a + totalS b := by
  induction a with
  | nil => simp [totalS]
  | cons x l ih => rw [List.cons_append, totalS, totalS, ih]; omega
theorem totalS_len (a : List SignB) : a.length ≤ totalS a := by
  induction a with
  | nil => simp [totalS]
  | cons x l ih => rw [totalS, List.length_cons, sizeS, sizeC]; omega
theorem totalS_take (ls : List SignB) (k : Nat) (h : k < ls.length) : totalS (ls.take (k + 1)) = totalS (ls.take k) + sizeS ls[k] := by
  rw [List.take_succ_eq_append_getElem h, totalS_append]; simp [totalS]
theorem totalS_take_le (ls : List SignB) (k : Nat) : totalS (ls.take k) ≤ totalS ls := by
  conv => rhs; rw [← List.take_append_drop k ls]
  rw [totalS_append]; omega
theorem totalS_mem {a : List SignB} {x : SignB} (h : x ∈ a) : sizeS x ≤ totalS a := by
  induction a with
  | nil => simp at h
  | cons y l ih =>
    rw [totalS]
    rcases List.mem_cons.1 h with rfl | h
    · omega
    · have := ih h; omega

end Go.Proofs.YtjflmhncgkbdmaaGreat
