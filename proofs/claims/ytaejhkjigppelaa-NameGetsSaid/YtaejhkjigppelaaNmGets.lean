/- The walk of the law NameGets. -/
import Derived.Test.YtaejhkjigppelaaNmFirst
import Derived.Test.YtaejhkjigppelaaRefBoth
import Derived.Test.YtaejhkjigppelaaRefNum
namespace Go.Proofs.Ytaejhkjigppelaa
open Go.RowKit

/-- The document's Get, and what End says then. -/
theorem refget_end (X : Nat) (l : List UInt8) (w : World) (hl : l.length ≤ 9223372036854775807) (hX : TapeAt w X l 0) :
    Calls Try.prog 59 #[.pointer (some ⟨X, 0, none⟩)] w fun e w' => e = .returned (.string ⟨(nameGot l []).toArray⟩) ∧ (∃ l' e', TapeAt w' X l' e' ∧ tapeEnd l' e' = nameErr l) ∧ Chg (· = X) w w' := by
  refine (refget_any X l w hl hX).mono ?_
  rintro e w' (⟨h1, h2, rfl, h4, h5⟩ | ⟨h1, h2, rfl, ⟨l', h4⟩, h5⟩ | ⟨h1, rfl, ⟨l', h4⟩, h5⟩)
  · have hok : nameOk l = true := by rw [nameOk, decide_eq_true h1]; exact h2
    exact ⟨by rw [nameGot, if_pos hok]; rfl, ⟨_, _, h4, by rw [nameErr, if_pos hok]; rfl⟩, h5⟩
  · have hok : ¬ (nameOk l = true) := by rw [nameOk, decide_eq_true h1]; show ¬ (isName _ = true); rw [show isName (nameOf l) = false from h2]; decide
    exact ⟨by rw [nameGot, if_neg hok], ⟨_, _, h4, by rw [nameErr, if_neg hok, nameBad, if_pos h1]; rfl⟩, h5⟩
  · have hok : ¬ (nameOk l = true) := by rw [nameOk, decide_eq_false h1, Bool.false_and]; decide
    refine ⟨by rw [nameGot, if_neg hok], ⟨_, _, h4, ?_⟩, h5⟩
    rw [nameErr, if_neg hok, nameBad, if_neg h1, tapeEnd, endOf, if_neg (by omega)]

set_option maxRecDepth 100000 in
set_option maxHeartbeats 4000000 in
theorem gets_yes {D : Nat → Prop} (a1 : Option Addr) (c1 : Nat) (s b : List UInt8) (w : World) (hs : s.length ≤ 100) (hb : b.length ≤ 100) (k1 : BytesAt D w (.slice a1 b.length c1) b) (hD : ∀ i, D i → i < w.heap.size) (hn : isName s = true) :
    Calls Try.prog 10 #[.string ⟨s.toArray⟩, .slice a1 b.length c1] w fun e w' => e = .returned (.bool true) ∧ Chg (fun _ => False) w w' := by
  have hl16 := name_len hn
  have d1 : decide (100 < (s.length : Int)) = false := by simp; omega
  have d2 : decide (100 < (b.length : Int)) = false := by simp; omega
  go_enter Try.func10, Try.ntmps10
  go_wp2_with fail
  refine (first_any _).mono ?_
  rintro e w1 ⟨rfl, hc1⟩
  have k2 := k1.keep hc1 (fun _ _ => id)
  have hcp : Chg (fun _ => False) w1 (w1.alloc (.cells #[.slice none 0 0] 27)) := (Chg.refl _ w1).alloc _
  have hp2 := pen_new w1 (w1.heap.size + 1)
  have hpl : (w1.alloc (.cells #[.slice none 0 0] 27)).heap.size = w1.heap.size + 1 := by simp
  go_wp2_with fail
  clear d1 d2
  have hP : Hid (∃ P, P = w1.heap.size) := hid ⟨_, rfl⟩
  have hs1 := hc1.size
  generalize w1.alloc (.cells #[.slice none 0 0] 27) = w2 at *
  refine (refright_any s w2 (by omega)).mono ?_
  rintro e w' ⟨rfl, rfl⟩
  rw [hn]
  go_wp2_with fail
  refine (reftext_any s w2 (by omega)).mono ?_
  rintro e w3 ⟨rfl, hc23⟩
  have hp3 := hp2.keep hc23 id (fun _ _ => id)
  have hs3 := hc23.size
  go_wp2_with fail
  refine (put_yes _ _ _ _ _ s w3 hp3 (by omega) (by omega) (by simp) hn).mono ?_
  rintro e w4 ⟨rfl, ao4, cap4, hp4, hch4⟩
  have hc4 := pchg_new (hcp.trans hc23 (fun _ _ h => h)) hp3 (by omega) (Nat.le_refl _) hch4
  clear hp2 hp3 hc23 hch4 hs3 hcp hpl
  rw [List.nil_append] at hp4
  generalize hzs : enc s.length ++ s = zs at *
  have hzl : zs.length ≤ 1000 := by rw [← hzs, enc_small (by omega)]; simp; omega
  clear hzs
  go_wp2_with fail
  refine (refright_any s w4 (by omega)).mono ?_
  rintro e w' ⟨rfl, rfl⟩
  rw [hn]
  go_wp2_with fail
  refine (bytes_any _ _ _ _ zs w4 hp4 (by omega)).mono ?_
  rintro e w5 ⟨ao5, cap5, rfl, hb5, hc45⟩
  have hconv := conv_bytes hb5
  have hc5 := hc4.trans hc45 (fun _ _ h => h)
  clear hb5 hp4 hc4 hc45 hzl
  go_wp2_with fail
  refine (put_nil s w5 (by omega)).mono ?_
  rintro e w6 ⟨rfl, hc56⟩
  have hc06 := hc5.trans hc56 (fun _ _ h => h)
  have k6 := k2.keep hc06 (fun _ _ => id)
  have hc6 := hc1.trans hc06 (fun _ _ h => h)
  clear hc5 hc56 hconv k2 hc06 hc1 hs1
  go_wp2_with fail
  refine (get_nil w6).mono ?_
  rintro e w' ⟨rfl, rfl⟩
  have hconv2 := conv_bytes k6
  have hT := heap_alloc_new w6 (.cells #[.string ⟨b.toArray⟩, .int .i64 0] 38)
  have hc67 : Chg (fun _ => False) w6 (w6.alloc (.cells #[.string ⟨b.toArray⟩, .int .i64 0] 38)) := (Chg.refl _ w6).alloc _
  have hX := heap_alloc_new (w6.alloc (.cells #[.string ⟨b.toArray⟩, .int .i64 0] 38)) (.cells #[.string ⟨#[]⟩] 9)
  have hc78 : Chg (fun _ => False) (w6.alloc (.cells #[.string ⟨b.toArray⟩, .int .i64 0] 38)) ((w6.alloc (.cells #[.string ⟨b.toArray⟩, .int .i64 0] 38)).alloc (.cells #[.string ⟨#[]⟩] 9)) := (Chg.refl _ _).alloc _
  have hsz : (w6.alloc (.cells #[.string ⟨b.toArray⟩, .int .i64 0] 38)).heap.size = w6.heap.size + 1 := by simp
  rw [hsz] at hX
  have hT8 := blk_keep hT hc78 id
  have hc8 := (hc6.trans hc67 (fun _ _ h => h)).trans hc78 (fun _ _ h => h)
  have k8 := (k6.keep hc67 (fun _ _ => id)).keep hc78 (fun _ _ => id)
  have hs8 := hc6.size
  have hs9 := hc8.size
  go_wp2_with fail
  clear hconv2 hT hc67 hc78 hsz k6 hc6
  generalize (w6.alloc (.cells #[.string ⟨b.toArray⟩, .int .i64 0] 38)).alloc (.cells #[.string ⟨#[]⟩] 9) = w8 at *
  generalize w6.heap.size = T at *
  refine (readG_any (z := []) (l := b) (w := w8) (by omega) k8 (fun i hi => by have := hD i hi; omega) (fun h => by have := hD _ h; omega) hX).mono ?_
  rintro e w9 ⟨rfl, hX9, hc89⟩
  have hT9 : TapeAt w9 T b 0 := blk_keep hT8 hc89 (by omega)
  have hc9 := hc8.trans hc89 (T := (· = T + 1)) (S := fun _ => False) (fun i hi h => by have : i = T + 1 := h; omega)
  clear hX hT8 hc89 hc8 k8
  go_wp2_with fail
  refine (refget_end T b w9 (by omega) hT9).mono ?_
  rintro e w10 ⟨rfl, ⟨l', e', hT10, hend⟩, hc910⟩
  have hX10 := blk_keep hX9 hc910 (show ¬ (T + 1 = T) by omega)
  have hc10 := hc9.trans hc910 (T := (· = T)) (S := fun _ => False) (fun i hi h => by have : i = T := h; omega)
  have x0 := cell_blk hX10 0
  simp only [List.getElem?_toArray, List.getElem?_cons_zero] at x0
  clear hX9 hT9 hc910 hc9 hX10
  generalize nameGot b [] = g at *
  generalize nameErr b = ne at *
  go_wp2_with fail
  refine (tend_any T l' e' w10 hT10).mono ?_
  rintro e w' ⟨rfl, rfl⟩
  rw [hend]
  go_wp2
  go_ret
  exact ⟨rfl, hc10⟩

set_option maxRecDepth 100000 in
set_option maxHeartbeats 4000000 in
theorem gets_no {D : Nat → Prop} (a1 : Option Addr) (c1 : Nat) (s b : List UInt8) (w : World) (hs : s.length ≤ 100) (hb : b.length ≤ 100) (k1 : BytesAt D w (.slice a1 b.length c1) b) (hD : ∀ i, D i → i < w.heap.size) (hn : isName s = false) :
    Calls Try.prog 10 #[.string ⟨s.toArray⟩, .slice a1 b.length c1] w fun e w' => e = .returned (.bool true) ∧ Chg (fun _ => False) w w' := by
  have d1 : decide (100 < (s.length : Int)) = false := by simp; omega
  have d2 : decide (100 < (b.length : Int)) = false := by simp; omega
  go_enter Try.func10, Try.ntmps10
  go_wp2_with fail
  refine (first_any _).mono ?_
  rintro e w1 ⟨rfl, hc1⟩
  have k2 := k1.keep hc1 (fun _ _ => id)
  have hcp : Chg (fun _ => False) w1 (w1.alloc (.cells #[.slice none 0 0] 27)) := (Chg.refl _ w1).alloc _
  have hp2 := pen_new w1 (w1.heap.size + 1)
  have hpl : (w1.alloc (.cells #[.slice none 0 0] 27)).heap.size = w1.heap.size + 1 := by simp
  go_wp2_with fail
  clear d1 d2
  have hP : Hid (∃ P, P = w1.heap.size) := hid ⟨_, rfl⟩
  have hs1 := hc1.size
  generalize w1.alloc (.cells #[.slice none 0 0] 27) = w2 at *
  refine (refright_any s w2 (by omega)).mono ?_
  rintro e w' ⟨rfl, rfl⟩
  rw [hn]
  go_wp2_with fail
  refine (put_no _ s w2 (by omega) hn).mono ?_
  rintro e w' ⟨rfl, rfl⟩
  have hp4 := hp2
  have hc4 := hcp
  have hzl : ([] : List UInt8).length ≤ 1000 := by simp
  clear hp2 hcp hpl
  go_wp2_with fail
  refine (refright_any s w2 (by omega)).mono ?_
  rintro e w' ⟨rfl, rfl⟩
  rw [hn]
  go_wp2_with fail
  refine (bytes_any _ _ _ _ ([] : List UInt8) w2 hp4 (by omega)).mono ?_
  rintro e w5 ⟨ao5, cap5, rfl, hb5, hc45⟩
  have hconv : (convert 25 9 (.slice ao5 0 cap5)).run Try.prog w5 = .ok (.string ⟨#[]⟩) w5 := conv_bytes hb5
  have hc5 := hc4.trans hc45 (fun _ _ h => h)
  clear hb5 hp4 hc4 hc45 hzl
  go_wp2_with fail
  refine (put_nil s w5 (by omega)).mono ?_
  rintro e w6 ⟨rfl, hc56⟩
  have hc06 := hc5.trans hc56 (fun _ _ h => h)
  have k6 := k2.keep hc06 (fun _ _ => id)
  have hc6 := hc1.trans hc06 (fun _ _ h => h)
  clear hc5 hc56 hconv k2 hc06 hc1 hs1
  go_wp2_with fail
  refine (get_nil w6).mono ?_
  rintro e w' ⟨rfl, rfl⟩
  have hconv2 := conv_bytes k6
  have hT := heap_alloc_new w6 (.cells #[.string ⟨b.toArray⟩, .int .i64 0] 38)
  have hc67 : Chg (fun _ => False) w6 (w6.alloc (.cells #[.string ⟨b.toArray⟩, .int .i64 0] 38)) := (Chg.refl _ w6).alloc _
  have hX := heap_alloc_new (w6.alloc (.cells #[.string ⟨b.toArray⟩, .int .i64 0] 38)) (.cells #[.string ⟨#[]⟩] 9)
  have hc78 : Chg (fun _ => False) (w6.alloc (.cells #[.string ⟨b.toArray⟩, .int .i64 0] 38)) ((w6.alloc (.cells #[.string ⟨b.toArray⟩, .int .i64 0] 38)).alloc (.cells #[.string ⟨#[]⟩] 9)) := (Chg.refl _ _).alloc _
  have hsz : (w6.alloc (.cells #[.string ⟨b.toArray⟩, .int .i64 0] 38)).heap.size = w6.heap.size + 1 := by simp
  rw [hsz] at hX
  have hT8 := blk_keep hT hc78 id
  have hc8 := (hc6.trans hc67 (fun _ _ h => h)).trans hc78 (fun _ _ h => h)
  have k8 := (k6.keep hc67 (fun _ _ => id)).keep hc78 (fun _ _ => id)
  have hs8 := hc6.size
  have hs9 := hc8.size
  go_wp2_with fail
  clear hconv2 hT hc67 hc78 hsz k6 hc6
  generalize (w6.alloc (.cells #[.string ⟨b.toArray⟩, .int .i64 0] 38)).alloc (.cells #[.string ⟨#[]⟩] 9) = w8 at *
  generalize w6.heap.size = T at *
  refine (readG_any (z := []) (l := b) (w := w8) (by omega) k8 (fun i hi => by have := hD i hi; omega) (fun h => by have := hD _ h; omega) hX).mono ?_
  rintro e w9 ⟨rfl, hX9, hc89⟩
  have hT9 : TapeAt w9 T b 0 := blk_keep hT8 hc89 (by omega)
  have hc9 := hc8.trans hc89 (T := (· = T + 1)) (S := fun _ => False) (fun i hi h => by have : i = T + 1 := h; omega)
  clear hX hT8 hc89 hc8 k8
  go_wp2_with fail
  refine (refget_end T b w9 (by omega) hT9).mono ?_
  rintro e w10 ⟨rfl, ⟨l', e', hT10, hend⟩, hc910⟩
  have hX10 := blk_keep hX9 hc910 (show ¬ (T + 1 = T) by omega)
  have hc10 := hc9.trans hc910 (T := (· = T)) (S := fun _ => False) (fun i hi h => by have : i = T := h; omega)
  have x0 := cell_blk hX10 0
  simp only [List.getElem?_toArray, List.getElem?_cons_zero] at x0
  clear hX9 hT9 hc910 hc9 hX10
  generalize nameGot b [] = g at *
  generalize nameErr b = ne at *
  go_wp2_with fail
  refine (tend_any T l' e' w10 hT10).mono ?_
  rintro e w' ⟨rfl, rfl⟩
  rw [hend]
  go_wp2
  go_ret
  exact ⟨rfl, hc10⟩

end Go.Proofs.Ytaejhkjigppelaa
