/- Texts that the proof leans on, in one: Row, Conv, RefNum, RefRight, EndOf. -/
import Derived.Test.YtmmkopdcbiiedaaKb1
import Derived.Maps.AppendAt
import Derived.Test.YtmmkopdcbiiedaaRows
import Derived.Lib.SlBytesConst
import Derived.Test.YtmmkopdcbiiedaaKb4
import Derived.Test.YtmmkopdcbiiedaaKb3
/- A row of bytes of the call's own, that is written in place. -/
namespace Go.Proofs.Ytmmkopdcbiiedaa
open Go.RowKit

/-- The block g holds the bytes l at its head, T being a byte's type. -/
def RowAt (T : TypeId) (w : World) (g cap : Nat) (l : List UInt8) : Prop :=
  l.length ≤ cap ∧ cap ≤ maxLen ∧ ∃ cs : Array Value, w.heap[g]? = some (.cells cs T (0, 0)) ∧ ∀ j (h : j < l.length), cs[j]? = some (cb l[j])

theorem RowAt.bytes {T : TypeId} {w : World} {g cap : Nat} {l : List UInt8} (h : RowAt T w g cap l) : BytesAt (fun k => k = g) w (.slice (some ⟨g, 0, none⟩) l.length cap) l := by
  obtain ⟨h1, h2, cs, h3, h4⟩ := h
  refine .inr ⟨g, 0, cap, rfl, h1, h2, rfl, fun i hi => ?_⟩
  rw [cell_blk h3, Nat.zero_add]
  exact h4 i hi

theorem RowAt.cell {T : TypeId} {w : World} {g cap : Nat} {l : List UInt8} (h : RowAt T w g cap l) (i : Nat) (hi : i < l.length) : w.cell? ⟨g, i, none⟩ = some (.int .u8 (l[i].toNat : Int)) := by
  obtain ⟨h1, h2, cs, h3, h4⟩ := h
  rw [cell_blk h3]
  exact h4 i hi

theorem RowAt.frozen {T : TypeId} {w : World} {g cap : Nat} {l : List UInt8} (h : RowAt T w g cap l) (i : Nat) : w.frozen? ⟨g, i, none⟩ = false := by
  obtain ⟨h1, h2, cs, h3, h4⟩ := h
  exact froz_blk h3 i

theorem RowAt.set {T : TypeId} {w : World} {g cap : Nat} {l : List UInt8} (h : RowAt T w g cap l) (i : Nat) (y : UInt8) : RowAt T (w.setCell ⟨g, i, none⟩ (cb y)) g cap (l.set i y) := by
  obtain ⟨h1, h2, cs, h3, h4⟩ := h
  refine ⟨by simpa using h1, h2, _, set_blk h3 i (cb y), fun j hj => ?_⟩
  have hj' : j < l.length := by simpa using hj
  have hjc : j < cs.size := (Array.getElem?_eq_some_iff.1 (h4 j hj')).1
  rw [List.getElem_set]
  by_cases hij : i = j
  · subst hij
    rw [if_pos rfl]
    simp [hjc]
  · rw [if_neg hij, Array.getElem?_setIfInBounds_ne hij]
    exact h4 j hj'

theorem RowAt.keep {T : TypeId} {S : Nat → Prop} {w w' : World} {g cap : Nat} {l : List UInt8} (h : RowAt T w g cap l) (hc : Chg S w w') (hs : ¬ S g) : RowAt T w' g cap l := by
  obtain ⟨h1, h2, cs, h3, h4⟩ := h
  exact ⟨h1, h2, cs, blk_keep h3 hc hs, h4⟩

theorem cb_getElem? (l : List UInt8) (i : Nat) (u : Value) (h : (l.map cb)[i]? = some u) : ∃ hi : i < l.length, u = .int .u8 (l[i].toNat : Int) := by
  have hi : i < l.length := by
    have := (List.getElem?_eq_some_iff.1 h).1
    simpa using this
  refine ⟨hi, ?_⟩
  simp [hi] at h
  exact h.symm

theorem cb_one (l : List UInt8) : ∀ u ∈ l.map cb, u.oneCell' = true := by
  intro u hu
  simp at hu
  obtain ⟨x, _, rfl⟩ := hu
  rfl

theorem add_off (b off i : Nat) : (⟨b, off, none⟩ : Addr).add i = ⟨b, off + i, none⟩ := by
  unfold Addr.add
  split <;> simp_all

end Go.Proofs.Ytmmkopdcbiiedaa

/- Conversions between strings and bytes; blocks of bytes. -/
namespace Go.Proofs.Ytmmkopdcbiiedaa
open Go.RowKit

theorem Try.info5 : (Try.prog.info? 5).map (fun i => (i.zero, i.size, i.bytes)) = some (some (.int .u8 0), 1, 1) := by kernel_rfl

theorem conv_bytes {D : Nat → Prop} {v : Value} {l : List UInt8} {w : World} (h : BytesAt D w v l) : (convert 45 9 v).run Try.prog w = .ok (.string ⟨l.toArray⟩) w := by
  rcases h with ⟨ao, cp, rfl, rfl, h0⟩ | ⟨b, off, cap, rfl, h1, h2, h3, h4⟩
  · cases ao with
    | none => exact run_convert_bytes_nil w 45 5 Try.underlying45 Try.underlying5 0 cp 9 Try.underlying9
    | some x => exact run_convert_bytes_back w 45 9 5 x cp [] Try.underlying45 Try.underlying5 Try.underlying9 (fun j hj => by simp at hj)
  · refine run_convert_bytes_back w 45 9 5 ⟨b, off, none⟩ cap l Try.underlying45 Try.underlying5 Try.underlying9 (fun j hj => ?_)
    rw [add_off]
    exact h4 j hj

theorem conv_one (d : UInt8) (x : Int) (w : World) (hx : x = (d.toNat : Int)) : (convert 45 9 (.slice (some ⟨w.heap.size, 0, none⟩) 1 1)).run Try.prog (w.alloc (.cells #[.int .u8 x] 5)) = .ok (.string ⟨#[d]⟩) (w.alloc (.cells #[.int .u8 x] 5)) := by
  subst hx
  refine conv_bytes (D := fun _ => True) (l := [d]) (.inr ⟨_, 0, 1, rfl, Nat.le_refl 1, by decide, trivial, fun i hi => ?_⟩)
  rw [cell_blk (heap_alloc_new w _)]
  match i, hi with
  | 0, _ => rfl

theorem bytesRow_list (acc : List UInt8) (cap : Nat) (i : Nat) (h : i < acc.length) : (bytesRow ⟨acc.toArray⟩ cap)[i]? = some (.int .u8 (acc[i].toNat : Int)) := by
  have := bytesRow_at ⟨acc.toArray⟩ cap i (by simpa using h)
  simpa using this

/-- '[]byte(s)'. -/
theorem bytes_of (acc : List UInt8) (w : World) (c : Nat) (hc : acc.length ≤ c) (hm : c ≤ maxLen) (f : Nat × Nat) :
    BytesAt (fun k => k = w.heap.size) (w.alloc (.cells (bytesRow ⟨acc.toArray⟩ c) 5 f)) (.slice (some ⟨w.heap.size, 0, none⟩) acc.length c) acc := by
  refine .inr ⟨_, 0, c, rfl, hc, hm, rfl, fun i hi => ?_⟩
  rw [cell_blk (heap_alloc_new w _), Nat.zero_add]
  exact bytesRow_list acc c i hi

theorem conv_str (acc : List UInt8) (w : World) : (convert 9 45 (.string ⟨acc.toArray⟩)).run Try.prog w = .ok (.slice (some ⟨w.heap.size, 0, none⟩) acc.length (grownCap w acc.length 0 5))
      (w.drew.alloc (.cells (bytesRow ⟨acc.toArray⟩ (grownCap w acc.length 0 5)) 5 ((bytesRow ⟨acc.toArray⟩ (grownCap w acc.length 0 5)).size, (bytesRow ⟨acc.toArray⟩ (grownCap w acc.length 0 5)).size + 1))) := by
  have := run_bytes_of_string (P := Try.prog) w 9 45 5 ⟨acc.toArray⟩ Try.underlying9 Try.underlying45 Try.underlying5
  exact this

end Go.Proofs.Ytmmkopdcbiiedaa

/- The contracts of the document's Number and Text. -/
namespace Go.Proofs.Ytmmkopdcbiiedaa
open Go.RowKit

set_option maxRecDepth 100000 in
theorem refnum_any (n : Nat) (w : World) (hn : n < 9223372036854775808) :
    Calls Try.prog 41 #[.int .i64 n] w fun e w' => e = .returned (.string ⟨(enc n).toArray⟩) ∧ Chg (fun _ => False) w w' := by
  go_enter Try.func41, Try.ntmps41
  go_wp2
  go_loopw [0, 3] (fun i s wr => ∃ (m : Nat) (ys : List UInt8), i = .int .i64 m ∧ m < 9223372036854775808 ∧ s = .string ⟨ys.toArray⟩ ∧ Chg (fun _ => False) w wr ∧ Hid (ys ++ enc m = enc n)) (fun i _ _ => (intOf i).toNat)
  case atStart => exact ⟨n, [], rfl, hn, rfl, Chg.refl _ _, rfl⟩
  case round =>
    obtain ⟨m, ys, rfl, hm, rfl, hch, HS⟩ := hrel
    have hyl : ys.length ≤ 9 := by
      have h1 := congrArg List.length HS.out
      have h2 := enc_length9 hn
      simp only [List.length_append] at h1
      omega
    by_cases h128 : 128 ≤ m
    · have hcv := conv_one (dg m) (128 + (m : Int) % 128) wr (by rw [dg_toNat]; omega)
      go_wp2
      go_roundw
      case rel => exact ⟨m / 128, ys ++ [dg m], congrArg (Value.int .i64) (by omega), by omega, congrArg Value.string (ByteArray.mk_append_mk ys [dg m]), hch.alloc _, hid (by rw [← HS.out, enc_big h128]; simp)⟩
      case measure => simp [intOf]; omega
    · have h128' : m < 128 := by omega
      have hcv := conv_one (ds m) m wr (by rw [ds_toNat h128'])
      have HF : Hid ((ys ++ [ds m]).toArray = (enc n).toArray) := hid (by rw [← HS.out, enc_small h128'])
      clear HS
      go_wp2
      go_ret
      refine ⟨?_, hch.alloc _⟩
      have h := ByteArray.mk_append_mk ys [ds m]
      rw [← HF.out, ← h]
      rfl

theorem reftext_any (l : List UInt8) (w : World) (hl : l.length ≤ 140737488355328) :
    Calls Try.prog 44 #[.string ⟨l.toArray⟩] w fun e w' => e = .returned (.string ⟨(enc l.length ++ l).toArray⟩) ∧ Chg (fun _ => False) w w' := by
  have h1 := refnum_any l.length w (by omega)
  have he := enc_length9 (n := l.length) (by omega)
  go_enter Try.func44, Try.ntmps44
  go_wp2_with (go_at_call 41; refine h1.mono ?_; rintro e w1 ⟨rfl, hc⟩)
  go_ret
  refine ⟨?_, hc⟩
  rw [← ByteArray.mk_append_mk]
  rfl

end Go.Proofs.Ytmmkopdcbiiedaa

/- The contracts of the document's Right. -/
namespace Go.Proofs.Ytmmkopdcbiiedaa
open Go.RowKit
theorem refright_any (l : List UInt8) (w : World) (hs : l.length ≤ 9223372036854775807) :
    Calls Try.prog 42 #[.string ⟨l.toArray⟩] w fun e w' => e = .returned (.bool (isName l)) ∧ w = w' := by
  by_cases h0 : l.length = 0
  · have he : l = [] := List.eq_nil_of_length_eq_zero h0
    subst he
    go_enter Try.func42, Try.ntmps42
    go_wp2
    go_ret
    exact ⟨rfl, rfl⟩
  · have hpos : 0 < l.length := by omega
    have hem : l.isEmpty = false := by cases l with | nil => simp at h0 | cons _ _ => rfl
    have gx := ba_get l
    by_cases h16 : 16 < l.length
    · have hx : Hid (isName l = false) := isName_long h16
      have d1 : decide (16 < (l.length : Int)) = true := by simp; omega
      go_enter Try.func42, Try.ntmps42
      go_wp2
      go_ret
      exact ⟨by rw [hx.out]; rfl, rfl⟩
    · have d1 : decide (16 < (l.length : Int)) = false := by simp; omega
      by_cases h97 : l[0].toNat < 97
      · have hx : Hid (isName l = false) := isName_first hpos (by simp [okFirst]; omega)
        have d2 : decide ((l[0].toNat : Int) < 97) = true := by simp; omega
        go_enter Try.func42, Try.ntmps42
        go_wp2
        go_ret
        exact ⟨by rw [hx.out]; rfl, rfl⟩
      · have d2 : decide ((l[0].toNat : Int) < 97) = false := by simp; omega
        by_cases h122 : 122 < l[0].toNat
        · have hx : Hid (isName l = false) := isName_first hpos (by simp [okFirst]; omega)
          have d3 : decide (122 < (l[0].toNat : Int)) = true := by simp; omega
          go_enter Try.func42, Try.ntmps42
          go_wp2
          go_ret
          exact ⟨by rw [hx.out]; rfl, rfl⟩
        · have d3 : decide (122 < (l[0].toNat : Int)) = false := by simp; omega
          have hx : Hid (isName l = l.all okByte) := isName_all hpos (by simp [okFirst]; omega) (by omega)
          go_enter Try.func42, Try.ntmps42
          go_wp2
          clear d1 d2 d3 hem
          go_loop [3] (fun i => ∃ k : Nat, k ≤ l.length ∧ i = .int .i64 k ∧ Hid ((l.take k).all okByte = true)) (fun i => l.length - (intOf i).toNat)
          case atStart => exact ⟨0, Nat.zero_le _, rfl, rfl⟩
          case round =>
            obtain ⟨k, hk, rfl, ha⟩ := hrel
            by_cases hlt : k < l.length
            · by_cases hok : okByte l[k] = true
              · have hn : Hid ((l.take (k + 1)).all okByte = true) := hid (by rw [all_take_succ _ k hlt ha.out, hok])
                clear ha
                rcases okByte_yes hok with hc | hc | hc
                · have p1 : decide ((l[k].toNat : Int) < 97) = false := by simp; omega
                  have p2 : decide (122 < (l[k].toNat : Int)) = false := by simp; omega
                  clear hok
                  have HC := hid hc
                  clear hc
                  go_wp2
                  go_round
                  case rel => exact ⟨k + 1, by omega, by go_num, hn⟩
                  case measure => simp [intOf]; omega
                · have p1 : decide ((l[k].toNat : Int) < 97) = true := by simp; omega
                  have p3 : decide ((l[k].toNat : Int) < 48) = false := by simp; omega
                  have p4 : decide (57 < (l[k].toNat : Int)) = false := by simp; omega
                  clear hok
                  have HC := hid hc
                  clear hc
                  go_wp2
                  go_round
                  case rel => exact ⟨k + 1, by omega, by go_num, hn⟩
                  case measure => simp [intOf]; omega
                · have p1 : decide ((l[k].toNat : Int) < 97) = true := by simp; omega
                  have p3 : decide ((l[k].toNat : Int) < 48) = true := by simp; omega
                  have p5 : ((l[k].toNat : Int) != 45) = false := by simp; omega
                  clear hok
                  have HC := hid hc
                  clear hc
                  go_wp2
                  go_round
                  case rel => exact ⟨k + 1, by omega, by go_num, hn⟩
                  case measure => simp [intOf]; omega
              · have hn : Hid (l.all okByte = false) := hid (all_of_bad l k hlt (by simpa using hok))
                clear ha
                rcases okByte_no (by simpa using hok) with hc | hc | hc
                · have p1 : decide ((l[k].toNat : Int) < 97) = true := by simp; omega
                  have p3 : decide ((l[k].toNat : Int) < 48) = true := by simp; omega
                  have p5 : ((l[k].toNat : Int) != 45) = true := by simp; omega
                  clear hok
                  have HC := hid hc
                  clear hc
                  go_wp2
                  go_ret
                  exact ⟨by rw [hx.out, hn.out]; rfl, rfl⟩
                · have p1 : decide ((l[k].toNat : Int) < 97) = true := by simp; omega
                  have p3 : decide ((l[k].toNat : Int) < 48) = false := by simp; omega
                  have p4 : decide (57 < (l[k].toNat : Int)) = true := by simp; omega
                  have p5 : ((l[k].toNat : Int) != 45) = true := by simp; omega
                  clear hok
                  have HC := hid hc
                  clear hc
                  go_wp2
                  go_ret
                  exact ⟨by rw [hx.out, hn.out]; rfl, rfl⟩
                · have p1 : decide ((l[k].toNat : Int) < 97) = false := by simp; omega
                  have p2 : decide (122 < (l[k].toNat : Int)) = true := by simp; omega
                  have p3 : decide ((l[k].toNat : Int) < 48) = false := by simp; omega
                  have p4 : decide (57 < (l[k].toNat : Int)) = true := by simp; omega
                  have p5 : ((l[k].toNat : Int) != 45) = true := by simp; omega
                  clear hok
                  have HC := hid hc
                  clear hc
                  go_wp2
                  go_ret
                  exact ⟨by rw [hx.out, hn.out]; rfl, rfl⟩
            · have hk2 : k = l.length := by omega
              subst hk2
              have hn : Hid (l.all okByte = true) := hid (by have := ha.out; rwa [List.take_of_length_le (Nat.le_refl _)] at this)
              go_wp2
              go_ret
              exact ⟨by rw [hx.out, hn.out]; rfl, rfl⟩
end Go.Proofs.Ytmmkopdcbiiedaa

/- What a reading comes to. -/
namespace Go.Proofs.Ytmmkopdcbiiedaa
open Go.RowKit

/-- What a Read answers, of the error and what is left. -/
def endOf (flt : Int) (n : Nat) : Int := if flt = 0 then (if 0 < n then 13 else 0) else flt

end Go.Proofs.Ytmmkopdcbiiedaa
