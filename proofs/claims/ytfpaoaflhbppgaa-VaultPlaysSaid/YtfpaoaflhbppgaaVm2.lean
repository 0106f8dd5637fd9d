/- Texts that the proof leans on, in one: Conv, RefNum, RefRight, EndOf, RefTape, NmRight, Base, Clone, Pen, PenMore, Num, Fail, RCut, RText, NmPut, NmGet, RefGet. -/
import Derived.Test.YtfpaoaflhbppgaaRows
import Derived.Test.YtfpaoaflhbppgaaVm1
import Derived.Lib.SlBytesConst
import Derived.Maps.AppendAt
import Derived.Laws.AppendOwnNone
/- Conversions between strings and bytes; blocks of bytes. -/
namespace Go.Proofs.Ytfpaoaflhbppgaa
open Go.RowKit

theorem Try.info5 : (Try.prog.info? 5).map (fun i => (i.zero, i.size, i.bytes)) = some (some (.int .u8 0), 1, 1) := by kernel_rfl

theorem conv_bytes {D : Nat → Prop} {v : Value} {l : List UInt8} {w : World} (h : BytesAt D w v l) : (convert 33 9 v).run Try.prog w = .ok (.string ⟨l.toArray⟩) w := by
  rcases h with ⟨ao, cp, rfl, rfl, h0⟩ | ⟨b, off, cap, rfl, h1, h2, h3, h4⟩
  · cases ao with
    | none => exact run_convert_bytes_nil w 33 5 Try.underlying33 Try.underlying5 0 cp 9 Try.underlying9
    | some x => exact run_convert_bytes_back w 33 9 5 x cp [] Try.underlying33 Try.underlying5 Try.underlying9 (fun j hj => by simp at hj)
  · refine run_convert_bytes_back w 33 9 5 ⟨b, off, none⟩ cap l Try.underlying33 Try.underlying5 Try.underlying9 (fun j hj => ?_)
    rw [add_off]
    exact h4 j hj

theorem conv_one (d : UInt8) (x : Int) (w : World) (hx : x = (d.toNat : Int)) : (convert 33 9 (.slice (some ⟨w.heap.size, 0, none⟩) 1 1)).run Try.prog (w.alloc (.cells #[.int .u8 x] 5)) = .ok (.string ⟨#[d]⟩) (w.alloc (.cells #[.int .u8 x] 5)) := by
  subst hx
  refine conv_bytes (D := fun _ => True) (l := [d]) (.inr ⟨_, 0, 1, rfl, Nat.le_refl 1, by decide, trivial, fun i hi => ?_⟩)
  rw [cell_blk (heap_alloc_new w _)]
  match i, hi with
  | 0, _ => rfl

/-- A block of one byte. -/
theorem bytes_one {w : World} {B : Nat} {T : TypeId} {f : Nat × Nat} (n : Nat) (hn : n < 256) (h : w.heap[B]? = some (.cells #[.int .u8 (n : Int)] T f)) : BytesAt (fun k => k = B) w (.slice (some ⟨B, 0, none⟩) 1 1) [UInt8.ofNat n] := by
  refine .inr ⟨B, 0, 1, rfl, by simp, by decide, rfl, fun i hi => ?_⟩
  have : i = 0 := by simp at hi; omega
  subst this
  rw [cell_blk h]
  simp only [List.getElem_cons_zero, ofNat_u8 n hn]
  rfl

/-- A block of bytes. -/
theorem bytes_blk {w : World} {B : Nat} {T : TypeId} {f : Nat × Nat} (l : List UInt8) (hl : l.length ≤ maxLen) (h : w.heap[B]? = some (.cells (l.map cb).toArray T f)) : BytesAt (fun k => k = B) w (.slice (some ⟨B, 0, none⟩) l.length l.length) l := by
  refine .inr ⟨B, 0, l.length, rfl, Nat.le_refl _, hl, rfl, fun i hi => ?_⟩
  rw [cell_blk h, Nat.zero_add]
  simp [hi, cb]

theorem one_le_maxLen : 1 ≤ maxLen := by decide

theorem two_le_maxLen : 2 ≤ maxLen := by decide

theorem bytes_lit1 (x : Int) (y : UInt8) (f : Nat × Nat) (h : x = (y.toNat : Int)) (w : World) : BytesAt (fun _ => True) (w.alloc (.cells #[.int .u8 x] 5 f)) (.slice (some ⟨w.heap.size, 0, none⟩) 1 1) [y] := by
  subst h
  exact (bytes_blk [y] one_le_maxLen (heap_alloc_new w _)).mono (fun _ _ => trivial)

theorem bytes_lit2 (x x' : Int) (y y' : UInt8) (f : Nat × Nat) (h : x = (y.toNat : Int)) (h' : x' = (y'.toNat : Int)) (w : World) : BytesAt (fun _ => True) (w.alloc (.cells #[.int .u8 x, .int .u8 x'] 5 f)) (.slice (some ⟨w.heap.size, 0, none⟩) 2 2) [y, y'] := by
  subst h
  subst h'
  exact (bytes_blk [y, y'] two_le_maxLen (heap_alloc_new w _)).mono (fun _ _ => trivial)

theorem kconv_at (w : World) (g : Nat) (C : Array Value) (n c : Nat) (hg : g = w.heap.size) : (convert 33 33 (.slice (some ⟨g, 0, none⟩) n c)).run Try.prog (w.alloc (.cells C 5)) = .ok (.slice (some ⟨g, 0, none⟩) n c) (w.alloc (.cells C 5 (C.size, C.size + 1))) := by
  subst hg
  exact Lib.run_convert_bytes_const (P := Try.prog) w 33 5 C n c Try.underlying33 Try.underlying5

theorem bytesRow_list (acc : List UInt8) (cap : Nat) (i : Nat) (h : i < acc.length) : (bytesRow ⟨acc.toArray⟩ cap)[i]? = some (.int .u8 (acc[i].toNat : Int)) := by
  have := bytesRow_at ⟨acc.toArray⟩ cap i (by simpa using h)
  simpa using this

/-- '[]byte(s)'. -/
theorem bytes_of (acc : List UInt8) (w : World) (c : Nat) (hc : acc.length ≤ c) (hm : c ≤ maxLen) (f : Nat × Nat) :
    BytesAt (fun k => k = w.heap.size) (w.alloc (.cells (bytesRow ⟨acc.toArray⟩ c) 5 f)) (.slice (some ⟨w.heap.size, 0, none⟩) acc.length c) acc := by
  refine .inr ⟨_, 0, c, rfl, hc, hm, rfl, fun i hi => ?_⟩
  rw [cell_blk (heap_alloc_new w _), Nat.zero_add]
  exact bytesRow_list acc c i hi

theorem conv_str (acc : List UInt8) (w : World) : (convert 9 33 (.string ⟨acc.toArray⟩)).run Try.prog w = .ok (.slice (some ⟨w.heap.size, 0, none⟩) acc.length (grownCap w acc.length 0 5))
      (w.drew.alloc (.cells (bytesRow ⟨acc.toArray⟩ (grownCap w acc.length 0 5)) 5 ((bytesRow ⟨acc.toArray⟩ (grownCap w acc.length 0 5)).size, (bytesRow ⟨acc.toArray⟩ (grownCap w acc.length 0 5)).size + 1))) := by
  have := run_bytes_of_string (P := Try.prog) w 9 33 5 ⟨acc.toArray⟩ Try.underlying9 Try.underlying33 Try.underlying5
  exact this

end Go.Proofs.Ytfpaoaflhbppgaa

/- The contracts of the document's Number and Text. -/
namespace Go.Proofs.Ytfpaoaflhbppgaa
open Go.RowKit

set_option maxRecDepth 100000 in
theorem refnum_any (n : Nat) (w : World) (hn : n < 9223372036854775808) :
    Calls Try.prog 68 #[.int .i64 n] w fun e w' => e = .returned (.string ⟨(enc n).toArray⟩) ∧ Chg (fun _ => False) w w' := by
  go_enter Try.func68, Try.ntmps68
  go_wp2
  go_loopw [0, 3] (fun i s wr => ∃ (m : Nat) (ys : List UInt8), i = .int .i64 m ∧ m < 9223372036854775808 ∧ s = .string ⟨ys.toArray⟩ ∧ Chg (fun _ => False) w wr ∧ Hid (ys ++ enc m = enc n)) (fun i _ _ => (intOf i).toNat)
  case atStart => exact ⟨n, [], rfl, hn, rfl, Chg.refl _ _, rfl⟩
  case round =>
    obtain ⟨m, ys, rfl, hm, rfl, hch, HS⟩ := hrel
    have hyl : ys.length ≤ 9 := by
      have h1 := congrArg List.length HS.out
      have h2 := enc_length9 hn
      simp only [List.length_append] at h1
      omega
    by_cases h128 : 128 ≤ m
    · have hcv := conv_one (dg m) (128 + (m : Int) % 128) wr (by rw [dg_toNat]; omega)
      go_wp2
      go_roundw
      case rel => exact ⟨m / 128, ys ++ [dg m], congrArg (Value.int .i64) (by omega), by omega, congrArg Value.string (ByteArray.mk_append_mk ys [dg m]), hch.alloc _, hid (by rw [← HS.out, enc_big h128]; simp)⟩
      case measure => simp [intOf]; omega
    · have h128' : m < 128 := by omega
      have hcv := conv_one (ds m) m wr (by rw [ds_toNat h128'])
      have HF : Hid ((ys ++ [ds m]).toArray = (enc n).toArray) := hid (by rw [← HS.out, enc_small h128'])
      clear HS
      go_wp2
      go_ret
      refine ⟨?_, hch.alloc _⟩
      have h := ByteArray.mk_append_mk ys [ds m]
      rw [← HF.out, ← h]
      rfl

theorem reftext_any (l : List UInt8) (w : World) (hl : l.length ≤ 140737488355328) :
    Calls Try.prog 70 #[.string ⟨l.toArray⟩] w fun e w' => e = .returned (.string ⟨(enc l.length ++ l).toArray⟩) ∧ Chg (fun _ => False) w w' := by
  have h1 := refnum_any l.length w (by omega)
  have he := enc_length9 (n := l.length) (by omega)
  go_enter Try.func70, Try.ntmps70
  go_wp2_with (go_at_call 68; refine h1.mono ?_; rintro e w1 ⟨rfl, hc⟩)
  go_ret
  refine ⟨?_, hc⟩
  rw [← ByteArray.mk_append_mk]
  rfl

end Go.Proofs.Ytfpaoaflhbppgaa

/- The contracts of the document's Right. -/
namespace Go.Proofs.Ytfpaoaflhbppgaa
open Go.RowKit
theorem refright_any (l : List UInt8) (w : World) (hs : l.length ≤ 9223372036854775807) :
    Calls Try.prog 59 #[.string ⟨l.toArray⟩] w fun e w' => e = .returned (.bool (isName l)) ∧ w = w' := by
  by_cases h0 : l.length = 0
  · have he : l = [] := List.eq_nil_of_length_eq_zero h0
    subst he
    go_enter Try.func59, Try.ntmps59
    go_wp2
    go_ret
    exact ⟨rfl, rfl⟩
  · have hpos : 0 < l.length := by omega
    have hem : l.isEmpty = false := by cases l with | nil => simp at h0 | cons _ _ => rfl
    have gx := ba_get l
    by_cases h16 : 16 < l.length
    · have hx : Hid (isName l = false) := isName_long h16
      have d1 : decide (16 < (l.length : Int)) = true := by simp; omega
      go_enter Try.func59, Try.ntmps59
      go_wp2
      go_ret
      exact ⟨by rw [hx.out]; rfl, rfl⟩
    · have d1 : decide (16 < (l.length : Int)) = false := by simp; omega
      by_cases h97 : l[0].toNat < 97
      · have hx : Hid (isName l = false) := isName_first hpos (by simp [okFirst]; omega)
        have d2 : decide ((l[0].toNat : Int) < 97) = true := by simp; omega
        go_enter Try.func59, Try.ntmps59
        go_wp2
        go_ret
        exact ⟨by rw [hx.out]; rfl, rfl⟩
      · have d2 : decide ((l[0].toNat : Int) < 97) = false := by simp; omega
        by_cases h122 : 122 < l[0].toNat
        · have hx : Hid (isName l = false) := isName_first hpos (by simp [okFirst]; omega)
          have d3 : decide (122 < (l[0].toNat : Int)) = true := by simp; omega
          go_enter Try.func59, Try.ntmps59
          go_wp2
          go_ret
          exact ⟨by rw [hx.out]; rfl, rfl⟩
        · have d3 : decide (122 < (l[0].toNat : Int)) = false := by simp; omega
          have hx : Hid (isName l = l.all okByte) := isName_all hpos (by simp [okFirst]; omega) (by omega)
          go_enter Try.func59, Try.ntmps59
          go_wp2
          clear d1 d2 d3 hem
          go_loop [3] (fun i => ∃ k : Nat, k ≤ l.length ∧ i = .int .i64 k ∧ Hid ((l.take k).all okByte = true)) (fun i => l.length - (intOf i).toNat)
          case atStart => exact ⟨0, Nat.zero_le _, rfl, rfl⟩
          case round =>
            obtain ⟨k, hk, rfl, ha⟩ := hrel
            by_cases hlt : k < l.length
            · by_cases hok : okByte l[k] = true
              · have hn : Hid ((l.take (k + 1)).all okByte = true) := hid (by rw [all_take_succ _ k hlt ha.out, hok])
                clear ha
                rcases okByte_yes hok with hc | hc | hc
                · have p1 : decide ((l[k].toNat : Int) < 97) = false := by simp; omega
                  have p2 : decide (122 < (l[k].toNat : Int)) = false := by simp; omega
                  clear hok
                  have HC := hid hc
                  clear hc
                  go_wp2
                  go_round
                  case rel => exact ⟨k + 1, by omega, by go_num, hn⟩
                  case measure => simp [intOf]; omega
                · have p1 : decide ((l[k].toNat : Int) < 97) = true := by simp; omega
                  have p3 : decide ((l[k].toNat : Int) < 48) = false := by simp; omega
                  have p4 : decide (57 < (l[k].toNat : Int)) = false := by simp; omega
                  clear hok
                  have HC := hid hc
                  clear hc
                  go_wp2
                  go_round
                  case rel => exact ⟨k + 1, by omega, by go_num, hn⟩
                  case measure => simp [intOf]; omega
                · have p1 : decide ((l[k].toNat : Int) < 97) = true := by simp; omega
                  have p3 : decide ((l[k].toNat : Int) < 48) = true := by simp; omega
                  have p5 : ((l[k].toNat : Int) != 45) = false := by simp; omega
                  clear hok
                  have HC := hid hc
                  clear hc
                  go_wp2
                  go_round
                  case rel => exact ⟨k + 1, by omega, by go_num, hn⟩
                  case measure => simp [intOf]; omega
              · have hn : Hid (l.all okByte = false) := hid (all_of_bad l k hlt (by simpa using hok))
                clear ha
                rcases okByte_no (by simpa using hok) with hc | hc | hc
                · have p1 : decide ((l[k].toNat : Int) < 97) = true := by simp; omega
                  have p3 : decide ((l[k].toNat : Int) < 48) = true := by simp; omega
                  have p5 : ((l[k].toNat : Int) != 45) = true := by simp; omega
                  clear hok
                  have HC := hid hc
                  clear hc
                  go_wp2
                  go_ret
                  exact ⟨by rw [hx.out, hn.out]; rfl, rfl⟩
                · have p1 : decide ((l[k].toNat : Int) < 97) = true := by simp; omega
                  have p3 : decide ((l[k].toNat : Int) < 48) = false := by simp; omega
                  have p4 : decide (57 < (l[k].toNat : Int)) = true := by simp; omega
                  have p5 : ((l[k].toNat : Int) != 45) = true := by simp; omega
                  clear hok
                  have HC := hid hc
                  clear hc
                  go_wp2
                  go_ret
                  exact ⟨by rw [hx.out, hn.out]; rfl, rfl⟩
                · have p1 : decide ((l[k].toNat : Int) < 97) = false := by simp; omega
                  have p2 : decide (122 < (l[k].toNat : Int)) = true := by simp; omega
                  have p3 : decide ((l[k].toNat : Int) < 48) = false := by simp; omega
                  have p4 : decide (57 < (l[k].toNat : Int)) = true := by simp; omega
                  have p5 : ((l[k].toNat : Int) != 45) = true := by simp; omega
                  clear hok
                  have HC := hid hc
                  clear hc
                  go_wp2
                  go_ret
                  exact ⟨by rw [hx.out, hn.out]; rfl, rfl⟩
            · have hk2 : k = l.length := by omega
              subst hk2
              have hn : Hid (l.all okByte = true) := hid (by have := ha.out; rwa [List.take_of_length_le (Nat.le_refl _)] at this)
              go_wp2
              go_ret
              exact ⟨by rw [hx.out, hn.out]; rfl, rfl⟩
end Go.Proofs.Ytfpaoaflhbppgaa

/- What a reading comes to. -/
namespace Go.Proofs.Ytfpaoaflhbppgaa
open Go.RowKit

/-- What a Read answers, of the error and what is left. -/
def endOf (flt : Int) (n : Nat) : Int := if flt = 0 then (if 0 < n then 13 else 0) else flt

end Go.Proofs.Ytfpaoaflhbppgaa

/- The contracts of the document's tape: Number, Text, End. -/
namespace Go.Proofs.Ytfpaoaflhbppgaa
open Go.RowKit

theorem str_cut (d : UInt8) (l : List UInt8) : (⟨(d :: l).toArray⟩ : ByteArray).extract 1 (⟨(d :: l).toArray⟩ : ByteArray).size = ⟨l.toArray⟩ := by
  apply ByteArray.ext
  simp [ByteArray.data_extract, ByteArray.size]

theorem errNum_bad {l : List UInt8} {most : Int} {err : Nat} (h : numN 9 l 0 0 = (0, 0, err)) (he : err ≠ 0) : errNum l most = err := by
  unfold errNum
  rw [h, if_neg he]

theorem str_cut' (d : UInt8) (l : List UInt8) : (⟨(d :: l).toArray⟩ : ByteArray).extract 1 (l.length + 1) = ⟨l.toArray⟩ := str_cut d l

theorem unit_step {k U : Nat} (hU : 128 ^ k = U) (h : k + 1 ≤ 8) : wrap64 ((U : Int) * 128) = ((128 ^ (k + 1) : Nat) : Int) := by
  have h1 := pow_le9 (k + 1) h
  rw [Nat.pow_succ, hU] at h1
  rw [Nat.pow_succ, hU]
  unfold wrap64
  omega

theorem tape_index (d : UInt8) (l : List UInt8) (w : World) : (Instr.index 9 (.string ⟨(d :: l).toArray⟩) (.int .i64 0)).run Try.prog w = .ok (.int .u8 d.toNat) w := by
  kernel_rfl

theorem str_take (l : List UInt8) (n : Nat) : (⟨l.toArray⟩ : ByteArray).extract 0 n = ⟨(l.take n).toArray⟩ := by
  apply ByteArray.ext
  simp [ByteArray.data_extract]

theorem str_drop (l : List UInt8) (n : Nat) : (⟨l.toArray⟩ : ByteArray).extract n l.length = ⟨(l.drop n).toArray⟩ := by
  apply ByteArray.ext
  simp [ByteArray.data_extract]
  rw [List.take_of_length_le (by simp)]

theorem errNum_max {l : List UInt8} : errNum l 9223372036854775807 = (numN 9 l 0 0).2.2 := by
  unfold errNum
  by_cases h : (numN 9 l 0 0).2.2 = 0
  · obtain ⟨_, _, h3⟩ := numN_ok h
    rw [if_pos h, if_neg (by omega), h]
  · rw [if_neg h]

theorem errText_bad {l : List UInt8} {most : Int} (h : errNum l 9223372036854775807 ≠ 0) : errText l most = errNum l 9223372036854775807 := by
  rw [errNum_max] at h ⊢
  unfold errText
  rw [if_neg h]

/-- What the document's tape ends with. -/
def tapeEnd (l : List UInt8) (e : Int) : Int := endOf e l.length

end Go.Proofs.Ytfpaoaflhbppgaa

/- The contracts of the program's letter, sign and Right. -/
namespace Go.Proofs.Ytfpaoaflhbppgaa
open Go.RowKit

theorem letter_any (c : UInt8) (w : World) :
    Calls Try.prog 54 #[.int .u8 (c.toNat : Int)] w fun e w' => e = .returned (.bool (okFirst c)) ∧ w = w' := by
  by_cases h1 : 97 ≤ c.toNat
  · have d1 : decide ((97 : Int) ≤ (c.toNat : Int)) = true := by simp; omega
    by_cases h2 : c.toNat ≤ 122
    · have d2 : decide ((c.toNat : Int) ≤ 122) = true := by simp; omega
      have hx : Hid (okFirst c = true) := hid (by simp [okFirst, h1, h2])
      clear h1 h2
      go_enter Try.func54, Try.ntmps54
      go_wp2
      go_ret
      exact ⟨by rw [hx.out]; rfl, rfl⟩
    · have d2 : decide ((c.toNat : Int) ≤ 122) = false := by simp; omega
      have hx : Hid (okFirst c = false) := hid (by simp [okFirst, h1, h2])
      clear h1 h2
      go_enter Try.func54, Try.ntmps54
      go_wp2
      go_ret
      exact ⟨by rw [hx.out]; rfl, rfl⟩
  · have d1 : decide ((97 : Int) ≤ (c.toNat : Int)) = false := by simp; omega
    have hx : Hid (okFirst c = false) := hid (by simp [okFirst, h1])
    clear h1
    go_enter Try.func54, Try.ntmps54
    go_wp2
    go_ret
    exact ⟨by rw [hx.out]; rfl, rfl⟩

theorem sign_any (c : UInt8) (w : World) :
    Calls Try.prog 55 #[.int .u8 (c.toNat : Int)] w fun e w' => e = .returned (.bool (okByte c)) ∧ w = w' := by
  by_cases h0 : okFirst c = true
  · have hx : Hid (okByte c = true) := hid (by simp only [okFirst] at h0; simp [okByte, h0])
    go_enter Try.func55, Try.ntmps55
    go_wp2_with (go_at_call 54; refine (letter_any c _).mono ?_; rintro e w' ⟨rfl, rfl⟩; rw [h0])
    go_ret
    exact ⟨by rw [hx.out]; rfl, rfl⟩
  · have h0' : okFirst c = false := by simpa using h0
    have hb : okByte c = ((decide (48 ≤ c.toNat) && decide (c.toNat ≤ 57)) || decide (c.toNat = 45)) := by
      simp only [okFirst] at h0'
      simp only [okByte, h0', Bool.false_or]
    clear h0
    by_cases h1 : 48 ≤ c.toNat
    · have d1 : decide ((48 : Int) ≤ (c.toNat : Int)) = true := by simp; omega
      by_cases h2 : c.toNat ≤ 57
      · have d2 : decide ((c.toNat : Int) ≤ 57) = true := by simp; omega
        have hx : Hid (okByte c = true) := hid (by rw [hb]; simp [h1, h2])
        clear h1 h2 hb
        go_enter Try.func55, Try.ntmps55
        go_wp2_with (go_at_call 54; refine (letter_any c _).mono ?_; rintro e w' ⟨rfl, rfl⟩; rw [h0'])
        go_ret
        exact ⟨by rw [hx.out]; rfl, rfl⟩
      · have d2 : decide ((c.toNat : Int) ≤ 57) = false := by simp; omega
        have d3 : ((c.toNat : Int) == 45) = false := by simp; omega
        have hx : Hid (okByte c = false) := hid (by rw [hb]; simp; omega)
        clear h1 h2 hb
        go_enter Try.func55, Try.ntmps55
        go_wp2_with (go_at_call 54; refine (letter_any c _).mono ?_; rintro e w' ⟨rfl, rfl⟩; rw [h0'])
        go_ret
        exact ⟨by rw [hx.out]; rfl, rfl⟩
    · have d1 : decide ((48 : Int) ≤ (c.toNat : Int)) = false := by simp; omega
      by_cases h3 : c.toNat = 45
      · have d3 : ((c.toNat : Int) == 45) = true := by simp; omega
        have hx : Hid (okByte c = true) := hid (by rw [hb]; simp [h3])
        clear h1 h3 hb
        go_enter Try.func55, Try.ntmps55
        go_wp2_with (go_at_call 54; refine (letter_any c _).mono ?_; rintro e w' ⟨rfl, rfl⟩; rw [h0'])
        go_ret
        exact ⟨by rw [hx.out]; rfl, rfl⟩
      · have d3 : ((c.toNat : Int) == 45) = false := by simp; omega
        have hx : Hid (okByte c = false) := hid (by rw [hb]; simp; omega)
        clear h1 h3 hb
        go_enter Try.func55, Try.ntmps55
        go_wp2_with (go_at_call 54; refine (letter_any c _).mono ?_; rintro e w' ⟨rfl, rfl⟩; rw [h0'])
        go_ret
        exact ⟨by rw [hx.out]; rfl, rfl⟩

theorem right_any (l : List UInt8) (w : World) (hs : l.length ≤ 9223372036854775807) :
    Calls Try.prog 46 #[.string ⟨l.toArray⟩] w fun e w' => e = .returned (.bool (isName l)) ∧ w = w' := by
  have gx := ba_get l
  by_cases h0 : l.length < 1
  · have he : l = [] := List.eq_nil_of_length_eq_zero (by omega)
    subst he
    go_enter Try.func46, Try.ntmps46
    go_wp2
    go_ret
    exact ⟨rfl, rfl⟩
  · have hpos : 0 < l.length := by omega
    have d0 : decide ((l.length : Int) < 1) = false := by simp; omega
    have d00 : decide ((0 : Int) < (l.length : Int)) = true := by simp; omega
    clear h0
    by_cases h16 : 16 < l.length
    · have hx : Hid (isName l = false) := hid (isName_long h16)
      have d1 : decide (16 < (l.length : Int)) = true := by simp; omega
      go_enter Try.func46, Try.ntmps46
      go_wp2
      go_ret
      exact ⟨by rw [hx.out]; rfl, rfl⟩
    · have d1 : decide (16 < (l.length : Int)) = false := by simp; omega
      by_cases h1 : okFirst l[0] = true
      · have hx : Hid (isName l = l.all okByte) := hid (isName_all hpos h1 (by omega))
        go_enter Try.func46, Try.ntmps46
        go_wp2_with (go_at_call 54; refine (letter_any l[0] _).mono ?_; rintro e w' ⟨rfl, rfl⟩; rw [h1])
        clear d0 d1 d00
        go_loop [20] (fun i => ∃ k : Nat, k ≤ l.length ∧ i = .int .i64 k ∧ Hid ((l.take k).all okByte = true)) (fun i => l.length - (intOf i).toNat)
        case atStart => exact ⟨0, Nat.zero_le _, rfl, rfl⟩
        case round =>
          obtain ⟨k, hk, rfl, ha⟩ := hrel
          by_cases hlt : k < l.length
          · cases hok : okByte l[k] with
            | true =>
              have hn : Hid ((l.take (k + 1)).all okByte = true) := hid (by rw [all_take_succ _ k hlt ha.out, hok])
              clear ha
              go_wp2_with (go_at_call 55; refine (sign_any l[k] _).mono ?_; rintro e w' ⟨rfl, rfl⟩; rw [hok])
              go_round
              case rel => exact ⟨k + 1, by omega, by go_num, hn⟩
              case measure => simp [intOf]; omega
            | false =>
              have hn : Hid (l.all okByte = false) := hid (all_of_bad l k hlt hok)
              clear ha
              go_wp2_with (go_at_call 55; refine (sign_any l[k] _).mono ?_; rintro e w' ⟨rfl, rfl⟩; rw [hok])
              go_ret
              exact ⟨by rw [hx.out, hn.out]; rfl, rfl⟩
          · have hk2 : k = l.length := by omega
            subst hk2
            have hn : Hid (l.all okByte = true) := hid (by have := ha.out; rwa [List.take_of_length_le (Nat.le_refl _)] at this)
            go_wp2
            go_ret
            exact ⟨by rw [hx.out, hn.out]; rfl, rfl⟩
      · have h1' : okFirst l[0] = false := by simpa using h1
        have hx : Hid (isName l = false) := hid (isName_first hpos h1')
        go_enter Try.func46, Try.ntmps46
        go_wp2_with (go_at_call 54; refine (letter_any l[0] _).mono ?_; rintro e w' ⟨rfl, rfl⟩; rw [h1'])
        go_ret
        exact ⟨by rw [hx.out]; rfl, rfl⟩
end Go.Proofs.Ytfpaoaflhbppgaa

/- What the walks of layer 1 say of memory: a pen, a reader, bytes that can be read; which blocks a call may have turned. -/
namespace Go.Proofs.Ytfpaoaflhbppgaa
open Go.RowKit

/-- A pen, in the block P: what it holds is the slice (ao, xs.length, cap), which owns the bytes xs in a row of a block from B on. -/
structure PenAt (B : Nat) (w : World) (P : Nat) (ao : Option Addr) (cap : Nat) (xs : List UInt8) : Prop where
  cell : w.heap[P]? = some (.cells #[.slice ao xs.length cap] 94 (0, 0))
  row : w.ownsRow B 5 1 (.slice ao xs.length cap) xs.length (xs.map cb)

def rowOf (ao : Option Addr) : Option Nat := ao.map (·.block)

/-- What a pen's call leaves of all else. -/
structure PChg (P : Nat) (ao : Option Addr) (w : World) (ao' : Option Addr) (w' : World) : Prop where
  chg : Chg (fun k => k = P ∨ rowOf ao = some k) w w'
  row : rowOf ao' = rowOf ao ∨ ∃ g, rowOf ao' = some g ∧ w.heap.size ≤ g

theorem PChg.refl (P : Nat) (ao : Option Addr) (w : World) : PChg P ao w ao w := ⟨Chg.refl _ _, .inl rfl⟩

theorem PChg.trans {P : Nat} {a b c : Option Addr} {u v w : World} (h : PChg P a u b v) (k : PChg P b v c w) : PChg P a u c w := by
  refine ⟨h.chg.trans k.chg ?_, ?_⟩
  · rintro i hi (e | e)
    · exact .inl e
    · rcases h.row with hr | ⟨g, hr, hg⟩
      · exact .inr (hr.symm.trans e)
      · rw [hr] at e
        cases e
        omega
  · rcases k.row with kr | ⟨g, kr, kg⟩
    · rcases h.row with hr | ⟨g, hr, hg⟩
      · exact .inl (kr.trans hr)
      · exact .inr ⟨g, kr.trans hr, hg⟩
    · exact .inr ⟨g, kr, Nat.le_trans h.chg.size kg⟩

theorem PenAt.keep {S : Nat → Prop} {B : Nat} {w w' : World} {P : Nat} {ao : Option Addr} {cap : Nat} {xs : List UInt8} (h : PenAt B w P ao cap xs) (hc : Chg S w w') (hP : ¬ S P) (hr : ∀ k, rowOf ao = some k → ¬ S k) : PenAt B w' P ao cap xs := by
  refine ⟨(hc.block P (lt_blk h.cell) hP).trans h.cell, h.row.1, ?_⟩
  rcases h.row.2 with hn | ⟨g, cap', cur, hv, hg, hh, r⟩
  · exact .inl hn
  · refine .inr ⟨g, cap', cur, hv, hg, ?_, r⟩
    have e : rowOf ao = some g := by
      cases hv
      rfl
    exact (hc.block g (lt_blk hh) (hr g e)).trans hh

/-- What the pen holds can be read. -/
theorem PenAt.bytes {B : Nat} {w : World} {P : Nat} {ao : Option Addr} {cap : Nat} {xs : List UInt8} (h : PenAt B w P ao cap xs) : BytesAt (fun k => rowOf ao = some k) w (.slice ao xs.length cap) xs := by
  rcases h.row.2 with ⟨hn, h0⟩ | ⟨g, cap', cur, hv, hg, hh, h1, h2, h3, h4⟩
  · have h1 := List.eq_nil_of_length_eq_zero h0
    subst h1
    exact .inl ⟨none, 0, hn, rfl, fun _ => rfl⟩
  · cases hv
    refine .inr ⟨g, 0, cap, rfl, h1, h2, rfl, fun i hi => ?_⟩
    have hcell := h.row.cells (g := g) rfl i (cb xs[i]) (by simp [hi])
    have e : ((⟨g, 0, none⟩ : Addr).add i) = ⟨g, 0 + i, none⟩ := by
      unfold Addr.add
      split <;> simp_all
    rw [e] at hcell
    exact hcell

end Go.Proofs.Ytfpaoaflhbppgaa

/- The contract of bytes.Clone. -/
namespace Go.Proofs.Ytfpaoaflhbppgaa
open Go.RowKit

theorem eql25 : ∀ (w : World) (a : Option Addr) (n c n' c' : Nat), (binOp .eql 33 (.slice a n c) (.slice none n' c')).run Try.prog w = .ok (.bool a.isNone) w :=
  fun w a n c n' c' => Lib.run_eql_slice_nil w _ _ a n c n' c' Try.underlying33

theorem clone_nil (w : World) : Calls Try.prog 45 #[.slice none 0 0] w fun e w' => e = .returned (.slice none 0 0) ∧ w = w' := by
  have q := eql25
  go_enter Try.func45, Try.ntmps45
  go_wp2
  go_ret
  exact ⟨rfl, rfl⟩

def Cloned (l : List UInt8) (w : World) (e : Ending) (w' : World) : Prop :=
  ∃ ao cap, e = .returned (.slice ao l.length cap) ∧ BytesAt (fun k => w.heap.size ≤ k ∧ k < w'.heap.size) w' (.slice ao l.length cap) l ∧ Chg (fun _ => False) w w'

/-- A slice of bytes that the call owns can be read. -/
theorem owns_bytes {B : Nat} {w : World} {v : Value} {l : List UInt8} (h : w.ownsRow B 5 1 v l.length (l.map cb)) : ∃ ao cap, v = .slice ao l.length cap ∧ BytesAt (fun k => B ≤ k ∧ k < w.heap.size) w (.slice ao l.length cap) l := by
  rcases h.2 with ⟨rfl, h0⟩ | ⟨g, cap, cur, rfl, hg, hh, h1, h2, h3, h4⟩
  · have : l = [] := List.eq_nil_of_length_eq_zero h0
    subst this
    exact ⟨none, 0, rfl, BytesAt.nil _ _⟩
  · refine ⟨_, _, rfl, .inr ⟨g, 0, cap, rfl, h1, h2, ⟨hg, lt_blk hh⟩, fun i hi => ?_⟩⟩
    have hcell := h.cells (g := g) rfl i (cb l[i]) (by simp [hi])
    rw [add_off] at hcell
    exact hcell

set_option maxRecDepth 100000 in
theorem clone_some (b off cap : Nat) (l : List UInt8) (w : World) (hl : l.length ≤ 140737488355328)
    (hc : ∀ i (h : i < l.length), w.cell? ⟨b, off + i, none⟩ = some (.int .u8 (l[i].toNat : Int))) :
    Calls Try.prog 45 #[.slice (some ⟨b, off, none⟩) l.length cap] w (Cloned l w) := by
  obtain ⟨i0, hi, hz0, hz1, hz2⟩ := info_parts Try.info5
  have q := eql25
  go_enter Try.func45, Try.ntmps45
  go_wp2_with (at_builtin; refine wpList_append_own _ rfl (.tmp 5) (.tmp 6) 33 rfl w.heap.size 5 i0 (.int .u8 0) 1 1 Try.underlying33 hi hz0 hz1 hz2 rfl (by decide) _ 0 [] rfl (World.ownsRow_made w #[] 0 (Nat.le_refl _) (by decide) rfl) ⟨b, off, none⟩ l.length cap (l.map cb) rfl (by simp) ?c1 ?c2 ?c3 ?c4 ?c5 ?_)
  case c1 =>
    intro j u hj
    obtain ⟨hj1, rfl⟩ := cb_getElem? l j u hj
    have hcj := hc j hj1
    have hb := World.block_lt_of_cell? w _ hcj
    rw [add_off, World.cell?_alloc_past _ _ _ hb]
    exact hcj
  case c2 => exact cb_one l
  case c3 => unfold maxLen; omega
  case c4 => omega
  case c5 => simp
  intro v' w1 hown hgrow _
  have hown2 : w1.ownsRow w.heap.size 5 1 v' l.length (l.map cb) := by simpa using hown
  clear hown
  obtain ⟨ao, cap', rfl, hby⟩ := owns_bytes hown2
  have hch : Chg (fun _ => False) w w1 := ((Chg.refl _ w).alloc _).grown hgrow (fun k e hk => by simp [Value.ownBlock] at e; omega)
  go_wp2
  go_ret
  exact ⟨ao, cap', rfl, hby, hch⟩

set_option maxRecDepth 100000 in
theorem clone_empty (x : Addr) (cap : Nat) (w : World) : Calls Try.prog 45 #[.slice (some x) 0 cap] w (Cloned [] w) := by
  obtain ⟨i0, hi, hz0, hz1, hz2⟩ := info_parts Try.info5
  have q := eql25
  go_enter Try.func45, Try.ntmps45
  go_wp2_with (at_builtin; refine wpList_append_own _ rfl (.tmp 5) (.tmp 6) 33 rfl w.heap.size 5 i0 (.int .u8 0) 1 1 Try.underlying33 hi hz0 hz1 hz2 rfl (by decide) _ 0 [] rfl (World.ownsRow_made w #[] 0 (Nat.le_refl _) (by decide) rfl) x 0 cap [] rfl rfl ?c1 ?c2 ?c3 ?c4 ?c5 ?_)
  case c1 =>
    intro j u hj
    simp at hj
  case c2 => simp
  case c3 => unfold maxLen; omega
  case c4 => omega
  case c5 => simp
  intro v' w1 hown hgrow _
  have hown2 : w1.ownsRow w.heap.size 5 1 v' ([] : List UInt8).length (([] : List UInt8).map cb) := by simpa using hown
  clear hown
  obtain ⟨ao, cap', rfl, hby⟩ := owns_bytes hown2
  have hch : Chg (fun _ => False) w w1 := ((Chg.refl _ w).alloc _).grown hgrow (fun k e hk => by simp [Value.ownBlock] at e; omega)
  go_wp2
  go_ret
  exact ⟨ao, cap', rfl, hby, hch⟩

theorem clone_any {D : Nat → Prop} {v : Value} {l : List UInt8} {w : World} (hl : l.length ≤ 140737488355328) (h : BytesAt D w v l) : Calls Try.prog 45 #[v] w (Cloned l w) := by
  rcases h with ⟨ao, cp, rfl, rfl, h0⟩ | ⟨b, off, cap, rfl, h1, h2, h3, h4⟩
  · cases ao with
    | none =>
      obtain rfl := h0 rfl
      refine (clone_nil w).mono ?_
      rintro e w' ⟨rfl, rfl⟩
      exact ⟨none, 0, rfl, BytesAt.nil _ _, Chg.refl _ _⟩
    | some x => exact clone_empty x cp w
  · exact clone_some b off cap l w hl h4

end Go.Proofs.Ytfpaoaflhbppgaa

/- The contracts of a pen's calls. -/
namespace Go.Proofs.Ytfpaoaflhbppgaa
open Go.RowKit

theorem pnum_nil (n : Int) (w : World) : Calls Try.prog 63 #[.pointer none, .int .i64 n] w fun e w' => e = .returned (.bool false) ∧ w = w' := by
  go_enter Try.func63, Try.ntmps63
  go_wp2
  go_ret
  exact ⟨rfl, rfl⟩

theorem pnum_neg (P : Nat) (n : Int) (hn : n < 0) (w : World) : Calls Try.prog 63 #[.pointer (some ⟨P, 0, none⟩), .int .i64 n] w fun e w' => e = .returned (.bool false) ∧ w = w' := by
  go_enter Try.func63, Try.ntmps63
  go_wp2
  go_ret
  exact ⟨rfl, rfl⟩

def PenPost (B P : Nat) (ao : Option Addr) (ys : List UInt8) (w w' : World) : Prop :=
  ∃ ao' cap', PenAt B w' P ao' cap' ys ∧ PChg P ao w ao' w'

theorem rowOf_block (ao : Option Addr) (n c : Nat) : Value.ownBlock (.slice ao n c) = rowOf ao := by cases ao <;> rfl

/-- What an append, stored into the pen, leaves. -/
theorem pen_grown {B P cap : Nat} {ao : Option Addr} {zs news : List UInt8} {w wa w1 : World} {v' : Value} {sz : Nat} (hp : PenAt B w P ao cap zs) (hPB : P < B) (hwa : Chg (fun _ => False) w wa)
    (hown : w1.ownsRow B 5 1 v' (zs.length + news.length) (zs.map cb ++ news.map cb)) (hgrow : wa.grownBy w1 (Value.ownBlock (.slice ao zs.length cap)))
    (hat : v'.ownBlock = Value.ownBlock (.slice ao zs.length cap) ∨ v'.ownBlock = some sz) (hsz : w.heap.size ≤ sz) :
    ∃ ao' cap', v' = .slice ao' (zs.length + news.length) cap' ∧ w1.cell? ⟨P, 0, none⟩ = some (.slice ao zs.length cap) ∧ w1.frozen? ⟨P, 0, none⟩ = false ∧
      PenAt B (w1.setCell ⟨P, 0, none⟩ (.slice ao' (zs.length + news.length) cap')) P ao' cap' (zs ++ news) ∧ PChg P ao w ao' (w1.setCell ⟨P, 0, none⟩ (.slice ao' (zs.length + news.length) cap')) := by
  have hrow : ∀ k, rowOf ao = some k → B ≤ k ∧ k < w.heap.size := fun k hk => hp.row.lt k ((rowOf_block _ _ _).trans hk)
  have hch : Chg (fun k => k = P ∨ rowOf ao = some k) w w1 := (hwa.mono (fun _ _ h => h.elim)).grown hgrow (fun k e _ => .inr ((rowOf_block _ _ _).symm.trans e))
  have hPr : some P ≠ Value.ownBlock (.slice ao zs.length cap) := fun e => by
    have := hrow P ((rowOf_block _ _ _).symm.trans e.symm)
    omega
  have hblk : w1.heap[P]? = some (.cells #[.slice ao zs.length cap] 94 (0, 0)) := by
    have h1 : wa.heap[P]? = some (.cells #[.slice ao zs.length cap] 94 (0, 0)) := (hwa.block P (lt_blk hp.cell) id).trans hp.cell
    exact (hgrow.block P (lt_blk h1) hPr).trans h1
  have hc0 := cell_blk hblk 0
  simp only [List.getElem?_toArray, List.getElem?_cons_zero] at hc0
  have hlen : (zs ++ news).length = zs.length + news.length := List.length_append
  obtain ⟨ao', cap', rfl⟩ : ∃ ao' cap', v' = .slice ao' (zs.length + news.length) cap' := by
    rcases hown.2 with ⟨rfl, h0⟩ | ⟨g, cap', cur, rfl, _⟩
    · exact ⟨none, 0, by rw [h0]⟩
    · exact ⟨_, _, rfl⟩
  refine ⟨ao', cap', rfl, hc0, froz_blk hblk 0, ⟨?_, ?_⟩, hch.setCell (p := ⟨P, 0, none⟩) (fun _ => .inl rfl) _, ?_⟩
  · rw [hlen]
    exact set_blk hblk 0 _
  · rw [hlen, List.map_append]
    exact ownsRow_setCell_below hown (by show P < B; exact hPB) _
  · rw [rowOf_block, rowOf_block] at hat
    rcases hat with h | h
    · exact .inl h
    · exact .inr ⟨_, h, hsz⟩

set_option maxRecDepth 100000 in
set_option maxHeartbeats 400000 in
theorem pnum_any (B P cap n : Nat) (ao : Option Addr) (xs : List UInt8) (w : World) (hn : n < 9223372036854775808) (hp : PenAt B w P ao cap xs) (hB : B ≤ w.heap.size) (hPB : P < B) (hx : xs.length + (enc n).length ≤ 140737488355328) :
    Calls Try.prog 63 #[.pointer (some ⟨P, 0, none⟩), .int .i64 n] w fun e w' => e = .returned (.bool true) ∧ PenPost B P ao (xs ++ enc n) w w' := by
  obtain ⟨i0, hi, hz0, hz1, hz2⟩ := info_parts Try.info5
  go_enter Try.func63, Try.ntmps63
  go_wp2
  go_loopw [1] (fun i wr => ∃ (m : Nat) (a : Option Addr) (c : Nat) (zs : List UInt8), i = .int .i64 m ∧ m < 9223372036854775808 ∧ PenAt B wr P a c zs ∧ PChg P ao w a wr ∧ Hid (zs ++ enc m = xs ++ enc n)) (fun i _ => (intOf i).toNat)
  case atStart => exact ⟨n, ao, cap, xs, rfl, hn, hp, PChg.refl _ _ _, rfl⟩
  case round =>
    obtain ⟨m, a, c, zs, rfl, hm, hpr, hch, HS⟩ := hrel
    have hc0 := cell_blk hpr.cell 0
    have hf0 := froz_blk hpr.cell 0
    simp only [List.getElem?_toArray, List.getElem?_cons_zero] at hc0
    have hPw := lt_blk hpr.cell
    have hlz : zs.length + (enc m).length ≤ 140737488355328 := by
      have := congrArg List.length HS.out
      simp only [List.length_append] at this
      omega
    have hep := enc_pos m
    have hBw : B ≤ wr.heap.size := Nat.le_trans hB hch.chg.size
    by_cases h128 : 128 ≤ m
    · have hd := digit_of m hm
      go_wp2_with (at_builtin; refine wpList_append_own_at _ rfl (.tmp 19) (.tmp 24) 33 rfl B 5 i0 (.int .u8 0) 1 1 Try.underlying33 hi hz0 hz1 hz2 rfl (by decide) _ _ _ rfl (hpr.row.alloc _) ⟨wr.heap.size, 0, none⟩ 1 1 [cb (dg m)] rfl rfl ?c1 ?c2 ?c3 ?c4 ?c5 ?_)
      case c1 => exact (cell_one_new _ _ _)
      case c2 => exact cb_one [dg m]
      case c3 => unfold maxLen; omega
      case c4 => omega
      case c5 => simp; omega
      intro v' w1 hown hgrow _ hat
      obtain ⟨ao', cap', rfl, g0, g1, hp1, hch1⟩ := pen_grown (news := [dg m]) hpr hPB ((Chg.refl _ wr).alloc _) hown hgrow hat (by omega)
      clear hown hgrow hat hd
      simp only [List.length_cons, List.length_nil, Nat.zero_add] at hp1 hch1
      go_wp2
      go_roundw
      case rel => exact ⟨m / 128, ao', cap', zs ++ [dg m], congrArg (Value.int .i64) (by omega), by omega, hp1, hch.trans hch1, hid (by rw [← HS.out, enc_big h128]; simp)⟩
      case measure => simp [intOf]; omega
    · have h128' : m < 128 := by omega
      go_wp2_with (at_builtin; refine wpList_append_own_at _ rfl (.tmp 32) (.tmp 35) 33 rfl B 5 i0 (.int .u8 0) 1 1 Try.underlying33 hi hz0 hz1 hz2 rfl (by decide) _ _ _ rfl (hpr.row.alloc _) ⟨wr.heap.size, 0, none⟩ 1 1 [cb (ds m)] rfl rfl ?d1 ?d2 ?d3 ?d4 ?d5 ?_)
      case d1 =>
        have e : cb (ds m) = .int .u8 (m : Int) := by unfold cb; rw [ds_toNat h128']
        rw [e]
        exact (cell_one_new _ _ _)
      case d2 => exact cb_one [ds m]
      case d3 => unfold maxLen; omega
      case d4 => omega
      case d5 => simp; omega
      intro v' w1 hown hgrow _ hat
      obtain ⟨ao', cap', rfl, g0, g1, hp1, hch1⟩ := pen_grown (news := [ds m]) hpr hPB ((Chg.refl _ wr).alloc _) hown hgrow hat (by omega)
      clear hown hgrow hat
      simp only [List.length_cons, List.length_nil, Nat.zero_add] at hp1 hch1
      have HF : Hid (zs ++ [ds m] = xs ++ enc n) := hid (by rw [← HS.out, enc_small h128'])
      clear HS
      go_wp2
      go_ret
      exact ⟨rfl, ao', cap', HF.out ▸ hp1, hch.trans hch1⟩

end Go.Proofs.Ytfpaoaflhbppgaa

/- The contracts of a pen's Raw, Text and Bytes. -/
namespace Go.Proofs.Ytfpaoaflhbppgaa
open Go.RowKit

theorem raw_nil (ao : Option Addr) (n c : Nat) (w : World) : Calls Try.prog 73 #[.pointer none, .slice ao n c] w fun e w' => e = .returned (.bool false) ∧ w = w' := by
  go_enter Try.func73, Try.ntmps73
  go_wp2
  go_ret
  exact ⟨rfl, rfl⟩

theorem text_nil (ao : Option Addr) (n c : Nat) (w : World) : Calls Try.prog 71 #[.pointer none, .slice ao n c] w fun e w' => e = .returned (.bool false) ∧ w = w' := by
  by_cases h : 2048 < (n : Int)
  · go_enter Try.func71, Try.ntmps71
    go_wp2
    go_ret
    exact ⟨rfl, rfl⟩
  · go_enter Try.func71, Try.ntmps71
    go_wp2_with (go_at_call 63; refine (pnum_nil _ _).mono ?_; rintro e w' ⟨rfl, rfl⟩)
    go_ret
    exact ⟨rfl, rfl⟩

theorem text_long (P : Nat) (ao : Option Addr) (n c : Nat) (hn : 2048 < (n : Int)) (w : World) : Calls Try.prog 71 #[.pointer (some ⟨P, 0, none⟩), .slice ao n c] w fun e w' => e = .returned (.bool false) ∧ w = w' := by
  go_enter Try.func71, Try.ntmps71
  go_wp2
  go_ret
  exact ⟨rfl, rfl⟩

theorem pen_same {B P cap : Nat} {ao : Option Addr} {zs : List UInt8} {w : World} (hp : PenAt B w P ao cap zs) (hPB : P < B) : PenPost B P ao (zs ++ []) w (w.setCell ⟨P, 0, none⟩ (.slice ao zs.length cap)) := by
  rw [List.append_nil]
  exact ⟨ao, cap, ⟨set_blk hp.cell 0 _, ownsRow_setCell_below hp.row (by show P < B; exact hPB) _⟩, (Chg.refl _ w).setCell (p := ⟨P, 0, none⟩) (fun _ => .inl rfl) _, .inl rfl⟩

set_option maxRecDepth 100000 in
theorem raw_any {D : Nat → Prop} (B P cap : Nat) (ao : Option Addr) (zs l : List UInt8) (v : Value) (w : World) (hp : PenAt B w P ao cap zs) (hB : B ≤ w.heap.size) (hPB : P < B) (hx : zs.length + l.length ≤ 140737488355328) (hv : BytesAt D w v l) :
    Calls Try.prog 73 #[.pointer (some ⟨P, 0, none⟩), v] w fun e w' => e = .returned (.bool true) ∧ PenPost B P ao (zs ++ l) w w' := by
  obtain ⟨i0, hi, hz0, hz1, hz2⟩ := info_parts Try.info5
  have hc0 := cell_blk hp.cell 0
  have hf0 := froz_blk hp.cell 0
  simp only [List.getElem?_toArray, List.getElem?_cons_zero] at hc0
  rcases hv with ⟨ao1, cp, rfl, rfl, h00⟩ | ⟨b, off, c, rfl, h1, h2, h3, h4⟩
  · cases ao1 with
    | none =>
      obtain rfl := h00 rfl
      go_enter Try.func73, Try.ntmps73
      go_wp2_with (at_builtin; refine wpList_append_own_none rfl (.tmp 11) (.tmp 12) 33 rfl B 5 i0 1 Try.underlying33 hi _ _ _ rfl hp.row rfl ?_)
      go_wp2
      go_ret
      exact ⟨rfl, by simpa using pen_same hp hPB⟩
    | some x =>
      go_enter Try.func73, Try.ntmps73
      go_wp2_with (at_builtin; refine wpList_append_own_at _ rfl (.tmp 11) (.tmp 12) 33 rfl B 5 i0 (.int .u8 0) 1 1 Try.underlying33 hi hz0 hz1 hz2 rfl (by decide) _ _ _ rfl hp.row x 0 cp [] rfl ?c0 ?c1 ?c2 ?c3 ?c4 ?c5 ?_)
      case c0 => simp
      case c1 =>
        intro j u hj
        simp at hj
      case c2 => simp
      case c3 => unfold maxLen; omega
      case c4 => omega
      case c5 => omega
      intro v' w1 hown hgrow _ hat
      obtain ⟨ao', cap', rfl, g0, g1, hp1, hch1⟩ := pen_grown (news := []) hp hPB (Chg.refl _ w) (by simpa using hown) hgrow hat (Nat.le_refl _)
      clear hown hgrow hat hc0 hf0
      go_wp2
      go_ret
      exact ⟨rfl, ao', cap', hp1, hch1⟩
  · go_enter Try.func73, Try.ntmps73
    go_wp2_with (at_builtin; refine wpList_append_own_at _ rfl (.tmp 11) (.tmp 12) 33 rfl B 5 i0 (.int .u8 0) 1 1 Try.underlying33 hi hz0 hz1 hz2 rfl (by decide) _ _ _ rfl hp.row ⟨b, off, none⟩ l.length c (l.map cb) rfl ?c0 ?c1 ?c2 ?c3 ?c4 ?c5 ?_)
    case c0 => simp
    case c1 =>
      intro j u hj
      obtain ⟨hj1, rfl⟩ := cb_getElem? l j u hj
      rw [add_off]
      exact h4 j hj1
    case c2 => exact cb_one l
    case c3 => unfold maxLen; omega
    case c4 => omega
    case c5 => omega
    intro v' w1 hown hgrow _ hat
    obtain ⟨ao', cap', rfl, g0, g1, hp1, hch1⟩ := pen_grown (news := l) hp hPB (Chg.refl _ w) hown hgrow hat (Nat.le_refl _)
    clear hown hgrow hat hc0 hf0
    go_wp2
    go_ret
    exact ⟨rfl, ao', cap', hp1, hch1⟩

set_option maxRecDepth 100000 in
theorem text_any {D : Nat → Prop} (B P cap : Nat) (ao : Option Addr) (zs l : List UInt8) (v : Value) (w : World) (hp : PenAt B w P ao cap zs) (hB : B ≤ w.heap.size) (hPB : P < B) (hx : zs.length + l.length ≤ 140737488300000) (hl : l.length ≤ 2048) (hv : BytesAt D w v l)
    (hB' : ∀ i, D i → i ≠ P ∧ rowOf ao ≠ some i) :
    Calls Try.prog 71 #[.pointer (some ⟨P, 0, none⟩), v] w fun e w' => e = .returned (.bool true) ∧ PenPost B P ao (zs ++ (enc l.length ++ l)) w w' := by
  have he := enc_length9 (n := l.length) (by omega)
  have hlen : ∃ a c, v = .slice a l.length c := by
    exact hv.shape
  obtain ⟨a, c, rfl⟩ := hlen
  have h1 := pnum_any B P cap l.length ao zs w (by omega) hp hB hPB (by omega)
  have HL := hid (Int.le_of_lt_add_one (show (l.length : Int) < 2048 + 1 by omega))
  have hle : ¬ 2048 < (l.length : Int) := by omega
  go_enter Try.func71, Try.ntmps71
  go_wp2_with (first | (go_at_call 63; refine h1.mono ?_; rintro e w1 ⟨rfl, ao1, cap1, hp1, hch1⟩) | (go_at_call 73; refine (raw_any (D := D) B P _ _ _ l _ _ hp1 (Nat.le_trans hB hch1.chg.size) hPB (by simp only [List.length_append]; omega) (hv.keep hch1.chg (fun i hi h => h.elim (hB' i hi).1 (hB' i hi).2))).mono ?_; rintro e w2 ⟨rfl, ao2, cap2, hp2, hch2⟩))
  go_ret
  exact ⟨rfl, ao2, cap2, by rw [List.append_assoc] at hp2; exact hp2, hch1.trans hch2⟩

theorem bytes_nil (w : World) : Calls Try.prog 66 #[.pointer none] w fun e w' => e = .returned (.slice none 0 0) ∧ w = w' := by
  go_enter Try.func66, Try.ntmps66
  go_wp2
  go_ret
  exact ⟨rfl, rfl⟩

theorem bytes_any (B P cap : Nat) (ao : Option Addr) (zs : List UInt8) (w : World) (hp : PenAt B w P ao cap zs) (hx : zs.length ≤ 140737488355328) :
    Calls Try.prog 66 #[.pointer (some ⟨P, 0, none⟩)] w (Cloned zs w) := by
  have hc0 := cell_blk hp.cell 0
  simp only [List.getElem?_toArray, List.getElem?_cons_zero] at hc0
  have hcl := clone_any hx hp.bytes
  go_enter Try.func66, Try.ntmps66
  go_wp2_with (go_at_call 45; refine hcl.mono ?_; rintro e w1 ⟨ao1, cap1, rfl, hb1, hch1⟩)
  go_ret
  exact ⟨ao1, cap1, rfl, hb1, hch1⟩

/-- A new pen. -/
theorem pen_new (w : World) (B : Nat) : PenAt B (w.alloc (.cells #[.slice none 0 0] 94)) w.heap.size none 0 [] :=
  ⟨heap_alloc_new w _, World.ownsRow_nil _ _ _ _⟩

/-- A pen's call turns nothing that was there ahead of the pen. -/
theorem pchg_new {B P : Nat} {w wk w' : World} {ao ao' : Option Addr} {cap : Nat} {xs : List UInt8} (hc : Chg (fun _ => False) w wk) (hp : PenAt B wk P ao cap xs) (hPB : P < B) (hP : w.heap.size ≤ P) (h : PChg P ao wk ao' w') : Chg (fun _ => False) w w' := by
  refine hc.trans h.chg ?_
  rintro i hi (e | e)
  · omega
  · have := (hp.row.lt i ((rowOf_block _ _ _).trans e)).1
    omega

end Go.Proofs.Ytfpaoaflhbppgaa

/- The contract of tape.number. -/
namespace Go.Proofs.Ytfpaoaflhbppgaa
open Go.RowKit

theorem ret3 {k1 k2 k3 : IntKind} {a b c a' b' c' : Int} (h1 : a = a') (h2 : b = b') (h3 : c = c') :
    Ending.returned (.tuple #[.int k1 a, .int k2 b, .int k3 c]) = .returned (.tuple #[.int k1 a', .int k2 b', .int k3 c']) := by rw [h1, h2, h3]

def NumPost (l : List UInt8) (w : World) (e : Ending) (w' : World) : Prop :=
  e = .returned (.tuple #[.int .i64 (numN 9 l 0 0).1, .int .i64 (numN 9 l 0 0).2.1, .int .i64 (numN 9 l 0 0).2.2]) ∧ w = w'

theorem numPost_of {l : List UInt8} {w : World} {a b c : Int} {r : Nat × Nat × Nat} (h : Hid (numN 9 l 0 0 = r)) (h1 : a = r.1) (h2 : b = r.2.1) (h3 : c = r.2.2) :
    NumPost l w (.returned (.tuple #[.int .i64 a, .int .i64 b, .int .i64 c])) w := by
  subst h1; subst h2; subst h3
  unfold NumPost
  rw [h.out]
  exact ⟨rfl, rfl⟩

end Go.Proofs.Ytfpaoaflhbppgaa

/- The contracts of a reader's ended and Fail. -/
namespace Go.Proofs.Ytfpaoaflhbppgaa
open Go.RowKit

end Go.Proofs.Ytfpaoaflhbppgaa

/- A reader, cut; what an error leaves. -/
namespace Go.Proofs.Ytfpaoaflhbppgaa
open Go.RowKit

theorem pair3 (r : Nat × Nat × Nat) {e : Nat} (h : r.2.2 = e) : r = (r.1, r.2.1, e) := by
  obtain ⟨a, b, c⟩ := r
  subst h
  rfl

end Go.Proofs.Ytfpaoaflhbppgaa

/- The contract of a reader's Text. -/
namespace Go.Proofs.Ytfpaoaflhbppgaa
open Go.RowKit

theorem cut_clone {R b off cap n k : Nat} {l : List UInt8} {w : World} (hl : l.length ≤ 140737488355328) (hbR : b ≠ R) (hlc : l.length ≤ cap) (hcm : cap ≤ maxLen)
    (hc : ∀ i (h : i < l.length), w.cell? ⟨b, off + i, none⟩ = some (.int .u8 (l[i].toNat : Int))) (hk : k ≤ l.length) (hnl : n ≤ l.length - k) {o c : Nat} (ho : n = 0 ∨ o = off + k) (hcc : n ≤ c ∧ c ≤ cap) (u : Value) :
    Calls Try.prog 45 #[.slice (some ⟨b, o, none⟩) n c] (w.setCell ⟨R, 1, none⟩ u) (Cloned ((l.drop k).take n) (w.setCell ⟨R, 1, none⟩ u)) := by
  have hlen : ((l.drop k).take n).length = n := by simp; omega
  have hch : Chg (· = R) w (w.setCell ⟨R, 1, none⟩ u) := (Chg.refl (· = R) w).setCell (p := ⟨R, _, none⟩) (fun _ => rfl) _
  refine clone_any (D := fun _ => True) (by omega) (.inr ⟨b, o, c, by rw [hlen], by omega, by omega, trivial, fun i hi => ?_⟩)
  rw [hlen] at hi
  refine hch.cell ?_ (by show ¬ b = R; exact hbR)
  rcases ho with h | rfl
  · omega
  · rw [Nat.add_assoc, hc (k + i) (by omega)]
    simp

end Go.Proofs.Ytfpaoaflhbppgaa

/- The contracts of the program's Put and Get. -/
namespace Go.Proofs.Ytfpaoaflhbppgaa
open Go.RowKit

theorem put_no (p : Value) (s : List UInt8) (w : World) (hs : s.length ≤ 9223372036854775807) (hn : isName s = false) :
    Calls Try.prog 65 #[p, .string ⟨s.toArray⟩] w fun e w' => e = .returned (.bool false) ∧ w = w' := by
  go_enter Try.func65, Try.ntmps65
  go_wp2_with (go_at_call 46; refine (right_any s _ hs).mono ?_; rintro e w' ⟨rfl, rfl⟩; rw [hn])
  go_ret
  exact ⟨rfl, rfl⟩

theorem name_len {s : List UInt8} (hn : isName s = true) : 0 < s.length ∧ s.length ≤ 16 := by
  cases s with
  | nil => cases hn
  | cons c l =>
    simp only [isName, Bool.and_eq_true, decide_eq_true_eq] at hn
    simp
    omega

theorem put_nil (s : List UInt8) (w : World) (hs : s.length ≤ 9223372036854775807) :
    Calls Try.prog 65 #[.pointer none, .string ⟨s.toArray⟩] w fun e w' => e = .returned (.bool false) ∧ Chg (fun _ => False) w w' := by
  cases hn : isName s with
  | false => exact (put_no _ s w hs hn).mono (by rintro e w' ⟨rfl, rfl⟩; exact ⟨rfl, Chg.refl _ _⟩)
  | true =>
    have hcv := conv_str s w
    have hc3 : Chg (fun _ => False) w (w.drew.alloc (.cells (bytesRow ⟨s.toArray⟩ (grownCap w s.length 0 5)) 5 ((bytesRow ⟨s.toArray⟩ (grownCap w s.length 0 5)).size, (bytesRow ⟨s.toArray⟩ (grownCap w s.length 0 5)).size + 1))) := ((Chg.refl _ w).drew).alloc _
    have HC := hid hc3
    clear hc3
    go_enter Try.func65, Try.ntmps65
    go_wp2_with (first
      | (go_at_call 46; refine (right_any s _ hs).mono ?_; rintro e w' ⟨rfl, rfl⟩; rw [hn])
      | (go_at_call 71; refine (text_nil _ _ _ _).mono ?_; rintro e w' ⟨rfl, rfl⟩))
    go_ret
    exact ⟨rfl, HC.out⟩

set_option maxRecDepth 100000 in
theorem put_yes (B P cap : Nat) (ao : Option Addr) (zs s : List UInt8) (w : World) (hp : PenAt B w P ao cap zs) (hB : B ≤ w.heap.size) (hPB : P < B) (hx : zs.length ≤ 1000000) (hn : isName s = true) :
    Calls Try.prog 65 #[.pointer (some ⟨P, 0, none⟩), .string ⟨s.toArray⟩] w fun e w' => e = .returned (.bool true) ∧ PenPost B P ao (zs ++ (enc s.length ++ s)) w w' := by
  have hl := name_len hn
  have hcv := conv_str s w
  have hg1 := grownCap_ge w s.length 0 5
  have hg2 := grownCap_le_maxLen w s.length 0 5 (by unfold maxLen; omega)
  have hba := bytes_of s w.drew (grownCap w s.length 0 5) hg1 hg2 ((bytesRow ⟨s.toArray⟩ (grownCap w s.length 0 5)).size, (bytesRow ⟨s.toArray⟩ (grownCap w s.length 0 5)).size + 1)
  have hPw := lt_blk hp.cell
  have hrow : ∀ k, rowOf ao = some k → k < w.heap.size := fun k hk => (hp.row.lt k ((rowOf_block _ _ _).trans hk)).2
  have hc3 : Chg (fun _ => False) w (w.drew.alloc (.cells (bytesRow ⟨s.toArray⟩ (grownCap w s.length 0 5)) 5 ((bytesRow ⟨s.toArray⟩ (grownCap w s.length 0 5)).size, (bytesRow ⟨s.toArray⟩ (grownCap w s.length 0 5)).size + 1))) := ((Chg.refl _ w).drew).alloc _
  have hp3 := hp.keep hc3 id (fun _ _ => id)
  have hs3 := hc3.size
  have htx := text_any B P cap ao zs s _ _ hp3 (by omega) hPB (by omega) (by omega) hba (fun i hi => by subst hi; exact ⟨by show w.heap.size ≠ P; omega, fun e => by have := hrow _ e; exact absurd this (Nat.lt_irrefl _)⟩)
  have HC := hid hc3
  clear hc3 hp3 hba hg1 hg2 hs3 hrow hp
  go_enter Try.func65, Try.ntmps65
  go_wp2_with (first
    | (go_at_call 46; refine (right_any s _ (by omega)).mono ?_; rintro e w' ⟨rfl, rfl⟩; rw [hn])
    | (go_at_call 71; refine htx.mono ?_; rintro e w' ⟨rfl, ao', cap', hp', hch⟩))
  go_ret
  refine ⟨rfl, ao', cap', hp', ⟨(HC.out.mono (fun _ _ h => h.elim)).trans hch.chg (fun i _ h => h), ?_⟩⟩
  rcases hch.row with h | ⟨g, h1, h2⟩
  · exact .inl h
  · have := HC.out.size
    exact .inr ⟨g, h1, by omega⟩
end Go.Proofs.Ytfpaoaflhbppgaa

/- The contract of the program's Get, of an open reader and of none. -/
namespace Go.Proofs.Ytfpaoaflhbppgaa
open Go.RowKit

/-- The text that comes next, what is left behind it; the error there. -/
def nameOf (l : List UInt8) : List UInt8 := (l.drop (numN 9 l 0 0).2.1).take (numN 9 l 0 0).1
def nameRest (l : List UInt8) : List UInt8 := l.drop ((numN 9 l 0 0).2.1 + (numN 9 l 0 0).1)
def nameBad (l : List UInt8) : Nat := if errText l 16 = 0 then 30 else errText l 16
def nameOk (l : List UInt8) : Bool := decide (errText l 16 = 0) && isName (nameOf l)

/-- How Read ends, and what was got. -/
def nameErr (l : List UInt8) : Int := if nameOk l = true then endOf 0 (nameRest l).length else nameBad l
def nameGot (l z : List UInt8) : List UInt8 := if nameOk l = true then nameOf l else z

theorem nameBad_ne (l : List UInt8) : ¬ ((nameBad l : Int) = 0) := by
  unfold nameBad
  split <;> omega

end Go.Proofs.Ytfpaoaflhbppgaa

/- The contract of the document's Get (layer 3), and what End says then. -/
namespace Go.Proofs.Ytfpaoaflhbppgaa
open Go.RowKit

end Go.Proofs.Ytfpaoaflhbppgaa
