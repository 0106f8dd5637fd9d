/- Texts that the proof leans on, in one: Conv, RefNum, RefRight, EndOf, RefTape, NmRight, Base, Clone, Pen, PenMore, Num, Fail, RCut, RText, NmPut, NmGet, RefGet. -/
import Derived.Test.YtanompfdjfgfbaaGreatRows
import Derived.Test.YtanompfdjfgfbaaGreatMb1
import Derived.Lib.SlBytesConst
import Derived.Maps.AppendAt
import Derived.Laws.AppendOwnNone
/- Conversions between strings and bytes; blocks of bytes. -/
namespace Go.Proofs.YtanompfdjfgfbaaGreat
open Go.RowKit

theorem Tryz.info5 : (Tryz.prog.info? 5).map (fun i => (i.zero, i.size, i.bytes)) = some (some (.int .u8 0), 1, 1) := by kernel_rfl

theorem conv_bytes {D : Nat → Prop} {v : Value} {l : List UInt8} {w : World} (h : BytesAt D w v l) : (convert 139 9 v).run Tryz.prog w = .ok (.string ⟨l.toArray⟩) w := by
  rcases h with ⟨ao, cp, rfl, rfl, h0⟩ | ⟨b, off, cap, rfl, h1, h2, h3, h4⟩
  · cases ao with
    | none => exact run_convert_bytes_nil w 139 5 Tryz.underlying139 Tryz.underlying5 0 cp 9 Tryz.underlying9
    | some x => exact run_convert_bytes_back w 139 9 5 x cp [] Tryz.underlying139 Tryz.underlying5 Tryz.underlying9 (fun j hj => by simp at hj)
  · refine run_convert_bytes_back w 139 9 5 ⟨b, off, none⟩ cap l Tryz.underlying139 Tryz.underlying5 Tryz.underlying9 (fun j hj => ?_)
    rw [add_off]
    exact h4 j hj

theorem conv_one (d : UInt8) (x : Int) (w : World) (hx : x = (d.toNat : Int)) : (convert 139 9 (.slice (some ⟨w.heap.size, 0, none⟩) 1 1)).run Tryz.prog (w.alloc (.cells #[.int .u8 x] 5)) = .ok (.string ⟨#[d]⟩) (w.alloc (.cells #[.int .u8 x] 5)) := by
  subst hx
  refine conv_bytes (D := fun _ => True) (l := [d]) (.inr ⟨_, 0, 1, rfl, Nat.le_refl 1, by decide, trivial, fun i hi => ?_⟩)
  rw [cell_blk (heap_alloc_new w _)]
  match i, hi with
  | 0, _ => rfl

/-- A block of one byte. -/
theorem bytes_one {w : World} {B : Nat} {T : TypeId} {f : Nat × Nat} (n : Nat) (hn : n < 256) (h : w.heap[B]? = some (.cells #[.int .u8 (n : Int)] T f)) : BytesAt (fun k => k = B) w (.slice (some ⟨B, 0, none⟩) 1 1) [UInt8.ofNat n] := by
  refine .inr ⟨B, 0, 1, rfl, by simp, by decide, rfl, fun i hi => ?_⟩
  have : i = 0 := by simp at hi; omega
  subst this
  rw [cell_blk h]
  simp only [List.getElem_cons_zero, ofNat_u8 n hn]
  rfl

/-- A block of bytes. -/
theorem bytes_blk {w : World} {B : Nat} {T : TypeId} {f : Nat × Nat} (l : List UInt8) (hl : l.length ≤ maxLen) (h : w.heap[B]? = some (.cells (l.map cb).toArray T f)) : BytesAt (fun k => k = B) w (.slice (some ⟨B, 0, none⟩) l.length l.length) l := by
  refine .inr ⟨B, 0, l.length, rfl, Nat.le_refl _, hl, rfl, fun i hi => ?_⟩
  rw [cell_blk h, Nat.zero_add]
  simp [hi, cb]

theorem one_le_maxLen : 1 ≤ maxLen := by decide

theorem two_le_maxLen : 2 ≤ maxLen := by decide

theorem bytes_lit1 (x : Int) (y : UInt8) (f : Nat × Nat) (h : x = (y.toNat : Int)) (w : World) : BytesAt (fun _ => True) (w.alloc (.cells #[.int .u8 x] 5 f)) (.slice (some ⟨w.heap.size, 0, none⟩) 1 1) [y] := by
  subst h
  exact (bytes_blk [y] one_le_maxLen (heap_alloc_new w _)).mono (fun _ _ => trivial)

theorem bytes_lit2 (x x' : Int) (y y' : UInt8) (f : Nat × Nat) (h : x = (y.toNat : Int)) (h' : x' = (y'.toNat : Int)) (w : World) : BytesAt (fun _ => True) (w.alloc (.cells #[.int .u8 x, .int .u8 x'] 5 f)) (.slice (some ⟨w.heap.size, 0, none⟩) 2 2) [y, y'] := by
  subst h
  subst h'
  exact (bytes_blk [y, y'] two_le_maxLen (heap_alloc_new w _)).mono (fun _ _ => trivial)

theorem kconv_at (w : World) (g : Nat) (C : Array Value) (n c : Nat) (hg : g = w.heap.size) : (convert 139 139 (.slice (some ⟨g, 0, none⟩) n c)).run Tryz.prog (w.alloc (.cells C 5)) = .ok (.slice (some ⟨g, 0, none⟩) n c) (w.alloc (.cells C 5 (C.size, C.size + 1))) := by
  subst hg
  exact Lib.run_convert_bytes_const (P := Tryz.prog) w 139 5 C n c Tryz.underlying139 Tryz.underlying5

theorem bytesRow_list (acc : List UInt8) (cap : Nat) (i : Nat) (h : i < acc.length) : (bytesRow ⟨acc.toArray⟩ cap)[i]? = some (.int .u8 (acc[i].toNat : Int)) := by
  have := bytesRow_at ⟨acc.toArray⟩ cap i (by simpa using h)
  simpa using this

/-- '[]byte(s)'. -/
theorem bytes_of (acc : List UInt8) (w : World) (c : Nat) (hc : acc.length ≤ c) (hm : c ≤ maxLen) (f : Nat × Nat) :
    BytesAt (fun k => k = w.heap.size) (w.alloc (.cells (bytesRow ⟨acc.toArray⟩ c) 5 f)) (.slice (some ⟨w.heap.size, 0, none⟩) acc.length c) acc := by
  refine .inr ⟨_, 0, c, rfl, hc, hm, rfl, fun i hi => ?_⟩
  rw [cell_blk (heap_alloc_new w _), Nat.zero_add]
  exact bytesRow_list acc c i hi

theorem conv_str (acc : List UInt8) (w : World) : (convert 9 139 (.string ⟨acc.toArray⟩)).run Tryz.prog w = .ok (.slice (some ⟨w.heap.size, 0, none⟩) acc.length (grownCap w acc.length 0 5))
      (w.drew.alloc (.cells (bytesRow ⟨acc.toArray⟩ (grownCap w acc.length 0 5)) 5 ((bytesRow ⟨acc.toArray⟩ (grownCap w acc.length 0 5)).size, (bytesRow ⟨acc.toArray⟩ (grownCap w acc.length 0 5)).size + 1))) := by
  have := run_bytes_of_string (P := Tryz.prog) w 9 139 5 ⟨acc.toArray⟩ Tryz.underlying9 Tryz.underlying139 Tryz.underlying5
  exact this

end Go.Proofs.YtanompfdjfgfbaaGreat

/- The contracts of the document's Number and Text. -/
namespace Go.Proofs.YtanompfdjfgfbaaGreat
open Go.RowKit

set_option maxRecDepth 100000 in
theorem refnum_any (n : Nat) (w : World) (hn : n < 9223372036854775808) :
    Calls Tryz.prog 102 #[.int .i64 n] w fun e w' => e = .returned (.string ⟨(enc n).toArray⟩) ∧ Chg (fun _ => False) w w' := by
  go_enter Tryz.func102, Tryz.ntmps102
  go_wp2
  go_loopw [0, 3] (fun i s wr => ∃ (m : Nat) (ys : List UInt8), i = .int .i64 m ∧ m < 9223372036854775808 ∧ s = .string ⟨ys.toArray⟩ ∧ Chg (fun _ => False) w wr ∧ Hid (ys ++ enc m = enc n)) (fun i _ _ => (intOf i).toNat)
  case atStart => exact ⟨n, [], rfl, hn, rfl, Chg.refl _ _, rfl⟩
  case round =>
    obtain ⟨m, ys, rfl, hm, rfl, hch, HS⟩ := hrel
    have hyl : ys.length ≤ 9 := by
      have h1 := congrArg List.length HS.out
      have h2 := enc_length9 hn
      simp only [List.length_append] at h1
      omega
    by_cases h128 : 128 ≤ m
    · have hcv := conv_one (dg m) (128 + (m : Int) % 128) wr (by rw [dg_toNat]; omega)
      go_wp2
      go_roundw
      case rel => exact ⟨m / 128, ys ++ [dg m], congrArg (Value.int .i64) (by omega), by omega, congrArg Value.string (ByteArray.mk_append_mk ys [dg m]), hch.alloc _, hid (by rw [← HS.out, enc_big h128]; simp)⟩
      case measure => simp [intOf]; omega
    · have h128' : m < 128 := by omega
      have hcv := conv_one (ds m) m wr (by rw [ds_toNat h128'])
      have HF : Hid ((ys ++ [ds m]).toArray = (enc n).toArray) := hid (by rw [← HS.out, enc_small h128'])
      clear HS
      go_wp2
      go_ret
      refine ⟨?_, hch.alloc _⟩
      have h := ByteArray.mk_append_mk ys [ds m]
      rw [← HF.out, ← h]
      rfl

theorem reftext_any (l : List UInt8) (w : World) (hl : l.length ≤ 140737488355328) :
    Calls Tryz.prog 104 #[.string ⟨l.toArray⟩] w fun e w' => e = .returned (.string ⟨(enc l.length ++ l).toArray⟩) ∧ Chg (fun _ => False) w w' := by
  have h1 := refnum_any l.length w (by omega)
  have he := enc_length9 (n := l.length) (by omega)
  go_enter Tryz.func104, Tryz.ntmps104
  go_wp2_with (go_at_call 102; refine h1.mono ?_; rintro e w1 ⟨rfl, hc⟩)
  go_ret
  refine ⟨?_, hc⟩
  rw [← ByteArray.mk_append_mk]
  rfl

end Go.Proofs.YtanompfdjfgfbaaGreat

/- The contracts of the document's Right. -/
namespace Go.Proofs.YtanompfdjfgfbaaGreat
open Go.RowKit
theorem refright_any (l : List UInt8) (w : World) (hs : l.length ≤ 9223372036854775807) :
    Calls Tryz.prog 59 #[.string ⟨l.toArray⟩] w fun e w' => e = .returned (.bool (isName l)) ∧ w = w' := by
  by_cases h0 : l.length = 0
  · have he : l = [] := List.eq_nil_of_length_eq_zero h0
    subst he
    go_enter Tryz.func59, Tryz.ntmps59
    go_wp2
    go_ret
    exact ⟨rfl, rfl⟩
  · have hpos : 0 < l.length := by omega
    have hem : l.isEmpty = false := by cases l with | nil => simp at h0 | cons _ _ => rfl
    have gx := ba_get l
    by_cases h16 : 16 < l.length
    · have hx : Hid (isName l = false) := isName_long h16
      have d1 : decide (16 < (l.length : Int)) = true := by simp; omega
      go_enter Tryz.func59, Tryz.ntmps59
      go_wp2
      go_ret
      exact ⟨by rw [hx.out]; rfl, rfl⟩
    · have d1 : decide (16 < (l.length : Int)) = false := by simp; omega
      by_cases h97 : l[0].toNat < 97
      · have hx : Hid (isName l = false) := isName_first hpos (by simp [okFirst]; omega)
        have d2 : decide ((l[0].toNat : Int) < 97) = true := by simp; omega
        go_enter Tryz.func59, Tryz.ntmps59
        go_wp2
        go_ret
        exact ⟨by rw [hx.out]; rfl, rfl⟩
      · have d2 : decide ((l[0].toNat : Int) < 97) = false := by simp; omega
        by_cases h122 : 122 < l[0].toNat
        · have hx : Hid (isName l = false) := isName_first hpos (by simp [okFirst]; omega)
          have d3 : decide (122 < (l[0].toNat : Int)) = true := by simp; omega
          go_enter Tryz.func59, Tryz.ntmps59
          go_wp2
          go_ret
          exact ⟨by rw [hx.out]; rfl, rfl⟩
        · have d3 : decide (122 < (l[0].toNat : Int)) = false := by simp; omega
          have hx : Hid (isName l = l.all okByte) := isName_all hpos (by simp [okFirst]; omega) (by omega)
          go_enter Tryz.func59, Tryz.ntmps59
          go_wp2
          clear d1 d2 d3 hem
          go_loop [3] (fun i => ∃ k : Nat, k ≤ l.length ∧ i = .int .i64 k ∧ Hid ((l.take k).all okByte = true)) (fun i => l.length - (intOf i).toNat)
          case atStart => exact ⟨0, Nat.zero_le _, rfl, rfl⟩
          case round =>
            obtain ⟨k, hk, rfl, ha⟩ := hrel
            by_cases hlt : k < l.length
            · by_cases hok : okByte l[k] = true
              · have hn : Hid ((l.take (k + 1)).all okByte = true) := hid (by rw [all_take_succ _ k hlt ha.out, hok])
                clear ha
                rcases okByte_yes hok with hc | hc | hc
                · have p1 : decide ((l[k].toNat : Int) < 97) = false := by simp; omega
                  have p2 : decide (122 < (l[k].toNat : Int)) = false := by simp; omega
                  clear hok
                  have HC := hid hc
                  clear hc
                  go_wp2
                  go_round
                  case rel => exact ⟨k + 1, by omega, by go_num, hn⟩
                  case measure => simp [intOf]; omega
                · have p1 : decide ((l[k].toNat : Int) < 97) = true := by simp; omega
                  have p3 : decide ((l[k].toNat : Int) < 48) = false := by simp; omega
                  have p4 : decide (57 < (l[k].toNat : Int)) = false := by simp; omega
                  clear hok
                  have HC := hid hc
                  clear hc
                  go_wp2
                  go_round
                  case rel => exact ⟨k + 1, by omega, by go_num, hn⟩
                  case measure => simp [intOf]; omega
                · have p1 : decide ((l[k].toNat : Int) < 97) = true := by simp; omega
                  have p3 : decide ((l[k].toNat : Int) < 48) = true := by simp; omega
                  have p5 : ((l[k].toNat : Int) != 45) = false := by simp; omega
                  clear hok
                  have HC := hid hc
                  clear hc
                  go_wp2
                  go_round
                  case rel => exact ⟨k + 1, by omega, by go_num, hn⟩
                  case measure => simp [intOf]; omega
              · have hn : Hid (l.all okByte = false) := hid (all_of_bad l k hlt (by simpa using hok))
                clear ha
                rcases okByte_no (by simpa using hok) with hc | hc | hc
                · have p1 : decide ((l[k].toNat : Int) < 97) = true := by simp; omega
                  have p3 : decide ((l[k].toNat : Int) < 48) = true := by simp; omega
                  have p5 : ((l[k].toNat : Int) != 45) = true := by simp; omega
                  clear hok
                  have HC := hid hc
                  clear hc
                  go_wp2
                  go_ret
                  exact ⟨by rw [hx.out, hn.out]; rfl, rfl⟩
                · have p1 : decide ((l[k].toNat : Int) < 97) = true := by simp; omega
                  have p3 : decide ((l[k].toNat : Int) < 48) = false := by simp; omega
                  have p4 : decide (57 < (l[k].toNat : Int)) = true := by simp; omega
                  have p5 : ((l[k].toNat : Int) != 45) = true := by simp; omega
                  clear hok
                  have HC := hid hc
                  clear hc
                  go_wp2
                  go_ret
                  exact ⟨by rw [hx.out, hn.out]; rfl, rfl⟩
                · have p1 : decide ((l[k].toNat : Int) < 97) = false := by simp; omega
                  have p2 : decide (122 < (l[k].toNat : Int)) = true := by simp; omega
                  have p3 : decide ((l[k].toNat : Int) < 48) = false := by simp; omega
                  have p4 : decide (57 < (l[k].toNat : Int)) = true := by simp; omega
                  have p5 : ((l[k].toNat : Int) != 45) = true := by simp; omega
                  clear hok
                  have HC := hid hc
                  clear hc
                  go_wp2
                  go_ret
                  exact ⟨by rw [hx.out, hn.out]; rfl, rfl⟩
            · have hk2 : k = l.length := by omega
              subst hk2
              have hn : Hid (l.all okByte = true) := hid (by have := ha.out; rwa [List.take_of_length_le (Nat.le_refl _)] at this)
              go_wp2
              go_ret
              exact ⟨by rw [hx.out, hn.out]; rfl, rfl⟩
end Go.Proofs.YtanompfdjfgfbaaGreat

/- What a reading comes to. -/
namespace Go.Proofs.YtanompfdjfgfbaaGreat
open Go.RowKit

/-- What a Read answers, of the error and what is left. -/
def endOf (flt : Int) (n : Nat) : Int := if flt = 0 then (if 0 < n then 13 else 0) else flt

end Go.Proofs.YtanompfdjfgfbaaGreat

/- The contracts of the document's tape: Number, Text, End. -/
namespace Go.Proofs.YtanompfdjfgfbaaGreat
open Go.RowKit

theorem str_cut (d : UInt8) (l : List UInt8) : (⟨(d :: l).toArray⟩ : ByteArray).extract 1 (⟨(d :: l).toArray⟩ : ByteArray).size = ⟨l.toArray⟩ := by
  apply ByteArray.ext
  simp [ByteArray.data_extract, ByteArray.size]

theorem errNum_bad {l : List UInt8} {most : Int} {err : Nat} (h : numN 9 l 0 0 = (0, 0, err)) (he : err ≠ 0) : errNum l most = err := by
  unfold errNum
  rw [h, if_neg he]

theorem str_cut' (d : UInt8) (l : List UInt8) : (⟨(d :: l).toArray⟩ : ByteArray).extract 1 (l.length + 1) = ⟨l.toArray⟩ := str_cut d l

theorem unit_step {k U : Nat} (hU : 128 ^ k = U) (h : k + 1 ≤ 8) : wrap64 ((U : Int) * 128) = ((128 ^ (k + 1) : Nat) : Int) := by
  have h1 := pow_le9 (k + 1) h
  rw [Nat.pow_succ, hU] at h1
  rw [Nat.pow_succ, hU]
  unfold wrap64
  omega

theorem tape_index (d : UInt8) (l : List UInt8) (w : World) : (Instr.index 9 (.string ⟨(d :: l).toArray⟩) (.int .i64 0)).run Tryz.prog w = .ok (.int .u8 d.toNat) w := by
  kernel_rfl

theorem str_take (l : List UInt8) (n : Nat) : (⟨l.toArray⟩ : ByteArray).extract 0 n = ⟨(l.take n).toArray⟩ := by
  apply ByteArray.ext
  simp [ByteArray.data_extract]

theorem str_drop (l : List UInt8) (n : Nat) : (⟨l.toArray⟩ : ByteArray).extract n l.length = ⟨(l.drop n).toArray⟩ := by
  apply ByteArray.ext
  simp [ByteArray.data_extract]
  rw [List.take_of_length_le (by simp)]

theorem errNum_max {l : List UInt8} : errNum l 9223372036854775807 = (numN 9 l 0 0).2.2 := by
  unfold errNum
  by_cases h : (numN 9 l 0 0).2.2 = 0
  · obtain ⟨_, _, h3⟩ := numN_ok h
    rw [if_pos h, if_neg (by omega), h]
  · rw [if_neg h]

theorem errText_bad {l : List UInt8} {most : Int} (h : errNum l 9223372036854775807 ≠ 0) : errText l most = errNum l 9223372036854775807 := by
  rw [errNum_max] at h ⊢
  unfold errText
  rw [if_neg h]

/-- What the document's tape ends with. -/
def tapeEnd (l : List UInt8) (e : Int) : Int := endOf e l.length

end Go.Proofs.YtanompfdjfgfbaaGreat

/- The contracts of the program's letter, sign and Right. -/
namespace Go.Proofs.YtanompfdjfgfbaaGreat
open Go.RowKit

theorem letter_any (c : UInt8) (w : World) :
    Calls Tryz.prog 77 #[.int .u8 (c.toNat : Int)] w fun e w' => e = .returned (.bool (okFirst c)) ∧ w = w' := by
  by_cases h1 : 97 ≤ c.toNat
  · have d1 : decide ((97 : Int) ≤ (c.toNat : Int)) = true := by simp; omega
    by_cases h2 : c.toNat ≤ 122
    · have d2 : decide ((c.toNat : Int) ≤ 122) = true := by simp; omega
      have hx : Hid (okFirst c = true) := hid (by simp [okFirst, h1, h2])
      clear h1 h2
      go_enter Tryz.func77, Tryz.ntmps77
      go_wp2
      go_ret
      exact ⟨by rw [hx.out]; rfl, rfl⟩
    · have d2 : decide ((c.toNat : Int) ≤ 122) = false := by simp; omega
      have hx : Hid (okFirst c = false) := hid (by simp [okFirst, h1, h2])
      clear h1 h2
      go_enter Tryz.func77, Tryz.ntmps77
      go_wp2
      go_ret
      exact ⟨by rw [hx.out]; rfl, rfl⟩
  · have d1 : decide ((97 : Int) ≤ (c.toNat : Int)) = false := by simp; omega
    have hx : Hid (okFirst c = false) := hid (by simp [okFirst, h1])
    clear h1
    go_enter Tryz.func77, Tryz.ntmps77
    go_wp2
    go_ret
    exact ⟨by rw [hx.out]; rfl, rfl⟩

theorem sign_any (c : UInt8) (w : World) :
    Calls Tryz.prog 78 #[.int .u8 (c.toNat : Int)] w fun e w' => e = .returned (.bool (okByte c)) ∧ w = w' := by
  by_cases h0 : okFirst c = true
  · have hx : Hid (okByte c = true) := hid (by simp only [okFirst] at h0; simp [okByte, h0])
    go_enter Tryz.func78, Tryz.ntmps78
    go_wp2_with (go_at_call 77; refine (letter_any c _).mono ?_; rintro e w' ⟨rfl, rfl⟩; rw [h0])
    go_ret
    exact ⟨by rw [hx.out]; rfl, rfl⟩
  · have h0' : okFirst c = false := by simpa using h0
    have hb : okByte c = ((decide (48 ≤ c.toNat) && decide (c.toNat ≤ 57)) || decide (c.toNat = 45)) := by
      simp only [okFirst] at h0'
      simp only [okByte, h0', Bool.false_or]
    clear h0
    by_cases h1 : 48 ≤ c.toNat
    · have d1 : decide ((48 : Int) ≤ (c.toNat : Int)) = true := by simp; omega
      by_cases h2 : c.toNat ≤ 57
      · have d2 : decide ((c.toNat : Int) ≤ 57) = true := by simp; omega
        have hx : Hid (okByte c = true) := hid (by rw [hb]; simp [h1, h2])
        clear h1 h2 hb
        go_enter Tryz.func78, Tryz.ntmps78
        go_wp2_with (go_at_call 77; refine (letter_any c _).mono ?_; rintro e w' ⟨rfl, rfl⟩; rw [h0'])
        go_ret
        exact ⟨by rw [hx.out]; rfl, rfl⟩
      · have d2 : decide ((c.toNat : Int) ≤ 57) = false := by simp; omega
        have d3 : ((c.toNat : Int) == 45) = false := by simp; omega
        have hx : Hid (okByte c = false) := hid (by rw [hb]; simp; omega)
        clear h1 h2 hb
        go_enter Tryz.func78, Tryz.ntmps78
        go_wp2_with (go_at_call 77; refine (letter_any c _).mono ?_; rintro e w' ⟨rfl, rfl⟩; rw [h0'])
        go_ret
        exact ⟨by rw [hx.out]; rfl, rfl⟩
    · have d1 : decide ((48 : Int) ≤ (c.toNat : Int)) = false := by simp; omega
      by_cases h3 : c.toNat = 45
      · have d3 : ((c.toNat : Int) == 45) = true := by simp; omega
        have hx : Hid (okByte c = true) := hid (by rw [hb]; simp [h3])
        clear h1 h3 hb
        go_enter Tryz.func78, Tryz.ntmps78
        go_wp2_with (go_at_call 77; refine (letter_any c _).mono ?_; rintro e w' ⟨rfl, rfl⟩; rw [h0'])
        go_ret
        exact ⟨by rw [hx.out]; rfl, rfl⟩
      · have d3 : ((c.toNat : Int) == 45) = false := by simp; omega
        have hx : Hid (okByte c = false) := hid (by rw [hb]; simp; omega)
        clear h1 h3 hb
        go_enter Tryz.func78, Tryz.ntmps78
        go_wp2_with (go_at_call 77; refine (letter_any c _).mono ?_; rintro e w' ⟨rfl, rfl⟩; rw [h0'])
        go_ret
        exact ⟨by rw [hx.out]; rfl, rfl⟩

theorem right_any (l : List UInt8) (w : World) (hs : l.length ≤ 9223372036854775807) :
    Calls Tryz.prog 54 #[.string ⟨l.toArray⟩] w fun e w' => e = .returned (.bool (isName l)) ∧ w = w' := by
  have gx := ba_get l
  by_cases h0 : l.length < 1
  · have he : l = [] := List.eq_nil_of_length_eq_zero (by omega)
    subst he
    go_enter Tryz.func54, Tryz.ntmps54
    go_wp2
    go_ret
    exact ⟨rfl, rfl⟩
  · have hpos : 0 < l.length := by omega
    have d0 : decide ((l.length : Int) < 1) = false := by simp; omega
    have d00 : decide ((0 : Int) < (l.length : Int)) = true := by simp; omega
    clear h0
    by_cases h16 : 16 < l.length
    · have hx : Hid (isName l = false) := hid (isName_long h16)
      have d1 : decide (16 < (l.length : Int)) = true := by simp; omega
      go_enter Tryz.func54, Tryz.ntmps54
      go_wp2
      go_ret
      exact ⟨by rw [hx.out]; rfl, rfl⟩
    · have d1 : decide (16 < (l.length : Int)) = false := by simp; omega
      by_cases h1 : okFirst l[0] = true
      · have hx : Hid (isName l = l.all okByte) := hid (isName_all hpos h1 (by omega))
        go_enter Tryz.func54, Tryz.ntmps54
        go_wp2_with (go_at_call 77; refine (letter_any l[0] _).mono ?_; rintro e w' ⟨rfl, rfl⟩; rw [h1])
        clear d0 d1 d00
        go_loop [20] (fun i => ∃ k : Nat, k ≤ l.length ∧ i = .int .i64 k ∧ Hid ((l.take k).all okByte = true)) (fun i => l.length - (intOf i).toNat)
        case atStart => exact ⟨0, Nat.zero_le _, rfl, rfl⟩
        case round =>
          obtain ⟨k, hk, rfl, ha⟩ := hrel
          by_cases hlt : k < l.length
          · cases hok : okByte l[k] with
            | true =>
              have hn : Hid ((l.take (k + 1)).all okByte = true) := hid (by rw [all_take_succ _ k hlt ha.out, hok])
              clear ha
              go_wp2_with (go_at_call 78; refine (sign_any l[k] _).mono ?_; rintro e w' ⟨rfl, rfl⟩; rw [hok])
              go_round
              case rel => exact ⟨k + 1, by omega, by go_num, hn⟩
              case measure => simp [intOf]; omega
            | false =>
              have hn : Hid (l.all okByte = false) := hid (all_of_bad l k hlt hok)
              clear ha
              go_wp2_with (go_at_call 78; refine (sign_any l[k] _).mono ?_; rintro e w' ⟨rfl, rfl⟩; rw [hok])
              go_ret
              exact ⟨by rw [hx.out, hn.out]; rfl, rfl⟩
          · have hk2 : k = l.length := by omega
            subst hk2
            have hn : Hid (l.all okByte = true) := hid (by have := ha.out; rwa [List.take_of_length_le (Nat.le_refl _)] at this)
            go_wp2
            go_ret
            exact ⟨by rw [hx.out, hn.out]; rfl, rfl⟩
      · have h1' : okFirst l[0] = false := by simpa using h1
        have hx : Hid (isName l = false) := hid (isName_first hpos h1')
        go_enter Tryz.func54, Tryz.ntmps54
        go_wp2_with (go_at_call 77; refine (letter_any l[0] _).mono ?_; rintro e w' ⟨rfl, rfl⟩; rw [h1'])
        go_ret
        exact ⟨by rw [hx.out]; rfl, rfl⟩
end Go.Proofs.YtanompfdjfgfbaaGreat

/- What the walks of layer 1 say of memory: a pen, a reader, bytes that can be read; which blocks a call may have turned. -/
namespace Go.Proofs.YtanompfdjfgfbaaGreat
open Go.RowKit

def rowOf (ao : Option Addr) : Option Nat := ao.map (·.block)

/-- What a pen's call leaves of all else. -/
structure PChg (P : Nat) (ao : Option Addr) (w : World) (ao' : Option Addr) (w' : World) : Prop where
  chg : Chg (fun k => k = P ∨ rowOf ao = some k) w w'
  row : rowOf ao' = rowOf ao ∨ ∃ g, rowOf ao' = some g ∧ w.heap.size ≤ g

theorem PChg.refl (P : Nat) (ao : Option Addr) (w : World) : PChg P ao w ao w := ⟨Chg.refl _ _, .inl rfl⟩

theorem PChg.trans {P : Nat} {a b c : Option Addr} {u v w : World} (h : PChg P a u b v) (k : PChg P b v c w) : PChg P a u c w := by
  refine ⟨h.chg.trans k.chg ?_, ?_⟩
  · rintro i hi (e | e)
    · exact .inl e
    · rcases h.row with hr | ⟨g, hr, hg⟩
      · exact .inr (hr.symm.trans e)
      · rw [hr] at e
        cases e
        omega
  · rcases k.row with kr | ⟨g, kr, kg⟩
    · rcases h.row with hr | ⟨g, hr, hg⟩
      · exact .inl (kr.trans hr)
      · exact .inr ⟨g, kr.trans hr, hg⟩
    · exact .inr ⟨g, kr, Nat.le_trans h.chg.size kg⟩

end Go.Proofs.YtanompfdjfgfbaaGreat

/- The contract of bytes.Clone. -/
namespace Go.Proofs.YtanompfdjfgfbaaGreat
open Go.RowKit

theorem eql25 : ∀ (w : World) (a : Option Addr) (n c n' c' : Nat), (binOp .eql 139 (.slice a n c) (.slice none n' c')).run Tryz.prog w = .ok (.bool a.isNone) w :=
  fun w a n c n' c' => Lib.run_eql_slice_nil w _ _ a n c n' c' Tryz.underlying139

def Cloned (l : List UInt8) (w : World) (e : Ending) (w' : World) : Prop :=
  ∃ ao cap, e = .returned (.slice ao l.length cap) ∧ BytesAt (fun k => w.heap.size ≤ k ∧ k < w'.heap.size) w' (.slice ao l.length cap) l ∧ Chg (fun _ => False) w w'

/-- A slice of bytes that the call owns can be read. -/
theorem owns_bytes {B : Nat} {w : World} {v : Value} {l : List UInt8} (h : w.ownsRow B 5 1 v l.length (l.map cb)) : ∃ ao cap, v = .slice ao l.length cap ∧ BytesAt (fun k => B ≤ k ∧ k < w.heap.size) w (.slice ao l.length cap) l := by
  rcases h.2 with ⟨rfl, h0⟩ | ⟨g, cap, cur, rfl, hg, hh, h1, h2, h3, h4⟩
  · have : l = [] := List.eq_nil_of_length_eq_zero h0
    subst this
    exact ⟨none, 0, rfl, BytesAt.nil _ _⟩
  · refine ⟨_, _, rfl, .inr ⟨g, 0, cap, rfl, h1, h2, ⟨hg, lt_blk hh⟩, fun i hi => ?_⟩⟩
    have hcell := h.cells (g := g) rfl i (cb l[i]) (by simp [hi])
    rw [add_off] at hcell
    exact hcell

end Go.Proofs.YtanompfdjfgfbaaGreat

/- The contracts of a pen's calls. -/
namespace Go.Proofs.YtanompfdjfgfbaaGreat
open Go.RowKit

theorem rowOf_block (ao : Option Addr) (n c : Nat) : Value.ownBlock (.slice ao n c) = rowOf ao := by cases ao <;> rfl

end Go.Proofs.YtanompfdjfgfbaaGreat

/- The contracts of a pen's Raw, Text and Bytes. -/
namespace Go.Proofs.YtanompfdjfgfbaaGreat
open Go.RowKit

end Go.Proofs.YtanompfdjfgfbaaGreat

/- The contract of tape.number. -/
namespace Go.Proofs.YtanompfdjfgfbaaGreat
open Go.RowKit

theorem ret3 {k1 k2 k3 : IntKind} {a b c a' b' c' : Int} (h1 : a = a') (h2 : b = b') (h3 : c = c') :
    Ending.returned (.tuple #[.int k1 a, .int k2 b, .int k3 c]) = .returned (.tuple #[.int k1 a', .int k2 b', .int k3 c']) := by rw [h1, h2, h3]

def NumPost (l : List UInt8) (w : World) (e : Ending) (w' : World) : Prop :=
  e = .returned (.tuple #[.int .i64 (numN 9 l 0 0).1, .int .i64 (numN 9 l 0 0).2.1, .int .i64 (numN 9 l 0 0).2.2]) ∧ w = w'

theorem numPost_of {l : List UInt8} {w : World} {a b c : Int} {r : Nat × Nat × Nat} (h : Hid (numN 9 l 0 0 = r)) (h1 : a = r.1) (h2 : b = r.2.1) (h3 : c = r.2.2) :
    NumPost l w (.returned (.tuple #[.int .i64 a, .int .i64 b, .int .i64 c])) w := by
  subst h1; subst h2; subst h3
  unfold NumPost
  rw [h.out]
  exact ⟨rfl, rfl⟩

end Go.Proofs.YtanompfdjfgfbaaGreat

/- The contracts of a reader's ended and Fail. -/
namespace Go.Proofs.YtanompfdjfgfbaaGreat
open Go.RowKit

end Go.Proofs.YtanompfdjfgfbaaGreat

/- A reader, cut; what an error leaves. -/
namespace Go.Proofs.YtanompfdjfgfbaaGreat
open Go.RowKit

theorem pair3 (r : Nat × Nat × Nat) {e : Nat} (h : r.2.2 = e) : r = (r.1, r.2.1, e) := by
  obtain ⟨a, b, c⟩ := r
  subst h
  rfl

end Go.Proofs.YtanompfdjfgfbaaGreat

/- The contract of a reader's Text. -/
namespace Go.Proofs.YtanompfdjfgfbaaGreat
open Go.RowKit

end Go.Proofs.YtanompfdjfgfbaaGreat

/- The contracts of the program's Put and Get. -/
namespace Go.Proofs.YtanompfdjfgfbaaGreat
open Go.RowKit

theorem name_len {s : List UInt8} (hn : isName s = true) : 0 < s.length ∧ s.length ≤ 16 := by
  cases s with
  | nil => cases hn
  | cons c l =>
    simp only [isName, Bool.and_eq_true, decide_eq_true_eq] at hn
    simp
    omega

end Go.Proofs.YtanompfdjfgfbaaGreat

/- The contract of the program's Get, of an open reader and of none. -/
namespace Go.Proofs.YtanompfdjfgfbaaGreat
open Go.RowKit

/-- The text that comes next, what is left behind it; the error there. -/
def nameOf (l : List UInt8) : List UInt8 := (l.drop (numN 9 l 0 0).2.1).take (numN 9 l 0 0).1
def nameRest (l : List UInt8) : List UInt8 := l.drop ((numN 9 l 0 0).2.1 + (numN 9 l 0 0).1)
def nameBad (l : List UInt8) : Nat := if errText l 16 = 0 then 30 else errText l 16
def nameOk (l : List UInt8) : Bool := decide (errText l 16 = 0) && isName (nameOf l)

/-- How Read ends, and what was got. -/
def nameErr (l : List UInt8) : Int := if nameOk l = true then endOf 0 (nameRest l).length else nameBad l
def nameGot (l z : List UInt8) : List UInt8 := if nameOk l = true then nameOf l else z

theorem nameBad_ne (l : List UInt8) : ¬ ((nameBad l : Int) = 0) := by
  unfold nameBad
  split <;> omega

end Go.Proofs.YtanompfdjfgfbaaGreat

/- The contract of the document's Get (layer 3), and what End says then. -/
namespace Go.Proofs.YtanompfdjfgfbaaGreat
open Go.RowKit

end Go.Proofs.YtanompfdjfgfbaaGreat
