/- The contracts of the document's Number and Text. -/
import Derived.Test.YtaejhkjigppelaaMath
import Derived.Test.YtaejhkjigppelaaConv
namespace Go.Proofs.Ytaejhkjigppelaa
open Go.RowKit

set_option maxRecDepth 100000 in
theorem refnum_any (n : Nat) (w : World) (hn : n < 9223372036854775808) :
    Calls Try.prog 14 #[.int .i64 n] w fun e w' => e = .returned (.string ⟨(enc n).toArray⟩) ∧ Chg (fun _ => False) w w' := by
  go_enter Try.func14, Try.ntmps14
  go_wp2
  go_loopw [0, 3] (fun i s wr => ∃ (m : Nat) (ys : List UInt8), i = .int .i64 m ∧ m < 9223372036854775808 ∧ s = .string ⟨ys.toArray⟩ ∧ Chg (fun _ => False) w wr ∧ Hid (ys ++ enc m = enc n)) (fun i _ _ => (intOf i).toNat)
  case atStart => exact ⟨n, [], rfl, hn, rfl, Chg.refl _ _, rfl⟩
  case round =>
    obtain ⟨m, ys, rfl, hm, rfl, hch, HS⟩ := hrel
    have hyl : ys.length ≤ 9 := by
      have h1 := congrArg List.length HS.out
      have h2 := enc_length9 hn
      simp only [List.length_append] at h1
      omega
    by_cases h128 : 128 ≤ m
    · have hcv := conv_one (dg m) (128 + (m : Int) % 128) wr (by rw [dg_toNat]; omega)
      go_wp2
      go_roundw
      case rel => exact ⟨m / 128, ys ++ [dg m], congrArg (Value.int .i64) (by omega), by omega, congrArg Value.string (ByteArray.mk_append_mk ys [dg m]), hch.alloc _, hid (by rw [← HS.out, enc_big h128]; simp)⟩
      case measure => simp [intOf]; omega
    · have h128' : m < 128 := by omega
      have hcv := conv_one (ds m) m wr (by rw [ds_toNat h128'])
      have HF : Hid ((ys ++ [ds m]).toArray = (enc n).toArray) := hid (by rw [← HS.out, enc_small h128'])
      clear HS
      go_wp2
      go_ret
      refine ⟨?_, hch.alloc _⟩
      have h := ByteArray.mk_append_mk ys [ds m]
      rw [← HF.out, ← h]
      rfl

theorem reftext_any (l : List UInt8) (w : World) (hl : l.length ≤ 140737488355328) :
    Calls Try.prog 16 #[.string ⟨l.toArray⟩] w fun e w' => e = .returned (.string ⟨(enc l.length ++ l).toArray⟩) ∧ Chg (fun _ => False) w w' := by
  have h1 := refnum_any l.length w (by omega)
  have he := enc_length9 (n := l.length) (by omega)
  go_enter Try.func16, Try.ntmps16
  go_wp2_with (go_at_call 14; refine h1.mono ?_; rintro e w1 ⟨rfl, hc⟩)
  go_ret
  refine ⟨?_, hc⟩
  rw [← ByteArray.mk_append_mk]
  rfl

end Go.Proofs.Ytaejhkjigppelaa
