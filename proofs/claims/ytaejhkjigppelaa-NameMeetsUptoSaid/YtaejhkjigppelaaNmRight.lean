/- The contracts of the program's letter, sign and Right. -/
import Derived.Test.YtaejhkjigppelaaRefHas
namespace Go.Proofs.Ytaejhkjigppelaa
open Go.RowKit

theorem letter_any (c : UInt8) (w : World) :
    Calls Try.prog 74 #[.int .u8 (c.toNat : Int)] w fun e w' => e = .returned (.bool (okFirst c)) ∧ w = w' := by
  by_cases h1 : 97 ≤ c.toNat
  · have d1 : decide ((97 : Int) ≤ (c.toNat : Int)) = true := by simp; omega
    by_cases h2 : c.toNat ≤ 122
    · have d2 : decide ((c.toNat : Int) ≤ 122) = true := by simp; omega
      have hx : Hid (okFirst c = true) := hid (by simp [okFirst, h1, h2])
      clear h1 h2
      go_enter Try.func74, Try.ntmps74
      go_wp2
      go_ret
      exact ⟨by rw [hx.out]; rfl, rfl⟩
    · have d2 : decide ((c.toNat : Int) ≤ 122) = false := by simp; omega
      have hx : Hid (okFirst c = false) := hid (by simp [okFirst, h1, h2])
      clear h1 h2
      go_enter Try.func74, Try.ntmps74
      go_wp2
      go_ret
      exact ⟨by rw [hx.out]; rfl, rfl⟩
  · have d1 : decide ((97 : Int) ≤ (c.toNat : Int)) = false := by simp; omega
    have hx : Hid (okFirst c = false) := hid (by simp [okFirst, h1])
    clear h1
    go_enter Try.func74, Try.ntmps74
    go_wp2
    go_ret
    exact ⟨by rw [hx.out]; rfl, rfl⟩

theorem sign_any (c : UInt8) (w : World) :
    Calls Try.prog 75 #[.int .u8 (c.toNat : Int)] w fun e w' => e = .returned (.bool (okByte c)) ∧ w = w' := by
  by_cases h0 : okFirst c = true
  · have hx : Hid (okByte c = true) := hid (by simp only [okFirst] at h0; simp [okByte, h0])
    go_enter Try.func75, Try.ntmps75
    go_wp2_with (go_at_call 74; refine (letter_any c _).mono ?_; rintro e w' ⟨rfl, rfl⟩; rw [h0])
    go_ret
    exact ⟨by rw [hx.out]; rfl, rfl⟩
  · have h0' : okFirst c = false := by simpa using h0
    have hb : okByte c = ((decide (48 ≤ c.toNat) && decide (c.toNat ≤ 57)) || decide (c.toNat = 45)) := by
      simp only [okFirst] at h0'
      simp only [okByte, h0', Bool.false_or]
    clear h0
    by_cases h1 : 48 ≤ c.toNat
    · have d1 : decide ((48 : Int) ≤ (c.toNat : Int)) = true := by simp; omega
      by_cases h2 : c.toNat ≤ 57
      · have d2 : decide ((c.toNat : Int) ≤ 57) = true := by simp; omega
        have hx : Hid (okByte c = true) := hid (by rw [hb]; simp [h1, h2])
        clear h1 h2 hb
        go_enter Try.func75, Try.ntmps75
        go_wp2_with (go_at_call 74; refine (letter_any c _).mono ?_; rintro e w' ⟨rfl, rfl⟩; rw [h0'])
        go_ret
        exact ⟨by rw [hx.out]; rfl, rfl⟩
      · have d2 : decide ((c.toNat : Int) ≤ 57) = false := by simp; omega
        have d3 : ((c.toNat : Int) == 45) = false := by simp; omega
        have hx : Hid (okByte c = false) := hid (by rw [hb]; simp; omega)
        clear h1 h2 hb
        go_enter Try.func75, Try.ntmps75
        go_wp2_with (go_at_call 74; refine (letter_any c _).mono ?_; rintro e w' ⟨rfl, rfl⟩; rw [h0'])
        go_ret
        exact ⟨by rw [hx.out]; rfl, rfl⟩
    · have d1 : decide ((48 : Int) ≤ (c.toNat : Int)) = false := by simp; omega
      by_cases h3 : c.toNat = 45
      · have d3 : ((c.toNat : Int) == 45) = true := by simp; omega
        have hx : Hid (okByte c = true) := hid (by rw [hb]; simp [h3])
        clear h1 h3 hb
        go_enter Try.func75, Try.ntmps75
        go_wp2_with (go_at_call 74; refine (letter_any c _).mono ?_; rintro e w' ⟨rfl, rfl⟩; rw [h0'])
        go_ret
        exact ⟨by rw [hx.out]; rfl, rfl⟩
      · have d3 : ((c.toNat : Int) == 45) = false := by simp; omega
        have hx : Hid (okByte c = false) := hid (by rw [hb]; simp; omega)
        clear h1 h3 hb
        go_enter Try.func75, Try.ntmps75
        go_wp2_with (go_at_call 74; refine (letter_any c _).mono ?_; rintro e w' ⟨rfl, rfl⟩; rw [h0'])
        go_ret
        exact ⟨by rw [hx.out]; rfl, rfl⟩

theorem right_any (l : List UInt8) (w : World) (hs : l.length ≤ 9223372036854775807) :
    Calls Try.prog 46 #[.string ⟨l.toArray⟩] w fun e w' => e = .returned (.bool (isName l)) ∧ w = w' := by
  have gx := ba_get l
  by_cases h0 : l.length < 1
  · have he : l = [] := List.eq_nil_of_length_eq_zero (by omega)
    subst he
    go_enter Try.func46, Try.ntmps46
    go_wp2
    go_ret
    exact ⟨rfl, rfl⟩
  · have hpos : 0 < l.length := by omega
    have d0 : decide ((l.length : Int) < 1) = false := by simp; omega
    have d00 : decide ((0 : Int) < (l.length : Int)) = true := by simp; omega
    clear h0
    by_cases h16 : 16 < l.length
    · have hx : Hid (isName l = false) := hid (isName_long h16)
      have d1 : decide (16 < (l.length : Int)) = true := by simp; omega
      go_enter Try.func46, Try.ntmps46
      go_wp2
      go_ret
      exact ⟨by rw [hx.out]; rfl, rfl⟩
    · have d1 : decide (16 < (l.length : Int)) = false := by simp; omega
      by_cases h1 : okFirst l[0] = true
      · have hx : Hid (isName l = l.all okByte) := hid (isName_all hpos h1 (by omega))
        go_enter Try.func46, Try.ntmps46
        go_wp2_with (go_at_call 74; refine (letter_any l[0] _).mono ?_; rintro e w' ⟨rfl, rfl⟩; rw [h1])
        clear d0 d1 d00
        go_loop [20] (fun i => ∃ k : Nat, k ≤ l.length ∧ i = .int .i64 k ∧ Hid ((l.take k).all okByte = true)) (fun i => l.length - (intOf i).toNat)
        case atStart => exact ⟨0, Nat.zero_le _, rfl, rfl⟩
        case round =>
          obtain ⟨k, hk, rfl, ha⟩ := hrel
          by_cases hlt : k < l.length
          · cases hok : okByte l[k] with
            | true =>
              have hn : Hid ((l.take (k + 1)).all okByte = true) := hid (by rw [all_take_succ _ k hlt ha.out, hok])
              clear ha
              go_wp2_with (go_at_call 75; refine (sign_any l[k] _).mono ?_; rintro e w' ⟨rfl, rfl⟩; rw [hok])
              go_round
              case rel => exact ⟨k + 1, by omega, by go_num, hn⟩
              case measure => simp [intOf]; omega
            | false =>
              have hn : Hid (l.all okByte = false) := hid (all_of_bad l k hlt hok)
              clear ha
              go_wp2_with (go_at_call 75; refine (sign_any l[k] _).mono ?_; rintro e w' ⟨rfl, rfl⟩; rw [hok])
              go_ret
              exact ⟨by rw [hx.out, hn.out]; rfl, rfl⟩
          · have hk2 : k = l.length := by omega
            subst hk2
            have hn : Hid (l.all okByte = true) := hid (by have := ha.out; rwa [List.take_of_length_le (Nat.le_refl _)] at this)
            go_wp2
            go_ret
            exact ⟨by rw [hx.out, hn.out]; rfl, rfl⟩
      · have h1' : okFirst l[0] = false := by simpa using h1
        have hx : Hid (isName l = false) := hid (isName_first hpos h1')
        go_enter Try.func46, Try.ntmps46
        go_wp2_with (go_at_call 74; refine (letter_any l[0] _).mono ?_; rintro e w' ⟨rfl, rfl⟩; rw [h1'])
        go_ret
        exact ⟨by rw [hx.out]; rfl, rfl⟩
end Go.Proofs.Ytaejhkjigppelaa
