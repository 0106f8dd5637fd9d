/- The contracts of the document's Right. -/
import Derived.Test.YtaejhkjigppelaaNameMath
import Derived.Test.YtaejhkjigppelaaStrs
import Derived.Test.YtaejhkjigppelaaConv
namespace Go.Proofs.Ytaejhkjigppelaa
open Go.RowKit
theorem refright_any (l : List UInt8) (w : World) (hs : l.length ≤ 9223372036854775807) :
    Calls Try.prog 47 #[.string ⟨l.toArray⟩] w fun e w' => e = .returned (.bool (isName l)) ∧ w = w' := by
  by_cases h0 : l.length = 0
  · have he : l = [] := List.eq_nil_of_length_eq_zero h0
    subst he
    go_enter Try.func47, Try.ntmps47
    go_wp2
    go_ret
    exact ⟨rfl, rfl⟩
  · have hpos : 0 < l.length := by omega
    have hem : l.isEmpty = false := by cases l with | nil => simp at h0 | cons _ _ => rfl
    have gx := ba_get l
    by_cases h16 : 16 < l.length
    · have hx : Hid (isName l = false) := isName_long h16
      have d1 : decide (16 < (l.length : Int)) = true := by simp; omega
      go_enter Try.func47, Try.ntmps47
      go_wp2
      go_ret
      exact ⟨by rw [hx.out]; rfl, rfl⟩
    · have d1 : decide (16 < (l.length : Int)) = false := by simp; omega
      by_cases h97 : l[0].toNat < 97
      · have hx : Hid (isName l = false) := isName_first hpos (by simp [okFirst]; omega)
        have d2 : decide ((l[0].toNat : Int) < 97) = true := by simp; omega
        go_enter Try.func47, Try.ntmps47
        go_wp2
        go_ret
        exact ⟨by rw [hx.out]; rfl, rfl⟩
      · have d2 : decide ((l[0].toNat : Int) < 97) = false := by simp; omega
        by_cases h122 : 122 < l[0].toNat
        · have hx : Hid (isName l = false) := isName_first hpos (by simp [okFirst]; omega)
          have d3 : decide (122 < (l[0].toNat : Int)) = true := by simp; omega
          go_enter Try.func47, Try.ntmps47
          go_wp2
          go_ret
          exact ⟨by rw [hx.out]; rfl, rfl⟩
        · have d3 : decide (122 < (l[0].toNat : Int)) = false := by simp; omega
          have hx : Hid (isName l = l.all okByte) := isName_all hpos (by simp [okFirst]; omega) (by omega)
          go_enter Try.func47, Try.ntmps47
          go_wp2
          clear d1 d2 d3 hem
          go_loop [3] (fun i => ∃ k : Nat, k ≤ l.length ∧ i = .int .i64 k ∧ Hid ((l.take k).all okByte = true)) (fun i => l.length - (intOf i).toNat)
          case atStart => exact ⟨0, Nat.zero_le _, rfl, rfl⟩
          case round =>
            obtain ⟨k, hk, rfl, ha⟩ := hrel
            by_cases hlt : k < l.length
            · by_cases hok : okByte l[k] = true
              · have hn : Hid ((l.take (k + 1)).all okByte = true) := hid (by rw [all_take_succ _ k hlt ha.out, hok])
                clear ha
                rcases okByte_yes hok with hc | hc | hc
                · have p1 : decide ((l[k].toNat : Int) < 97) = false := by simp; omega
                  have p2 : decide (122 < (l[k].toNat : Int)) = false := by simp; omega
                  clear hok
                  have HC := hid hc
                  clear hc
                  go_wp2
                  go_round
                  case rel => exact ⟨k + 1, by omega, by go_num, hn⟩
                  case measure => simp [intOf]; omega
                · have p1 : decide ((l[k].toNat : Int) < 97) = true := by simp; omega
                  have p3 : decide ((l[k].toNat : Int) < 48) = false := by simp; omega
                  have p4 : decide (57 < (l[k].toNat : Int)) = false := by simp; omega
                  clear hok
                  have HC := hid hc
                  clear hc
                  go_wp2
                  go_round
                  case rel => exact ⟨k + 1, by omega, by go_num, hn⟩
                  case measure => simp [intOf]; omega
                · have p1 : decide ((l[k].toNat : Int) < 97) = true := by simp; omega
                  have p3 : decide ((l[k].toNat : Int) < 48) = true := by simp; omega
                  have p5 : ((l[k].toNat : Int) != 45) = false := by simp; omega
                  clear hok
                  have HC := hid hc
                  clear hc
                  go_wp2
                  go_round
                  case rel => exact ⟨k + 1, by omega, by go_num, hn⟩
                  case measure => simp [intOf]; omega
              · have hn : Hid (l.all okByte = false) := hid (all_of_bad l k hlt (by simpa using hok))
                clear ha
                rcases okByte_no (by simpa using hok) with hc | hc | hc
                · have p1 : decide ((l[k].toNat : Int) < 97) = true := by simp; omega
                  have p3 : decide ((l[k].toNat : Int) < 48) = true := by simp; omega
                  have p5 : ((l[k].toNat : Int) != 45) = true := by simp; omega
                  clear hok
                  have HC := hid hc
                  clear hc
                  go_wp2
                  go_ret
                  exact ⟨by rw [hx.out, hn.out]; rfl, rfl⟩
                · have p1 : decide ((l[k].toNat : Int) < 97) = true := by simp; omega
                  have p3 : decide ((l[k].toNat : Int) < 48) = false := by simp; omega
                  have p4 : decide (57 < (l[k].toNat : Int)) = true := by simp; omega
                  have p5 : ((l[k].toNat : Int) != 45) = true := by simp; omega
                  clear hok
                  have HC := hid hc
                  clear hc
                  go_wp2
                  go_ret
                  exact ⟨by rw [hx.out, hn.out]; rfl, rfl⟩
                · have p1 : decide ((l[k].toNat : Int) < 97) = false := by simp; omega
                  have p2 : decide (122 < (l[k].toNat : Int)) = true := by simp; omega
                  have p3 : decide ((l[k].toNat : Int) < 48) = false := by simp; omega
                  have p4 : decide (57 < (l[k].toNat : Int)) = true := by simp; omega
                  have p5 : ((l[k].toNat : Int) != 45) = true := by simp; omega
                  clear hok
                  have HC := hid hc
                  clear hc
                  go_wp2
                  go_ret
                  exact ⟨by rw [hx.out, hn.out]; rfl, rfl⟩
            · have hk2 : k = l.length := by omega
              subst hk2
              have hn : Hid (l.all okByte = true) := hid (by have := ha.out; rwa [List.take_of_length_le (Nat.le_refl _)] at this)
              go_wp2
              go_ret
              exact ⟨by rw [hx.out, hn.out]; rfl, rfl⟩
end Go.Proofs.Ytaejhkjigppelaa
