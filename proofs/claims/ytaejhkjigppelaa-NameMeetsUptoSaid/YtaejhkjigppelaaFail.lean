/- The contracts of a reader's ended and Fail. -/
import Derived.Test.YtaejhkjigppelaaNum
namespace Go.Proofs.Ytaejhkjigppelaa
open Go.RowKit

theorem ended_nil (w : World) :
    Calls Try.prog 66 #[.pointer none] w fun e w' => e = .returned (.bool true) ∧ w = w' := by
  go_enter Try.func66, Try.ntmps66
  go_wp2
  go_ret
  exact ⟨rfl, rfl⟩

theorem ended_true (R : Nat) (w : World) (h0 : w.cell? ⟨R, 0, none⟩ = some (.bool true)) :
    Calls Try.prog 66 #[.pointer (some ⟨R, 0, none⟩)] w fun e w' => e = .returned (.bool false) ∧ w = w' := by
  go_enter Try.func66, Try.ntmps66
  go_wp2
  go_ret
  exact ⟨rfl, rfl⟩

theorem ended_false (R : Nat) (w : World) (h0 : w.cell? ⟨R, 0, none⟩ = some (.bool false)) :
    Calls Try.prog 66 #[.pointer (some ⟨R, 0, none⟩)] w fun e w' => e = .returned (.bool true) ∧ w = w' := by
  go_enter Try.func66, Try.ntmps66
  go_wp2
  go_ret
  exact ⟨rfl, rfl⟩

theorem fail_nil (e0 : Int) (w : World) :
    Calls Try.prog 26 #[.pointer none, .int .i64 e0] w fun e w' => e = .returned (.tuple #[]) ∧ w = w' := by
  go_enter Try.func26, Try.ntmps26
  go_wp2_with (go_at_call 66; refine (ended_nil _).mono ?_; rintro e w' ⟨rfl, rfl⟩)
  refine bodyPost_ret (results_none rfl _ _ _) rfl ?_
  exact ⟨rfl, rfl⟩

theorem fail_closed (R : Nat) (e0 : Int) (w : World) (h0 : w.cell? ⟨R, 0, none⟩ = some (.bool false)) :
    Calls Try.prog 26 #[.pointer (some ⟨R, 0, none⟩), .int .i64 e0] w fun e w' => e = .returned (.tuple #[]) ∧ w = w' := by
  go_enter Try.func26, Try.ntmps26
  go_wp2_with (go_at_call 66; refine (ended_false _ _ h0).mono ?_; rintro e w' ⟨rfl, rfl⟩)
  refine bodyPost_ret (results_none rfl _ _ _) rfl ?_
  exact ⟨rfl, rfl⟩

theorem fail_ok (R : Nat) (w : World) (h0 : w.cell? ⟨R, 0, none⟩ = some (.bool true)) :
    Calls Try.prog 26 #[.pointer (some ⟨R, 0, none⟩), .int .i64 0] w fun e w' => e = .returned (.tuple #[]) ∧ w = w' := by
  go_enter Try.func26, Try.ntmps26
  go_wp2_with (go_at_call 66; refine (ended_true _ _ h0).mono ?_; rintro e w' ⟨rfl, rfl⟩)
  refine bodyPost_ret (results_none rfl _ _ _) rfl ?_
  exact ⟨rfl, rfl⟩

/-- The panic that ends an f. -/
def stopOf (R : Nat) : Value := .iface 78 (.agg #[.pointer (some ⟨R, 0, none⟩)])

theorem fail_stops (R : Nat) (e0 : Int) (v : Value) (w : World) (he : (e0 == 0) = false) (h0 : w.cell? ⟨R, 0, none⟩ = some (.bool true)) (h2 : w.cell? ⟨R, 2, none⟩ = some (.int .i64 0)) (f2 : w.frozen? ⟨R, 2, none⟩ = false) :
    Calls Try.prog 26 #[.pointer (some ⟨R, 0, none⟩), .int .i64 e0] w fun e w' => e = .panicked [{ v := stopOf R, recovered := false }] ∧ w' = w.setCell ⟨R, 2, none⟩ (.int .i64 e0) := by
  go_enter Try.func26, Try.ntmps26
  go_wp2_with (go_at_call 66; refine (ended_true _ _ h0).mono ?_; rintro e w' ⟨rfl, rfl⟩)

  exact ⟨rfl, rfl, rfl⟩

end Go.Proofs.Ytaejhkjigppelaa
