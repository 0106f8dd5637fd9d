/- The contract of the program's Get, of an open reader and of none. -/
import Derived.Test.YtaejhkjigppelaaNmPut
import Derived.Test.YtaejhkjigppelaaEndOf
namespace Go.Proofs.Ytaejhkjigppelaa
open Go.RowKit

/-- The text that comes next, what is left behind it; the error there. -/
def nameOf (l : List UInt8) : List UInt8 := (l.drop (numN 9 l 0 0).2.1).take (numN 9 l 0 0).1
def nameRest (l : List UInt8) : List UInt8 := l.drop ((numN 9 l 0 0).2.1 + (numN 9 l 0 0).1)
def nameBad (l : List UInt8) : Nat := if errText l 16 = 0 then 30 else errText l 16
def nameOk (l : List UInt8) : Bool := decide (errText l 16 = 0) && isName (nameOf l)

theorem get_nil (w : World) : Calls Try.prog 57 #[.pointer none] w fun e w' => e = .returned (.string ⟨#[]⟩) ∧ w = w' := by
  have hcv := conv_bytes (BytesAt.nil (fun _ => True) w)
  have hr := right_any [] w (by simp)
  go_enter Try.func57, Try.ntmps57
  go_wp2_with (first
    | (go_at_call 25; refine (rtext_nil _ _).mono ?_; rintro e w' ⟨rfl, rfl⟩)
    | (go_at_call 46; refine hr.mono ?_; rintro e w' ⟨rfl, rfl⟩; rw [show isName [] = false from rfl])
    | (go_at_call 26; refine (fail_nil _ _).mono ?_; rintro e w' ⟨rfl, rfl⟩))
  go_ret
  exact ⟨rfl, rfl⟩

def GetOk (D : Nat → Prop) (R : Nat) (l : List UInt8) (w : World) (e : Ending) (w' : World) : Prop :=
  e = .returned (.string ⟨(nameOf l).toArray⟩) ∧ ∃ v', BytesAt D w' v' (nameRest l) ∧ ReaderAt w' R true v' 0 ∧ Chg (· = R) w w'

set_option maxRecDepth 100000 in
theorem get_reads {D : Nat → Prop} {R : Nat} {v : Value} {l : List UInt8} {w : World} (hl : l.length ≤ 140737488355328) (hv : BytesAt D w v l) (hDR : ¬ D R) (hR : ReaderAt w R true v 0) (hok : nameOk l = true) :
    Calls Try.prog 57 #[.pointer (some ⟨R, 0, none⟩)] w (GetOk D R l w) := by
  have hok' : errText l 16 = 0 ∧ isName (nameOf l) = true := by simpa [nameOk] using hok
  have h1 := rtext_reads (most := 16) hl hv hDR hR hok'.1
  have hnl : (nameOf l).length ≤ 9223372036854775807 := by have := name_len hok'.2; omega
  go_enter Try.func57, Try.ntmps57
  go_wp2_with fail
  refine h1.mono ?_
  rintro e w1 ⟨ao, cap, rfl, hby, v5, hv5, hR5, hch5⟩
  have hconv := conv_bytes hby
  change (convert 25 9 _).run Try.prog w1 = .ok (.string ⟨(nameOf l).toArray⟩) w1 at hconv
  change BytesAt D w1 v5 (nameRest l) at hv5
  have HN := hok'.2
  clear hok hok' hby h1
  have HG : Hid (GetOk D R l w (.returned (.string ⟨(nameOf l).toArray⟩)) w1) := hid ⟨rfl, v5, hv5, hR5, hch5⟩
  clear hv5 hR5 hch5 hv hR
  generalize nameOf l = s at *
  go_wp2_with (go_at_call 46; refine (right_any s _ hnl).mono ?_; rintro e w' ⟨rfl, rfl⟩; rw [HN])
  go_ret
  exact HG.out

set_option maxRecDepth 100000 in
theorem get_stops {D : Nat → Prop} {R : Nat} {v : Value} {l : List UInt8} {w : World} (hl : l.length ≤ 140737488355328) (hv : BytesAt D w v l) (hDR : ¬ D R) (hR : ReaderAt w R true v 0) (hok : nameOk l = false) :
    Calls Try.prog 57 #[.pointer (some ⟨R, 0, none⟩)] w (Stops R (nameBad l) w) := by
  by_cases he : errText l 16 = 0
  · have hn : isName (nameOf l) = false := by simpa [nameOk, he] using hok
    have hb : nameBad l = 30 := by rw [nameBad, if_pos he]
    rw [hb]
    have h1 := rtext_reads (most := 16) hl hv hDR hR he
    have hnl : (nameOf l).length ≤ 9223372036854775807 := by simp only [nameOf, List.length_take, List.length_drop]; omega
    go_enter Try.func57, Try.ntmps57
    go_wp2_with fail
    refine h1.mono ?_
    rintro e w1 ⟨ao, cap, rfl, hby, v5, hv5, hR5, hch5⟩
    have hconv := conv_bytes hby
    change (convert 25 9 _).run Try.prog w1 = .ok (.string ⟨(nameOf l).toArray⟩) w1 at hconv
    obtain ⟨ao5, cap5, rfl⟩ := hv5.shape
    have HE := hid he
    have HK := hid hok
    have r0 := cell_blk hR5 0
    have r2 := cell_blk hR5 2
    have f2 := froz_blk hR5 2
    simp only [List.getElem?_toArray, List.getElem?_cons_zero, List.getElem?_cons_succ] at r0 r2
    have HR5 := hid (And.intro hR5 hch5)
    clear hok hby h1 he hv5 hR5 hch5 hv hR
    generalize nameOf l = s at *
    go_wp2_with (first
      | (go_at_call 46; refine (right_any s _ hnl).mono ?_; rintro e w' ⟨rfl, rfl⟩; rw [hn])
      | (go_at_call 26; refine (fail_stops R 30 (.bool true) _ rfl r0 r2 f2).mono ?_; rintro e w' ⟨rfl, rfl⟩))
    exact ⟨rfl, rfl, _, _, _, set_blk HR5.out.1 2 (.int .i64 30), HR5.out.2.trans (setCell_chg w1 R 2 _) (fun _ _ h => h)⟩
  · have hb : nameBad l = errText l 16 := by rw [nameBad, if_neg he]
    have h1 := rtext_stops (most := 16) hl hv hR he
    have HE := hid he
    clear he hok
    rw [hb]
    go_enter Try.func57, Try.ntmps57
    go_wp2_with (go_at_call 25; refine h1.mono ?_; rintro e w1 ⟨rfl, hs⟩)
    exact ⟨rfl, rfl, hs⟩
end Go.Proofs.Ytaejhkjigppelaa
