/- Texts that the proof leans on, in one: NmGet, RefGet. -/
import Derived.Test.YtjflmhncgkbdmaaGreatKb4
import Derived.Test.YtjflmhncgkbdmaaGreatKb2
import Derived.Test.YtjflmhncgkbdmaaGreatKb3
/- The contract of the program's Get, of an open reader and of none. -/
namespace Go.Proofs.YtjflmhncgkbdmaaGreat
open Go.RowKit

/-- The text that comes next, what is left behind it; the error there. -/
def nameOf (l : List UInt8) : List UInt8 := (l.drop (numN 9 l 0 0).2.1).take (numN 9 l 0 0).1
def nameRest (l : List UInt8) : List UInt8 := l.drop ((numN 9 l 0 0).2.1 + (numN 9 l 0 0).1)
def nameBad (l : List UInt8) : Nat := if errText l 16 = 0 then 30 else errText l 16
def nameOk (l : List UInt8) : Bool := decide (errText l 16 = 0) && isName (nameOf l)

/-- How Read ends, and what was got. -/
def nameErr (l : List UInt8) : Int := if nameOk l = true then endOf 0 (nameRest l).length else nameBad l
def nameGot (l z : List UInt8) : List UInt8 := if nameOk l = true then nameOf l else z

theorem nameBad_ne (l : List UInt8) : ¬ ((nameBad l : Int) = 0) := by
  unfold nameBad
  split <;> omega

theorem get_nil (w : World) : Calls Tryz.prog 82 #[.pointer none] w fun e w' => e = .returned (.string ⟨#[]⟩) ∧ w = w' := by
  have hcv := conv_bytes (BytesAt.nil (fun _ => True) w)
  have hr := right_any [] w (by simp)
  go_enter Tryz.func82, Tryz.ntmps82
  go_wp2_with (first
    | (go_at_call 54; refine (rtext_nil _ _).mono ?_; rintro e w' ⟨rfl, rfl⟩)
    | (go_at_call 58; refine hr.mono ?_; rintro e w' ⟨rfl, rfl⟩; rw [show isName [] = false from rfl])
    | (go_at_call 55; refine (fail_nil _ _).mono ?_; rintro e w' ⟨rfl, rfl⟩))
  go_ret
  exact ⟨rfl, rfl⟩

def GetOk (D : Nat → Prop) (R : Nat) (l : List UInt8) (w : World) (e : Ending) (w' : World) : Prop :=
  e = .returned (.string ⟨(nameOf l).toArray⟩) ∧ ∃ v', BytesAt D w' v' (nameRest l) ∧ ReaderAt w' R true v' 0 ∧ Chg (· = R) w w'

set_option maxRecDepth 100000 in
theorem get_reads {D : Nat → Prop} {R : Nat} {v : Value} {l : List UInt8} {w : World} (hl : l.length ≤ 140737488355328) (hv : BytesAt D w v l) (hDR : ¬ D R) (hR : ReaderAt w R true v 0) (hok : nameOk l = true) :
    Calls Tryz.prog 82 #[.pointer (some ⟨R, 0, none⟩)] w (GetOk D R l w) := by
  have hok' : errText l 16 = 0 ∧ isName (nameOf l) = true := by simpa [nameOk] using hok
  have h1 := rtext_reads (most := 16) hl hv hDR hR hok'.1
  have hnl : (nameOf l).length ≤ 9223372036854775807 := by have := name_len hok'.2; omega
  go_enter Tryz.func82, Tryz.ntmps82
  go_wp2_with fail
  refine h1.mono ?_
  rintro e w1 ⟨ao, cap, rfl, hby, v5, hv5, hR5, hch5⟩
  have hconv := conv_bytes hby
  change (convert 36 9 _).run Tryz.prog w1 = .ok (.string ⟨(nameOf l).toArray⟩) w1 at hconv
  change BytesAt D w1 v5 (nameRest l) at hv5
  have HN := hok'.2
  clear hok hok' hby h1
  have HG : Hid (GetOk D R l w (.returned (.string ⟨(nameOf l).toArray⟩)) w1) := hid ⟨rfl, v5, hv5, hR5, hch5⟩
  clear hv5 hR5 hch5 hv hR
  generalize nameOf l = s at *
  go_wp2_with (go_at_call 58; refine (right_any s _ hnl).mono ?_; rintro e w' ⟨rfl, rfl⟩; rw [HN])
  go_ret
  exact HG.out

set_option maxRecDepth 100000 in
theorem get_stops {D : Nat → Prop} {R : Nat} {v : Value} {l : List UInt8} {w : World} (hl : l.length ≤ 140737488355328) (hv : BytesAt D w v l) (hDR : ¬ D R) (hR : ReaderAt w R true v 0) (hok : nameOk l = false) :
    Calls Tryz.prog 82 #[.pointer (some ⟨R, 0, none⟩)] w (Stops R (nameBad l) w) := by
  by_cases he : errText l 16 = 0
  · have hn : isName (nameOf l) = false := by simpa [nameOk, he] using hok
    have hb : nameBad l = 30 := by rw [nameBad, if_pos he]
    rw [hb]
    have h1 := rtext_reads (most := 16) hl hv hDR hR he
    have hnl : (nameOf l).length ≤ 9223372036854775807 := by simp only [nameOf, List.length_take, List.length_drop]; omega
    go_enter Tryz.func82, Tryz.ntmps82
    go_wp2_with fail
    refine h1.mono ?_
    rintro e w1 ⟨ao, cap, rfl, hby, v5, hv5, hR5, hch5⟩
    have hconv := conv_bytes hby
    change (convert 36 9 _).run Tryz.prog w1 = .ok (.string ⟨(nameOf l).toArray⟩) w1 at hconv
    obtain ⟨ao5, cap5, rfl⟩ := hv5.shape
    have HE := hid he
    have HK := hid hok
    have r0 := cell_blk hR5 0
    have r2 := cell_blk hR5 2
    have f2 := froz_blk hR5 2
    simp only [List.getElem?_toArray, List.getElem?_cons_zero, List.getElem?_cons_succ] at r0 r2
    have HR5 := hid (And.intro hR5 hch5)
    clear hok hby h1 he hv5 hR5 hch5 hv hR
    generalize nameOf l = s at *
    go_wp2_with (first
      | (go_at_call 58; refine (right_any s _ hnl).mono ?_; rintro e w' ⟨rfl, rfl⟩; rw [hn])
      | (go_at_call 55; refine (fail_stops R 30 (.bool true) _ rfl r0 r2 f2).mono ?_; rintro e w' ⟨rfl, rfl⟩))
    exact ⟨rfl, rfl, _, _, _, set_blk HR5.out.1 2 (.int .i64 30), HR5.out.2.trans (setCell_chg w1 R 2 _) (fun _ _ h => h)⟩
  · have hb : nameBad l = errText l 16 := by rw [nameBad, if_neg he]
    have h1 := rtext_stops (most := 16) hl hv hR he
    have HE := hid he
    clear he hok
    rw [hb]
    go_enter Tryz.func82, Tryz.ntmps82
    go_wp2_with (go_at_call 54; refine h1.mono ?_; rintro e w1 ⟨rfl, hs⟩)
    exact ⟨rfl, rfl, hs⟩
end Go.Proofs.YtjflmhncgkbdmaaGreat

/- The contract of the document's Get (layer 3), and what End says then. -/
namespace Go.Proofs.YtjflmhncgkbdmaaGreat
open Go.RowKit

/-- What the document's Get comes to: the name, what is left, the error. -/
def GetPost (X : Nat) (l : List UInt8) (w : World) (e : Ending) (w' : World) : Prop :=
  (errText l 16 = 0 ∧ isName ((l.drop (numN 9 l 0 0).2.1).take (numN 9 l 0 0).1) = true ∧ e = .returned (.string ⟨((l.drop (numN 9 l 0 0).2.1).take (numN 9 l 0 0).1).toArray⟩) ∧ TapeAt w' X (l.drop ((numN 9 l 0 0).2.1 + (numN 9 l 0 0).1)) 0 ∧ Chg (· = X) w w') ∨
  (errText l 16 = 0 ∧ isName ((l.drop (numN 9 l 0 0).2.1).take (numN 9 l 0 0).1) = false ∧ e = .returned (.string ⟨#[]⟩) ∧ TapeBad X 30 w w') ∨
  (errText l 16 ≠ 0 ∧ e = .returned (.string ⟨#[]⟩) ∧ TapeBad X (errText l 16) w w')

set_option maxRecDepth 100000 in
theorem refget_any (X : Nat) (l : List UInt8) (w : World) (hl : l.length ≤ 9223372036854775807) (hX : TapeAt w X l 0) :
    Calls Tryz.prog 87 #[.pointer (some ⟨X, 0, none⟩)] w (GetPost X l w) := by
  go_enter Tryz.func87, Tryz.ntmps87
  go_wp2_with fail
  refine (ttext_any X l 16 w hl hX).mono ?_
  rintro e w1 (⟨he, rfl, hX1, hc1⟩ | ⟨he, rfl, hbad⟩)
  · have hlen : ((l.drop (numN 9 l 0 0).2.1).take (numN 9 l 0 0).1).length ≤ 9223372036854775807 := by
      simp only [List.length_take, List.length_drop]
      omega
    have q1 := cell_blk hX1 1
    have q2 := froz_blk hX1 1
    simp only [List.getElem?_toArray, List.getElem?_cons_zero, List.getElem?_cons_succ] at q1
    cases hn : isName ((l.drop (numN 9 l 0 0).2.1).take (numN 9 l 0 0).1) with
    | true =>
      have HE := hid (And.intro he hn)
      clear he
      generalize hs : (l.drop (numN 9 l 0 0).2.1).take (numN 9 l 0 0).1 = s at *
      have HS := hid hs
      clear hs
      go_wp2_with (go_at_call 32; refine (refright_any s _ hlen).mono ?_; rintro e w' ⟨rfl, rfl⟩; rw [hn])
      go_ret
      exact .inl ⟨HE.out.1, by rw [HS.out]; exact hn, by rw [HS.out]; rfl, hX1, hc1⟩
    | false =>
      have HE := hid (And.intro he hn)
      clear he
      generalize hs : (l.drop (numN 9 l 0 0).2.1).take (numN 9 l 0 0).1 = s at *
      have HS := hid hs
      clear hs
      have hX2 := set_blk hX1 1 (.int .i64 30)
      have hcs := hc1.trans (setCell_chg w1 X 1 (.int .i64 30)) (fun _ _ h => h)
      have HB := hid (And.intro hX2 hcs)
      clear hX2 hcs hc1
      go_wp2_with (go_at_call 32; refine (refright_any s _ hlen).mono ?_; rintro e w' ⟨rfl, rfl⟩; rw [hn])
      go_ret
      exact .inr (.inl ⟨HE.out.1, by rw [HS.out]; exact hn, rfl, ⟨_, HB.out.1⟩, HB.out.2⟩)
  · obtain ⟨⟨l1, hX1⟩, hc1⟩ := id hbad
    have q1 := cell_blk hX1 1
    simp only [List.getElem?_toArray, List.getElem?_cons_zero, List.getElem?_cons_succ] at q1
    have z1 : ((errText l 16 : Int) == 0) = false := beq_eq_false_iff_ne.2 (by omega)
    have z2 : ((errText l 16 : Int) != 0) = true := by rw [bne_iff_ne]; omega
    have HE := hid he
    clear he
    go_wp2
    go_ret
    exact .inr (.inr ⟨HE.out, rfl, hbad⟩)
/-- The document's Get, and what End says then. -/
theorem refget_end (X : Nat) (l : List UInt8) (w : World) (hl : l.length ≤ 9223372036854775807) (hX : TapeAt w X l 0) :
    Calls Tryz.prog 87 #[.pointer (some ⟨X, 0, none⟩)] w fun e w' => e = .returned (.string ⟨(nameGot l []).toArray⟩) ∧ (∃ l' e', TapeAt w' X l' e' ∧ tapeEnd l' e' = nameErr l) ∧ Chg (· = X) w w' := by
  refine (refget_any X l w hl hX).mono ?_
  rintro e w' (⟨h1, h2, rfl, h4, h5⟩ | ⟨h1, h2, rfl, ⟨l', h4⟩, h5⟩ | ⟨h1, rfl, ⟨l', h4⟩, h5⟩)
  · have hok : nameOk l = true := by rw [nameOk, decide_eq_true h1]; exact h2
    exact ⟨by rw [nameGot, if_pos hok]; rfl, ⟨_, _, h4, by rw [nameErr, if_pos hok]; rfl⟩, h5⟩
  · have hok : ¬ (nameOk l = true) := by rw [nameOk, decide_eq_true h1]; show ¬ (isName _ = true); rw [show isName (nameOf l) = false from h2]; decide
    exact ⟨by rw [nameGot, if_neg hok], ⟨_, _, h4, by rw [nameErr, if_neg hok, nameBad, if_pos h1]; rfl⟩, h5⟩
  · have hok : ¬ (nameOk l = true) := by rw [nameOk, decide_eq_false h1, Bool.false_and]; decide
    refine ⟨by rw [nameGot, if_neg hok], ⟨_, _, h4, ?_⟩, h5⟩
    rw [nameErr, if_neg hok, nameBad, if_neg h1, tapeEnd, endOf, if_neg (by omega)]

end Go.Proofs.YtjflmhncgkbdmaaGreat
