/- Texts that the proof leans on, in one: RoleGet, RoleRef. -/
import Derived.Test.YtdlpddpdobiebaaTm4
import Derived.Test.YtdlpddpdobiebaaTm5
import Derived.Test.YtdlpddpdobiebaaTm1
import Derived.Deep.QuietTactic
import Derived.BigQuiet
/- The contract of the document's Get of layer 4. -/
namespace Go.Proofs.Ytdlpddpdobiebaa
open Go.RowKit

/-- The role that comes next, what is left behind it, the error there. -/
def roleOk (l : List UInt8) : Bool := nameOk l && nameOk (nameRest l)
def roleOf (l : List UInt8) : RoleB := (nameOf l, nameOf (nameRest l))
def roleRest (l : List UInt8) : List UInt8 := nameRest (nameRest l)
def roleBad (l : List UInt8) : Nat := if nameOk l = true then nameBad (nameRest l) else nameBad l
def roleErr (l : List UInt8) : Int := if roleOk l = true then endOf 0 (roleRest l).length else roleBad l
def roleGot (l : List UInt8) (z : RoleB) : RoleB := if roleOk l = true then roleOf l else z

theorem roleBad_ne (l : List UInt8) : ¬ ((roleBad l : Int) = 0) := by
  unfold roleBad
  split
  · exact nameBad_ne _
  · exact nameBad_ne _

theorem nameRest_len (l : List UInt8) : (nameRest l).length ≤ l.length := by
  unfold nameRest
  simp

set_option maxRecDepth 100000 in
theorem rget_ok (X : Nat) (l : List UInt8) (w : World) (hl : l.length ≤ 9223372036854775807) (hX : TapeAt w X l 0) (hok : roleOk l = true) :
    Calls Try.prog 26 #[.pointer (some ⟨X, 0, none⟩)] w fun e w' => e = .returned (roleV (roleOf l)) ∧ TapeAt w' X (roleRest l) 0 ∧ Chg (· = X) w w' := by
  have hok' : nameOk l = true ∧ nameOk (nameRest l) = true := by simpa [roleOk] using hok
  have hl1 := nameRest_len l
  clear hok
  go_enter Try.func26, Try.ntmps26
  have hc0 : Chg (fun _ => False) w (w.alloc (.cells #[.string ⟨#[]⟩, .string ⟨#[]⟩] 24)) := (Chg.refl _ w).alloc _
  have hC := heap_alloc_new w (.cells #[.string ⟨#[]⟩, .string ⟨#[]⟩] 24)
  have hX0 : TapeAt _ X l 0 := blk_keep hX hc0 id
  have hXC : X < w.heap.size := lt_blk hX
  go_wp2_with fail
  generalize w.alloc (.cells #[.string ⟨#[]⟩, .string ⟨#[]⟩] 24) = w1 at *
  generalize hCC : w.heap.size = C at *
  refine (nget_ok X l w1 hl hX0 hok'.1).mono ?_
  rintro e w2 ⟨rfl, hX2, hc2⟩
  have hC2 := blk_keep hC hc2 (by omega)
  go_wp2_with fail
  refine (nget_ok X (nameRest l) w2 (by omega) hX2 hok'.2).mono ?_
  rintro e w3 ⟨rfl, hX3, hc3⟩
  have hC3 := blk_keep hC2 hc3 (by omega)
  have x1 := cell_blk hX3 1
  have q0 := cell_blk hC3 0
  have q1 := cell_blk hC3 1
  have f0 := froz_blk hC3 0
  have f1 := froz_blk hC3 1
  simp only [List.getElem?_toArray, List.getElem?_cons_zero, List.getElem?_cons_succ] at x1 q0 q1
  have hcw : Chg (· = X) w w3 := ((hc0.mono (fun _ _ h => h.elim)).trans hc2 (fun _ _ h => h)).trans hc3 (fun _ _ h => h)
  have HR : Hid (roleOf l = (nameOf l, nameOf (nameRest l))) := rfl
  clear hX0 hc0 hC hX2 hc2 hC2 hc3 hok'
  generalize nameOf l = o at *
  generalize nameOf (nameRest l) = x at *
  have hs1 := setCell_chg w3 C 0 (.string ⟨o.toArray⟩)
  have hs2 := setCell_chg (w3.setCell ⟨C, 0, none⟩ (.string ⟨o.toArray⟩)) C 1 (.string ⟨x.toArray⟩)
  have hsX : TapeAt ((w3.setCell ⟨C, 0, none⟩ (.string ⟨o.toArray⟩)).setCell ⟨C, 1, none⟩ (.string ⟨x.toArray⟩)) X (nameRest (nameRest l)) 0 := blk_keep (blk_keep hX3 hs1 (by omega)) hs2 (by omega)
  have hch : Chg (· = X) w ((w3.setCell ⟨C, 0, none⟩ (.string ⟨o.toArray⟩)).setCell ⟨C, 1, none⟩ (.string ⟨x.toArray⟩)) := (hcw.trans hs1 (fun i hi h => by omega)).trans hs2 (fun i hi h => by omega)
  have hD : ((w3.setCell ⟨C, 0, none⟩ (.string ⟨o.toArray⟩)).setCell ⟨C, 1, none⟩ (.string ⟨x.toArray⟩)).heap[C]? = some (.cells #[.string ⟨o.toArray⟩, .string ⟨x.toArray⟩] 24 (0, 0)) := set_blk (set_blk hC3 0 (.string ⟨o.toArray⟩)) 1 (.string ⟨x.toArray⟩)
  have HH := hid (And.intro hD (And.intro hsX hch))
  clear hs1 hs2 hsX hch hcw hX3 hC3 hD
  go_wp2
  refine bodyPost_ret (results_cell_row (P := Try.prog) rfl _ _ C 24 _ (0, 0) _ rfl HH.out.1 Try.underlying24 rfl (by kernel_rfl)) rfl ?_
  exact ⟨by rw [HR.out]; rfl, HH.out.2.1, HH.out.2.2⟩

/-- A role of nothing. -/
def noRole : RoleB := ([], [])

set_option maxRecDepth 100000 in
theorem rget_no (X : Nat) (l : List UInt8) (w : World) (hl : l.length ≤ 9223372036854775807) (hX : TapeAt w X l 0) (hok : roleOk l = false) :
    Calls Try.prog 26 #[.pointer (some ⟨X, 0, none⟩)] w fun e w' => e = .returned (roleV noRole) ∧ (∃ l', TapeAt w' X l' (roleBad l)) ∧ Chg (· = X) w w' := by
  have hl1 := nameRest_len l
  go_enter Try.func26, Try.ntmps26
  have hc0 : Chg (fun _ => False) w (w.alloc (.cells #[.string ⟨#[]⟩, .string ⟨#[]⟩] 24)) := (Chg.refl _ w).alloc _
  have hC := heap_alloc_new w (.cells #[.string ⟨#[]⟩, .string ⟨#[]⟩] 24)
  have hX0 : TapeAt _ X l 0 := blk_keep hX hc0 id
  have hXC : X < w.heap.size := lt_blk hX
  go_wp2_with fail
  generalize w.alloc (.cells #[.string ⟨#[]⟩, .string ⟨#[]⟩] 24) = w1 at *
  generalize hCC : w.heap.size = C at *
  have tail : ∀ (w3 : World) (l' : List UInt8) (bad : Nat), TapeAt w3 X l' bad → w3.heap[C]? = some (.cells #[.string ⟨#[]⟩, .string ⟨#[]⟩] 24 (0, 0)) → Chg (· = X) w w3 →
      ((w3.setCell ⟨C, 0, none⟩ (.string ⟨#[]⟩)).setCell ⟨C, 1, none⟩ (.string ⟨#[]⟩)).heap[C]? = some (.cells #[.string ⟨#[]⟩, .string ⟨#[]⟩] 24 (0, 0)) ∧ (∃ l', TapeAt ((w3.setCell ⟨C, 0, none⟩ (.string ⟨#[]⟩)).setCell ⟨C, 1, none⟩ (.string ⟨#[]⟩)) X l' bad) ∧ Chg (· = X) w ((w3.setCell ⟨C, 0, none⟩ (.string ⟨#[]⟩)).setCell ⟨C, 1, none⟩ (.string ⟨#[]⟩)) := fun w3 l' bad h1 h2 h3 => by
    have hs1 := setCell_chg w3 C 0 (.string ⟨#[]⟩)
    have hs2 := setCell_chg (w3.setCell ⟨C, 0, none⟩ (.string ⟨#[]⟩)) C 1 (.string ⟨#[]⟩)
    exact ⟨set_blk (set_blk h2 0 (.string ⟨#[]⟩)) 1 (.string ⟨#[]⟩), ⟨l', blk_keep (blk_keep h1 hs1 (by omega)) hs2 (by omega)⟩, (h3.trans hs1 (fun i hi h => by omega)).trans hs2 (fun i hi h => by omega)⟩
  cases h1 : nameOk l with
  | false =>
    have hb : Hid (roleBad l = nameBad l) := hid (by rw [roleBad, if_neg (by rw [h1]; decide)])
    have hne : (nameBad l : Int) ≠ 0 := nameBad_ne l
    refine (nget_no X l w1 hl hX0 h1).mono ?_
    rintro e w2 ⟨rfl, ⟨l2, hX2⟩, hc2⟩
    rw [← hb.out] at hX2 hne
    have hC2 := blk_keep hC hc2 (by omega)
    go_wp2_with fail
    refine (nget_bad X l2 (roleBad l) w2 hne hX2).mono ?_
    rintro e w' ⟨rfl, rfl⟩
    have HH := hid (tail w2 l2 (roleBad l) hX2 hC2 ((hc0.mono (fun _ _ h => h.elim)).trans hc2 (fun _ _ h => h)))
    have x1 := cell_blk hX2 1
    have q0 := cell_blk hC2 0
    have q1 := cell_blk hC2 1
    have f0 := froz_blk hC2 0
    have f1 := froz_blk hC2 1
    have z2 : ((roleBad l : Int) != 0) = true := by rw [bne_iff_ne]; exact hne
    simp only [List.getElem?_toArray, List.getElem?_cons_zero, List.getElem?_cons_succ] at x1 q0 q1
    clear hX0 hc0 hC hX2 hc2 hC2 h1 hok hne tail
    generalize hbb : roleBad l = bad at *
    have HB := hid hbb
    clear hbb
    go_wp2
    refine bodyPost_ret (results_cell_row (P := Try.prog) rfl _ _ C 24 _ (0, 0) _ rfl HH.out.1 Try.underlying24 rfl (by kernel_rfl)) rfl ?_
    exact ⟨rfl, by rw [HB.out]; exact HH.out.2⟩
  | true =>
    have h2 : nameOk (nameRest l) = false := by simpa [roleOk, h1] using hok
    have hb : Hid (roleBad l = nameBad (nameRest l)) := hid (by rw [roleBad, if_pos h1])
    have hne : (nameBad (nameRest l) : Int) ≠ 0 := nameBad_ne _
    refine (nget_ok X l w1 hl hX0 h1).mono ?_
    rintro e w2 ⟨rfl, hX2, hc2⟩
    have hC2 := blk_keep hC hc2 (by omega)
    go_wp2_with fail
    refine (nget_no X (nameRest l) w2 (by omega) hX2 h2).mono ?_
    rintro e w3 ⟨rfl, ⟨l3, hX3⟩, hc3⟩
    rw [← hb.out] at hX3 hne
    have hC3 := blk_keep hC2 hc3 (by omega)
    have HH := hid (tail w3 l3 (roleBad l) hX3 hC3 (((hc0.mono (fun _ _ h => h.elim)).trans hc2 (fun _ _ h => h)).trans hc3 (fun _ _ h => h)))
    have x1 := cell_blk hX3 1
    have q0 := cell_blk hC3 0
    have q1 := cell_blk hC3 1
    have f0 := froz_blk hC3 0
    have f1 := froz_blk hC3 1
    have z2 : ((roleBad l : Int) != 0) = true := by rw [bne_iff_ne]; exact hne
    simp only [List.getElem?_toArray, List.getElem?_cons_zero, List.getElem?_cons_succ] at x1 q0 q1
    clear hX0 hc0 hC hX2 hc2 hC2 hX3 hc3 hC3 h1 h2 hok hne tail
    generalize hbb : roleBad l = bad at *
    have HB := hid hbb
    clear hbb
    generalize nameOf l = o at *
    go_wp2
    refine bodyPost_ret (results_cell_row (P := Try.prog) rfl _ _ C 24 _ (0, 0) _ rfl HH.out.1 Try.underlying24 rfl (by kernel_rfl)) rfl ?_
    exact ⟨rfl, by rw [HB.out]; exact HH.out.2⟩

/-- The document's Get of a role, and what End says then. -/
theorem rget_end (X : Nat) (l : List UInt8) (w : World) (hl : l.length ≤ 9223372036854775807) (hX : TapeAt w X l 0) :
    Calls Try.prog 26 #[.pointer (some ⟨X, 0, none⟩)] w fun e w' => e = .returned (roleV (roleGot l noRole)) ∧ (∃ l' e', TapeAt w' X l' e' ∧ tapeEnd l' e' = roleErr l) ∧ Chg (· = X) w w' := by
  cases hok : roleOk l with
  | true =>
    refine (rget_ok X l w hl hX hok).mono ?_
    rintro e w' ⟨rfl, h1, h2⟩
    exact ⟨by rw [roleGot, if_pos hok], ⟨_, _, h1, by rw [roleErr, if_pos hok]; rfl⟩, h2⟩
  | false =>
    have hne : ¬ (roleOk l = true) := by rw [hok]; decide
    refine (rget_no X l w hl hX hok).mono ?_
    rintro e w' ⟨rfl, ⟨l', h1⟩, h2⟩
    exact ⟨by rw [roleGot, if_neg hne], ⟨_, _, h1, by rw [roleErr, if_neg hne, tapeEnd, endOf, if_neg (roleBad_ne l)]⟩, h2⟩

end Go.Proofs.Ytdlpddpdobiebaa

/- The contracts of the document's Right of layer 4. -/
namespace Go.Proofs.Ytdlpddpdobiebaa
open Go.RowKit

theorem rright_ref (r : RoleB) (w : World) (h1 : r.1.length ≤ 9223372036854775807) (h2 : r.2.length ≤ 9223372036854775807) :
    Calls Try.prog 13 #[roleV r] w fun e w' => e = .returned (.bool (isRole r)) ∧ Chg (fun _ => False) w w' := by
  obtain ⟨o, x⟩ := r
  have hc : Chg (fun _ => False) w (w.alloc (.cells #[.string ⟨o.toArray⟩, .string ⟨x.toArray⟩] 24)) := (Chg.refl _ w).alloc _
  have HC := hid hc
  clear hc
  cases ho : isName o with
  | false =>
    have hh : Hid (isRole (o, x) = false) := hid (by simp [isRole, ho])
    show Calls Try.prog 13 #[.agg #[.string ⟨o.toArray⟩, .string ⟨x.toArray⟩]] w _
    go_enter Try.func13, Try.ntmps13
    go_wp2_with (go_at_call 35; refine (refright_any o _ h1).mono ?_; rintro e w' ⟨rfl, rfl⟩; rw [ho])
    go_ret
    exact ⟨by rw [hh.out]; rfl, HC.out⟩
  | true =>
    have hh : Hid (isRole (o, x) = isName x) := hid (by simp [isRole, ho])
    show Calls Try.prog 13 #[.agg #[.string ⟨o.toArray⟩, .string ⟨x.toArray⟩]] w _
    go_enter Try.func13, Try.ntmps13
    go_wp2_with fail
    refine (refright_any o _ h1).mono ?_
    rintro e w' ⟨rfl, rfl⟩
    rw [ho]
    go_wp2_with fail
    refine (refright_any x _ h2).mono ?_
    rintro e w' ⟨rfl, rfl⟩
    go_wp2
    go_ret
    exact ⟨by rw [hh.out]; rfl, HC.out⟩
end Go.Proofs.Ytdlpddpdobiebaa
