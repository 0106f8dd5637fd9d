/- Texts that the proof leans on, in one: TapeBad, RoleGet, RoleRef, RoleParse, CredParse, BackNum, RoleBackMath, CredGet, CredOrd, ModelMath, RoleOwn. -/
import Derived.Test.YtmmkopdcbiiedaaKb8
import Derived.Test.YtmmkopdcbiiedaaKb4
import Derived.Test.YtmmkopdcbiiedaaKb5
import Derived.Deep.QuietTactic
import Derived.BigQuiet
import Derived.Test.YtmmkopdcbiiedaaKb2
import Derived.Maps.AppendAt
/- The document's tape behind an error: nothing more comes; its Get of a name, told by nameOk. -/
namespace Go.Proofs.Ytmmkopdcbiiedaa
open Go.RowKit

theorem tnum_bad (X : Nat) (l : List UInt8) (e most : Int) (w : World) (he : e ≠ 0) (hX : TapeAt w X l e) :
    Calls Try.prog 56 #[.pointer (some ⟨X, 0, none⟩), .int .i64 most] w fun en w' => en = .returned (.int .i64 0) ∧ w = w' := by
  have x1 := cell_blk hX 1
  simp only [List.getElem?_toArray, List.getElem?_cons_zero, List.getElem?_cons_succ] at x1
  have z1 : (e != 0) = true := by rw [bne_iff_ne]; exact he
  clear he
  go_enter Try.func56, Try.ntmps56
  go_wp2
  go_ret
  exact ⟨rfl, rfl⟩

theorem ttext_bad (X : Nat) (l : List UInt8) (e most : Int) (w : World) (he : e ≠ 0) (hX : TapeAt w X l e) :
    Calls Try.prog 77 #[.pointer (some ⟨X, 0, none⟩), .int .i64 most] w fun en w' => en = .returned (.string ⟨#[]⟩) ∧ w = w' := by
  have x1 := cell_blk hX 1
  simp only [List.getElem?_toArray, List.getElem?_cons_zero, List.getElem?_cons_succ] at x1
  have z1 : (e != 0) = true := by rw [bne_iff_ne]; exact he
  have h1 := tnum_bad X l e 9223372036854775807 w he hX
  clear he
  go_enter Try.func77, Try.ntmps77
  go_wp2_with fail
  refine h1.mono ?_
  rintro en w' ⟨rfl, rfl⟩
  go_wp2
  go_ret
  exact ⟨rfl, rfl⟩

theorem nget_bad (X : Nat) (l : List UInt8) (e : Int) (w : World) (he : e ≠ 0) (hX : TapeAt w X l e) :
    Calls Try.prog 58 #[.pointer (some ⟨X, 0, none⟩)] w fun en w' => en = .returned (.string ⟨#[]⟩) ∧ w = w' := by
  have x1 := cell_blk hX 1
  simp only [List.getElem?_toArray, List.getElem?_cons_zero, List.getElem?_cons_succ] at x1
  have z1 : (e != 0) = true := by rw [bne_iff_ne]; exact he
  have z2 : (e == 0) = false := beq_eq_false_iff_ne.2 he
  have h1 := ttext_bad X l e 16 w he hX
  clear he
  go_enter Try.func58, Try.ntmps58
  go_wp2_with fail
  refine h1.mono ?_
  rintro en w' ⟨rfl, rfl⟩
  go_wp2
  go_ret
  exact ⟨rfl, rfl⟩

theorem nget_ok (X : Nat) (l : List UInt8) (w : World) (hl : l.length ≤ 9223372036854775807) (hX : TapeAt w X l 0) (hok : nameOk l = true) :
    Calls Try.prog 58 #[.pointer (some ⟨X, 0, none⟩)] w fun e w' => e = .returned (.string ⟨(nameOf l).toArray⟩) ∧ TapeAt w' X (nameRest l) 0 ∧ Chg (· = X) w w' := by
  have hok' : errText l 16 = 0 ∧ isName (nameOf l) = true := by simpa [nameOk] using hok
  refine (refget_any X l w hl hX).mono ?_
  rintro e w' (⟨_, _, rfl, h4, h5⟩ | ⟨_, h2, _⟩ | ⟨h1, _⟩)
  · exact ⟨rfl, h4, h5⟩
  · have := hok'.2
    rw [show isName (nameOf l) = false from h2] at this
    cases this
  · exact absurd hok'.1 h1

theorem nget_no (X : Nat) (l : List UInt8) (w : World) (hl : l.length ≤ 9223372036854775807) (hX : TapeAt w X l 0) (hok : nameOk l = false) :
    Calls Try.prog 58 #[.pointer (some ⟨X, 0, none⟩)] w fun e w' => e = .returned (.string ⟨#[]⟩) ∧ (∃ l', TapeAt w' X l' (nameBad l)) ∧ Chg (· = X) w w' := by
  refine (refget_any X l w hl hX).mono ?_
  rintro e w' (⟨h1, h2, _⟩ | ⟨h1, _, rfl, h4, h5⟩ | ⟨h1, rfl, h4, h5⟩)
  · rw [nameOk, decide_eq_true h1, show isName (nameOf l) = true from h2] at hok
    cases hok
  · exact ⟨rfl, by rw [nameBad, if_pos h1]; exact h4, h5⟩
  · exact ⟨rfl, by rw [nameBad, if_neg h1]; exact h4, h5⟩

end Go.Proofs.Ytmmkopdcbiiedaa

/- The contract of the document's Get of layer 4. -/
namespace Go.Proofs.Ytmmkopdcbiiedaa
open Go.RowKit

/-- The role that comes next, what is left behind it, the error there. -/
def roleOk (l : List UInt8) : Bool := nameOk l && nameOk (nameRest l)
def roleOf (l : List UInt8) : RoleB := (nameOf l, nameOf (nameRest l))
def roleRest (l : List UInt8) : List UInt8 := nameRest (nameRest l)
def roleBad (l : List UInt8) : Nat := if nameOk l = true then nameBad (nameRest l) else nameBad l
theorem roleBad_ne (l : List UInt8) : ¬ ((roleBad l : Int) = 0) := by
  unfold roleBad
  split
  · exact nameBad_ne _
  · exact nameBad_ne _

theorem nameRest_len (l : List UInt8) : (nameRest l).length ≤ l.length := by
  unfold nameRest
  simp

set_option maxRecDepth 100000 in
theorem rget_ok (X : Nat) (l : List UInt8) (w : World) (hl : l.length ≤ 9223372036854775807) (hX : TapeAt w X l 0) (hok : roleOk l = true) :
    Calls Try.prog 76 #[.pointer (some ⟨X, 0, none⟩)] w fun e w' => e = .returned (roleV (roleOf l)) ∧ TapeAt w' X (roleRest l) 0 ∧ Chg (· = X) w w' := by
  have hok' : nameOk l = true ∧ nameOk (nameRest l) = true := by simpa [roleOk] using hok
  have hl1 := nameRest_len l
  clear hok
  go_enter Try.func76, Try.ntmps76
  have hc0 : Chg (fun _ => False) w (w.alloc (.cells #[.string ⟨#[]⟩, .string ⟨#[]⟩] 25)) := (Chg.refl _ w).alloc _
  have hC := heap_alloc_new w (.cells #[.string ⟨#[]⟩, .string ⟨#[]⟩] 25)
  have hX0 : TapeAt _ X l 0 := blk_keep hX hc0 id
  have hXC : X < w.heap.size := lt_blk hX
  go_wp2_with fail
  generalize w.alloc (.cells #[.string ⟨#[]⟩, .string ⟨#[]⟩] 25) = w1 at *
  generalize hCC : w.heap.size = C at *
  refine (nget_ok X l w1 hl hX0 hok'.1).mono ?_
  rintro e w2 ⟨rfl, hX2, hc2⟩
  have hC2 := blk_keep hC hc2 (by omega)
  go_wp2_with fail
  refine (nget_ok X (nameRest l) w2 (by omega) hX2 hok'.2).mono ?_
  rintro e w3 ⟨rfl, hX3, hc3⟩
  have hC3 := blk_keep hC2 hc3 (by omega)
  have x1 := cell_blk hX3 1
  have q0 := cell_blk hC3 0
  have q1 := cell_blk hC3 1
  have f0 := froz_blk hC3 0
  have f1 := froz_blk hC3 1
  simp only [List.getElem?_toArray, List.getElem?_cons_zero, List.getElem?_cons_succ] at x1 q0 q1
  have hcw : Chg (· = X) w w3 := ((hc0.mono (fun _ _ h => h.elim)).trans hc2 (fun _ _ h => h)).trans hc3 (fun _ _ h => h)
  have HR : Hid (roleOf l = (nameOf l, nameOf (nameRest l))) := rfl
  clear hX0 hc0 hC hX2 hc2 hC2 hc3 hok'
  generalize nameOf l = o at *
  generalize nameOf (nameRest l) = x at *
  have hs1 := setCell_chg w3 C 0 (.string ⟨o.toArray⟩)
  have hs2 := setCell_chg (w3.setCell ⟨C, 0, none⟩ (.string ⟨o.toArray⟩)) C 1 (.string ⟨x.toArray⟩)
  have hsX : TapeAt ((w3.setCell ⟨C, 0, none⟩ (.string ⟨o.toArray⟩)).setCell ⟨C, 1, none⟩ (.string ⟨x.toArray⟩)) X (nameRest (nameRest l)) 0 := blk_keep (blk_keep hX3 hs1 (by omega)) hs2 (by omega)
  have hch : Chg (· = X) w ((w3.setCell ⟨C, 0, none⟩ (.string ⟨o.toArray⟩)).setCell ⟨C, 1, none⟩ (.string ⟨x.toArray⟩)) := (hcw.trans hs1 (fun i hi h => by omega)).trans hs2 (fun i hi h => by omega)
  have hD : ((w3.setCell ⟨C, 0, none⟩ (.string ⟨o.toArray⟩)).setCell ⟨C, 1, none⟩ (.string ⟨x.toArray⟩)).heap[C]? = some (.cells #[.string ⟨o.toArray⟩, .string ⟨x.toArray⟩] 25 (0, 0)) := set_blk (set_blk hC3 0 (.string ⟨o.toArray⟩)) 1 (.string ⟨x.toArray⟩)
  have HH := hid (And.intro hD (And.intro hsX hch))
  clear hs1 hs2 hsX hch hcw hX3 hC3 hD
  go_wp2
  refine bodyPost_ret (results_cell_row (P := Try.prog) rfl _ _ C 25 _ (0, 0) _ rfl HH.out.1 Try.underlying25 rfl (by kernel_rfl)) rfl ?_
  exact ⟨by rw [HR.out]; rfl, HH.out.2.1, HH.out.2.2⟩

/-- A role of nothing. -/
def noRole : RoleB := ([], [])

set_option maxRecDepth 100000 in
theorem rget_no (X : Nat) (l : List UInt8) (w : World) (hl : l.length ≤ 9223372036854775807) (hX : TapeAt w X l 0) (hok : roleOk l = false) :
    Calls Try.prog 76 #[.pointer (some ⟨X, 0, none⟩)] w fun e w' => e = .returned (roleV noRole) ∧ (∃ l', TapeAt w' X l' (roleBad l)) ∧ Chg (· = X) w w' := by
  have hl1 := nameRest_len l
  go_enter Try.func76, Try.ntmps76
  have hc0 : Chg (fun _ => False) w (w.alloc (.cells #[.string ⟨#[]⟩, .string ⟨#[]⟩] 25)) := (Chg.refl _ w).alloc _
  have hC := heap_alloc_new w (.cells #[.string ⟨#[]⟩, .string ⟨#[]⟩] 25)
  have hX0 : TapeAt _ X l 0 := blk_keep hX hc0 id
  have hXC : X < w.heap.size := lt_blk hX
  go_wp2_with fail
  generalize w.alloc (.cells #[.string ⟨#[]⟩, .string ⟨#[]⟩] 25) = w1 at *
  generalize hCC : w.heap.size = C at *
  have tail : ∀ (w3 : World) (l' : List UInt8) (bad : Nat), TapeAt w3 X l' bad → w3.heap[C]? = some (.cells #[.string ⟨#[]⟩, .string ⟨#[]⟩] 25 (0, 0)) → Chg (· = X) w w3 →
      ((w3.setCell ⟨C, 0, none⟩ (.string ⟨#[]⟩)).setCell ⟨C, 1, none⟩ (.string ⟨#[]⟩)).heap[C]? = some (.cells #[.string ⟨#[]⟩, .string ⟨#[]⟩] 25 (0, 0)) ∧ (∃ l', TapeAt ((w3.setCell ⟨C, 0, none⟩ (.string ⟨#[]⟩)).setCell ⟨C, 1, none⟩ (.string ⟨#[]⟩)) X l' bad) ∧ Chg (· = X) w ((w3.setCell ⟨C, 0, none⟩ (.string ⟨#[]⟩)).setCell ⟨C, 1, none⟩ (.string ⟨#[]⟩)) := fun w3 l' bad h1 h2 h3 => by
    have hs1 := setCell_chg w3 C 0 (.string ⟨#[]⟩)
    have hs2 := setCell_chg (w3.setCell ⟨C, 0, none⟩ (.string ⟨#[]⟩)) C 1 (.string ⟨#[]⟩)
    exact ⟨set_blk (set_blk h2 0 (.string ⟨#[]⟩)) 1 (.string ⟨#[]⟩), ⟨l', blk_keep (blk_keep h1 hs1 (by omega)) hs2 (by omega)⟩, (h3.trans hs1 (fun i hi h => by omega)).trans hs2 (fun i hi h => by omega)⟩
  cases h1 : nameOk l with
  | false =>
    have hb : Hid (roleBad l = nameBad l) := hid (by rw [roleBad, if_neg (by rw [h1]; decide)])
    have hne : (nameBad l : Int) ≠ 0 := nameBad_ne l
    refine (nget_no X l w1 hl hX0 h1).mono ?_
    rintro e w2 ⟨rfl, ⟨l2, hX2⟩, hc2⟩
    rw [← hb.out] at hX2 hne
    have hC2 := blk_keep hC hc2 (by omega)
    go_wp2_with fail
    refine (nget_bad X l2 (roleBad l) w2 hne hX2).mono ?_
    rintro e w' ⟨rfl, rfl⟩
    have HH := hid (tail w2 l2 (roleBad l) hX2 hC2 ((hc0.mono (fun _ _ h => h.elim)).trans hc2 (fun _ _ h => h)))
    have x1 := cell_blk hX2 1
    have q0 := cell_blk hC2 0
    have q1 := cell_blk hC2 1
    have f0 := froz_blk hC2 0
    have f1 := froz_blk hC2 1
    have z2 : ((roleBad l : Int) != 0) = true := by rw [bne_iff_ne]; exact hne
    simp only [List.getElem?_toArray, List.getElem?_cons_zero, List.getElem?_cons_succ] at x1 q0 q1
    clear hX0 hc0 hC hX2 hc2 hC2 h1 hok hne tail
    generalize hbb : roleBad l = bad at *
    have HB := hid hbb
    clear hbb
    go_wp2
    refine bodyPost_ret (results_cell_row (P := Try.prog) rfl _ _ C 25 _ (0, 0) _ rfl HH.out.1 Try.underlying25 rfl (by kernel_rfl)) rfl ?_
    exact ⟨rfl, by rw [HB.out]; exact HH.out.2⟩
  | true =>
    have h2 : nameOk (nameRest l) = false := by simpa [roleOk, h1] using hok
    have hb : Hid (roleBad l = nameBad (nameRest l)) := hid (by rw [roleBad, if_pos h1])
    have hne : (nameBad (nameRest l) : Int) ≠ 0 := nameBad_ne _
    refine (nget_ok X l w1 hl hX0 h1).mono ?_
    rintro e w2 ⟨rfl, hX2, hc2⟩
    have hC2 := blk_keep hC hc2 (by omega)
    go_wp2_with fail
    refine (nget_no X (nameRest l) w2 (by omega) hX2 h2).mono ?_
    rintro e w3 ⟨rfl, ⟨l3, hX3⟩, hc3⟩
    rw [← hb.out] at hX3 hne
    have hC3 := blk_keep hC2 hc3 (by omega)
    have HH := hid (tail w3 l3 (roleBad l) hX3 hC3 (((hc0.mono (fun _ _ h => h.elim)).trans hc2 (fun _ _ h => h)).trans hc3 (fun _ _ h => h)))
    have x1 := cell_blk hX3 1
    have q0 := cell_blk hC3 0
    have q1 := cell_blk hC3 1
    have f0 := froz_blk hC3 0
    have f1 := froz_blk hC3 1
    have z2 : ((roleBad l : Int) != 0) = true := by rw [bne_iff_ne]; exact hne
    simp only [List.getElem?_toArray, List.getElem?_cons_zero, List.getElem?_cons_succ] at x1 q0 q1
    clear hX0 hc0 hC hX2 hc2 hC2 hX3 hc3 hC3 h1 h2 hok hne tail
    generalize hbb : roleBad l = bad at *
    have HB := hid hbb
    clear hbb
    generalize nameOf l = o at *
    go_wp2
    refine bodyPost_ret (results_cell_row (P := Try.prog) rfl _ _ C 25 _ (0, 0) _ rfl HH.out.1 Try.underlying25 rfl (by kernel_rfl)) rfl ?_
    exact ⟨rfl, by rw [HB.out]; exact HH.out.2⟩

end Go.Proofs.Ytmmkopdcbiiedaa

/- The contracts of the document's Right of layer 4. -/
namespace Go.Proofs.Ytmmkopdcbiiedaa
open Go.RowKit

theorem rright_ref (r : RoleB) (w : World) (h1 : r.1.length ≤ 9223372036854775807) (h2 : r.2.length ≤ 9223372036854775807) :
    Calls Try.prog 61 #[roleV r] w fun e w' => e = .returned (.bool (isRole r)) ∧ Chg (fun _ => False) w w' := by
  obtain ⟨o, x⟩ := r
  have hc : Chg (fun _ => False) w (w.alloc (.cells #[.string ⟨o.toArray⟩, .string ⟨x.toArray⟩] 25)) := (Chg.refl _ w).alloc _
  have HC := hid hc
  clear hc
  cases ho : isName o with
  | false =>
    have hh : Hid (isRole (o, x) = false) := hid (by simp [isRole, ho])
    show Calls Try.prog 61 #[.agg #[.string ⟨o.toArray⟩, .string ⟨x.toArray⟩]] w _
    go_enter Try.func61, Try.ntmps61
    go_wp2_with (go_at_call 42; refine (refright_any o _ h1).mono ?_; rintro e w' ⟨rfl, rfl⟩; rw [ho])
    go_ret
    exact ⟨by rw [hh.out]; rfl, HC.out⟩
  | true =>
    have hh : Hid (isRole (o, x) = isName x) := hid (by simp [isRole, ho])
    show Calls Try.prog 61 #[.agg #[.string ⟨o.toArray⟩, .string ⟨x.toArray⟩]] w _
    go_enter Try.func61, Try.ntmps61
    go_wp2_with fail
    refine (refright_any o _ h1).mono ?_
    rintro e w' ⟨rfl, rfl⟩
    rw [ho]
    go_wp2_with fail
    refine (refright_any x _ h2).mono ?_
    rintro e w' ⟨rfl, rfl⟩
    go_wp2
    go_ret
    exact ⟨by rw [hh.out]; rfl, HC.out⟩
end Go.Proofs.Ytmmkopdcbiiedaa

/- Which role a text is. -/
namespace Go.Proofs.Ytmmkopdcbiiedaa
open Go.RowKit

end Go.Proofs.Ytmmkopdcbiiedaa

/- Which credential a text is: plain words; a credential stored in its nine cells. -/
namespace Go.Proofs.Ytmmkopdcbiiedaa
open Go.RowKit

/-- The nine cells of the block b, stored one by one. -/
def setCred (w : World) (b : Nat) (c : CredB) : World :=
  ((((((((w.setCell ⟨b, 0, none⟩ (.int .i64 c.kind)).setCell ⟨b, 1, none⟩ (.string ⟨c.head.1.toArray⟩)).setCell ⟨b, 2, none⟩ (.string ⟨c.head.2.toArray⟩)).setCell ⟨b, 3, none⟩ (.string ⟨c.who.toArray⟩)).setCell ⟨b, 4, none⟩ (.string ⟨c.b.1.toArray⟩)).setCell ⟨b, 5, none⟩ (.string ⟨c.b.2.toArray⟩)).setCell ⟨b, 6, none⟩ (.string ⟨c.c.1.toArray⟩)).setCell ⟨b, 7, none⟩ (.string ⟨c.c.2.toArray⟩)).setCell ⟨b, 8, none⟩ (.string ⟨c.w2.toArray⟩)

theorem setCred_chg (w : World) (b : Nat) (c : CredB) : Chg (· = b) w (setCred w b c) := by
  unfold setCred
  exact ((((((((setCell_chg _ b 0 _).trans (setCell_chg _ b 1 _) (fun _ _ h => h)).trans (setCell_chg _ b 2 _) (fun _ _ h => h)).trans (setCell_chg _ b 3 _) (fun _ _ h => h)).trans (setCell_chg _ b 4 _) (fun _ _ h => h)).trans (setCell_chg _ b 5 _) (fun _ _ h => h)).trans (setCell_chg _ b 6 _) (fun _ _ h => h)).trans (setCell_chg _ b 7 _) (fun _ _ h => h)).trans (setCell_chg _ b 8 _) (fun _ _ h => h)

theorem credBox_set (c0 c : CredB) : ((((((((((credBox c0).setIfInBounds 0 (.int .i64 c.kind)).setIfInBounds 1 (.string ⟨c.head.1.toArray⟩)).setIfInBounds 2 (.string ⟨c.head.2.toArray⟩)).setIfInBounds 3 (.string ⟨c.who.toArray⟩)).setIfInBounds 4 (.string ⟨c.b.1.toArray⟩)).setIfInBounds 5 (.string ⟨c.b.2.toArray⟩)).setIfInBounds 6 (.string ⟨c.c.1.toArray⟩)).setIfInBounds 7 (.string ⟨c.c.2.toArray⟩)).setIfInBounds 8 (.string ⟨c.w2.toArray⟩)) = credBox c := by
  simp [credBox]

theorem setCred_blk {w : World} {b : Nat} {c0 : CredB} (c : CredB) {ty : TypeId} {f : Nat × Nat} (h : w.heap[b]? = some (.cells (credBox c0) ty f)) : (setCred w b c).heap[b]? = some (.cells (credBox c) ty f) := by
  have h0 := set_blk h 0 (.int .i64 c.kind)
  have h1 := set_blk h0 1 (.string ⟨c.head.1.toArray⟩)
  have h2 := set_blk h1 2 (.string ⟨c.head.2.toArray⟩)
  have h3 := set_blk h2 3 (.string ⟨c.who.toArray⟩)
  have h4 := set_blk h3 4 (.string ⟨c.b.1.toArray⟩)
  have h5 := set_blk h4 5 (.string ⟨c.b.2.toArray⟩)
  have h6 := set_blk h5 6 (.string ⟨c.c.1.toArray⟩)
  have h7 := set_blk h6 7 (.string ⟨c.c.2.toArray⟩)
  have h8 := set_blk h7 8 (.string ⟨c.w2.toArray⟩)
  rw [credBox_set] at h8
  exact h8

end Go.Proofs.Ytmmkopdcbiiedaa

/- A number's bytes, written and read again. -/
namespace Go.Proofs.Ytmmkopdcbiiedaa
open Go.RowKit

end Go.Proofs.Ytmmkopdcbiiedaa

/- Roles put and got, told and parsed, and their order: plain words. -/
namespace Go.Proofs.Ytmmkopdcbiiedaa
open Go.RowKit

end Go.Proofs.Ytmmkopdcbiiedaa

/- Which credential any bytes are, and the error; what is put is got: plain words. -/
namespace Go.Proofs.Ytmmkopdcbiiedaa
open Go.RowKit

/-- What comes next: an error, or a credential and what is left. -/
inductive GetC where
  | bad (e : Nat)
  | ok (c : CredB) (rest : List UInt8)

def numBad (l : List UInt8) : Nat := (numN 9 l 0 0).2.2
def numOf (l : List UInt8) : Nat := (numN 9 l 0 0).1
def numRest (l : List UInt8) : List UInt8 := l.drop (numN 9 l 0 0).2.1

/-- The last part, and whether it is right as a whole. -/
def getEnd (c : CredB) (l : List UInt8) : GetC := if isCred c then .ok c l else .bad 11
def getWord (c : CredB) (l : List UInt8) : GetC := if nameOk l then getEnd { c with w2 := nameOf l } (nameRest l) else .bad (nameBad l)
def getC (c : CredB) (l : List UInt8) : GetC := if roleOk l then getEnd { c with c := roleOf l } (roleRest l) else .bad (roleBad l)
def getB (c : CredB) (l : List UInt8) : GetC :=
  if roleOk l then (if c.kind = 3 then getWord { c with b := roleOf l } (roleRest l) else if c.kind = 4 then getC { c with b := roleOf l } (roleRest l) else getEnd { c with b := roleOf l } (roleRest l)) else .bad (roleBad l)
def getWho (c : CredB) (l : List UInt8) : GetC := if nameOk l then getEnd { c with who := nameOf l } (nameRest l) else .bad (nameBad l)
def getHead (k : Int) (l : List UInt8) : GetC :=
  if roleOk l then (if k = 1 then getWho { noCred with kind := k, head := roleOf l } (roleRest l) else getB { noCred with kind := k, head := roleOf l } (roleRest l)) else .bad (roleBad l)
def credGet (l : List UInt8) : GetC :=
  if numBad l = 0 then (if 1 ≤ numOf l ∧ numOf l ≤ 4 then getHead (numOf l : Nat) (numRest l) else .bad 11) else .bad (numBad l)

def credGot (l : List UInt8) (z : CredB) : CredB := match credGet l with
  | .bad _ => z
  | .ok c _ => c

/-- A right credential's kind. -/
theorem isCred_kind {c : CredB} (h : isCred c = true) : c.kind = 1 ∨ c.kind = 2 ∨ c.kind = 3 ∨ c.kind = 4 := by
  unfold isCred at h
  by_cases h1 : c.kind = 1
  · exact .inl h1
  · by_cases h2 : c.kind = 2
    · exact .inr (.inl h2)
    · by_cases h3 : c.kind = 3
      · exact .inr (.inr (.inl h3))
      · rw [if_neg h1, if_neg h2, if_neg h3] at h
        simp only [Bool.and_eq_true, beq_iff_eq] at h
        exact .inr (.inr (.inr h.2.2.1))

theorem isCred_head {c : CredB} (h : isCred c = true) : isRole c.head = true := by
  unfold isCred at h
  simp only [Bool.and_eq_true] at h
  exact h.1

theorem isCred_one {c : CredB} (h : isCred c = true) (k : c.kind = 1) : isName c.who = true ∧ c.b = noneR ∧ c.c = noneR ∧ c.w2 = [] := by
  unfold isCred at h
  rw [if_pos k] at h
  simp only [Bool.and_eq_true, beq_iff_eq] at h
  exact h.2

theorem isCred_two {c : CredB} (h : isCred c = true) (k : c.kind = 2) : c.who = [] ∧ isRole c.b = true ∧ c.c = noneR ∧ c.w2 = [] := by
  unfold isCred at h
  rw [if_neg (by omega), if_pos k] at h
  simp only [Bool.and_eq_true, beq_iff_eq] at h
  exact ⟨h.2.1.1, h.2.1.2, h.2.2⟩

theorem isCred_three {c : CredB} (h : isCred c = true) (k : c.kind = 3) : c.who = [] ∧ isRole c.b = true ∧ c.c = noneR ∧ c.b.1 = c.head.1 ∧ isName c.w2 = true := by
  unfold isCred at h
  rw [if_neg (by omega), if_neg (by omega), if_pos k] at h
  simp only [Bool.and_eq_true, beq_iff_eq] at h
  exact ⟨h.2.1.1, h.2.1.2, h.2.2⟩

theorem isCred_four {c : CredB} (h : isCred c = true) (k : c.kind = 4) : c.who = [] ∧ isRole c.b = true ∧ c.w2 = [] ∧ isRole c.c = true ∧ ltR c.b c.c = true := by
  unfold isCred at h
  rw [if_neg (by omega), if_neg (by omega), if_neg (by omega)] at h
  simp only [Bool.and_eq_true, beq_iff_eq] at h
  exact ⟨h.2.1.1, h.2.1.2, h.2.2.2⟩

end Go.Proofs.Ytmmkopdcbiiedaa

/- The order of credentials, made whole: by their bytes, then by their fields; sets of right ones: plain words. -/
namespace Go.Proofs.Ytmmkopdcbiiedaa
open Go.RowKit

theorem Ord.comap {α β : Type} {lt : β → β → Bool} (o : Ord lt) (f : α → β) (hf : ∀ a b, f a = f b → a = b) : Ord (fun a b => lt (f a) (f b)) where
  irrefl a := o.irrefl (f a)
  trans a b c h1 h2 := o.trans _ _ _ h1 h2
  tri a b := by
    rcases o.tri (f a) (f b) with h | h | h
    · exact .inl h
    · exact .inr (.inl (hf a b h))
    · exact .inr (.inr h)

def ltI (a b : Int) : Bool := decide (a < b)
theorem ltI_ord : Ord ltI where
  irrefl a := by simp [ltI]
  trans a b c h1 h2 := by simp only [ltI, decide_eq_true_eq] at *; omega
  tri a b := by simp only [ltI, decide_eq_true_eq]; omega

/-- Bytes first, then each field. -/
def credKey (c : CredB) : List UInt8 × (Int × (RoleB × (List UInt8 × (RoleB × (RoleB × List UInt8))))) := (credBytes c, (c.kind, (c.head, (c.who, (c.b, (c.c, c.w2))))))
def ltKey : (List UInt8 × (Int × (RoleB × (List UInt8 × (RoleB × (RoleB × List UInt8)))))) → (List UInt8 × (Int × (RoleB × (List UInt8 × (RoleB × (RoleB × List UInt8)))))) → Bool :=
  lexLt ltS (lexLt ltI (lexLt ltR (lexLt ltS (lexLt ltR (lexLt ltR ltS)))))
theorem ltKey_ord : Ord ltKey := lexLt_ord ltS_ord (lexLt_ord ltI_ord (lexLt_ord ltR_ord (lexLt_ord ltS_ord (lexLt_ord ltR_ord (lexLt_ord ltR_ord ltS_ord)))))
theorem credKey_inj (a b : CredB) (h : credKey a = credKey b) : a = b := by
  obtain ⟨k, hd, who, b1, c1, w2⟩ := a
  obtain ⟨k', hd', who', b1', c1', w2'⟩ := b
  simp only [credKey, Prod.mk.injEq] at h
  obtain ⟨_, h1, h2, h3, h4, h5, h6⟩ := h
  subst h1 h2 h3 h4 h5 h6
  rfl

def ltC (a b : CredB) : Bool := ltKey (credKey a) (credKey b)
theorem ltC_ord : Ord ltC := ltKey_ord.comap credKey credKey_inj
def SetC (ls out : List CredB) : Prop := SetG ltC isCred ls out
theorem SetC.one {ls a b : List CredB} (ha : SetC ls a) (hb : SetC ls b) : a = b := SetG.one ltC_ord ha hb

end Go.Proofs.Ytmmkopdcbiiedaa

/- The least model of credentials: plain words, nothing of the program's text. -/
namespace Go.Proofs.Ytmmkopdcbiiedaa
open Go.RowKit

/-- Somebody is in a role. -/
abbrev FactB := RoleB × List UInt8
def ltF (a b : FactB) : Bool := lexLt ltR ltS a b
theorem ltF_ord : Ord ltF := lexLt_ord ltR_ord ltS_ord

/-- What follows from credentials. -/
inductive Der (ls : List CredB) : FactB → Prop
  | mem {c : CredB} : c ∈ ls → isCred c = true → c.kind = 1 → Der ls (c.head, c.who)
  | inc {c : CredB} {w : List UInt8} : c ∈ ls → isCred c = true → c.kind = 2 → Der ls (c.b, w) → Der ls (c.head, w)
  | link {c : CredB} {b w : List UInt8} : c ∈ ls → isCred c = true → c.kind = 3 → Der ls (c.b, b) → Der ls ((b, c.w2), w) → Der ls (c.head, w)
  | both {c : CredB} {w : List UInt8} : c ∈ ls → isCred c = true → c.kind = 4 → Der ls (c.b, w) → Der ls (c.c, w) → Der ls (c.head, w)

theorem Der.mono {ls ls' : List CredB} (h : ∀ c ∈ ls, isCred c = true → c ∈ ls') : ∀ {f : FactB}, Der ls f → Der ls' f := by
  intro f hf
  induction hf with
  | mem hc hr hk => exact .mem (h _ hc hr) hr hk
  | inc hc hr hk _ ih => exact .inc (h _ hc hr) hr hk ih
  | link hc hr hk _ _ ih1 ih2 => exact .link (h _ hc hr) hr hk ih1 ih2
  | both hc hr hk _ _ ih1 ih2 => exact .both (h _ hc hr) hr hk ih1 ih2

/-- xs are the facts of the least model of ls, in order. -/
def ModelOf (ls : List CredB) (xs : List FactB) : Prop := RisingG ltF xs ∧ ∀ f, f ∈ xs ↔ Der ls f

theorem ModelOf.one {ls : List CredB} {a b : List FactB} (ha : ModelOf ls a) (hb : ModelOf ls b) : a = b :=
  ha.1.ext ltF_ord hb.1 fun x => (ha.2 x).trans (hb.2 x).symm

/-- Who may be in a role at all: the Members' names. -/
theorem Der.who {ls : List CredB} {f : FactB} (h : Der ls f) : ∃ c ∈ ls, isCred c = true ∧ c.kind = 1 ∧ c.who = f.2 := by
  induction h with
  | mem hc hr hk => exact ⟨_, hc, hr, hk, rfl⟩
  | inc _ _ _ _ ih => exact ih
  | link _ _ _ _ _ _ ih2 => exact ih2
  | both _ _ _ _ _ ih1 _ => exact ih1

theorem Der.head {ls : List CredB} {f : FactB} (h : Der ls f) : ∃ c ∈ ls, isCred c = true ∧ c.head = f.1 := by
  cases h with
  | mem hc hr _ => exact ⟨_, hc, hr, rfl⟩
  | inc hc hr _ _ => exact ⟨_, hc, hr, rfl⟩
  | link hc hr _ _ _ => exact ⟨_, hc, hr, rfl⟩
  | both hc hr _ _ _ => exact ⟨_, hc, hr, rfl⟩

/-- Is a fact among facts? -/
def inF (xs : List FactB) (r : RoleB) (w : List UInt8) : Bool := xs.any (fun f => f.1 == r && f.2 == w)
theorem inF_iff {xs : List FactB} {r : RoleB} {w : List UInt8} : inF xs r w = true ↔ (r, w) ∈ xs := by
  unfold inF
  rw [List.any_eq_true]
  constructor
  · rintro ⟨f, hf, h⟩
    simp only [Bool.and_eq_true, beq_iff_eq] at h
    rw [← h.1, ← h.2]
    exact hf
  · intro h
    exact ⟨_, h, by simp⟩

/-- Does a credential bring somebody by one step? -/
def stepF (xs : List FactB) (c : CredB) (names : List (List UInt8)) (w : List UInt8) : Bool :=
  if c.kind = 1 then c.who == w else if c.kind = 2 then inF xs c.b w else if c.kind = 4 then inF xs c.b w && inF xs c.c w else names.any (fun b => inF xs c.b b && inF xs (b, c.w2) w)

/-- What is so between two rounds of the document's way: some of what follows, each once. -/
def PartM (ls : List CredB) (xs : List FactB) : Prop := xs.Nodup ∧ ∀ f ∈ xs, Der ls f

theorem PartM.nil (ls : List CredB) : PartM ls [] := ⟨List.nodup_nil, fun _ h => (by cases h)⟩
theorem PartM.snoc {ls : List CredB} {xs : List FactB} (h : PartM ls xs) {f : FactB} (hf : Der ls f) (hn : f ∉ xs) : PartM ls (xs ++ [f]) := by
  refine ⟨List.nodup_append.2 ⟨h.1, by simp, fun a ha b hb => ?_⟩, fun g hg => ?_⟩
  · rw [List.mem_singleton] at hb
    subst hb
    intro e
    subst e
    exact hn ha
  · rcases List.mem_append.1 hg with hg | hg
    · exact h.2 g hg
    · rw [List.mem_singleton] at hg; rw [hg]; exact hf

end Go.Proofs.Ytmmkopdcbiiedaa

/- Lists of roles of the call's own. -/
namespace Go.Proofs.Ytmmkopdcbiiedaa
open Go.RowKit

theorem ownsRow_keep {S : Nat → Prop} {B E n s : Nat} {w w' : World} {v : Value} {xs : List Value} (h : w.ownsRow B E s v n xs) (hc : Chg S w w') (hr : ∀ k, v.ownBlock = some k → ¬ S k) : w'.ownsRow B E s v n xs := by
  refine ⟨h.1, ?_⟩
  rcases h.2 with hn | ⟨g, cap, cur, hv, hg, hh, r⟩
  · exact .inl hn
  · exact .inr ⟨g, cap, cur, hv, hg, blk_keep hh hc (hr g (by rw [hv]; rfl)), r⟩

theorem ownsRow_lt {B E n s : Nat} {w : World} {v : Value} {xs : List Value} (h : w.ownsRow B E s v n xs) (k : Nat) (hk : v.ownBlock = some k) : B ≤ k ∧ k < w.heap.size := by
  rcases h.2 with ⟨hn, _⟩ | ⟨g, cap, cur, hv, hg, hh, r⟩
  · rw [hn] at hk; cases hk
  · rw [hv] at hk; cases hk; exact ⟨hg, lt_blk hh⟩

def roleRow (ls : List RoleB) : List Value := ls.flatMap roleCells

/-- A list of roles of the call's own. -/
def OwnR (B : Nat) (w : World) (v : Value) (ls : List RoleB) : Prop := w.ownsRow B 25 2 v ls.length (roleRow ls)

theorem OwnR.shape {B : Nat} {w : World} {v : Value} {ls : List RoleB} (h : OwnR B w v ls) : ∃ ao cap, v = .slice ao ls.length cap := by
  rcases h.2 with ⟨rfl, h0⟩ | ⟨g, cap, cur, rfl, _⟩
  · exact ⟨none, 0, by rw [h0]⟩
  · exact ⟨_, _, rfl⟩

theorem OwnR.keep {S : Nat → Prop} {B : Nat} {w w' : World} {v : Value} {ls : List RoleB} (h : OwnR B w v ls) (hc : Chg S w w') (hr : ∀ k, v.ownBlock = some k → ¬ S k) : OwnR B w' v ls := ownsRow_keep h hc hr

end Go.Proofs.Ytmmkopdcbiiedaa
