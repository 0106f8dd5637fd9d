/- The document's Get of a role and of a name, of a tape in whatever state; what follows for a credential. -/
import Derived.Test.YtjflmhncgkbdmaaGreatKb8
import Derived.Test.YtjflmhncgkbdmaaGreatKb7
namespace Go.Proofs.YtjflmhncgkbdmaaGreat
open Go.RowKit

set_option maxRecDepth 100000 in
theorem rget_bad (X : Nat) (l : List UInt8) (e : Int) (w : World) (he : e ≠ 0) (hX : TapeAt w X l e) :
    Calls Tryz.prog 86 #[.pointer (some ⟨X, 0, none⟩)] w fun en w' => en = .returned (roleV noRole) ∧ TapeAt w' X l e ∧ Chg (· = X) w w' := by
  go_enter Tryz.func86, Tryz.ntmps86
  have hc0 : Chg (fun _ => False) w (w.alloc (.cells #[.string ⟨#[]⟩, .string ⟨#[]⟩] 33)) := (Chg.refl _ w).alloc _
  have hC := heap_alloc_new w (.cells #[.string ⟨#[]⟩, .string ⟨#[]⟩] 33)
  have hX0 : TapeAt _ X l e := blk_keep hX hc0 id
  have hXC : X < w.heap.size := lt_blk hX
  go_wp2_with fail
  generalize w.alloc (.cells #[.string ⟨#[]⟩, .string ⟨#[]⟩] 33) = w1 at *
  generalize hCC : w.heap.size = C at *
  refine (nget_bad X l e w1 he hX0).mono ?_
  rintro en w' ⟨rfl, rfl⟩
  go_wp2_with fail
  refine (nget_bad X l e w1 he hX0).mono ?_
  rintro en w' ⟨rfl, rfl⟩
  have hs1 := setCell_chg w1 C 0 (.string ⟨#[]⟩)
  have hs2 := setCell_chg (w1.setCell ⟨C, 0, none⟩ (.string ⟨#[]⟩)) C 1 (.string ⟨#[]⟩)
  have hD := set_blk (set_blk hC 0 (.string ⟨#[]⟩)) 1 (.string ⟨#[]⟩)
  have hT : TapeAt ((w1.setCell ⟨C, 0, none⟩ (.string ⟨#[]⟩)).setCell ⟨C, 1, none⟩ (.string ⟨#[]⟩)) X l e := blk_keep (blk_keep hX0 hs1 (by omega)) hs2 (by omega)
  have hch : Chg (· = X) w ((w1.setCell ⟨C, 0, none⟩ (.string ⟨#[]⟩)).setCell ⟨C, 1, none⟩ (.string ⟨#[]⟩)) := ((hc0.mono (fun _ _ h => h.elim)).trans hs1 (fun i hi h => by omega)).trans hs2 (fun i hi h => by omega)
  have HH := hid (And.intro hD (And.intro hT hch))
  have x1 := cell_blk hX0 1
  have q0 := cell_blk hC 0
  have q1 := cell_blk hC 1
  have f0 := froz_blk hC 0
  have f1 := froz_blk hC 1
  have z2 : (e != 0) = true := by rw [bne_iff_ne]; exact he
  simp only [List.getElem?_toArray, List.getElem?_cons_zero, List.getElem?_cons_succ] at x1 q0 q1
  clear hs1 hs2 hD hT hch hX0 hc0 hC he hX
  go_wp2
  refine bodyPost_ret (results_cell_row (P := Tryz.prog) rfl _ _ C 33 _ (0, 0) _ rfl HH.out.1 Tryz.underlying33 rfl (by kernel_rfl)) rfl ?_
  exact ⟨rfl, HH.out.2⟩

/-- How a tape goes on, when a role is read of it; when a name is. -/
def RStep (l : List UInt8) (e : Int) (r : RoleB) (l' : List UInt8) (e' : Int) : Prop :=
  (e = 0 ∧ roleOk l = true ∧ r = roleOf l ∧ l' = roleRest l ∧ e' = 0) ∨ (e = 0 ∧ roleOk l = false ∧ e' = roleBad l) ∨ (e ≠ 0 ∧ e' = e)
def NStep (l : List UInt8) (e : Int) (s : List UInt8) (l' : List UInt8) (e' : Int) : Prop :=
  (e = 0 ∧ nameOk l = true ∧ s = nameOf l ∧ l' = nameRest l ∧ e' = 0) ∨ (e = 0 ∧ nameOk l = false ∧ e' = nameBad l) ∨ (e ≠ 0 ∧ e' = e)

theorem roleRest_len (l : List UInt8) : (roleRest l).length ≤ l.length := by
  have h1 := nameRest_len l
  have h2 := nameRest_len (nameRest l)
  unfold roleRest
  omega

theorem rget_step (X : Nat) (l : List UInt8) (e : Int) (w : World) (hl : e = 0 → l.length ≤ 9223372036854775807) (hX : TapeAt w X l e) :
    Calls Tryz.prog 86 #[.pointer (some ⟨X, 0, none⟩)] w fun en w' => ∃ r l' e', en = .returned (roleV r) ∧ TapeAt w' X l' e' ∧ RStep l e r l' e' ∧ (e' = 0 → l'.length ≤ 9223372036854775807 ∧ r.1.length ≤ 16 ∧ r.2.length ≤ 16) ∧ Chg (· = X) w w' := by
  by_cases he : e = 0
  · subst he
    have hl' := hl rfl
    cases hok : roleOk l with
    | true =>
      refine (rget_ok X l w hl' hX hok).mono ?_
      rintro en w' ⟨rfl, h1, h2⟩
      have hr : isName (nameOf l) = true ∧ isName (nameOf (nameRest l)) = true := by
        simp only [roleOk, nameOk, Bool.and_eq_true] at hok
        exact ⟨hok.1.2, hok.2.2⟩
      have := roleRest_len l
      exact ⟨_, _, _, rfl, h1, .inl ⟨rfl, hok, rfl, rfl, rfl⟩, fun _ => ⟨by omega, (isName_len hr.1).2, (isName_len hr.2).2⟩, h2⟩
    | false =>
      refine (rget_no X l w hl' hX hok).mono ?_
      rintro en w' ⟨rfl, ⟨l', h1⟩, h2⟩
      exact ⟨_, _, _, rfl, h1, .inr (.inl ⟨rfl, hok, rfl⟩), fun h => absurd h (roleBad_ne l), h2⟩
  · refine (rget_bad X l e w he hX).mono ?_
    rintro en w' ⟨rfl, h1, h2⟩
    exact ⟨_, _, _, rfl, h1, .inr (.inr ⟨he, rfl⟩), fun h => absurd h he, h2⟩

theorem nget_step (X : Nat) (l : List UInt8) (e : Int) (w : World) (hl : e = 0 → l.length ≤ 9223372036854775807) (hX : TapeAt w X l e) :
    Calls Tryz.prog 87 #[.pointer (some ⟨X, 0, none⟩)] w fun en w' => ∃ s l' e', en = .returned (.string ⟨s.toArray⟩) ∧ TapeAt w' X l' e' ∧ NStep l e s l' e' ∧ (e' = 0 → l'.length ≤ 9223372036854775807 ∧ s.length ≤ 16) ∧ Chg (· = X) w w' := by
  by_cases he : e = 0
  · subst he
    have hl' := hl rfl
    cases hok : nameOk l with
    | true =>
      refine (nget_ok X l w hl' hX hok).mono ?_
      rintro en w' ⟨rfl, h1, h2⟩
      have hr : isName (nameOf l) = true := by
        simp only [nameOk, Bool.and_eq_true] at hok
        exact hok.2
      have := nameRest_len l
      exact ⟨_, _, _, rfl, h1, .inl ⟨rfl, hok, rfl, rfl, rfl⟩, fun _ => ⟨by omega, (isName_len hr).2⟩, h2⟩
    | false =>
      refine (nget_no X l w hl' hX hok).mono ?_
      rintro en w' ⟨rfl, ⟨l', h1⟩, h2⟩
      exact ⟨[], _, _, rfl, h1, .inr (.inl ⟨rfl, hok, rfl⟩), fun h => absurd h (nameBad_ne l), h2⟩
  · refine (nget_bad X l e w he hX).mono ?_
    rintro en w' ⟨rfl, rfl⟩
    exact ⟨[], _, _, rfl, hX, .inr (.inr ⟨he, rfl⟩), fun h => absurd h he, Chg.refl _ _⟩

theorem RStep.ok {l r l' e'} (h : RStep l 0 r l' e') (he : e' = 0) : roleOk l = true ∧ r = roleOf l ∧ l' = roleRest l := by
  rcases h with ⟨_, h1, h2, h3, _⟩ | ⟨_, _, h1⟩ | ⟨h1, _⟩
  · exact ⟨h1, h2, h3⟩
  · exact absurd (h1.symm.trans he) (roleBad_ne l)
  · exact absurd rfl h1
theorem RStep.bad {l r l' e'} (h : RStep l 0 r l' e') (he : e' ≠ 0) : roleOk l = false ∧ e' = roleBad l := by
  rcases h with ⟨_, _, _, _, h1⟩ | ⟨_, h1, h2⟩ | ⟨h1, _⟩
  · exact absurd h1 he
  · exact ⟨h1, h2⟩
  · exact absurd rfl h1
theorem RStep.from0 {l e r l' e'} (h : RStep l e r l' e') (he : e' = 0) : e = 0 := by
  rcases h with ⟨h1, _⟩ | ⟨h1, _⟩ | ⟨h1, h2⟩
  · exact h1
  · exact h1
  · exact absurd (h2.symm.trans he) h1
theorem RStep.same {l e r l' e'} (h : RStep l e r l' e') (he : e ≠ 0) : e' = e := by
  rcases h with ⟨h1, _⟩ | ⟨h1, _⟩ | ⟨_, h2⟩
  · exact absurd h1 he
  · exact absurd h1 he
  · exact h2
theorem NStep.ok {l s l' e'} (h : NStep l 0 s l' e') (he : e' = 0) : nameOk l = true ∧ s = nameOf l ∧ l' = nameRest l := by
  rcases h with ⟨_, h1, h2, h3, _⟩ | ⟨_, _, h1⟩ | ⟨h1, _⟩
  · exact ⟨h1, h2, h3⟩
  · exact absurd (h1.symm.trans he) (nameBad_ne l)
  · exact absurd rfl h1
theorem NStep.bad {l s l' e'} (h : NStep l 0 s l' e') (he : e' ≠ 0) : nameOk l = false ∧ e' = nameBad l := by
  rcases h with ⟨_, _, _, _, h1⟩ | ⟨_, h1, h2⟩ | ⟨h1, _⟩
  · exact absurd h1 he
  · exact ⟨h1, h2⟩
  · exact absurd rfl h1
theorem NStep.from0 {l e s l' e'} (h : NStep l e s l' e') (he : e' = 0) : e = 0 := by
  rcases h with ⟨h1, _⟩ | ⟨h1, _⟩ | ⟨h1, h2⟩
  · exact h1
  · exact h1
  · exact absurd (h2.symm.trans he) h1
theorem NStep.same {l e s l' e'} (h : NStep l e s l' e') (he : e ≠ 0) : e' = e := by
  rcases h with ⟨h1, _⟩ | ⟨h1, _⟩ | ⟨_, h2⟩
  · exact absurd h1 he
  · exact absurd h1 he
  · exact h2

/-- What comes of it: a credential's end, or an error that is told. -/
def GetOr (l : List UInt8) (c : CredB) (l' : List UInt8) (e' : Int) : Prop := (e' = 0 → credGet l = getEnd c l') ∧ (e' ≠ 0 → ∃ n : Nat, e' = n ∧ credGet l = .bad n)

theorem getOr_head {l : List UInt8} (h0 : numBad l = 0) {k : Nat} (hk : numOf l = k) (h1 : 1 ≤ k ∧ k ≤ 4) : credGet l = getHead k (numRest l) := by
  rw [credGet, if_pos h0, hk, if_pos h1]

theorem getOr1 {l hd l2 e2 who l3 e3} (hg : credGet l = getHead 1 (numRest l)) (h1 : RStep (numRest l) 0 hd l2 e2) (h2 : NStep l2 e2 who l3 e3) : GetOr l ⟨1, hd, who, noneR, noneR, []⟩ l3 e3 := by
  refine ⟨fun he => ?_, fun he => ?_⟩
  · have e0 := h2.from0 he
    subst e0
    obtain ⟨a1, a2, a3⟩ := h1.ok rfl
    obtain ⟨b1, b2, b3⟩ := h2.ok he
    rw [hg, getHead, if_pos a1, if_pos rfl, ← a3, ← a2, getWho, if_pos b1, ← b2, ← b3]
    rfl
  · by_cases e0 : e2 = 0
    · subst e0
      obtain ⟨a1, a2, a3⟩ := h1.ok rfl
      obtain ⟨b1, b2⟩ := h2.bad he
      exact ⟨_, b2, by rw [hg, getHead, if_pos a1, if_pos rfl, ← a3, getWho, if_neg (by rw [b1]; decide)]⟩
    · obtain ⟨a1, a2⟩ := h1.bad e0
      exact ⟨_, (h2.same e0).trans a2, by rw [hg, getHead, if_neg (by rw [a1]; decide)]⟩

theorem getOr2 {l hd l2 e2 b l3 e3} (hg : credGet l = getHead 2 (numRest l)) (h1 : RStep (numRest l) 0 hd l2 e2) (h2 : RStep l2 e2 b l3 e3) : GetOr l ⟨2, hd, [], b, noneR, []⟩ l3 e3 := by
  refine ⟨fun he => ?_, fun he => ?_⟩
  · have e0 := h2.from0 he
    subst e0
    obtain ⟨a1, a2, a3⟩ := h1.ok rfl
    obtain ⟨b1, b2, b3⟩ := h2.ok he
    rw [hg, getHead, if_pos a1, if_neg (by decide), ← a3, ← a2, getB, if_pos b1, ← b2, ← b3]
    rw [if_neg (show ¬ (2 : Int) = 3 by decide), if_neg (show ¬ (2 : Int) = 4 by decide)]
    rfl
  · by_cases e0 : e2 = 0
    · subst e0
      obtain ⟨a1, a2, a3⟩ := h1.ok rfl
      obtain ⟨b1, b2⟩ := h2.bad he
      exact ⟨_, b2, by rw [hg, getHead, if_pos a1, if_neg (by decide), ← a3, getB, if_neg (by rw [b1]; decide)]⟩
    · obtain ⟨a1, a2⟩ := h1.bad e0
      exact ⟨_, (h2.same e0).trans a2, by rw [hg, getHead, if_neg (by rw [a1]; decide)]⟩

theorem getOr3 {l hd l2 e2 b l3 e3 w2 l4 e4} (hg : credGet l = getHead 3 (numRest l)) (h1 : RStep (numRest l) 0 hd l2 e2) (h2 : RStep l2 e2 b l3 e3) (h3 : NStep l3 e3 w2 l4 e4) : GetOr l ⟨3, hd, [], b, noneR, w2⟩ l4 e4 := by
  refine ⟨fun he => ?_, fun he => ?_⟩
  · have e1 := h3.from0 he
    subst e1
    have e0 := h2.from0 rfl
    subst e0
    obtain ⟨a1, a2, a3⟩ := h1.ok rfl
    obtain ⟨b1, b2, b3⟩ := h2.ok rfl
    obtain ⟨c1, c2, c3⟩ := h3.ok he
    rw [hg, getHead, if_pos a1, if_neg (by decide), ← a3, ← a2, getB, if_pos b1, ← b2, ← b3]
    rw [if_pos rfl, getWord, if_pos c1, ← c2, ← c3]
    rfl
  · by_cases e1 : e3 = 0
    · subst e1
      have e0 := h2.from0 rfl
      subst e0
      obtain ⟨a1, a2, a3⟩ := h1.ok rfl
      obtain ⟨b1, b2, b3⟩ := h2.ok rfl
      obtain ⟨c1, c2⟩ := h3.bad he
      exact ⟨_, c2, by rw [hg, getHead, if_pos a1, if_neg (by decide), ← a3, getB, if_pos b1, if_pos rfl, ← b3, getWord, if_neg (by rw [c1]; decide)]⟩
    · have ee := h3.same e1
      by_cases e0 : e2 = 0
      · subst e0
        obtain ⟨a1, a2, a3⟩ := h1.ok rfl
        obtain ⟨b1, b2⟩ := h2.bad e1
        exact ⟨_, ee.trans b2, by rw [hg, getHead, if_pos a1, if_neg (by decide), ← a3, getB, if_neg (by rw [b1]; decide)]⟩
      · obtain ⟨a1, a2⟩ := h1.bad e0
        exact ⟨_, (ee.trans (h2.same e0)).trans a2, by rw [hg, getHead, if_neg (by rw [a1]; decide)]⟩

theorem getOr4 {l hd l2 e2 b l3 e3 cc l4 e4} (hg : credGet l = getHead 4 (numRest l)) (h1 : RStep (numRest l) 0 hd l2 e2) (h2 : RStep l2 e2 b l3 e3) (h3 : RStep l3 e3 cc l4 e4) : GetOr l ⟨4, hd, [], b, cc, []⟩ l4 e4 := by
  refine ⟨fun he => ?_, fun he => ?_⟩
  · have e1 := h3.from0 he
    subst e1
    have e0 := h2.from0 rfl
    subst e0
    obtain ⟨a1, a2, a3⟩ := h1.ok rfl
    obtain ⟨b1, b2, b3⟩ := h2.ok rfl
    obtain ⟨c1, c2, c3⟩ := h3.ok he
    rw [hg, getHead, if_pos a1, if_neg (by decide), ← a3, ← a2, getB, if_pos b1, ← b2, ← b3]
    rw [if_neg (show ¬ (4 : Int) = 3 by decide), if_pos rfl, getC, if_pos c1, ← c2, ← c3]
    rfl
  · by_cases e1 : e3 = 0
    · subst e1
      have e0 := h2.from0 rfl
      subst e0
      obtain ⟨a1, a2, a3⟩ := h1.ok rfl
      obtain ⟨b1, b2, b3⟩ := h2.ok rfl
      obtain ⟨c1, c2⟩ := h3.bad he
      exact ⟨_, c2, by rw [hg, getHead, if_pos a1, if_neg (by decide), ← a3, getB, if_pos b1, if_neg (show ¬ (4 : Int) = 3 by decide), if_pos rfl, ← b3, getC, if_neg (by rw [c1]; decide)]⟩
    · have ee := h3.same e1
      by_cases e0 : e2 = 0
      · subst e0
        obtain ⟨a1, a2, a3⟩ := h1.ok rfl
        obtain ⟨b1, b2⟩ := h2.bad e1
        exact ⟨_, ee.trans b2, by rw [hg, getHead, if_pos a1, if_neg (by decide), ← a3, getB, if_neg (by rw [b1]; decide)]⟩
      · obtain ⟨a1, a2⟩ := h1.bad e0
        exact ⟨_, (ee.trans (h2.same e0)).trans a2, by rw [hg, getHead, if_neg (by rw [a1]; decide)]⟩
end Go.Proofs.YtjflmhncgkbdmaaGreat
