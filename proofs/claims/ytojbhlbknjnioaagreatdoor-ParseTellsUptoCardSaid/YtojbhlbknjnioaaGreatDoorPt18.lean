/- The document's reader of layer 12: its words, has, must. -/
import Derived.Test.YtojbhlbknjnioaaGreatDoorPt17
namespace Go.Proofs.YtojbhlbknjnioaaGreatDoor
open Go.RowKit

/-- The reader at R: what is left of the words, or that it is wrong. -/
def RdS (D : Nat → Prop) (R : Nat) (σ : Option (List Tok)) (w : World) : Prop := ∃ (ao : Option Addr) (n cp : Nat) (bad : Bool) (ts : List Tok), w.heap[R]? = some (.cells #[.slice ao n cp, .bool bad] 50 (0, 0)) ∧ n = ts.length ∧ n ≤ cp ∧ cp ≤ 9223372036854775807 ∧ StrsAt D w ao ts ∧ (∀ k, D k → k < R) ∧ (ts.length ≤ 4096 ∧ ∀ y ∈ ts, y.length ≤ 4096) ∧ σ = (if bad = true then none else some ts)
theorem RdS.keep {S D : Nat → Prop} {R : Nat} {σ : Option (List Tok)} {w w' : World} (h : RdS D R σ w) (hc : Chg S w w') (hR : ∀ k, S k → R < k) : RdS D R σ w' := by
  obtain ⟨ao, n, cp, bad, ts, h1, h2, h3, h4, h5, h6, h7⟩ := h
  exact ⟨ao, n, cp, bad, ts, blk_keep h1 hc (fun e => Nat.lt_irrefl _ (hR _ e)), h2, h3, h4, h5.keep hc (fun k hk e => by have := h6 k hk; have := hR k e; omega), h6, h7⟩
theorem below_ne {D : Nat → Prop} {R : Nat} (h : ∀ k, D k → k < R) : ∀ k, D k → ¬ k = R := fun k hk e => by have := h k hk; omega
theorem RdS.lt {D : Nat → Prop} {R : Nat} {σ : Option (List Tok)} {w : World} (h : RdS D R σ w) : R < w.heap.size := by
  obtain ⟨ao, n, cp, bad, ts, h1, _⟩ := h
  exact lt_blk h1
theorem StrsAt.tail {D : Nat → Prop} {w : World} {b off : Nat} {t : Tok} {ts : List Tok} (h : StrsAt D w (some ⟨b, off, none⟩) (t :: ts)) : StrsAt D w (some ⟨b, off + 1, none⟩) ts := fun i hi => by
  obtain ⟨b2, o2, e, h2, h3, h4⟩ := h (i + 1) (by simp; omega)
  cases e
  refine ⟨b, off + 1, rfl, h2, ?_, by simpa using h4⟩
  rw [show off + 1 + i = off + (i + 1) by omega]
  simpa using h3
theorem StrsAt.tail2 {D : Nat → Prop} {w : World} {b off o2 : Nat} {t : Tok} {ts : List Tok} (h : StrsAt D w (some ⟨b, off, none⟩) (t :: ts)) (ho : o2 = off + 1 ∨ ts = []) : StrsAt D w (some ⟨b, o2, none⟩) ts := by
  rcases ho with rfl | rfl
  · exact h.tail
  · exact fun i hi => absurd hi (by simp)
/-- What has answers, and leaves. -/
def HasP (D : Nat → Prop) (R : Nat) (σ : Option (List Tok)) (x : Tok) (w : World) (e : Ending) (w' : World) : Prop := Chg (· = R) w w' ∧ ((e = .returned (.bool true) ∧ ∃ r, σ.bind (hasT x) = some r ∧ RdS D R (some r) w') ∨ (e = .returned (.bool false) ∧ σ.bind (hasT x) = none ∧ RdS D R σ w'))
theorem HasP.no {D : Nat → Prop} {R : Nat} {σ : Option (List Tok)} {x : Tok} {w : World} {e : Ending} (he : e = .returned (.bool false)) (h : σ.bind (hasT x) = none) (hr : RdS D R σ w) : HasP D R σ x w e w := ⟨Chg.refl _ w, .inr ⟨he, h, hr⟩⟩
theorem HasP.yes {D : Nat → Prop} {R n cp b off : Nat} {t x : Tok} {ts : List Tok} {w : World} {e : Ending} (he : e = .returned (.bool true)) (h1 : w.heap[R]? = some (.cells #[.slice (some ⟨b, off, none⟩) n cp, .bool false] 50 (0, 0))) (h2 : n = (t :: ts).length) (h3 : n ≤ cp) (h4 : cp ≤ 9223372036854775807) (h5 : StrsAt D w (some ⟨b, off, none⟩) (t :: ts)) (h6 : ∀ k, D k → k < R) (h7 : (t :: ts).length ≤ 4096 ∧ ∀ y ∈ t :: ts, y.length ≤ 4096) (h8 : (some (t :: ts)).bind (hasT x) = some ts) (o2 : Nat) (ho : o2 = off + 1 ∨ cp = 1) :
    HasP D R (some (t :: ts)) x w e (w.setCell ⟨R, 0, none⟩ (.slice (some ⟨b, o2, none⟩) (n - 1) (cp - 1))) := by
  have hc := setCell_chg w R 0 (.slice (some ⟨b, o2, none⟩) (n - 1) (cp - 1))
  have hb := set_blk h1 0 (.slice (some ⟨b, o2, none⟩) (n - 1) (cp - 1))
  refine ⟨hc, .inl ⟨he, ts, h8, some ⟨b, o2, none⟩, n - 1, cp - 1, false, ts, by simpa using hb, by rw [h2]; simp, by omega, by omega, ?_, h6, ⟨by have := h7.1; simp at this; omega, fun y hy => h7.2 y (List.mem_cons_of_mem _ hy)⟩, rfl⟩⟩
  refine (h5.tail2 ?_).keep hc (below_ne h6)
  rcases ho with ho | ho
  · exact .inl ho
  · refine .inr (List.eq_nil_of_length_eq_zero ?_)
    simp at h2
    omega

set_option maxRecDepth 100000 in
set_option maxHeartbeats 4000000 in
theorem rhas (D : Nat → Prop) (R : Nat) (σ : Option (List Tok)) (x : Tok) (w : World) (h : RdS D R σ w) :
    Calls Tryz.prog 37 #[.pointer (some ⟨R, 0, none⟩), .string ⟨x.toArray⟩] w (HasP D R σ x w) := by
  obtain ⟨ao, n, cp, bad, ts, h1, h2, h3, h4, h5, h6, h7, rfl⟩ := h
  have s0 := cell_blk h1 0
  have s1 := cell_blk h1 1
  have g0 := froz_blk h1 0
  have g1 := froz_blk h1 1
  simp only [List.getElem?_toArray, List.getElem?_cons_zero, List.getElem?_cons_succ] at s0 s1
  cases bad with
  | true =>
    have HX : Hid (RdS D R none w) := hid ⟨ao, n, cp, true, ts, h1, h2, h3, h4, h5, h6, h7, rfl⟩
    clear h1 h2 h3 h4 h5 h6 h7
    go_enter Tryz.func37, Tryz.ntmps37
    go_wp2
    go_ret
    exact .no rfl rfl HX.out
  | false =>
    cases ts with
    | nil =>
      have HX : Hid (RdS D R (some []) w) := hid ⟨ao, n, cp, false, [], h1, h2, h3, h4, h5, h6, h7, rfl⟩
      have hn : n = 0 := h2
      subst hn
      clear h1 h2 h3 h4 h5 h6 h7
      go_enter Tryz.func37, Tryz.ntmps37
      go_wp2
      go_ret
      exact .no rfl rfl HX.out
    | cons t ts =>
      obtain ⟨b, off, e, hDb, hc0, hl0⟩ := h5 0 (by simp)
      subst e
      have hc0 : w.cell? ⟨b, off, none⟩ = some (.string ⟨t.toArray⟩) := by simpa using hc0
      have hn1 : ((n : Int) == 0) = false := by
        have : ¬ (n : Int) = 0 := by rw [h2]; simp; omega
        simpa using this
      have hn2 : 0 < n := by rw [h2]; simp
      by_cases htx : t = x
      · have z : (t == x) = true := by simpa using htx
        have HX : Hid (w.heap[R]? = some (.cells #[.slice (some ⟨b, off, none⟩) n cp, .bool false] 50 (0, 0)) ∧ n = (t :: ts).length ∧ StrsAt D w (some ⟨b, off, none⟩) (t :: ts) ∧ (∀ k, D k → k < R) ∧ ((t :: ts).length ≤ 4096 ∧ ∀ y ∈ t :: ts, y.length ≤ 4096) ∧ (some (t :: ts)).bind (hasT x) = some ts) := hid ⟨h1, h2, h5, h6, h7, by simp [hasT, htx]⟩
        clear h1 h2 h5 h6 h7 htx hl0 hDb
        have H34 := hid (And.intro h3 h4)
        go_enter Tryz.func37, Tryz.ntmps37
        go_wp2
        · go_ret
          have hcp : cp = 1 := by assumption
          subst hcp
          exact .yes rfl HX.out.1 HX.out.2.1 h3 h4 HX.out.2.2.1 HX.out.2.2.2.1 HX.out.2.2.2.2.1 HX.out.2.2.2.2.2 off (.inr rfl)
        · go_ret
          exact .yes rfl HX.out.1 HX.out.2.1 h3 h4 HX.out.2.2.1 HX.out.2.2.2.1 HX.out.2.2.2.2.1 HX.out.2.2.2.2.2 _ (.inl rfl)
      · have z : (t == x) = false := by simpa using htx
        have HX : Hid (RdS D R (some (t :: ts)) w ∧ (some (t :: ts)).bind (hasT x) = none) := hid ⟨⟨_, n, cp, false, t :: ts, h1, h2, h3, h4, h5, h6, h7, rfl⟩, by simp [hasT, htx]⟩
        clear h1 h2 h3 h4 h5 h6 h7 htx hl0 hDb
        go_enter Tryz.func37, Tryz.ntmps37
        go_wp2
        go_ret
        exact .no rfl HX.out.2 HX.out.1

/-- must: the word is next, or it is wrong. -/
def MustP (D : Nat → Prop) (R : Nat) (σ : Option (List Tok)) (x : Tok) (w : World) (e : Ending) (w' : World) : Prop := e = .returned (.tuple #[]) ∧ RdS D R (σ.bind (hasT x)) w' ∧ Chg (· = R) w w'
/-- It is wrong from here on. -/
theorem RdS.bad {D : Nat → Prop} {R : Nat} {σ : Option (List Tok)} {w : World} (h : RdS D R σ w) : RdS D R none (w.setCell ⟨R, 1, none⟩ (.bool true)) ∧ Chg (· = R) w (w.setCell ⟨R, 1, none⟩ (.bool true)) := by
  obtain ⟨ao, n, cp, bad, ts, h1, h2, h3, h4, h5, h6, h7, _⟩ := h
  have hc := setCell_chg w R 1 (.bool true)
  have hb := set_blk h1 1 (.bool true)
  exact ⟨⟨ao, n, cp, true, ts, by simpa using hb, h2, h3, h4, h5.keep hc (below_ne h6), h6, h7, rfl⟩, hc⟩
theorem RdS.cell1 {D : Nat → Prop} {R : Nat} {σ : Option (List Tok)} {w : World} (h : RdS D R σ w) : w.cell? ⟨R, 1, none⟩ = some (.bool σ.isNone) ∧ w.frozen? ⟨R, 1, none⟩ = false := by
  obtain ⟨ao, n, cp, bad, ts, h1, h2, h3, h4, h5, h6, h7, rfl⟩ := h
  refine ⟨?_, froz_blk h1 1⟩
  rw [cell_blk h1 1]
  cases bad <;> rfl

set_option maxRecDepth 100000 in
set_option maxHeartbeats 4000000 in
theorem rmust (D : Nat → Prop) (R : Nat) (σ : Option (List Tok)) (x : Tok) (w : World) (h : RdS D R σ w) :
    Calls Tryz.prog 61 #[.pointer (some ⟨R, 0, none⟩), .string ⟨x.toArray⟩] w (MustP D R σ x w) := by
  have HH := hid (rhas D R σ x w h)
  clear h
  go_enter Tryz.func61, Tryz.ntmps61
  go_wp2_with fail
  refine HH.out.mono ?_
  rintro e w1 ⟨hc, ⟨rfl, r, h2, h3⟩ | ⟨rfl, h2, h3⟩⟩
  · have HX := hid (And.intro hc (And.intro h2 h3))
    clear hc h2 h3 HH
    go_wp2
    go_end0
    refine ⟨rfl, ?_, HX.out.1⟩
    rw [HX.out.2.1]
    exact HX.out.2.2
  · obtain ⟨c1, g1⟩ := h3.cell1
    have HX := hid (And.intro hc (And.intro h2 h3))
    clear hc h2 h3 HH
    go_wp2
    go_end0
    refine ⟨rfl, ?_, HX.out.1.trans HX.out.2.2.bad.2 (fun _ _ h => h)⟩
    rw [HX.out.2.1]
    exact HX.out.2.2.bad.1
end Go.Proofs.YtojbhlbknjnioaaGreatDoor
