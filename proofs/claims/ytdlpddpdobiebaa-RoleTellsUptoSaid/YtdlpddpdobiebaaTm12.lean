/- Reads of a role, through Read, by the functions that the laws hand over. -/
import Derived.Test.YtdlpddpdobiebaaTm8
import Derived.Test.YtdlpddpdobiebaaTm11
namespace Go.Proofs.Ytdlpddpdobiebaa
open Go.RowKit

/-- A role's two cells, in a block of their own. -/
def roleBox (r : RoleB) : Array Value := #[.string ⟨r.1.toArray⟩, .string ⟨r.2.toArray⟩]

def RoleRead (X : Nat) (l : List UInt8) (z : RoleB) (w : World) (e : Ending) (w' : World) : Prop :=
  e = .returned (.int .i64 (roleErr l)) ∧ w'.heap[X]? = some (.cells (roleBox (roleGot l z)) 24 (0, 0)) ∧ Chg (· = X) w w'

set_option maxRecDepth 100000 in
theorem closG_reads {D : Nat → Prop} {R X : Nat} {v : Value} {l : List UInt8} {z : RoleB} {w : World} (hl : l.length ≤ 140737488355328) (hv : BytesAt D w v l) (hDR : ¬ D R) (hDX : ¬ D X) (hXR : X ≠ R) (hDl : ∀ i, D i → i < w.heap.size) (hR : ReaderAt w R true v 0) (hX : w.heap[X]? = some (.cells (roleBox z) 24 (0, 0))) (hok : roleOk l = true) :
    Calls Try.prog 24 #[.pointer (some ⟨R, 0, none⟩), .pointer (some ⟨X, 0, none⟩)] w fun e w' => e = .returned (.tuple #[]) ∧
      (∃ ao cp, ReaderAt w' R true (.slice ao (roleRest l).length cp) 0) ∧ Chg (fun k => k = R ∨ k = X) w w' ∧ w'.heap[X]? = some (.cells (roleBox (roleOf l)) 24 (0, 0)) := by
  have h1 := pget_reads hl hv hDR hDl hR hok
  go_enter Try.func24, Try.ntmps24
  go_wp2_with fail
  refine h1.mono ?_
  rintro e w1 ⟨rfl, v1, hv1, hR1, hch1⟩
  have hX1 := blk_keep hX hch1 hXR
  have n0 := cell_blk hX1 0
  have n1 := cell_blk hX1 1
  have f0 := froz_blk hX1 0
  have f1 := froz_blk hX1 1
  simp only [roleBox, List.getElem?_toArray, List.getElem?_cons_zero, List.getElem?_cons_succ] at n0 n1
  obtain ⟨ao6, cap6, rfl⟩ := hv1.shape
  have HO : Hid (roleOf l = (nameOf l, nameOf (nameRest l))) := rfl
  rw [show roleV (roleOf l) = .agg #[.string ⟨(nameOf l).toArray⟩, .string ⟨(nameOf (nameRest l)).toArray⟩] from rfl]
  generalize nameOf l = o at *
  generalize nameOf (nameRest l) = x at *
  have c1 := setCell_chg w1 X 0 (.string ⟨o.toArray⟩)
  have c2 := setCell_chg (w1.setCell ⟨X, 0, none⟩ (.string ⟨o.toArray⟩)) X 1 (.string ⟨x.toArray⟩)
  have hR2 := blk_keep (blk_keep hR1 c1 (fun h => hXR h.symm)) c2 (fun h => hXR h.symm)
  have hX2 : ((w1.setCell ⟨X, 0, none⟩ (.string ⟨o.toArray⟩)).setCell ⟨X, 1, none⟩ (.string ⟨x.toArray⟩)).heap[X]? = some (.cells #[.string ⟨o.toArray⟩, .string ⟨x.toArray⟩] 24 (0, 0)) := set_blk (set_blk hX1 0 (.string ⟨o.toArray⟩)) 1 (.string ⟨x.toArray⟩)
  have hch2 : Chg (fun k => k = R ∨ k = X) w ((w1.setCell ⟨X, 0, none⟩ (.string ⟨o.toArray⟩)).setCell ⟨X, 1, none⟩ (.string ⟨x.toArray⟩)) := ((hch1.mono (fun _ _ h => .inl h)).trans c1 (fun _ _ h => .inr h)).trans c2 (fun _ _ h => .inr h)
  have HH := hid (And.intro hR2 (And.intro hX2 hch2))
  clear h1 hv hR hok hv1 hR1 hch1 hX1 c1 c2 hR2 hX2 hch2 hX
  go_wp2
  go_end0
  exact ⟨rfl, ⟨_, _, HH.out.1⟩, HH.out.2.2, by rw [HO.out]; exact HH.out.2.1⟩

set_option maxRecDepth 100000 in
theorem closG_stops {D : Nat → Prop} {R : Nat} {v x : Value} {l : List UInt8} {w : World} (hl : l.length ≤ 140737488355328) (hv : BytesAt D w v l) (hDR : ¬ D R) (hR : ReaderAt w R true v 0) (hok : roleOk l = false) :
    Calls Try.prog 24 #[.pointer (some ⟨R, 0, none⟩), x] w (Stops R (roleBad l) w) := by
  have h1 := pget_stops hl hv hDR hR hok
  clear hok
  generalize roleBad l = bad at *
  go_enter Try.func24, Try.ntmps24
  go_wp2_with fail
  refine h1.mono ?_
  rintro e w1 ⟨rfl, hs⟩
  exact ⟨rfl, rfl, hs⟩

theorem enters24 : ∀ args w, (callFunc 24 args).run Try.prog w = .ok (.enter 24 args) w := enters Try.func24 (by kernel_rfl) (by kernel_rfl)

theorem readG_any {D : Nat → Prop} {ao : Option Addr} {cp X : Nat} {l : List UInt8} {z : RoleB} {w : World} (hl : l.length ≤ 140737488355328) (hv : BytesAt D w (.slice ao l.length cp) l) (dD : ∀ i, D i → i < w.heap.size) (hDX : ¬ D X) (hX : w.heap[X]? = some (.cells (roleBox z) 24 (0, 0))) :
    Calls Try.prog 23 #[.slice ao l.length cp, .func (.func 24) #[] #[.pointer (some ⟨X, 0, none⟩)]] w (RoleRead X l z w) := by
  have lX := lt_blk hX
  have hrw := readWorld_chg w (.slice ao l.length cp) (fun _ => False)
  have hv' := hv.keep hrw (fun _ _ h => h)
  have hdr : ¬ D (w.heap.size + 1) := fun h => by have := dD _ h; omega
  have hdl : ∀ i, D i → i < (readWorld w (.slice ao l.length cp)).heap.size := fun i hi => by have := dD i hi; rw [readWorld_size]; omega
  cases hok : roleOk l with
  | true =>
    refine (read_returns (T := fun k => k = X) (P := fun w1 => w1.heap[X]? = some (.cells (roleBox (roleOf l)) 24 (0, 0))) (n := (roleRest l).length) (by rintro k rfl; omega) enters24 ?_).mono ?_
    · refine (closG_reads (R := w.heap.size + 1) hl hv' hdr hDX (by omega) hdl (readWorld_R w _) (blk_keep hX hrw id) hok).mono ?_
      rintro e w1 ⟨rfl, ⟨ao1, cp1, hr⟩, hc, h1⟩
      exact ⟨rfl, ⟨⟨ao1, _, cp1, hr, fun _ => rfl⟩, hc⟩, h1⟩
    · rintro e w' ⟨rfl, w1, h1, hle⟩
      refine ⟨by rw [roleErr, if_pos hok], ?_, hle.2.2⟩
      rw [roleGot, if_pos hok]
      exact blk_keep h1 hle.2.1 (by omega)
  | false =>
    have hne : ¬ (roleOk l = true) := by rw [hok]; decide
    refine (read_stops (T := fun k => k = X) (P := fun w1 => w1.heap[X]? = some (.cells (roleBox z) 24 (0, 0))) (n := l.length) (flt := roleBad l) [] rfl (by rintro k rfl; omega) enters24 ?_).mono ?_
    · refine (closG_stops (R := w.heap.size + 1) hl hv' hdr (readWorld_R w _) hok).mono ?_
      rintro e w1 ⟨rfl, ao1, m, cp1, hr, hc⟩
      exact ⟨rfl, ⟨⟨ao1, m, cp1, hr, fun h => absurd h (roleBad_ne l)⟩, hc.mono (fun _ _ h => .inl h)⟩, blk_keep (blk_keep hX hrw id) hc (by omega)⟩
    · rintro e w' ⟨rfl, w1, h1, hle⟩
      refine ⟨by rw [roleErr, if_neg hne, endOf, if_neg (roleBad_ne l)], ?_, hle.2.2⟩
      rw [roleGot, if_neg hne]
      exact blk_keep h1 hle.2.1 (by omega)

set_option maxRecDepth 100000 in
theorem closB_reads {D : Nat → Prop} {R X : Nat} {v : Value} {l : List UInt8} {z : RoleB} {w : World} (hl : l.length ≤ 140737488355328) (hv : BytesAt D w v l) (hDR : ¬ D R) (hDX : ¬ D X) (hXR : X ≠ R) (hDl : ∀ i, D i → i < w.heap.size) (hR : ReaderAt w R true v 0) (hX : w.heap[X]? = some (.cells (roleBox z) 24 (0, 0))) (hok : roleOk l = true) :
    Calls Try.prog 28 #[.pointer (some ⟨R, 0, none⟩), .pointer (some ⟨X, 0, none⟩)] w fun e w' => e = .returned (.tuple #[]) ∧
      (∃ ao cp, ReaderAt w' R true (.slice ao (roleRest l).length cp) 0) ∧ Chg (fun k => k = R ∨ k = X) w w' ∧ w'.heap[X]? = some (.cells (roleBox (roleOf l)) 24 (0, 0)) := by
  have h1 := pget_reads hl hv hDR hDl hR hok
  go_enter Try.func28, Try.ntmps28
  go_wp2_with fail
  refine h1.mono ?_
  rintro e w1 ⟨rfl, v1, hv1, hR1, hch1⟩
  have hX1 := blk_keep hX hch1 hXR
  have n0 := cell_blk hX1 0
  have n1 := cell_blk hX1 1
  have f0 := froz_blk hX1 0
  have f1 := froz_blk hX1 1
  simp only [roleBox, List.getElem?_toArray, List.getElem?_cons_zero, List.getElem?_cons_succ] at n0 n1
  obtain ⟨ao6, cap6, rfl⟩ := hv1.shape
  have HO : Hid (roleOf l = (nameOf l, nameOf (nameRest l))) := rfl
  rw [show roleV (roleOf l) = .agg #[.string ⟨(nameOf l).toArray⟩, .string ⟨(nameOf (nameRest l)).toArray⟩] from rfl]
  generalize nameOf l = o at *
  generalize nameOf (nameRest l) = x at *
  have c1 := setCell_chg w1 X 0 (.string ⟨o.toArray⟩)
  have c2 := setCell_chg (w1.setCell ⟨X, 0, none⟩ (.string ⟨o.toArray⟩)) X 1 (.string ⟨x.toArray⟩)
  have hR2 := blk_keep (blk_keep hR1 c1 (fun h => hXR h.symm)) c2 (fun h => hXR h.symm)
  have hX2 : ((w1.setCell ⟨X, 0, none⟩ (.string ⟨o.toArray⟩)).setCell ⟨X, 1, none⟩ (.string ⟨x.toArray⟩)).heap[X]? = some (.cells #[.string ⟨o.toArray⟩, .string ⟨x.toArray⟩] 24 (0, 0)) := set_blk (set_blk hX1 0 (.string ⟨o.toArray⟩)) 1 (.string ⟨x.toArray⟩)
  have hch2 : Chg (fun k => k = R ∨ k = X) w ((w1.setCell ⟨X, 0, none⟩ (.string ⟨o.toArray⟩)).setCell ⟨X, 1, none⟩ (.string ⟨x.toArray⟩)) := ((hch1.mono (fun _ _ h => .inl h)).trans c1 (fun _ _ h => .inr h)).trans c2 (fun _ _ h => .inr h)
  have HH := hid (And.intro hR2 (And.intro hX2 hch2))
  clear h1 hv hR hok hv1 hR1 hch1 hX1 c1 c2 hR2 hX2 hch2 hX
  go_wp2
  go_end0
  exact ⟨rfl, ⟨_, _, HH.out.1⟩, HH.out.2.2, by rw [HO.out]; exact HH.out.2.1⟩

set_option maxRecDepth 100000 in
theorem closB_stops {D : Nat → Prop} {R : Nat} {v x : Value} {l : List UInt8} {w : World} (hl : l.length ≤ 140737488355328) (hv : BytesAt D w v l) (hDR : ¬ D R) (hR : ReaderAt w R true v 0) (hok : roleOk l = false) :
    Calls Try.prog 28 #[.pointer (some ⟨R, 0, none⟩), x] w (Stops R (roleBad l) w) := by
  have h1 := pget_stops hl hv hDR hR hok
  clear hok
  generalize roleBad l = bad at *
  go_enter Try.func28, Try.ntmps28
  go_wp2_with fail
  refine h1.mono ?_
  rintro e w1 ⟨rfl, hs⟩
  exact ⟨rfl, rfl, hs⟩

theorem enters28 : ∀ args w, (callFunc 28 args).run Try.prog w = .ok (.enter 28 args) w := enters Try.func28 (by kernel_rfl) (by kernel_rfl)

theorem readB_any {D : Nat → Prop} {ao : Option Addr} {cp X : Nat} {l : List UInt8} {z : RoleB} {w : World} (hl : l.length ≤ 140737488355328) (hv : BytesAt D w (.slice ao l.length cp) l) (dD : ∀ i, D i → i < w.heap.size) (hDX : ¬ D X) (hX : w.heap[X]? = some (.cells (roleBox z) 24 (0, 0))) :
    Calls Try.prog 23 #[.slice ao l.length cp, .func (.func 28) #[] #[.pointer (some ⟨X, 0, none⟩)]] w (RoleRead X l z w) := by
  have lX := lt_blk hX
  have hrw := readWorld_chg w (.slice ao l.length cp) (fun _ => False)
  have hv' := hv.keep hrw (fun _ _ h => h)
  have hdr : ¬ D (w.heap.size + 1) := fun h => by have := dD _ h; omega
  have hdl : ∀ i, D i → i < (readWorld w (.slice ao l.length cp)).heap.size := fun i hi => by have := dD i hi; rw [readWorld_size]; omega
  cases hok : roleOk l with
  | true =>
    refine (read_returns (T := fun k => k = X) (P := fun w1 => w1.heap[X]? = some (.cells (roleBox (roleOf l)) 24 (0, 0))) (n := (roleRest l).length) (by rintro k rfl; omega) enters28 ?_).mono ?_
    · refine (closB_reads (R := w.heap.size + 1) hl hv' hdr hDX (by omega) hdl (readWorld_R w _) (blk_keep hX hrw id) hok).mono ?_
      rintro e w1 ⟨rfl, ⟨ao1, cp1, hr⟩, hc, h1⟩
      exact ⟨rfl, ⟨⟨ao1, _, cp1, hr, fun _ => rfl⟩, hc⟩, h1⟩
    · rintro e w' ⟨rfl, w1, h1, hle⟩
      refine ⟨by rw [roleErr, if_pos hok], ?_, hle.2.2⟩
      rw [roleGot, if_pos hok]
      exact blk_keep h1 hle.2.1 (by omega)
  | false =>
    have hne : ¬ (roleOk l = true) := by rw [hok]; decide
    refine (read_stops (T := fun k => k = X) (P := fun w1 => w1.heap[X]? = some (.cells (roleBox z) 24 (0, 0))) (n := l.length) (flt := roleBad l) [] rfl (by rintro k rfl; omega) enters28 ?_).mono ?_
    · refine (closB_stops (R := w.heap.size + 1) hl hv' hdr (readWorld_R w _) hok).mono ?_
      rintro e w1 ⟨rfl, ao1, m, cp1, hr, hc⟩
      exact ⟨rfl, ⟨⟨ao1, m, cp1, hr, fun h => absurd h (roleBad_ne l)⟩, hc.mono (fun _ _ h => .inl h)⟩, blk_keep (blk_keep hX hrw id) hc (by omega)⟩
    · rintro e w' ⟨rfl, w1, h1, hle⟩
      refine ⟨by rw [roleErr, if_neg hne, endOf, if_neg (roleBad_ne l)], ?_, hle.2.2⟩
      rw [roleGot, if_neg hne]
      exact blk_keep h1 hle.2.1 (by omega)

set_option maxRecDepth 100000 in
theorem closF_reads {D : Nat → Prop} {R X : Nat} {v : Value} {l : List UInt8} {z : RoleB} {w : World} (hl : l.length ≤ 140737488355328) (hv : BytesAt D w v l) (hDR : ¬ D R) (hDX : ¬ D X) (hXR : X ≠ R) (hDl : ∀ i, D i → i < w.heap.size) (hR : ReaderAt w R true v 0) (hX : w.heap[X]? = some (.cells (roleBox z) 24 (0, 0))) (hok : roleOk l = true) :
    Calls Try.prog 29 #[.pointer (some ⟨R, 0, none⟩), .pointer (some ⟨X, 0, none⟩)] w fun e w' => e = .returned (.tuple #[]) ∧
      (∃ ao cp, ReaderAt w' R true (.slice ao (roleRest l).length cp) 0) ∧ Chg (fun k => k = R ∨ k = X) w w' ∧ w'.heap[X]? = some (.cells (roleBox (roleOf l)) 24 (0, 0)) := by
  have h1 := pget_reads hl hv hDR hDl hR hok
  go_enter Try.func29, Try.ntmps29
  go_wp2_with fail
  refine h1.mono ?_
  rintro e w1 ⟨rfl, v1, hv1, hR1, hch1⟩
  have hX1 := blk_keep hX hch1 hXR
  have n0 := cell_blk hX1 0
  have n1 := cell_blk hX1 1
  have f0 := froz_blk hX1 0
  have f1 := froz_blk hX1 1
  simp only [roleBox, List.getElem?_toArray, List.getElem?_cons_zero, List.getElem?_cons_succ] at n0 n1
  obtain ⟨ao6, cap6, rfl⟩ := hv1.shape
  have HO : Hid (roleOf l = (nameOf l, nameOf (nameRest l))) := rfl
  rw [show roleV (roleOf l) = .agg #[.string ⟨(nameOf l).toArray⟩, .string ⟨(nameOf (nameRest l)).toArray⟩] from rfl]
  generalize nameOf l = o at *
  generalize nameOf (nameRest l) = x at *
  have c1 := setCell_chg w1 X 0 (.string ⟨o.toArray⟩)
  have c2 := setCell_chg (w1.setCell ⟨X, 0, none⟩ (.string ⟨o.toArray⟩)) X 1 (.string ⟨x.toArray⟩)
  have hR2 := blk_keep (blk_keep hR1 c1 (fun h => hXR h.symm)) c2 (fun h => hXR h.symm)
  have hX2 : ((w1.setCell ⟨X, 0, none⟩ (.string ⟨o.toArray⟩)).setCell ⟨X, 1, none⟩ (.string ⟨x.toArray⟩)).heap[X]? = some (.cells #[.string ⟨o.toArray⟩, .string ⟨x.toArray⟩] 24 (0, 0)) := set_blk (set_blk hX1 0 (.string ⟨o.toArray⟩)) 1 (.string ⟨x.toArray⟩)
  have hch2 : Chg (fun k => k = R ∨ k = X) w ((w1.setCell ⟨X, 0, none⟩ (.string ⟨o.toArray⟩)).setCell ⟨X, 1, none⟩ (.string ⟨x.toArray⟩)) := ((hch1.mono (fun _ _ h => .inl h)).trans c1 (fun _ _ h => .inr h)).trans c2 (fun _ _ h => .inr h)
  have HH := hid (And.intro hR2 (And.intro hX2 hch2))
  clear h1 hv hR hok hv1 hR1 hch1 hX1 c1 c2 hR2 hX2 hch2 hX
  go_wp2
  go_end0
  exact ⟨rfl, ⟨_, _, HH.out.1⟩, HH.out.2.2, by rw [HO.out]; exact HH.out.2.1⟩

set_option maxRecDepth 100000 in
theorem closF_stops {D : Nat → Prop} {R : Nat} {v x : Value} {l : List UInt8} {w : World} (hl : l.length ≤ 140737488355328) (hv : BytesAt D w v l) (hDR : ¬ D R) (hR : ReaderAt w R true v 0) (hok : roleOk l = false) :
    Calls Try.prog 29 #[.pointer (some ⟨R, 0, none⟩), x] w (Stops R (roleBad l) w) := by
  have h1 := pget_stops hl hv hDR hR hok
  clear hok
  generalize roleBad l = bad at *
  go_enter Try.func29, Try.ntmps29
  go_wp2_with fail
  refine h1.mono ?_
  rintro e w1 ⟨rfl, hs⟩
  exact ⟨rfl, rfl, hs⟩

theorem enters29 : ∀ args w, (callFunc 29 args).run Try.prog w = .ok (.enter 29 args) w := enters Try.func29 (by kernel_rfl) (by kernel_rfl)

theorem readF_any {D : Nat → Prop} {ao : Option Addr} {cp X : Nat} {l : List UInt8} {z : RoleB} {w : World} (hl : l.length ≤ 140737488355328) (hv : BytesAt D w (.slice ao l.length cp) l) (dD : ∀ i, D i → i < w.heap.size) (hDX : ¬ D X) (hX : w.heap[X]? = some (.cells (roleBox z) 24 (0, 0))) :
    Calls Try.prog 23 #[.slice ao l.length cp, .func (.func 29) #[] #[.pointer (some ⟨X, 0, none⟩)]] w (RoleRead X l z w) := by
  have lX := lt_blk hX
  have hrw := readWorld_chg w (.slice ao l.length cp) (fun _ => False)
  have hv' := hv.keep hrw (fun _ _ h => h)
  have hdr : ¬ D (w.heap.size + 1) := fun h => by have := dD _ h; omega
  have hdl : ∀ i, D i → i < (readWorld w (.slice ao l.length cp)).heap.size := fun i hi => by have := dD i hi; rw [readWorld_size]; omega
  cases hok : roleOk l with
  | true =>
    refine (read_returns (T := fun k => k = X) (P := fun w1 => w1.heap[X]? = some (.cells (roleBox (roleOf l)) 24 (0, 0))) (n := (roleRest l).length) (by rintro k rfl; omega) enters29 ?_).mono ?_
    · refine (closF_reads (R := w.heap.size + 1) hl hv' hdr hDX (by omega) hdl (readWorld_R w _) (blk_keep hX hrw id) hok).mono ?_
      rintro e w1 ⟨rfl, ⟨ao1, cp1, hr⟩, hc, h1⟩
      exact ⟨rfl, ⟨⟨ao1, _, cp1, hr, fun _ => rfl⟩, hc⟩, h1⟩
    · rintro e w' ⟨rfl, w1, h1, hle⟩
      refine ⟨by rw [roleErr, if_pos hok], ?_, hle.2.2⟩
      rw [roleGot, if_pos hok]
      exact blk_keep h1 hle.2.1 (by omega)
  | false =>
    have hne : ¬ (roleOk l = true) := by rw [hok]; decide
    refine (read_stops (T := fun k => k = X) (P := fun w1 => w1.heap[X]? = some (.cells (roleBox z) 24 (0, 0))) (n := l.length) (flt := roleBad l) [] rfl (by rintro k rfl; omega) enters29 ?_).mono ?_
    · refine (closF_stops (R := w.heap.size + 1) hl hv' hdr (readWorld_R w _) hok).mono ?_
      rintro e w1 ⟨rfl, ao1, m, cp1, hr, hc⟩
      exact ⟨rfl, ⟨⟨ao1, m, cp1, hr, fun h => absurd h (roleBad_ne l)⟩, hc.mono (fun _ _ h => .inl h)⟩, blk_keep (blk_keep hX hrw id) hc (by omega)⟩
    · rintro e w' ⟨rfl, w1, h1, hle⟩
      refine ⟨by rw [roleErr, if_neg hne, endOf, if_neg (roleBad_ne l)], ?_, hle.2.2⟩
      rw [roleGot, if_neg hne]
      exact blk_keep h1 hle.2.1 (by omega)

end Go.Proofs.Ytdlpddpdobiebaa
