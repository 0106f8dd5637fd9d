/- Reads of a name, through Read, by the functions that the laws hand over. -/
import Derived.Test.YtaejhkjigppelaaNmGet
import Derived.Test.YtaejhkjigppelaaRead
import Derived.Test.YtaejhkjigppelaaEnters
namespace Go.Proofs.Ytaejhkjigppelaa
open Go.RowKit

/-- How Read ends, and what was got. -/
def nameErr (l : List UInt8) : Int := if nameOk l = true then endOf 0 (nameRest l).length else nameBad l
def nameGot (l z : List UInt8) : List UInt8 := if nameOk l = true then nameOf l else z

theorem nameBad_ne (l : List UInt8) : ¬ ((nameBad l : Int) = 0) := by
  unfold nameBad
  split <;> omega

def NameRead (X : Nat) (l z : List UInt8) (w : World) (e : Ending) (w' : World) : Prop :=
  e = .returned (.int .i64 (nameErr l)) ∧ w'.heap[X]? = some (.cells #[.string ⟨(nameGot l z).toArray⟩] 9 (0, 0)) ∧ Chg (· = X) w w'

set_option maxRecDepth 100000 in
theorem closG_reads {D : Nat → Prop} {R X : Nat} {v : Value} {l z : List UInt8} {w : World} (hl : l.length ≤ 140737488355328) (hv : BytesAt D w v l) (hDR : ¬ D R) (hDX : ¬ D X) (hXR : X ≠ R) (hR : ReaderAt w R true v 0) (hX : w.heap[X]? = some (.cells #[.string ⟨z.toArray⟩] 9 (0, 0))) (hok : nameOk l = true) :
    Calls Try.prog 58 #[.pointer (some ⟨R, 0, none⟩), .pointer (some ⟨X, 0, none⟩)] w fun e w' => e = .returned (.tuple #[]) ∧
      (∃ ao cp, ReaderAt w' R true (.slice ao (nameRest l).length cp) 0) ∧ Chg (fun k => k = R ∨ k = X) w w' ∧ w'.heap[X]? = some (.cells #[.string ⟨(nameOf l).toArray⟩] 9 (0, 0)) := by
  have h1 := get_reads hl hv hDR hR hok
  go_enter Try.func58, Try.ntmps58
  go_wp2_with fail
  refine h1.mono ?_
  rintro e w1 ⟨rfl, v1, hv1, hR1, hch1⟩
  have hX1 := blk_keep hX hch1 hXR
  have n0 := cell_blk hX1 0
  have n1 := froz_blk hX1 0
  simp only [List.getElem?_toArray, List.getElem?_cons_zero] at n0
  obtain ⟨ao6, cap6, rfl⟩ := hv1.shape
  have c1 := setCell_chg w1 X 0 (.string ⟨(nameOf l).toArray⟩)
  have hR2 := blk_keep hR1 c1 (fun h => hXR h.symm)
  have hX2 := set_blk hX1 0 (.string ⟨(nameOf l).toArray⟩)
  have hch2 : Chg (fun k => k = R ∨ k = X) w (w1.setCell ⟨X, 0, none⟩ (.string ⟨(nameOf l).toArray⟩)) := (hch1.mono (fun _ _ h => .inl h)).trans c1 (fun _ _ h => .inr h)
  have HH := hid (And.intro hR2 (And.intro hX2 hch2))
  clear h1 hv hR hok hv1 hR1 hch1 hX1 c1 hR2 hX2 hch2 hX
  go_wp2
  go_end0
  exact ⟨rfl, ⟨_, _, HH.out.1⟩, HH.out.2.2, HH.out.2.1⟩

set_option maxRecDepth 100000 in
theorem closG_stops {D : Nat → Prop} {R : Nat} {v x : Value} {l : List UInt8} {w : World} (hl : l.length ≤ 140737488355328) (hv : BytesAt D w v l) (hDR : ¬ D R) (hR : ReaderAt w R true v 0) (hok : nameOk l = false) :
    Calls Try.prog 58 #[.pointer (some ⟨R, 0, none⟩), x] w (Stops R (nameBad l) w) := by
  have h1 := get_stops hl hv hDR hR hok
  clear hok
  generalize nameBad l = bad at *
  go_enter Try.func58, Try.ntmps58
  go_wp2_with (go_at_call 57; refine h1.mono ?_; rintro e w1 ⟨rfl, hs⟩)
  exact ⟨rfl, rfl, hs⟩

theorem enters58 : ∀ args w, (callFunc 58 args).run Try.prog w = .ok (.enter 58 args) w := enters Try.func58 (by kernel_rfl) (by kernel_rfl)

theorem readG_any {D : Nat → Prop} {ao : Option Addr} {cp X : Nat} {l z : List UInt8} {w : World} (hl : l.length ≤ 140737488355328) (hv : BytesAt D w (.slice ao l.length cp) l) (dD : ∀ i, D i → i < w.heap.size) (hDX : ¬ D X) (hX : w.heap[X]? = some (.cells #[.string ⟨z.toArray⟩] 9 (0, 0))) :
    Calls Try.prog 19 #[.slice ao l.length cp, .func (.func 58) #[] #[.pointer (some ⟨X, 0, none⟩)]] w (NameRead X l z w) := by
  have lX := lt_blk hX
  have hrw := readWorld_chg w (.slice ao l.length cp) (fun _ => False)
  have hv' := hv.keep hrw (fun _ _ h => h)
  have hdr : ¬ D (w.heap.size + 1) := fun h => by have := dD _ h; omega
  cases hok : nameOk l with
  | true =>
    refine (read_returns (T := fun k => k = X) (P := fun w1 => w1.heap[X]? = some (.cells #[.string ⟨(nameOf l).toArray⟩] 9 (0, 0))) (n := (nameRest l).length) (by rintro k rfl; omega) enters58 ?_).mono ?_
    · refine (closG_reads (R := w.heap.size + 1) hl hv' hdr hDX (by omega) (readWorld_R w _) (blk_keep hX hrw id) hok).mono ?_
      rintro e w1 ⟨rfl, ⟨ao1, cp1, hr⟩, hc, h1⟩
      exact ⟨rfl, ⟨⟨ao1, _, cp1, hr, fun _ => rfl⟩, hc⟩, h1⟩
    · rintro e w' ⟨rfl, w1, h1, hle⟩
      refine ⟨by rw [nameErr, if_pos hok], ?_, hle.2.2⟩
      rw [nameGot, if_pos hok]
      exact blk_keep h1 hle.2.1 (by omega)
  | false =>
    have hne : ¬ (nameOk l = true) := by rw [hok]; decide
    refine (read_stops (T := fun k => k = X) (P := fun w1 => w1.heap[X]? = some (.cells #[.string ⟨z.toArray⟩] 9 (0, 0))) (n := l.length) (flt := nameBad l) [] rfl (by rintro k rfl; omega) enters58 ?_).mono ?_
    · refine (closG_stops (R := w.heap.size + 1) hl hv' hdr (readWorld_R w _) hok).mono ?_
      rintro e w1 ⟨rfl, ao1, m, cp1, hr, hc⟩
      exact ⟨rfl, ⟨⟨ao1, m, cp1, hr, fun h => absurd h (nameBad_ne l)⟩, hc.mono (fun _ _ h => .inl h)⟩, blk_keep (blk_keep hX hrw id) hc (by omega)⟩
    · rintro e w' ⟨rfl, w1, h1, hle⟩
      refine ⟨by rw [nameErr, if_neg hne, endOf, if_neg (nameBad_ne l)], ?_, hle.2.2⟩
      rw [nameGot, if_neg hne]
      exact blk_keep h1 hle.2.1 (by omega)

set_option maxRecDepth 100000 in
theorem closM_reads {D : Nat → Prop} {R X : Nat} {v : Value} {l z : List UInt8} {w : World} (hl : l.length ≤ 140737488355328) (hv : BytesAt D w v l) (hDR : ¬ D R) (hDX : ¬ D X) (hXR : X ≠ R) (hR : ReaderAt w R true v 0) (hX : w.heap[X]? = some (.cells #[.string ⟨z.toArray⟩] 9 (0, 0))) (hok : nameOk l = true) :
    Calls Try.prog 60 #[.pointer (some ⟨R, 0, none⟩), .pointer (some ⟨X, 0, none⟩)] w fun e w' => e = .returned (.tuple #[]) ∧
      (∃ ao cp, ReaderAt w' R true (.slice ao (nameRest l).length cp) 0) ∧ Chg (fun k => k = R ∨ k = X) w w' ∧ w'.heap[X]? = some (.cells #[.string ⟨(nameOf l).toArray⟩] 9 (0, 0)) := by
  have h1 := get_reads hl hv hDR hR hok
  go_enter Try.func60, Try.ntmps60
  go_wp2_with fail
  refine h1.mono ?_
  rintro e w1 ⟨rfl, v1, hv1, hR1, hch1⟩
  have hX1 := blk_keep hX hch1 hXR
  have n0 := cell_blk hX1 0
  have n1 := froz_blk hX1 0
  simp only [List.getElem?_toArray, List.getElem?_cons_zero] at n0
  obtain ⟨ao6, cap6, rfl⟩ := hv1.shape
  have c1 := setCell_chg w1 X 0 (.string ⟨(nameOf l).toArray⟩)
  have hR2 := blk_keep hR1 c1 (fun h => hXR h.symm)
  have hX2 := set_blk hX1 0 (.string ⟨(nameOf l).toArray⟩)
  have hch2 : Chg (fun k => k = R ∨ k = X) w (w1.setCell ⟨X, 0, none⟩ (.string ⟨(nameOf l).toArray⟩)) := (hch1.mono (fun _ _ h => .inl h)).trans c1 (fun _ _ h => .inr h)
  have HH := hid (And.intro hR2 (And.intro hX2 hch2))
  clear h1 hv hR hok hv1 hR1 hch1 hX1 c1 hR2 hX2 hch2 hX
  go_wp2
  go_end0
  exact ⟨rfl, ⟨_, _, HH.out.1⟩, HH.out.2.2, HH.out.2.1⟩

set_option maxRecDepth 100000 in
theorem closM_stops {D : Nat → Prop} {R : Nat} {v x : Value} {l : List UInt8} {w : World} (hl : l.length ≤ 140737488355328) (hv : BytesAt D w v l) (hDR : ¬ D R) (hR : ReaderAt w R true v 0) (hok : nameOk l = false) :
    Calls Try.prog 60 #[.pointer (some ⟨R, 0, none⟩), x] w (Stops R (nameBad l) w) := by
  have h1 := get_stops hl hv hDR hR hok
  clear hok
  generalize nameBad l = bad at *
  go_enter Try.func60, Try.ntmps60
  go_wp2_with (go_at_call 57; refine h1.mono ?_; rintro e w1 ⟨rfl, hs⟩)
  exact ⟨rfl, rfl, hs⟩

theorem enters60 : ∀ args w, (callFunc 60 args).run Try.prog w = .ok (.enter 60 args) w := enters Try.func60 (by kernel_rfl) (by kernel_rfl)

theorem readM_any {D : Nat → Prop} {ao : Option Addr} {cp X : Nat} {l z : List UInt8} {w : World} (hl : l.length ≤ 140737488355328) (hv : BytesAt D w (.slice ao l.length cp) l) (dD : ∀ i, D i → i < w.heap.size) (hDX : ¬ D X) (hX : w.heap[X]? = some (.cells #[.string ⟨z.toArray⟩] 9 (0, 0))) :
    Calls Try.prog 19 #[.slice ao l.length cp, .func (.func 60) #[] #[.pointer (some ⟨X, 0, none⟩)]] w (NameRead X l z w) := by
  have lX := lt_blk hX
  have hrw := readWorld_chg w (.slice ao l.length cp) (fun _ => False)
  have hv' := hv.keep hrw (fun _ _ h => h)
  have hdr : ¬ D (w.heap.size + 1) := fun h => by have := dD _ h; omega
  cases hok : nameOk l with
  | true =>
    refine (read_returns (T := fun k => k = X) (P := fun w1 => w1.heap[X]? = some (.cells #[.string ⟨(nameOf l).toArray⟩] 9 (0, 0))) (n := (nameRest l).length) (by rintro k rfl; omega) enters60 ?_).mono ?_
    · refine (closM_reads (R := w.heap.size + 1) hl hv' hdr hDX (by omega) (readWorld_R w _) (blk_keep hX hrw id) hok).mono ?_
      rintro e w1 ⟨rfl, ⟨ao1, cp1, hr⟩, hc, h1⟩
      exact ⟨rfl, ⟨⟨ao1, _, cp1, hr, fun _ => rfl⟩, hc⟩, h1⟩
    · rintro e w' ⟨rfl, w1, h1, hle⟩
      refine ⟨by rw [nameErr, if_pos hok], ?_, hle.2.2⟩
      rw [nameGot, if_pos hok]
      exact blk_keep h1 hle.2.1 (by omega)
  | false =>
    have hne : ¬ (nameOk l = true) := by rw [hok]; decide
    refine (read_stops (T := fun k => k = X) (P := fun w1 => w1.heap[X]? = some (.cells #[.string ⟨z.toArray⟩] 9 (0, 0))) (n := l.length) (flt := nameBad l) [] rfl (by rintro k rfl; omega) enters60 ?_).mono ?_
    · refine (closM_stops (R := w.heap.size + 1) hl hv' hdr (readWorld_R w _) hok).mono ?_
      rintro e w1 ⟨rfl, ao1, m, cp1, hr, hc⟩
      exact ⟨rfl, ⟨⟨ao1, m, cp1, hr, fun h => absurd h (nameBad_ne l)⟩, hc.mono (fun _ _ h => .inl h)⟩, blk_keep (blk_keep hX hrw id) hc (by omega)⟩
    · rintro e w' ⟨rfl, w1, h1, hle⟩
      refine ⟨by rw [nameErr, if_neg hne, endOf, if_neg (nameBad_ne l)], ?_, hle.2.2⟩
      rw [nameGot, if_neg hne]
      exact blk_keep h1 hle.2.1 (by omega)

set_option maxRecDepth 100000 in
theorem closF_reads {D : Nat → Prop} {R X : Nat} {v : Value} {l z : List UInt8} {w : World} (hl : l.length ≤ 140737488355328) (hv : BytesAt D w v l) (hDR : ¬ D R) (hDX : ¬ D X) (hXR : X ≠ R) (hR : ReaderAt w R true v 0) (hX : w.heap[X]? = some (.cells #[.string ⟨z.toArray⟩] 9 (0, 0))) (hok : nameOk l = true) :
    Calls Try.prog 72 #[.pointer (some ⟨R, 0, none⟩), .pointer (some ⟨X, 0, none⟩)] w fun e w' => e = .returned (.tuple #[]) ∧
      (∃ ao cp, ReaderAt w' R true (.slice ao (nameRest l).length cp) 0) ∧ Chg (fun k => k = R ∨ k = X) w w' ∧ w'.heap[X]? = some (.cells #[.string ⟨(nameOf l).toArray⟩] 9 (0, 0)) := by
  have h1 := get_reads hl hv hDR hR hok
  go_enter Try.func72, Try.ntmps72
  go_wp2_with fail
  refine h1.mono ?_
  rintro e w1 ⟨rfl, v1, hv1, hR1, hch1⟩
  have hX1 := blk_keep hX hch1 hXR
  have n0 := cell_blk hX1 0
  have n1 := froz_blk hX1 0
  simp only [List.getElem?_toArray, List.getElem?_cons_zero] at n0
  obtain ⟨ao6, cap6, rfl⟩ := hv1.shape
  have c1 := setCell_chg w1 X 0 (.string ⟨(nameOf l).toArray⟩)
  have hR2 := blk_keep hR1 c1 (fun h => hXR h.symm)
  have hX2 := set_blk hX1 0 (.string ⟨(nameOf l).toArray⟩)
  have hch2 : Chg (fun k => k = R ∨ k = X) w (w1.setCell ⟨X, 0, none⟩ (.string ⟨(nameOf l).toArray⟩)) := (hch1.mono (fun _ _ h => .inl h)).trans c1 (fun _ _ h => .inr h)
  have HH := hid (And.intro hR2 (And.intro hX2 hch2))
  clear h1 hv hR hok hv1 hR1 hch1 hX1 c1 hR2 hX2 hch2 hX
  go_wp2
  go_end0
  exact ⟨rfl, ⟨_, _, HH.out.1⟩, HH.out.2.2, HH.out.2.1⟩

set_option maxRecDepth 100000 in
theorem closF_stops {D : Nat → Prop} {R : Nat} {v x : Value} {l : List UInt8} {w : World} (hl : l.length ≤ 140737488355328) (hv : BytesAt D w v l) (hDR : ¬ D R) (hR : ReaderAt w R true v 0) (hok : nameOk l = false) :
    Calls Try.prog 72 #[.pointer (some ⟨R, 0, none⟩), x] w (Stops R (nameBad l) w) := by
  have h1 := get_stops hl hv hDR hR hok
  clear hok
  generalize nameBad l = bad at *
  go_enter Try.func72, Try.ntmps72
  go_wp2_with (go_at_call 57; refine h1.mono ?_; rintro e w1 ⟨rfl, hs⟩)
  exact ⟨rfl, rfl, hs⟩

theorem enters72 : ∀ args w, (callFunc 72 args).run Try.prog w = .ok (.enter 72 args) w := enters Try.func72 (by kernel_rfl) (by kernel_rfl)

theorem readF_any {D : Nat → Prop} {ao : Option Addr} {cp X : Nat} {l z : List UInt8} {w : World} (hl : l.length ≤ 140737488355328) (hv : BytesAt D w (.slice ao l.length cp) l) (dD : ∀ i, D i → i < w.heap.size) (hDX : ¬ D X) (hX : w.heap[X]? = some (.cells #[.string ⟨z.toArray⟩] 9 (0, 0))) :
    Calls Try.prog 19 #[.slice ao l.length cp, .func (.func 72) #[] #[.pointer (some ⟨X, 0, none⟩)]] w (NameRead X l z w) := by
  have lX := lt_blk hX
  have hrw := readWorld_chg w (.slice ao l.length cp) (fun _ => False)
  have hv' := hv.keep hrw (fun _ _ h => h)
  have hdr : ¬ D (w.heap.size + 1) := fun h => by have := dD _ h; omega
  cases hok : nameOk l with
  | true =>
    refine (read_returns (T := fun k => k = X) (P := fun w1 => w1.heap[X]? = some (.cells #[.string ⟨(nameOf l).toArray⟩] 9 (0, 0))) (n := (nameRest l).length) (by rintro k rfl; omega) enters72 ?_).mono ?_
    · refine (closF_reads (R := w.heap.size + 1) hl hv' hdr hDX (by omega) (readWorld_R w _) (blk_keep hX hrw id) hok).mono ?_
      rintro e w1 ⟨rfl, ⟨ao1, cp1, hr⟩, hc, h1⟩
      exact ⟨rfl, ⟨⟨ao1, _, cp1, hr, fun _ => rfl⟩, hc⟩, h1⟩
    · rintro e w' ⟨rfl, w1, h1, hle⟩
      refine ⟨by rw [nameErr, if_pos hok], ?_, hle.2.2⟩
      rw [nameGot, if_pos hok]
      exact blk_keep h1 hle.2.1 (by omega)
  | false =>
    have hne : ¬ (nameOk l = true) := by rw [hok]; decide
    refine (read_stops (T := fun k => k = X) (P := fun w1 => w1.heap[X]? = some (.cells #[.string ⟨z.toArray⟩] 9 (0, 0))) (n := l.length) (flt := nameBad l) [] rfl (by rintro k rfl; omega) enters72 ?_).mono ?_
    · refine (closF_stops (R := w.heap.size + 1) hl hv' hdr (readWorld_R w _) hok).mono ?_
      rintro e w1 ⟨rfl, ao1, m, cp1, hr, hc⟩
      exact ⟨rfl, ⟨⟨ao1, m, cp1, hr, fun h => absurd h (nameBad_ne l)⟩, hc.mono (fun _ _ h => .inl h)⟩, blk_keep (blk_keep hX hrw id) hc (by omega)⟩
    · rintro e w' ⟨rfl, w1, h1, hle⟩
      refine ⟨by rw [nameErr, if_neg hne, endOf, if_neg (nameBad_ne l)], ?_, hle.2.2⟩
      rw [nameGot, if_neg hne]
      exact blk_keep h1 hle.2.1 (by omega)

end Go.Proofs.Ytaejhkjigppelaa
