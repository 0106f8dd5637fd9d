/- The second f of TapeBack: all numbers are read, and written again. -/
import Derived.Test.YtjipfbggoeiakaaBackNum
import Derived.Test.YtjipfbggoeiakaaPanicClos
import Derived.Deep.RegionHeld3
import Derived.RegionDies
namespace Go.Proofs.Ytjipfbggoeiakaa
open Go.RowKit

/-- The error of bytes that are read as numbers to their end, at most f of them. -/
def numsErr : Nat → List UInt8 → Nat
  | 0, _ => 0
  | f + 1, l => if l = [] then 0 else if (numN 9 l 0 0).2.2 = 0 then numsErr f (l.drop (numN 9 l 0 0).2.1) else (numN 9 l 0 0).2.2

theorem numsErr_succ (f : Nat) (l : List UInt8) : numsErr (f + 1) l = if l = [] then 0 else if (numN 9 l 0 0).2.2 = 0 then numsErr f (l.drop (numN 9 l 0 0).2.1) else (numN 9 l 0 0).2.2 := rfl

def restLen (R : Nat) (w : World) : Nat := match w.cell? ⟨R, 1, none⟩ with | some (.slice _ n _) => n | _ => 0

structure Inv30 (R P Q B LO : Nat) (acc rest : List UInt8) (w wr : World) : Prop where
  reader : ∃ v, BytesAt (fun k => k < LO) wr v rest ∧ ReaderAt wr R true v 0
  pen : ∃ a c, PenAt B wr P a c acc
  box : wr.heap[Q]? = some (.cells #[.pointer (some ⟨P, 0, none⟩)] 24 (0, 0))
  chg : Chg (fun k => k = R ∨ k = P) w wr

section
variable {R P Q B LO : Nat} {acc rest acc' rest' : List UInt8} {w wr w' : World}

theorem Inv30.len (h : Inv30 R P Q B LO acc rest w wr) : restLen R wr = rest.length := by
  obtain ⟨v, hv, hR⟩ := h.reader
  obtain ⟨ao, cp, rfl⟩ := hv.shape
  have := cell_blk hR 1
  unfold restLen
  rw [this]
  rfl

theorem Inv30.drew (h : Inv30 R P Q B LO acc rest w wr) : Inv30 R P Q B LO acc rest w wr.drew := by
  obtain ⟨⟨v, hv, hR⟩, ⟨a, c, hp⟩, hb, hc⟩ := h
  exact ⟨⟨v, hv, hR⟩, ⟨a, c, ⟨hp.cell, hp.row⟩⟩, hb, hc.drew⟩

theorem Inv30.rstep (hs : LO ≤ P ∧ P < Q ∧ Q < R ∧ R < B ∧ B = w.heap.size) (h : Inv30 R P Q B LO acc rest w wr) (hc : Chg (· = R) wr w') (hr : ∃ v, BytesAt (fun k => k < LO) w' v rest' ∧ ReaderAt w' R true v 0) : Inv30 R P Q B LO acc rest' w w' := by
  obtain ⟨_, ⟨a, c, hp⟩, hb, hch⟩ := h
  refine ⟨hr, ⟨a, c, hp.keep hc (by omega) (fun k hk h => ?_)⟩, blk_keep hb hc (by omega), hch.trans hc (fun _ _ h => .inl h)⟩
  have := (hp.row.lt k ((rowOf_block _ _ _).trans hk)).1
  omega

theorem Inv30.pstep (hs : LO ≤ P ∧ P < Q ∧ Q < R ∧ R < B ∧ B = w.heap.size) (h : Inv30 R P Q B LO acc rest w wr) {a : Option Addr} {c : Nat} (hp : PenAt B wr P a c acc) (hpo : PenPost B P a acc' wr w') : Inv30 R P Q B LO acc' rest w w' := by
  obtain ⟨⟨v, hv, hR⟩, _, hb, hch⟩ := h
  obtain ⟨a', c', hp', hpc⟩ := hpo
  have hrow : ∀ k, rowOf a = some k → B ≤ k := fun k hk => (hp.row.lt k ((rowOf_block _ _ _).trans hk)).1
  refine ⟨⟨v, hv.keep hpc.chg ?_, blk_keep hR hpc.chg ?_⟩, ⟨a', c', hp'⟩, blk_keep hb hpc.chg ?_, hch.trans hpc.chg ?_⟩
  · rintro i hi (h | h)
    · omega
    · have := hrow _ h; omega
  · rintro (h | h)
    · omega
    · have := hrow _ h; omega
  · rintro (h | h)
    · omega
    · have := hrow _ h; omega
  · rintro i hi (h | h)
    · exact .inr h
    · have := hrow _ h; omega
end

/-- What it leaves: all bytes are written again; or the error. -/
def C30 (R P Q B LO : Nat) (l : List UInt8) (w : World) (e : Ending) (w' : World) : Prop :=
  (numsErr l.length l = 0 ∧ e = .returned (.tuple #[]) ∧ Inv30 R P Q B LO l [] w w') ∨
  (numsErr l.length l ≠ 0 ∧ e = .panicked [{ v := stopOf R, recovered := false }] ∧ (∃ ao m cp, ReaderAt w' R true (.slice ao m cp) (numsErr l.length l)) ∧ Chg (fun k => k = R ∨ k = P) w w')

set_option maxRecDepth 100000 in
set_option maxHeartbeats 1000000 in
theorem c30_any (R P Q B LO : Nat) (l : List UInt8) (w : World) (hs : LO ≤ P ∧ P < Q ∧ Q < R ∧ R < B ∧ B = w.heap.size) (hl : l.length ≤ 2000) (hi : Inv30 R P Q B LO [] l w w) :
    Calls Try.prog 32 #[.pointer (some ⟨R, 0, none⟩), .pointer (some ⟨Q, 0, none⟩)] w (C30 R P Q B LO l w) := by
  go_enter Try.func32, Try.ntmps32
  go_wp2_with fail
  go_loopw [5] (fun _ wr => ∃ (acc rest : List UInt8) (f : Nat), Hid (acc ++ rest = l) ∧ Inv30 R P Q B LO acc rest w wr ∧ acc.length + rest.length ≤ 2000 ∧ rest.length ≤ f ∧ Hid (numsErr l.length l = numsErr f rest)) (fun _ wr => restLen R wr)
  case atStart => exact ⟨[], l, l.length, rfl, hi, by simpa using hl, Nat.le_refl _, rfl⟩
  case round =>
    clear hi
    obtain ⟨acc, rest, f, hal, hi, hlr, hf, hne⟩ := hrel
    have HI := hid hi
    obtain ⟨v, hv, hR⟩ := hi.reader
    have hlf := left_reads (w := wr) hR hv
    clear hv hR hi
    by_cases h0 : 0 < (rest.length : Int)
    · have hr0 : rest ≠ [] := by rintro rfl; simp at h0
      obtain ⟨f, rfl⟩ : ∃ f', f = f' + 1 := ⟨f - 1, by omega⟩
      have hne2 : Hid (numsErr l.length l = if (numN 9 rest 0 0).2.2 = 0 then numsErr f (rest.drop (numN 9 rest 0 0).2.1) else (numN 9 rest 0 0).2.2) := by
        rw [hne.out, numsErr_succ, if_neg hr0]
        exact hid rfl
      clear hne
      go_wp2_with (go_at_call 24; ((with_reducible refine hlf.mono ?_); rintro e w9 ⟨rfl, rfl⟩))
      clear hlf
      have HD := hid HI.out.drew
      have q0 : wr.drew.cell? ⟨Q, 0, none⟩ = some (.pointer (some ⟨P, 0, none⟩)) := cell_blk HD.out.box 0
      have Q0 := hid q0
      clear q0
      obtain ⟨v, hv, hR⟩ := HD.out.reader
      by_cases he : (numN 9 rest 0 0).2.2 = 0
      · have he' : errNum rest 9223372036854775807 = 0 := by rw [errNum_max]; exact he
        have hrd := rnum_reads (most := 9223372036854775807) (by omega) hv (by omega) hR he'
        obtain ⟨k1, k2, k3⟩ := numN_ok he
        have htk := hid (numN_take he)
        have hst : ∀ w9, RNumOk (fun k => k < LO) R rest wr.drew (.returned (.int .i64 (numN 9 rest 0 0).1)) w9 → Hid (Inv30 R P Q B LO acc (rest.drop (numN 9 rest 0 0).2.1) w w9) := by
          rintro w9 ⟨_, v', hv', hR', hc'⟩
          exact hid (HD.out.rstep hs hc' ⟨v', hv', hR'⟩)
        have hpn : ∀ w9, Hid (Inv30 R P Q B LO acc (rest.drop (numN 9 rest 0 0).2.1) w w9) → Calls Try.prog 10 #[.pointer (some ⟨P, 0, none⟩), .int .i64 (numN 9 rest 0 0).1] w9 fun e w' => e = .returned (.bool true) ∧ Hid (Inv30 R P Q B LO (acc ++ enc (numN 9 rest 0 0).1) (rest.drop (numN 9 rest 0 0).2.1) w w') := by
          intro w9 H9
          obtain ⟨a, c, hp⟩ := H9.out.pen
          have h9l := enc_length9 (n := (numN 9 rest 0 0).1) (by omega)
          have hsz := H9.out.chg.size
          refine (pnum_any B P c _ a acc w9 (by omega) hp (by omega) (by omega) (by omega)).mono ?_
          rintro e w' ⟨rfl, h⟩
          exact ⟨rfl, hid (H9.out.pstep hs hp h)⟩
        clear hv hR
        go_region_held3 (fun w' => w'.cell? ⟨Q, 0, none⟩ = some (.pointer (some ⟨P, 0, none⟩))) (first | exact Q0.out | (go_keep; done)) (first | (go_at_call 20; ((with_reducible refine hrd.mono ?_); rintro e w9 ⟨rfl, h9⟩; have H9 := hst w9 ⟨rfl, h9⟩; have q9 := cell_blk H9.out.box 0; simp only [List.getElem?_toArray, List.getElem?_cons_zero] at q9; have hpw := hpn w9 H9; clear h9)) | (go_at_call 10; ((with_reducible refine hpw.mono ?_); rintro e w10 ⟨rfl, H10⟩; have q10 := cell_blk H10.out.box 0; simp only [List.getElem?_toArray, List.getElem?_cons_zero] at q10)))
        have HX : Hid (numsErr l.length l = numsErr f (rest.drop (numN 9 rest 0 0).2.1)) := by
          rw [hne2.out, if_pos he]
          exact hid rfl
        have hac : Hid ((acc ++ enc (numN 9 rest 0 0).1) ++ rest.drop (numN 9 rest 0 0).2.1 = l) := by
          rw [List.append_assoc, ← htk.out]
          exact hal
        have hlen2 := congrArg List.length hac.out
        have hlen1 := congrArg List.length hal.out
        have hd := List.length_drop (l := rest) (i := (numN 9 rest 0 0).2.1)
        simp only [List.length_append] at hlen2 hlen1
        go_roundw
        case rel => exact ⟨_, _, _, _, _, _, _, ⟨acc ++ enc (numN 9 rest 0 0).1, rest.drop (numN 9 rest 0 0).2.1, f, hac, H10.out, by simp only [List.length_append]; omega, by omega, HX⟩, rfl⟩
        case measure =>
          have m1 := H10.out.len
          have m2 := HI.out.len
          omega
      · have he' : errNum rest 9223372036854775807 ≠ 0 := by rw [errNum_max]; exact he
        have hrd := rnum_stops (most := 9223372036854775807) (by omega) hv hR he'
        clear hv hR
        have fin : ∀ w9, (∃ ao m cp, ReaderAt w9 R true (.slice ao m cp) ((errNum rest 9223372036854775807 : Nat) : Int) ∧ Chg (· = R) wr.drew w9) → C30 R P Q B LO l w (.panicked [{ v := stopOf R, recovered := false }]) w9 := by
          rintro w9 ⟨ao, m, cp, h1, h2⟩
          rw [errNum_max] at h1
          have hz : numsErr l.length l = (numN 9 rest 0 0).2.2 := by rw [hne2.out, if_neg he]
          refine .inr ⟨by rw [hz]; exact he, rfl, ⟨ao, m, cp, by rw [hz]; exact h1⟩, HD.out.chg.trans h2 (fun _ _ h => .inl h)⟩
        have q0 := Q0.out
        go_region_dies
        all_goals (refine hrd.mono ?_; rintro e w9 ⟨rfl, h9⟩; exact ⟨rfl, fin w9 h9⟩)
    · have hr0 : rest = [] := List.eq_nil_of_length_eq_zero (by omega)
      subst hr0
      have hal2 := hal.out
      rw [List.append_nil] at hal2
      subst hal2
      have hz : numsErr f [] = 0 := by cases f <;> simp [numsErr]
      rw [hz] at hne
      go_wp2_with (go_at_call 24; ((with_reducible refine hlf.mono ?_); rintro e w9 ⟨rfl, rfl⟩))
      refine bodyPost_ret (results_none rfl _ _ _) rfl ?_
      exact .inl ⟨hne.out, rfl, HI.out⟩
end Go.Proofs.Ytjipfbggoeiakaa
