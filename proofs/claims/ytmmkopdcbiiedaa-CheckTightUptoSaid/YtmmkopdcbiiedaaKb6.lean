/- Texts that the proof leans on, in one: RefTape, NmRight, Base. -/
import Derived.Test.YtmmkopdcbiiedaaKb5
import Derived.Test.YtmmkopdcbiiedaaRows
import Derived.Test.YtmmkopdcbiiedaaKb4
import Derived.Test.YtmmkopdcbiiedaaKb1
/- The contracts of the document's tape: Number, Text, End. -/
namespace Go.Proofs.Ytmmkopdcbiiedaa
open Go.RowKit

/-- The document's tape, in the block X: its bytes, its error. -/
def TapeAt (w : World) (X : Nat) (l : List UInt8) (e : Int) : Prop :=
  w.heap[X]? = some (.cells #[.string ⟨l.toArray⟩, .int .i64 e] 54 (0, 0))

theorem str_cut (d : UInt8) (l : List UInt8) : (⟨(d :: l).toArray⟩ : ByteArray).extract 1 (⟨(d :: l).toArray⟩ : ByteArray).size = ⟨l.toArray⟩ := by
  apply ByteArray.ext
  simp [ByteArray.data_extract, ByteArray.size]

/-- What the document's Number leaves where there is an error. -/
def TapeBad (X err : Nat) (w w' : World) : Prop := (∃ l, TapeAt w' X l err) ∧ Chg (· = X) w w'

def TapeNum (X : Nat) (l : List UInt8) (most : Int) (w : World) (e : Ending) (w' : World) : Prop :=
  (errNum l most = 0 ∧ e = .returned (.int .i64 (numN 9 l 0 0).1) ∧ TapeAt w' X (l.drop (numN 9 l 0 0).2.1) 0 ∧ Chg (· = X) w w') ∨
  (errNum l most ≠ 0 ∧ e = .returned (.int .i64 0) ∧ TapeBad X (errNum l most) w w')

theorem errNum_bad {l : List UInt8} {most : Int} {err : Nat} (h : numN 9 l 0 0 = (0, 0, err)) (he : err ≠ 0) : errNum l most = err := by
  unfold errNum
  rw [h, if_neg he]

theorem tapeBad_mk {X err : Nat} {w wr : World} {l l0 : List UInt8} {most : Int} (h : numN 9 l0 0 0 = (0, 0, err)) (he : err ≠ 0) (hX : TapeAt wr X l 0) (hc : Chg (· = X) w wr) :
    TapeNum X l0 most w (.returned (.int .i64 0)) (wr.setCell ⟨X, 1, none⟩ (.int .i64 err)) := by
  refine .inr ?_
  rw [errNum_bad h he]
  exact ⟨he, rfl, ⟨l, set_blk hX 1 (.int .i64 err)⟩, hc.trans (setCell_chg wr X 1 _) (fun _ _ h => h)⟩

theorem tape_long {X n kk : Nat} {w wr : World} {l l0 : List UInt8} {most : Int} (h : numN 9 l0 0 0 = (n, kk, 0)) (hn : most < (n : Int)) (hX : TapeAt wr X l 0) (hc : Chg (· = X) w wr) :
    TapeNum X l0 most w (.returned (.int .i64 0)) (wr.setCell ⟨X, 1, none⟩ (.int .i64 12)) := by
  have e : errNum l0 most = 12 := by
    unfold errNum
    rw [h, if_pos rfl, if_pos hn]
  refine .inr ?_
  rw [e]
  exact ⟨by decide, rfl, ⟨l, set_blk hX 1 (.int .i64 12)⟩, hc.trans (setCell_chg wr X 1 _) (fun _ _ h => h)⟩

theorem tape_ok {X n kk : Nat} {w wr : World} {l0 : List UInt8} {most z : Int} (h : numN 9 l0 0 0 = (n, kk, 0)) (hn : (n : Int) ≤ most) (hz : z = (n : Int)) (hX : TapeAt wr X (l0.drop kk) 0) (hc : Chg (· = X) w wr) :
    TapeNum X l0 most w (.returned (.int .i64 z)) wr := by
  have e : errNum l0 most = 0 := by
    unfold errNum
    rw [h, if_pos rfl, if_neg (by omega)]
  subst hz
  refine .inl ⟨e, ?_, ?_, hc⟩
  · rw [h]
  · rw [h]
    exact hX

theorem str_cut' (d : UInt8) (l : List UInt8) : (⟨(d :: l).toArray⟩ : ByteArray).extract 1 (l.length + 1) = ⟨l.toArray⟩ := str_cut d l

theorem unit_step {k U : Nat} (hU : 128 ^ k = U) (h : k + 1 ≤ 8) : wrap64 ((U : Int) * 128) = ((128 ^ (k + 1) : Nat) : Int) := by
  have h1 := pow_le9 (k + 1) h
  rw [Nat.pow_succ, hU] at h1
  rw [Nat.pow_succ, hU]
  unfold wrap64
  omega

theorem tape_index (d : UInt8) (l : List UInt8) (w : World) : (Instr.index 9 (.string ⟨(d :: l).toArray⟩) (.int .i64 0)).run Try.prog w = .ok (.int .u8 d.toNat) w := by
  kernel_rfl

set_option maxRecDepth 100000 in
set_option maxHeartbeats 1000000 in
theorem tnum_any (X : Nat) (l : List UInt8) (most : Int) (w : World) (hl : l.length ≤ 9223372036854775807) (hX : TapeAt w X l 0) :
    Calls Try.prog 56 #[.pointer (some ⟨X, 0, none⟩), .int .i64 most] w (TapeNum X l most w) := by
  have x1 := cell_blk hX 1
  simp only [List.getElem?_toArray, List.getElem?_cons_zero, List.getElem?_cons_succ] at x1
  go_enter Try.func56, Try.ntmps56
  go_wp2
  go_loopw [5, 6, 7] (fun n u i wr => ∃ (k m : Nat) (un : Int), k ≤ 9 ∧ k ≤ l.length ∧ i = .int .i64 k ∧ n = .int .i64 m ∧ u = .int .i64 un ∧ (k ≤ 8 → un = ((128 ^ k : Nat) : Int)) ∧ m < 128 ^ k ∧ TapeAt wr X (l.drop k) 0 ∧ Chg (· = X) w wr ∧ Hid (numN 9 l 0 0 = numN (9 - k) (l.drop k) k m)) (fun _ _ i _ => 9 - (intOf i).toNat)
  case atStart => exact ⟨0, 0, 1, by omega, by omega, rfl, rfl, rfl, fun _ => rfl, by decide, hX, Chg.refl _ _, rfl⟩
  case round =>
    obtain ⟨k, m, un, hk, hkl, rfl, rfl, rfl, hun, hm, hXr, hc, HS⟩ := hrel
    by_cases h9 : k < 9
    · by_cases hkk : k < l.length
      · have hdr := List.drop_eq_getElem_cons hkk
        rw [hdr] at hXr
        have hst := numN_step l k m h9 hkk
        have HU := hid (HS.out.trans hst)
        clear hst HS
        generalize hrest : l.drop (k + 1) = rest at *
        have HR := hid hrest
        clear hrest
        generalize l[k] = d at *
        have x0 := cell_blk hXr 0
        have x1 := cell_blk hXr 1
        have f0 := froz_blk hXr 0
        have f1 := froz_blk hXr 1
        simp only [List.getElem?_toArray, List.getElem?_cons_zero, List.getElem?_cons_succ] at x0 x1
        have hix := tape_index d rest
        have hdl := UInt8.toNat_lt d
        have hp9 := pow_le9 k (by omega)
        have HM := hid hm
        have hun' := hun (by omega)
        subst hun'
        have hnl := num_lt k m (d.toNat % 128) hm (Nat.mod_lt _ (by decide))
        have HN := hid hnl
        have hb1 : (0 : Int) ≤ (d.toNat : Int) % 128 * ((128 ^ k : Nat) : Int) := by
          have : ((d.toNat % 128 * 128 ^ k : Nat) : Int) = (d.toNat : Int) % 128 * ((128 ^ k : Nat) : Int) := by rw [Int.natCast_mul]; rfl
          omega
        have hb2 : (d.toNat : Int) % 128 * ((128 ^ k : Nat) : Int) ≤ 9151314442816847872 := by
          have h1 : ((d.toNat % 128 * 128 ^ k : Nat) : Int) = (d.toNat : Int) % 128 * ((128 ^ k : Nat) : Int) := by rw [Int.natCast_mul]; rfl
          have h2 : d.toNat % 128 * 128 ^ k ≤ 127 * 72057594037927936 := Nat.mul_le_mul (by omega) hp9
          omega
        have HE : Hid (((d.toNat % 128 * 128 ^ k : Nat) : Int) = (d.toNat : Int) % 128 * ((128 ^ k : Nat) : Int)) := hid (by rw [Int.natCast_mul]; rfl)
        have hm2 : m ≤ 72057594037927935 := by omega
        have hsl := str_cut' d rest
        have hX2 : TapeAt (wr.setCell ⟨X, 0, none⟩ (.string ⟨rest.toArray⟩)) X rest 0 := set_blk hXr 0 (.string ⟨rest.toArray⟩)
        have hc2 : Chg (· = X) w (wr.setCell ⟨X, 0, none⟩ (.string ⟨rest.toArray⟩)) := hc.trans (setCell_chg wr X 0 _) (fun _ _ h => h)
        clear hm hnl hun
        generalize hU : 128 ^ k = U at *
        have HP := hid hU
        clear hU
        go_wp2
        · have h0 : d.toNat = 0 := by assumption
          have h1 : 0 < k := by assumption
          have hU := HU.out
          rw [if_pos ⟨h0, h1⟩] at hU
          go_ret
          exact tapeBad_mk hU (by decide) hX2 hc2
        · have h0 : d.toNat = 0 := by assumption
          have h1 : ¬ 0 < k := by assumption
          have h2 : most < (m : Int) := by assumption
          have hU := HU.out
          rw [if_neg (by omega), if_pos (by omega), h0] at hU
          go_ret
          exact tape_long hU (by omega) hX2 hc2
        · have h0 : d.toNat = 0 := by assumption
          have h1 : ¬ 0 < k := by assumption
          have h2 : (m : Int) ≤ most := by assumption
          have hU := HU.out
          rw [if_neg (by omega), if_pos (by omega), h0] at hU
          go_ret
          exact tape_ok hU (by omega) (by omega) (by rw [HR.out]; exact hX2) hc2
        · have h0 : ¬ d.toNat = 0 := by assumption
          have h1 : (d.toNat : Int) < 128 := by assumption
          have h2 : most < (m : Int) + (d.toNat : Int) % 128 * (U : Int) := by assumption
          have hU := HU.out
          rw [if_neg (by omega), if_pos (by omega)] at hU
          have e := HE.out
          rw [Nat.mod_eq_of_lt (by omega)] at e
          go_ret
          exact tape_long hU (by omega) hX2 hc2
        · have h0 : ¬ d.toNat = 0 := by assumption
          have h1 : (d.toNat : Int) < 128 := by assumption
          have h2 : (m : Int) + (d.toNat : Int) % 128 * (U : Int) ≤ most := by assumption
          have hU := HU.out
          rw [if_neg (by omega), if_pos (by omega)] at hU
          have e := HE.out
          rw [Nat.mod_eq_of_lt (by omega)] at e
          go_ret
          exact tape_ok hU (by omega) (by omega) (by rw [HR.out]; exact hX2) hc2
        · have h0 : ¬ d.toNat = 0 := by assumption
          have h1 : 128 ≤ (d.toNat : Int) := by assumption
          have hU := HU.out
          rw [if_neg (by omega), if_neg (by omega)] at hU
          have e := HE.out
          have e2 : d.toNat % 128 = d.toNat - 128 := by omega
          rw [e2] at e
          have hN := HN.out
          rw [e2] at hN
          go_roundw
          case rel => exact ⟨k + 1, m + (d.toNat - 128) * U, _, by omega, by omega, by go_num, congrArg (Value.int .i64) (by omega), rfl, fun h => unit_step HP.out h, hN, by rw [HR.out]; exact hX2, hc2, by rw [HR.out]; exact hid hU⟩
          case measure => simp [intOf]; omega
      · have hkl2 : k = l.length := by omega
        subst hkl2
        have HU := hid (HS.out.trans (numN_end l _ m h9 (Nat.le_refl _)))
        rw [List.drop_eq_nil_of_le (Nat.le_refl _)] at hXr
        have x0 := cell_blk hXr 0
        have x1 := cell_blk hXr 1
        have f1 := froz_blk hXr 1
        simp only [List.getElem?_toArray, List.getElem?_cons_zero, List.getElem?_cons_succ] at x0 x1
        clear HS
        go_wp2
        go_ret
        exact tapeBad_mk HU.out (by decide) hXr hc
    · have hk9 : k = 9 := by omega
      subst hk9
      have HU : Hid (numN 9 l 0 0 = (0, 0, 11)) := HS.out
      clear HS
      have x1 := cell_blk hXr 1
      have f1 := froz_blk hXr 1
      simp only [List.getElem?_toArray, List.getElem?_cons_zero, List.getElem?_cons_succ] at x1
      go_wp2
      go_ret
      exact tapeBad_mk HU.out (by decide) hXr hc

theorem str_take (l : List UInt8) (n : Nat) : (⟨l.toArray⟩ : ByteArray).extract 0 n = ⟨(l.take n).toArray⟩ := by
  apply ByteArray.ext
  simp [ByteArray.data_extract]

theorem str_drop (l : List UInt8) (n : Nat) : (⟨l.toArray⟩ : ByteArray).extract n l.length = ⟨(l.drop n).toArray⟩ := by
  apply ByteArray.ext
  simp [ByteArray.data_extract]
  rw [List.take_of_length_le (by simp)]

theorem errNum_max {l : List UInt8} : errNum l 9223372036854775807 = (numN 9 l 0 0).2.2 := by
  unfold errNum
  by_cases h : (numN 9 l 0 0).2.2 = 0
  · obtain ⟨_, _, h3⟩ := numN_ok h
    rw [if_pos h, if_neg (by omega), h]
  · rw [if_neg h]

theorem errText_bad {l : List UInt8} {most : Int} (h : errNum l 9223372036854775807 ≠ 0) : errText l most = errNum l 9223372036854775807 := by
  rw [errNum_max] at h ⊢
  unfold errText
  rw [if_neg h]

def TapeText (X : Nat) (l : List UInt8) (most : Int) (w : World) (e : Ending) (w' : World) : Prop :=
  (errText l most = 0 ∧ e = .returned (.string ⟨((l.drop (numN 9 l 0 0).2.1).take (numN 9 l 0 0).1).toArray⟩) ∧ TapeAt w' X (l.drop ((numN 9 l 0 0).2.1 + (numN 9 l 0 0).1)) 0 ∧ Chg (· = X) w w') ∨
  (errText l most ≠ 0 ∧ e = .returned (.string ⟨#[]⟩) ∧ TapeBad X (errText l most) w w')

set_option maxRecDepth 100000 in
set_option maxHeartbeats 1000000 in
theorem ttext_any (X : Nat) (l : List UInt8) (most : Int) (w : World) (hl : l.length ≤ 9223372036854775807) (hX : TapeAt w X l 0) :
    Calls Try.prog 77 #[.pointer (some ⟨X, 0, none⟩), .int .i64 most] w (TapeText X l most w) := by
  have hnum := tnum_any X l 9223372036854775807 w hl hX
  go_enter Try.func77, Try.ntmps77
  go_wp2_with fail
  refine hnum.mono ?_
  rintro e w1 h
  rcases h with ⟨he, rfl, hX1, hc1⟩ | ⟨he, rfl, ⟨l1, hX1⟩, hc1⟩
  · rw [errNum_max] at he
    obtain ⟨k1, k2, k3⟩ := numN_ok he
    have HE := hid he
    have HL : Hid ((l.drop (numN 9 l 0 0).2.1).length = l.length - (numN 9 l 0 0).2.1) := hid List.length_drop
    have HD : Hid ((l.drop (numN 9 l 0 0).2.1).drop (numN 9 l 0 0).1 = l.drop ((numN 9 l 0 0).2.1 + (numN 9 l 0 0).1)) := hid List.drop_drop
    have HT : Hid (TapeText X l most = TapeText X l most) := rfl
    have HU : Hid (errText l most = if most < ((numN 9 l 0 0).1 : Int) then 12 else if l.length - (numN 9 l 0 0).2.1 < (numN 9 l 0 0).1 then 10 else 0) := by
      unfold errText Hid
      rw [if_pos he]
    have hT : ∀ e w', ((errText l most = 0 ∧ e = .returned (.string ⟨((l.drop (numN 9 l 0 0).2.1).take (numN 9 l 0 0).1).toArray⟩) ∧ TapeAt w' X (l.drop ((numN 9 l 0 0).2.1 + (numN 9 l 0 0).1)) 0 ∧ Chg (· = X) w w') ∨
  (errText l most ≠ 0 ∧ e = .returned (.string ⟨#[]⟩) ∧ TapeBad X (errText l most) w w')) → TapeText X l most w e w' := fun _ _ h => h
    have HTT := hid hT
    clear he hT HE hX hnum
    generalize (numN 9 l 0 0).2.1 = k at *
    generalize (numN 9 l 0 0).1 = n at *
    generalize l.drop k = L at *
    have x0 := cell_blk hX1 0
    have x1 := cell_blk hX1 1
    have f0 := froz_blk hX1 0
    have f1 := froz_blk hX1 1
    simp only [List.getElem?_toArray, List.getElem?_cons_zero, List.getElem?_cons_succ] at x0 x1
    have hs1 := str_take L n
    have hs2 := str_drop L n
    by_cases h12 : most < (n : Int)
    · have hU := HU.out
      rw [if_pos h12] at hU
      go_wp2
      go_ret
      refine HTT.out _ _ (.inr ?_)
      rw [hU]
      exact ⟨by decide, rfl, ⟨_, set_blk hX1 1 (.int .i64 12)⟩, hc1.trans (setCell_chg w1 X 1 _) (fun _ _ h => h)⟩
    · by_cases h10 : L.length < n
      · have hU := HU.out
        rw [if_neg h12, if_pos (by rw [← HL.out]; exact h10)] at hU
        have HU2 := hid hU
        clear hU
        go_wp2
        go_ret
        refine HTT.out _ _ (.inr ?_)
        rw [HU2.out]
        exact ⟨by decide, rfl, ⟨_, set_blk hX1 1 (.int .i64 10)⟩, hc1.trans (setCell_chg w1 X 1 _) (fun _ _ h => h)⟩
      · have hU := HU.out
        rw [if_neg h12, if_neg (by rw [← HL.out]; exact h10)] at hU
        have HU2 := hid hU
        clear hU
        go_wp2
        go_ret
        refine HTT.out _ _ (.inl ⟨HU2.out, rfl, ?_, hc1.trans (setCell_chg w1 X 0 _) (fun _ _ h => h)⟩)
        rw [← HD.out]
        exact set_blk hX1 0 (.string ⟨(L.drop n).toArray⟩)
  · have x1 := cell_blk hX1 1
    simp only [List.getElem?_toArray, List.getElem?_cons_zero, List.getElem?_cons_succ] at x1
    have hne : ((errNum l 9223372036854775807 : Int) != 0) = true := by simpa using he
    go_wp2
    go_ret
    refine .inr ?_
    rw [errText_bad he]
    exact ⟨he, rfl, ⟨l1, hX1⟩, hc1⟩

/-- What the document's tape ends with. -/
def tapeEnd (l : List UInt8) (e : Int) : Int := endOf e l.length

set_option maxRecDepth 100000 in
theorem tend_any (X : Nat) (l : List UInt8) (e : Int) (w : World) (hX : TapeAt w X l e) :
    Calls Try.prog 25 #[.pointer (some ⟨X, 0, none⟩)] w fun en w' => en = .returned (.int .i64 (tapeEnd l e)) ∧ w = w' := by
  have x0 := cell_blk hX 0
  have x1 := cell_blk hX 1
  simp only [List.getElem?_toArray, List.getElem?_cons_zero, List.getElem?_cons_succ] at x0 x1
  unfold tapeEnd endOf
  by_cases he : e = 0
  · subst he
    cases l with
    | nil =>
      go_enter Try.func25, Try.ntmps25
      go_wp2
      go_ret
      exact ⟨rfl, rfl⟩
    | cons d l =>
      go_enter Try.func25, Try.ntmps25
      go_wp2
      go_ret
      exact ⟨rfl, rfl⟩
  · rw [if_neg he]
    have h1 : (e == 0) = false := by simpa using he
    go_enter Try.func25, Try.ntmps25
    go_wp2
    go_ret
    exact ⟨rfl, rfl⟩

end Go.Proofs.Ytmmkopdcbiiedaa

/- The contracts of the program's letter, sign and Right. -/
namespace Go.Proofs.Ytmmkopdcbiiedaa
open Go.RowKit

theorem letter_any (c : UInt8) (w : World) :
    Calls Try.prog 86 #[.int .u8 (c.toNat : Int)] w fun e w' => e = .returned (.bool (okFirst c)) ∧ w = w' := by
  by_cases h1 : 97 ≤ c.toNat
  · have d1 : decide ((97 : Int) ≤ (c.toNat : Int)) = true := by simp; omega
    by_cases h2 : c.toNat ≤ 122
    · have d2 : decide ((c.toNat : Int) ≤ 122) = true := by simp; omega
      have hx : Hid (okFirst c = true) := hid (by simp [okFirst, h1, h2])
      clear h1 h2
      go_enter Try.func86, Try.ntmps86
      go_wp2
      go_ret
      exact ⟨by rw [hx.out]; rfl, rfl⟩
    · have d2 : decide ((c.toNat : Int) ≤ 122) = false := by simp; omega
      have hx : Hid (okFirst c = false) := hid (by simp [okFirst, h1, h2])
      clear h1 h2
      go_enter Try.func86, Try.ntmps86
      go_wp2
      go_ret
      exact ⟨by rw [hx.out]; rfl, rfl⟩
  · have d1 : decide ((97 : Int) ≤ (c.toNat : Int)) = false := by simp; omega
    have hx : Hid (okFirst c = false) := hid (by simp [okFirst, h1])
    clear h1
    go_enter Try.func86, Try.ntmps86
    go_wp2
    go_ret
    exact ⟨by rw [hx.out]; rfl, rfl⟩

theorem sign_any (c : UInt8) (w : World) :
    Calls Try.prog 87 #[.int .u8 (c.toNat : Int)] w fun e w' => e = .returned (.bool (okByte c)) ∧ w = w' := by
  by_cases h0 : okFirst c = true
  · have hx : Hid (okByte c = true) := hid (by simp only [okFirst] at h0; simp [okByte, h0])
    go_enter Try.func87, Try.ntmps87
    go_wp2_with (go_at_call 86; refine (letter_any c _).mono ?_; rintro e w' ⟨rfl, rfl⟩; rw [h0])
    go_ret
    exact ⟨by rw [hx.out]; rfl, rfl⟩
  · have h0' : okFirst c = false := by simpa using h0
    have hb : okByte c = ((decide (48 ≤ c.toNat) && decide (c.toNat ≤ 57)) || decide (c.toNat = 45)) := by
      simp only [okFirst] at h0'
      simp only [okByte, h0', Bool.false_or]
    clear h0
    by_cases h1 : 48 ≤ c.toNat
    · have d1 : decide ((48 : Int) ≤ (c.toNat : Int)) = true := by simp; omega
      by_cases h2 : c.toNat ≤ 57
      · have d2 : decide ((c.toNat : Int) ≤ 57) = true := by simp; omega
        have hx : Hid (okByte c = true) := hid (by rw [hb]; simp [h1, h2])
        clear h1 h2 hb
        go_enter Try.func87, Try.ntmps87
        go_wp2_with (go_at_call 86; refine (letter_any c _).mono ?_; rintro e w' ⟨rfl, rfl⟩; rw [h0'])
        go_ret
        exact ⟨by rw [hx.out]; rfl, rfl⟩
      · have d2 : decide ((c.toNat : Int) ≤ 57) = false := by simp; omega
        have d3 : ((c.toNat : Int) == 45) = false := by simp; omega
        have hx : Hid (okByte c = false) := hid (by rw [hb]; simp; omega)
        clear h1 h2 hb
        go_enter Try.func87, Try.ntmps87
        go_wp2_with (go_at_call 86; refine (letter_any c _).mono ?_; rintro e w' ⟨rfl, rfl⟩; rw [h0'])
        go_ret
        exact ⟨by rw [hx.out]; rfl, rfl⟩
    · have d1 : decide ((48 : Int) ≤ (c.toNat : Int)) = false := by simp; omega
      by_cases h3 : c.toNat = 45
      · have d3 : ((c.toNat : Int) == 45) = true := by simp; omega
        have hx : Hid (okByte c = true) := hid (by rw [hb]; simp [h3])
        clear h1 h3 hb
        go_enter Try.func87, Try.ntmps87
        go_wp2_with (go_at_call 86; refine (letter_any c _).mono ?_; rintro e w' ⟨rfl, rfl⟩; rw [h0'])
        go_ret
        exact ⟨by rw [hx.out]; rfl, rfl⟩
      · have d3 : ((c.toNat : Int) == 45) = false := by simp; omega
        have hx : Hid (okByte c = false) := hid (by rw [hb]; simp; omega)
        clear h1 h3 hb
        go_enter Try.func87, Try.ntmps87
        go_wp2_with (go_at_call 86; refine (letter_any c _).mono ?_; rintro e w' ⟨rfl, rfl⟩; rw [h0'])
        go_ret
        exact ⟨by rw [hx.out]; rfl, rfl⟩

theorem right_any (l : List UInt8) (w : World) (hs : l.length ≤ 9223372036854775807) :
    Calls Try.prog 68 #[.string ⟨l.toArray⟩] w fun e w' => e = .returned (.bool (isName l)) ∧ w = w' := by
  have gx := ba_get l
  by_cases h0 : l.length < 1
  · have he : l = [] := List.eq_nil_of_length_eq_zero (by omega)
    subst he
    go_enter Try.func68, Try.ntmps68
    go_wp2
    go_ret
    exact ⟨rfl, rfl⟩
  · have hpos : 0 < l.length := by omega
    have d0 : decide ((l.length : Int) < 1) = false := by simp; omega
    have d00 : decide ((0 : Int) < (l.length : Int)) = true := by simp; omega
    clear h0
    by_cases h16 : 16 < l.length
    · have hx : Hid (isName l = false) := hid (isName_long h16)
      have d1 : decide (16 < (l.length : Int)) = true := by simp; omega
      go_enter Try.func68, Try.ntmps68
      go_wp2
      go_ret
      exact ⟨by rw [hx.out]; rfl, rfl⟩
    · have d1 : decide (16 < (l.length : Int)) = false := by simp; omega
      by_cases h1 : okFirst l[0] = true
      · have hx : Hid (isName l = l.all okByte) := hid (isName_all hpos h1 (by omega))
        go_enter Try.func68, Try.ntmps68
        go_wp2_with (go_at_call 86; refine (letter_any l[0] _).mono ?_; rintro e w' ⟨rfl, rfl⟩; rw [h1])
        clear d0 d1 d00
        go_loop [20] (fun i => ∃ k : Nat, k ≤ l.length ∧ i = .int .i64 k ∧ Hid ((l.take k).all okByte = true)) (fun i => l.length - (intOf i).toNat)
        case atStart => exact ⟨0, Nat.zero_le _, rfl, rfl⟩
        case round =>
          obtain ⟨k, hk, rfl, ha⟩ := hrel
          by_cases hlt : k < l.length
          · cases hok : okByte l[k] with
            | true =>
              have hn : Hid ((l.take (k + 1)).all okByte = true) := hid (by rw [all_take_succ _ k hlt ha.out, hok])
              clear ha
              go_wp2_with (go_at_call 87; refine (sign_any l[k] _).mono ?_; rintro e w' ⟨rfl, rfl⟩; rw [hok])
              go_round
              case rel => exact ⟨k + 1, by omega, by go_num, hn⟩
              case measure => simp [intOf]; omega
            | false =>
              have hn : Hid (l.all okByte = false) := hid (all_of_bad l k hlt hok)
              clear ha
              go_wp2_with (go_at_call 87; refine (sign_any l[k] _).mono ?_; rintro e w' ⟨rfl, rfl⟩; rw [hok])
              go_ret
              exact ⟨by rw [hx.out, hn.out]; rfl, rfl⟩
          · have hk2 : k = l.length := by omega
            subst hk2
            have hn : Hid (l.all okByte = true) := hid (by have := ha.out; rwa [List.take_of_length_le (Nat.le_refl _)] at this)
            go_wp2
            go_ret
            exact ⟨by rw [hx.out, hn.out]; rfl, rfl⟩
      · have h1' : okFirst l[0] = false := by simpa using h1
        have hx : Hid (isName l = false) := hid (isName_first hpos h1')
        go_enter Try.func68, Try.ntmps68
        go_wp2_with (go_at_call 86; refine (letter_any l[0] _).mono ?_; rintro e w' ⟨rfl, rfl⟩; rw [h1'])
        go_ret
        exact ⟨by rw [hx.out]; rfl, rfl⟩
end Go.Proofs.Ytmmkopdcbiiedaa

/- What the walks of layer 1 say of memory: a pen, a reader, bytes that can be read; which blocks a call may have turned. -/
namespace Go.Proofs.Ytmmkopdcbiiedaa
open Go.RowKit

/-- A reader, in the block R: is it open, the bytes that are left, the error. -/
def ReaderAt (w : World) (R : Nat) (op : Bool) (v : Value) (e : Int) : Prop :=
  w.heap[R]? = some (.cells #[.bool op, v, .int .i64 e] 95 (0, 0))

/-- A pen, in the block P: what it holds is the slice (ao, xs.length, cap), which owns the bytes xs in a row of a block from B on. -/
structure PenAt (B : Nat) (w : World) (P : Nat) (ao : Option Addr) (cap : Nat) (xs : List UInt8) : Prop where
  cell : w.heap[P]? = some (.cells #[.slice ao xs.length cap] 48 (0, 0))
  row : w.ownsRow B 5 1 (.slice ao xs.length cap) xs.length (xs.map cb)

def rowOf (ao : Option Addr) : Option Nat := ao.map (·.block)

/-- What a pen's call leaves of all else. -/
structure PChg (P : Nat) (ao : Option Addr) (w : World) (ao' : Option Addr) (w' : World) : Prop where
  chg : Chg (fun k => k = P ∨ rowOf ao = some k) w w'
  row : rowOf ao' = rowOf ao ∨ ∃ g, rowOf ao' = some g ∧ w.heap.size ≤ g

theorem PChg.refl (P : Nat) (ao : Option Addr) (w : World) : PChg P ao w ao w := ⟨Chg.refl _ _, .inl rfl⟩

theorem PChg.trans {P : Nat} {a b c : Option Addr} {u v w : World} (h : PChg P a u b v) (k : PChg P b v c w) : PChg P a u c w := by
  refine ⟨h.chg.trans k.chg ?_, ?_⟩
  · rintro i hi (e | e)
    · exact .inl e
    · rcases h.row with hr | ⟨g, hr, hg⟩
      · exact .inr (hr.symm.trans e)
      · rw [hr] at e
        cases e
        omega
  · rcases k.row with kr | ⟨g, kr, kg⟩
    · rcases h.row with hr | ⟨g, hr, hg⟩
      · exact .inl (kr.trans hr)
      · exact .inr ⟨g, kr.trans hr, hg⟩
    · exact .inr ⟨g, kr, Nat.le_trans h.chg.size kg⟩

theorem PenAt.keep {S : Nat → Prop} {B : Nat} {w w' : World} {P : Nat} {ao : Option Addr} {cap : Nat} {xs : List UInt8} (h : PenAt B w P ao cap xs) (hc : Chg S w w') (hP : ¬ S P) (hr : ∀ k, rowOf ao = some k → ¬ S k) : PenAt B w' P ao cap xs := by
  refine ⟨(hc.block P (lt_blk h.cell) hP).trans h.cell, h.row.1, ?_⟩
  rcases h.row.2 with hn | ⟨g, cap', cur, hv, hg, hh, r⟩
  · exact .inl hn
  · refine .inr ⟨g, cap', cur, hv, hg, ?_, r⟩
    have e : rowOf ao = some g := by
      cases hv
      rfl
    exact (hc.block g (lt_blk hh) (hr g e)).trans hh

/-- What the pen holds can be read. -/
theorem PenAt.bytes {B : Nat} {w : World} {P : Nat} {ao : Option Addr} {cap : Nat} {xs : List UInt8} (h : PenAt B w P ao cap xs) : BytesAt (fun k => rowOf ao = some k) w (.slice ao xs.length cap) xs := by
  rcases h.row.2 with ⟨hn, h0⟩ | ⟨g, cap', cur, hv, hg, hh, h1, h2, h3, h4⟩
  · have h1 := List.eq_nil_of_length_eq_zero h0
    subst h1
    exact .inl ⟨none, 0, hn, rfl, fun _ => rfl⟩
  · cases hv
    refine .inr ⟨g, 0, cap, rfl, h1, h2, rfl, fun i hi => ?_⟩
    have hcell := h.row.cells (g := g) rfl i (cb xs[i]) (by simp [hi])
    have e : ((⟨g, 0, none⟩ : Addr).add i) = ⟨g, 0 + i, none⟩ := by
      unfold Addr.add
      split <;> simp_all
    rw [e] at hcell
    exact hcell

end Go.Proofs.Ytmmkopdcbiiedaa
