/- Texts that the proof leans on, in one: RoleCut, PbNum, PbApp, Enters. -/
import Derived.Test.YtojbhlbknjnioaaGreatDoorPt14
import Derived.Test.YtojbhlbknjnioaaGreatDoorPt9
import Derived.Test.YtojbhlbknjnioaaGreatDoorPt7
import Derived.Lib.IndexLaws
import Derived.OwnWalk
import Derived.Test.YtojbhlbknjnioaaGreatDoorPt12
import Derived.Test.YtojbhlbknjnioaaGreatDoorPt2
import Derived.Test.YtojbhlbknjnioaaGreatDoorPt10
import Derived.Maps.AppendAt
import Derived.Test.YtojbhlbknjnioaaGreatDoorPt1
/- What strings.Cut answers at a full stop; which role a text is, by it. -/
namespace Go.Proofs.YtojbhlbknjnioaaGreatDoor
open Go.RowKit

theorem dot_iff (c : UInt8) : c.toNat = 46 ↔ c = 46 := by
  rw [← UInt8.toNat_inj]
  rfl

/-- The text ahead of the first full stop (all of it, without one), and the one behind. -/
def cutL (s : List UInt8) : List UInt8 × List UInt8 := (cutDot s).getD (s, [])

theorem cut_cases (s : List UInt8) : (Lib.indexByte s 46 = -1 ∧ cutDot s = none) ∨ ∃ k : Nat, k < s.length ∧ Lib.indexByte s 46 = k ∧ cutDot s = some (s.take k, s.drop (k + 1)) := by
  have hg := Lib.indexByte_ge s 46
  by_cases h : Lib.indexByte s 46 = -1
  · refine .inl ⟨h, cutDot_none s fun c hc e => ?_⟩
    obtain ⟨k, hk, hkc⟩ := List.getElem_of_mem hc
    exact Lib.indexByte_none h k (by rw [List.getElem?_eq_getElem hk, hkc, (dot_iff c).1 e])
  · obtain ⟨k, hk⟩ : ∃ k : Nat, Lib.indexByte s 46 = k := ⟨(Lib.indexByte s 46).toNat, by omega⟩
    obtain ⟨h1, h2⟩ := Lib.indexByte_some hk
    obtain ⟨hlt, he⟩ := List.getElem?_eq_some_iff.1 h1
    refine .inr ⟨k, hlt, hk, cutDot_at s k hlt (fun c hc e => ?_) (by rw [he]; rfl)⟩
    obtain ⟨j, hj, hjc⟩ := List.getElem_of_mem hc
    rw [List.length_take] at hj
    rw [List.getElem_take] at hjc
    exact h2 j (by omega) (by rw [List.getElem?_eq_getElem (by omega), hjc, (dot_iff c).1 e])

set_option maxRecDepth 100000 in
theorem litecut_dot (s : List UInt8) (w : World) (hs : s.length ≤ 9223372036854775806) :
    Calls Tryz.prog 106 #[.string ⟨s.toArray⟩, .string ⟨#[46]⟩] w fun e w' => e = .returned (.tuple #[.string ⟨(cutL s).1.toArray⟩, .string ⟨(cutL s).2.toArray⟩, .bool (cutDot s).isSome]) ∧ Chg (fun _ => False) w w' := by
  have e1 := Tryz.stringslite_Index_one ⟨s.toArray⟩ 46
  dsimp only at e1
  rcases cut_cases s with ⟨h, hc⟩ | ⟨k, hk, h, hc⟩
  · rw [cutL, hc]
    rw [h] at e1
    clear h hc
    go_enter Tryz.func106, Tryz.ntmps106
    go_wp2_with fail
    refine (e1 _).mono ?_
    rintro e w' ⟨rfl, rfl⟩
    go_wp2
    go_ret3
    exact ⟨rfl, Chg.refl _ _⟩
  · rw [cutL, hc]
    rw [h] at e1
    have st := str_take s k
    have sd := str_drop s (k + 1)
    have hlt2 : ((k : Int) + 1) ≤ (s.length : Int) := by omega
    have hle : ((k : Int)) ≤ (s.length : Int) := by omega
    clear h hc
    go_enter Tryz.func106, Tryz.ntmps106
    go_wp2_with fail
    refine (e1 _).mono ?_
    rintro e w' ⟨rfl, rfl⟩
    clear e1
    go_wp2
    go_region
    go_wp2
    go_ret3
    exact ⟨rfl, Chg.drew (Chg.refl _ _)⟩

theorem cut_dot (s : List UInt8) (w : World) (hs : s.length ≤ 9223372036854775806) :
    Calls Tryz.prog 94 #[.string ⟨s.toArray⟩, .string ⟨#[46]⟩] w fun e w' => e = .returned (.tuple #[.string ⟨(cutL s).1.toArray⟩, .string ⟨(cutL s).2.toArray⟩, .bool (cutDot s).isSome]) ∧ Chg (fun _ => False) w w' := by
  have e1 := litecut_dot s
  go_enter Tryz.func94, Tryz.ntmps94
  go_wp2_with fail
  refine (e1 _ hs).mono ?_
  rintro e w' ⟨rfl, hc⟩
  go_wp2
  go_ret3
  exact ⟨rfl, hc⟩

theorem cutL_len (s : List UInt8) : (cutL s).1.length ≤ s.length ∧ (cutL s).2.length ≤ s.length := by
  rcases cut_cases s with ⟨_, hc⟩ | ⟨k, hk, _, hc⟩
  · rw [cutL, hc]; exact ⟨Nat.le_refl _, Nat.zero_le _⟩
  · rw [cutL, hc]; simp; omega

set_option maxRecDepth 100000 in
set_option maxHeartbeats 1000000 in
theorem pparse (s : List UInt8) (w : World) (hs : s.length ≤ 1048576) : Calls Tryz.prog 83 #[.string ⟨s.toArray⟩] w (ParsePost s w) := by
  have hl := cutL_len s
  have hpar : Hid (parseR s = if isRole (cutL s) = true then some (cutL s) else none) := hid (by
    rw [parseR, cutL]
    cases h : cutDot s with
    | none =>
      have : isRole (s, []) = false := by simp [isRole, isName]
      simp [this]
    | some p => simp)
  have hc0 : Chg (fun _ => False) w (w.alloc (.cells #[.string ⟨#[]⟩, .string ⟨#[]⟩] 23)) := (Chg.refl _ w).alloc _
  have hC := heap_alloc_new w (.cells #[.string ⟨#[]⟩, .string ⟨#[]⟩] 23)
  have hcut := cut_dot s (w.alloc (.cells #[.string ⟨#[]⟩, .string ⟨#[]⟩] 23)) (by omega)
  have HH := hid (And.intro hcut (And.intro hc0 hC))
  clear hcut hc0 hC
  go_enter Tryz.func83, Tryz.ntmps83
  go_wp2_with fail
  obtain ⟨hcut, hc0, hC⟩ := HH.out
  clear HH
  generalize w.alloc (.cells #[.string ⟨#[]⟩, .string ⟨#[]⟩] 23) = w1 at *
  generalize hCC : w.heap.size = C at *
  refine hcut.mono ?_
  rintro e w2 ⟨rfl, hc12⟩
  have hC2 := blk_keep hC hc12 id
  have hcw2 := hc0.trans hc12 (fun _ _ h => h)
  clear hcut hC hc0 hc12
  generalize (cutDot s).isSome = ok at *
  generalize cutL s = p at *
  obtain ⟨o, x⟩ := p
  dsimp only at hl ⊢
  have q0 := cell_blk hC2 0
  have q1 := cell_blk hC2 1
  have f0 := froz_blk hC2 0
  have f1 := froz_blk hC2 1
  simp only [List.getElem?_toArray, List.getElem?_cons_zero, List.getElem?_cons_succ] at q0 q1
  have hB := heap_alloc_new w2 (.cells #[.string ⟨o.toArray⟩, .string ⟨x.toArray⟩] 23)
  have hc23 : Chg (fun _ => False) w2 (w2.alloc (.cells #[.string ⟨o.toArray⟩, .string ⟨x.toArray⟩] 23)) := (Chg.refl _ w2).alloc _
  have hC3 := blk_keep hC2 hc23 id
  have hcw3 := hcw2.trans hc23 (fun _ _ h => h)
  have hCB : C < w2.heap.size := lt_blk hC2
  clear hc23
  have hr3 := pright (o, x) (w2.alloc (.cells #[.string ⟨o.toArray⟩, .string ⟨x.toArray⟩] 23)) (show o.length ≤ _ by omega) (show x.length ≤ _ by omega)
  clear hC2 hcw2
  have HH := hid (And.intro hr3 (And.intro hB (And.intro hC3 hcw3)))
  clear hr3 hB hC3 hcw3
  go_wp2_with fail
  obtain ⟨hr3, hB, hC3, hcw3⟩ := HH.out
  clear HH q0 q1 f0 f1
  generalize w2.alloc (.cells #[.string ⟨o.toArray⟩, .string ⟨x.toArray⟩] 23) = w3 at *
  generalize w2.heap.size = B at *
  refine hr3.mono ?_
  rintro e w4 ⟨rfl, hc4⟩
  have hC4 := blk_keep hC3 hc4 id
  have hB4 := blk_keep hB hc4 id
  have hcw4 := hcw3.trans hc4 (fun _ _ h => h)
  clear hr3 hB hC3 hcw3 hc4
  have b0 := cell_blk hB4 0
  have b1 := cell_blk hB4 1
  have q0 := cell_blk hC4 0
  have q1 := cell_blk hC4 1
  have f0 := froz_blk hC4 0
  have f1 := froz_blk hC4 1
  simp only [List.getElem?_toArray, List.getElem?_cons_zero, List.getElem?_cons_succ] at b0 b1 q0 q1
  cases hr : isRole (o, x) with
  | true =>
    have hp : Hid (parseR s = some (o, x)) := hid (by rw [hpar.out]; simp [hr])
    have hD : ((w4.setCell ⟨C, 0, none⟩ (.string ⟨o.toArray⟩)).setCell ⟨C, 1, none⟩ (.string ⟨x.toArray⟩)).heap[C]? = some (.cells #[.string ⟨o.toArray⟩, .string ⟨x.toArray⟩] 23 (0, 0)) := set_blk (set_blk hC4 0 (.string ⟨o.toArray⟩)) 1 (.string ⟨x.toArray⟩)
    have hch : Chg (fun _ => False) w ((w4.setCell ⟨C, 0, none⟩ (.string ⟨o.toArray⟩)).setCell ⟨C, 1, none⟩ (.string ⟨x.toArray⟩)) := (hcw4.trans (setCell_chg w4 C 0 _) (fun i hi h => by omega)).trans (setCell_chg _ C 1 _) (fun i hi h => by omega)
    have HH := hid (And.intro hD hch)
    clear hD hch hcw4 hC4 hB4 hpar
    go_wp2
    refine bodyPost_ret (results_row_tmp rfl _ _ C _ rfl (run_loadVar_row (P := Tryz.prog) _ C 23 23 _ (0, 0) _ HH.out.1 Tryz.underlying23 rfl (by kernel_rfl))) rfl ?_
    exact ⟨by rw [hp.out]; rfl, HH.out.2⟩
  | false =>
    have hp : Hid (parseR s = none) := hid (by rw [hpar.out]; simp [hr])
    have hD : ((w4.setCell ⟨C, 0, none⟩ (.string ⟨#[]⟩)).setCell ⟨C, 1, none⟩ (.string ⟨#[]⟩)).heap[C]? = some (.cells #[.string ⟨#[]⟩, .string ⟨#[]⟩] 23 (0, 0)) := set_blk (set_blk hC4 0 (.string ⟨#[]⟩)) 1 (.string ⟨#[]⟩)
    have hch : Chg (fun _ => False) w ((w4.setCell ⟨C, 0, none⟩ (.string ⟨#[]⟩)).setCell ⟨C, 1, none⟩ (.string ⟨#[]⟩)) := (hcw4.trans (setCell_chg w4 C 0 _) (fun i hi h => by omega)).trans (setCell_chg _ C 1 _) (fun i hi h => by omega)
    have HH := hid (And.intro hD hch)
    clear hD hch hcw4 hC4 hB4 hpar
    go_wp2
    refine bodyPost_ret (results_row_tmp rfl _ _ C _ rfl (run_loadVar_row (P := Tryz.prog) _ C 23 23 _ (0, 0) _ HH.out.1 Tryz.underlying23 rfl (by kernel_rfl))) rfl ?_
    exact ⟨by rw [hp.out]; rfl, HH.out.2⟩
end Go.Proofs.YtojbhlbknjnioaaGreatDoor

/- parse.number, parse.atom. -/
namespace Go.Proofs.YtojbhlbknjnioaaGreatDoor
open Go.RowKit

/-- strconv's two errors lie where they were laid. -/
structure VarsAt (w : World) : Prop where
  a : ∃ ev, w.cell? ⟨4, 0, none⟩ = some ev ∧ (ev = .nilIface ∨ ∃ te pe, ev = .iface te pe)
  b : ∃ ev, w.cell? ⟨5, 0, none⟩ = some ev ∧ (ev = .nilIface ∨ ∃ te pe, ev = .iface te pe)
/-- No variable's block. -/
def OffV (S : Nat → Prop) : Prop := ¬ S 4 ∧ ¬ S 5
theorem VarsAt.keep {S : Nat → Prop} {w w' : World} (h : VarsAt w) (hc : Chg S w w') (hS : OffV S) : VarsAt w' := by
  obtain ⟨⟨e1, a1, a2⟩, e2, b1, b2⟩ := h
  exact ⟨⟨e1, hc.cell a1 hS.1, a2⟩, e2, hc.cell b1 hS.2, b2⟩

/-- How strconv.Atoi ends: a number, or an error. -/
theorem patoi (k : Tok) (hl : k.length ≤ 2048) (w : World) (hv : VarsAt w) :
    Calls Tryz.prog 82 #[.string ⟨k.toArray⟩] w fun e w' => Chg (fun _ => False) w w' ∧ ((∃ v, Lib.atoiAll k = .ok v ∧ e = .returned (.tuple #[.int .i64 v, .nilIface])) ∨ ((∀ v, Lib.atoiAll k ≠ .ok v) ∧ ∃ x T p, e = .returned (.tuple #[.int .i64 x, .iface T (.pointer (some p))]))) := by
  obtain ⟨⟨e1, a1, a2⟩, e2, b1, b2⟩ := hv
  cases h : Lib.atoiAll k with
  | ok v =>
    refine (Tryz.strconv_Atoi_ok ⟨k.toArray⟩ (by simp [ByteArray.size]; omega) v (by simpa using h) w).mono ?_
    rintro e w' ⟨rfl, hw⟩
    refine ⟨?_, .inl ⟨v, rfl, rfl⟩⟩
    rcases hw with rfl | ⟨t, rfl⟩
    · exact Chg.refl _ _
    · exact chg_of_below (Lib.bytesWorld_below _ _ _)
  | «syntax» =>
    refine (Tryz.strconv_Atoi_syntax ⟨k.toArray⟩ (by simp [ByteArray.size]; omega) (by simpa using h) e1 w a1 a2).mono ?_
    rintro e w' ⟨N, rfl, _, _, hb⟩
    exact ⟨chg_of_below hb, .inr ⟨fun v e => (by cases e), _, _, _, rfl⟩⟩
  | range =>
    refine (Tryz.strconv_Atoi_range ⟨k.toArray⟩ (by simp [ByteArray.size]; omega) (by simpa using h) e2 w b1 b2).mono ?_
    rintro e w' ⟨N, rfl, _, _, hb⟩
    exact ⟨chg_of_below hb, .inr ⟨fun v e => (by cases e), _, _, _, rfl⟩⟩

def NumE (k : Tok) (e : Ending) : Prop := match numW k with | some x => e = .returned (.int .i64 x) | none => FaultE e
theorem NumE.no {k : Tok} {e : Ending} (h : numW k = none) (he : FaultE e) : NumE k e := by unfold NumE; rw [h]; exact he
theorem NumE.yes {k : Tok} {e : Ending} {x : Int} (h : numW k = some x) (he : e = .returned (.int .i64 x)) : NumE k e := by unfold NumE; rw [h]; exact he
def AtomE (k : Tok) (e : Ending) : Prop := match parseR k with | some r => e = .returned (.agg #[.int .i64 1, .int .i64 0, .string ⟨r.1.toArray⟩, .string ⟨r.2.toArray⟩, .slice none 0 0]) | none => FaultE e
theorem AtomE.no {k : Tok} {e : Ending} (h : parseR k = none) (he : FaultE e) : AtomE k e := by unfold AtomE; rw [h]; exact he
theorem AtomE.yes {k : Tok} {e : Ending} {r : RoleB} (h : parseR k = some r) (he : e = .returned (.agg #[.int .i64 1, .int .i64 0, .string ⟨r.1.toArray⟩, .string ⟨r.2.toArray⟩, .slice none 0 0])) : AtomE k e := by unfold AtomE; rw [h]; exact he

set_option maxRecDepth 100000 in
set_option maxHeartbeats 1000000 in
theorem pnumber (k : Tok) (hl : k.length ≤ 2048) (w : World) (hv : VarsAt w) :
    Calls Tryz.prog 73 #[.string ⟨k.toArray⟩] w fun e w' => NumE k e ∧ Chg (fun _ => False) w w' := by
  have HA := hid (patoi k hl w hv)
  clear hv
  go_enter Tryz.func73, Tryz.ntmps73
  go_wp2_with fail
  refine HA.out.mono ?_
  rintro e w1 ⟨hc1, ⟨v, h1, rfl⟩ | ⟨h1, x, T, p, rfl⟩⟩
  · by_cases h0 : v < 0
    · have HM := hid (num_no (k := k) (fun u hu => by rw [h1] at hu; injection hu with hu; omega))
      have z := decide_eq_true h0
      have HE := hid hc1
      clear hc1 HA h1
      go_wp2
      exact ⟨rfl, .no HM.out rfl, HE.out⟩
    · have z := decide_eq_false h0
      by_cases h9 : 99 < v
      · have HM := hid (num_no (k := k) (fun u hu => by rw [h1] at hu; injection hu with hu; omega))
        have z2 := decide_eq_true h9
        have HE := hid hc1
        clear hc1 HA h1
        go_wp2
        exact ⟨rfl, .no HM.out rfl, HE.out⟩
      · have z2 := decide_eq_false h9
        have hm := num_ok h1 (by omega) (by omega)
        obtain ⟨m, rfl⟩ : ∃ m : Nat, v = (m : Int) := ⟨v.toNat, by omega⟩
        rw [Int.toNat_natCast] at hm
        have HI := hid (Tryz.strconv_Itoa_small m (by omega) w1)
        have HE := hid hc1
        clear hc1 HA h1 h0 h9
        go_wp2_with fail
        refine HI.out.mono ?_
        rintro e w2 ⟨rfl, rfl⟩
        clear HI
        by_cases hd : Lib.decDigits m = k
        · rw [if_pos hd] at hm
          have HM := hid hm
          clear hm
          have z3 : (Lib.decDigits m == k) = true := by simpa using hd
          clear hd
          go_wp2
          go_ret
          exact ⟨.yes HM.out rfl, HE.out⟩
        · rw [if_neg hd] at hm
          have HM := hid hm
          clear hm
          have z3 : (Lib.decDigits m == k) = false := by simpa using hd
          clear hd
          go_wp2
          exact ⟨rfl, .no HM.out rfl, HE.out⟩
  · have HM := hid (num_no (k := k) (fun u hu => absurd hu (h1 u)))
    have HE := hid hc1
    clear hc1 HA h1
    go_wp2
    exact ⟨rfl, .no HM.out rfl, HE.out⟩

theorem st5 {w : World} {Z : Nat} {x0 x1 x2 x3 x4 : Value} {T : TypeId} (hz : w.heap[Z]? = some (.cells #[x0, x1, x2, x3, x4] T (0, 0))) (a0 a1 a2 a3 a4 : Value) :
    (((((w.setCell ⟨Z, 0, none⟩ a0).setCell ⟨Z, 1, none⟩ a1).setCell ⟨Z, 2, none⟩ a2).setCell ⟨Z, 3, none⟩ a3).setCell ⟨Z, 4, none⟩ a4).heap[Z]? = some (.cells #[a0, a1, a2, a3, a4] T (0, 0)) ∧
    Chg (· = Z) w (((((w.setCell ⟨Z, 0, none⟩ a0).setCell ⟨Z, 1, none⟩ a1).setCell ⟨Z, 2, none⟩ a2).setCell ⟨Z, 3, none⟩ a3).setCell ⟨Z, 4, none⟩ a4) := by
  refine ⟨?_, ((((setCell_chg w Z 0 a0).trans (setCell_chg _ Z 1 a1) (fun _ _ h => h)).trans (setCell_chg _ Z 2 a2) (fun _ _ h => h)).trans (setCell_chg _ Z 3 a3) (fun _ _ h => h)).trans (setCell_chg _ Z 4 a4) (fun _ _ h => h)⟩
  have h0 := set_blk hz 0 a0
  have h1 := set_blk h0 1 a1
  have h2 := set_blk h1 2 a2
  have h3 := set_blk h2 3 a3
  have h4 := set_blk h3 4 a4
  simpa using h4

set_option maxRecDepth 100000 in
set_option maxHeartbeats 1000000 in
theorem patom (k : Tok) (hl : k.length ≤ 2048) (w : World) :
    Calls Tryz.prog 74 #[.string ⟨k.toArray⟩] w fun e w' => AtomE k e ∧ Chg (fun _ => False) w w' := by
  have hcA : Chg (fun _ => False) w (w.alloc (.cells #[.int .i64 0, .int .i64 0, .string ⟨#[]⟩, .string ⟨#[]⟩, .slice none 0 0] 26)) := (Chg.refl _ w).alloc _
  have hZ := heap_alloc_new w (.cells #[.int .i64 0, .int .i64 0, .string ⟨#[]⟩, .string ⟨#[]⟩, .slice none 0 0] 26)
  have HP := hid (pparse k (w.alloc (.cells #[.int .i64 0, .int .i64 0, .string ⟨#[]⟩, .string ⟨#[]⟩, .slice none 0 0] 26)) (by omega))
  have HC := hid hcA
  have HZ := hid hZ
  clear hcA hZ
  go_enter Tryz.func74, Tryz.ntmps74
  go_wp2_with fail
  refine HP.out.mono ?_
  rintro e w1 ⟨rfl, hc1⟩
  have hc2 := HC.out.trans hc1 (fun _ _ h => h)
  have hZ1 := blk_keep HZ.out hc1 id
  clear hc1 HP HC HZ
  cases hr : parseR k with
  | none =>
    simp only [Option.getD_none, Option.isSome_none]
    have HM := hid hr
    have HE := hid (And.intro hc2 hZ1)
    clear hc2 hZ1 hr
    unfold roleV noRole
    go_wp2
    exact ⟨rfl, .no HM.out rfl, HE.out.1.alloc _⟩
  | some r =>
    simp only [Option.getD_some, Option.isSome_some]
    have HM := hid hr
    have HE := hid (And.intro hc2 hZ1)
    have hal : Chg (fun _ => False) w1 (w1.alloc (.cells #[.string ⟨r.1.toArray⟩, .string ⟨r.2.toArray⟩] 23)) := (Chg.refl _ w1).alloc _
    have hZ2 := blk_keep hZ1 hal id
    have r0 := cell_blk hZ2 0
    have r1 := cell_blk hZ2 1
    have r2 := cell_blk hZ2 2
    have r3 := cell_blk hZ2 3
    have r4 := cell_blk hZ2 4
    have g0 := froz_blk hZ2 0
    have g1 := froz_blk hZ2 1
    have g2 := froz_blk hZ2 2
    have g3 := froz_blk hZ2 3
    have g4 := froz_blk hZ2 4
    simp only [List.getElem?_toArray, List.getElem?_cons_zero, List.getElem?_cons_succ] at r0 r1 r2 r3 r4
    have HZ2 := hid (And.intro hZ2 (hc2.trans hal (fun _ _ h => h)))
    clear hc2 hr hal hZ2 hZ1
    unfold roleV
    go_wp2
    obtain ⟨hend, hcz⟩ := st5 HZ2.out.1 (.int .i64 1) (.int .i64 0) (.string ⟨r.1.toArray⟩) (.string ⟨r.2.toArray⟩) (.slice none 0 0)
    refine bodyPost_ret (results_cell_row (P := Tryz.prog) rfl _ _ w.heap.size 26 _ (0, 0) _ rfl hend Tryz.underlying26 rfl (by kernel_rfl)) rfl ?_
    exact ⟨.yes HM.out rfl, HZ2.out.2.trans (hcz.mono (T := fun k => k = w.heap.size) (fun _ _ h => h)) (fun i hi e => by have : i = w.heap.size := e; omega)⟩
end Go.Proofs.YtojbhlbknjnioaaGreatDoor

/- Rows of formulas of the call's own: one, and one more. -/
namespace Go.Proofs.YtojbhlbknjnioaaGreatDoor
open Go.RowKit

theorem Tryz.underlying24b : Tryz.prog.underlying 24 = some (.slice 26) := by kernel_rfl
theorem wpList_append_runb {P : Program} {w w' : World} {ops : Array Oper} {rest : List Oper} {o : Oper} {a : Act} {Q : Exit → Act → World → Prop} (hgd : o.guard = none) (s x : Operand) (t : TypeId)
    (ho : o.op = .call { callee := .builtin .append, args := #[s, x], argTypes := #[t, t] }) {v y v' : Value} (hs : a.eval s = v) (hx : a.eval x = y) (hr : (Builtin.append_ #[t, t] o.type #[v, y]).run P w = .ok v' w')
    (h : wpList P ops Q rest (a.put o.dst v') w') : wpList P ops Q (o :: rest) a w := by
  refine wpList_plain hgd fun K hK => ?_
  unfold Oper.wp execOp
  simp only [ho, resolve, invoke, builtin, Sem.run_bind, Sem.run_pure, Result.andThen_ok, List.map_toArray, List.map_cons, List.map_nil, hs, hx, hr]
  exact hK _ _ h

/-- One formula more in a row of the call's own. -/
theorem run_append_fmb {B : Nat} {w : World} {v : Value} {ts : List AT} {t : AT} (ty : TypeId) (hown : w.ownsRow B 26 5 v ts.length (rowA ts)) {b : Nat} (hb : w.heap[b]? = some (.cells (cellsA t).toArray 26 (0, 0))) (h1 : t.v.oneCell' = true) (hlen : ts.length ≤ 1048576) (hB : B ≤ w.heap.size) :
    ∃ v' w', (Builtin.append_ #[24, 24] ty #[v, .slice (some ⟨b, 0, none⟩) 1 1]).run Tryz.prog w = .ok v' w' ∧ w'.ownsRow B 26 5 v' (ts ++ [t]).length (rowA (ts ++ [t])) ∧ Chg (fun k => v.ownBlock = some k) w w' ∧ (v'.ownBlock = v.ownBlock ∨ v'.ownBlock = some w.heap.size) := by
  obtain ⟨i0, hi, hz0, hz1, hz2⟩ := info_parts Tryz.info26
  obtain ⟨v', w', k1, k2, k3, k4⟩ := run_append_own_at (P := Tryz.prog) w B 24 ty 26 i0 (.agg #[.int .i64 0, .int .i64 0, .string ⟨#[]⟩, .string ⟨#[]⟩, .slice none 0 0]) 5 72 Tryz.underlying24b hi hz0 hz1 hz2 rfl (by decide) v _ _ hown ⟨b, 0, none⟩ 1 1 (cellsA t) rfl
    (fun j u hj => by
      have h := cell_blk hb j
      rw [List.getElem?_toArray, hj] at h
      rw [add_off, Nat.zero_add]
      exact h) (fun u hu => by
      simp only [cellsA, List.mem_cons, List.not_mem_nil, or_false] at hu
      rcases hu with rfl | rfl | rfl | rfl | rfl
      · rfl
      · rfl
      · rfl
      · rfl
      · exact h1) (by unfold maxLen; omega) (by omega) hB
  exact ⟨v', w', k1, by rw [List.length_append, List.length_singleton, rowA_snoc]; exact k2, (Chg.refl _ w).grown k3 fun k e _ => e, k4.2⟩

/-- A row of formulas of the call's own. -/
structure OwnRw (B : Nat) (w : World) (v : Value) (ts : List AT) : Prop where
  row : w.ownsRow B 26 5 v ts.length (rowA ts)
  own : OwnL B w ts
  nd : (v.ownBlock.toList ++ blksL ts).Nodup
theorem OwnRw.nil (B : Nat) (w : World) : OwnRw B w (.slice none 0 0) [] := ⟨World.ownsRow_nil _ _ _ _, trivial, by simp [Value.ownBlock, blksL]⟩
theorem OwnRw.keep {S : Nat → Prop} {B : Nat} {w w' : World} {v : Value} {ts : List AT} (h : OwnRw B w v ts) (hc : Chg S w w') (hS : ∀ k, B ≤ k → k < w.heap.size → ¬ S k) : OwnRw B w' v ts :=
  ⟨ownsRow_keep h.row hc (fun k hk => hS k (h.row.lt k hk).1 (h.row.lt k hk).2), ownL_keep hc h.own (fun k hk => hS k (ownL_lt h.own k hk).1 (ownL_lt h.own k hk).2), h.nd⟩
theorem OwnRw.low {A B : Nat} {w : World} {v : Value} {ts : List AT} (h : OwnRw B w v ts) (hA : A ≤ B) : OwnRw A w v ts := ⟨ownsRow_lowK h.row hA, ownL_low hA h.own, h.nd⟩
/-- A formula whose row of Kids it is. -/
theorem OwnRw.fm {B : Nat} {w : World} {v : Value} {ts : List AT} (h : OwnRw B w v ts) (op k : Int) : OwnA B w (.mk op k ([], []) v ts) ∧ (blksA (.mk op k ([], []) v ts)).Nodup := by
  refine ⟨?_, h.nd⟩
  rw [ownA_eq]
  exact ⟨⟨by simp [AT.r], by simp [AT.r]⟩, h.row, h.own⟩
theorem own_one {t : AT} {B : Nat} {w : World} (h : OwnA B w t) : t.v.oneCell' = true := by
  obtain ⟨ao, cp, hv, _⟩ := own_fms h
  rw [hv]
  rfl
theorem OwnRw.one {B : Nat} {w : World} {t : AT} (hB : B ≤ w.heap.size) (h : OwnA B w t) (hnd : (blksA t).Nodup) : OwnRw B (w.alloc (.cells (cellsA t).toArray 26)) (.slice (some ⟨w.heap.size, 0, none⟩) 1 1) [t] := by
  have hal : Chg (fun _ => False) w (w.alloc (.cells (cellsA t).toArray 26)) := (Chg.refl _ w).alloc _
  have hr : rowA [t] = cellsA t := by simp [rowA]
  have hlt := ownA_lt t h
  refine ⟨⟨by rw [hr]; rfl, .inr ⟨w.heap.size, 1, (cellsA t).toArray, rfl, hB, heap_alloc_new w _, Nat.le_refl _, by unfold maxLen; omega, rfl, by rw [hr]; rfl⟩⟩, ⟨ownA_keep hal t h (fun _ _ => id), trivial⟩, ?_⟩
  have e : blksL [t] = blksA t := by rw [blksL_flat]; simp
  rw [e]
  refine List.nodup_append.2 ⟨by simp [Value.ownBlock], hnd, fun a ha b hb e => ?_⟩
  have ha2 : a = w.heap.size := by simpa [Value.ownBlock] using ha
  have := (hlt b hb).2
  omega
theorem OwnRw.app {B : Nat} {w w' : World} {v v' : Value} {ts : List AT} {t : AT} (h : OwnRw B w v ts) {B1 : Nat} (hB1 : B ≤ B1 ∧ (∀ k, v.ownBlock = some k → k < B1) ∧ ∀ k ∈ blksL ts, k < B1) (ht : OwnA B1 w t) (hnd : (blksA t).Nodup) (hrow : w'.ownsRow B 26 5 v' (ts ++ [t]).length (rowA (ts ++ [t]))) (hc : Chg (fun k => v.ownBlock = some k) w w') (hv : v'.ownBlock = v.ownBlock ∨ v'.ownBlock = some w.heap.size) : OwnRw B w' v' (ts ++ [t]) := by
  have hnd0 := List.nodup_append.1 h.nd
  have hts : ∀ k ∈ blksL ts, ¬ v.ownBlock = some k := fun k hk e => hnd0.2.2 k (by simp [e]) k hk rfl
  have htl := ownA_lt t ht
  have l5 := ownL_lt h.own
  have htn : ∀ k ∈ blksA t, ¬ v.ownBlock = some k := fun k hk e => by have := (htl k hk).1; have := hB1.2.1 k e; omega
  have ebl : blksL (ts ++ [t]) = blksL ts ++ blksA t := by rw [blksL_flat, blksL_flat, List.flatMap_append]; simp
  refine ⟨hrow, ?_, ?_⟩
  · refine (ownL_all _ _ _).2 fun s hs => ?_
    rcases List.mem_append.1 hs with hs | hs
    · exact (ownL_all _ _ _).1 (ownL_keep hc h.own hts) s hs
    · rw [List.mem_singleton.1 hs]
      exact ownA_low hB1.1 t (ownA_keep hc t ht htn)
  · rw [ebl, List.nodup_append]
    have hdis : ∀ a ∈ blksL ts, ∀ b ∈ blksA t, a ≠ b := fun a ha b hb2 e => by have := hB1.2.2 a ha; have := (htl b hb2).1; omega
    refine ⟨by cases v'.ownBlock <;> simp, List.nodup_append.2 ⟨hnd0.2.1, hnd, hdis⟩, fun a ha b hb2 e => ?_⟩
    have ha2 : v'.ownBlock = some a := by simpa using ha
    subst e
    rcases hv with hv | hv
    · rw [hv] at ha2
      rcases List.mem_append.1 hb2 with h2 | h2
      · exact hts a h2 ha2
      · exact htn a h2 ha2
    · rw [hv] at ha2
      cases ha2
      rcases List.mem_append.1 hb2 with h2 | h2
      · have := (l5 _ h2).2; omega
      · have := (htl _ h2).2; omega
end Go.Proofs.YtojbhlbknjnioaaGreatDoor

/- Functions that are values. -/
namespace Go.Proofs.YtojbhlbknjnioaaGreatDoor
open Go.RowKit

/-- A function with a body is entered. -/
theorem enters {K : Nat} {fn : Func} (hf : Tryz.prog.funcs[K]? = some fn) (hn : (fn.name == "runtime.NumGoroutine") = false) (hb : fn.body.isNone = false) (args : Array Value) (w : World) :
    (callFunc K args).run Tryz.prog w = .ok (.enter K args) w := by
  have h1 : fn.name ≠ "runtime.NumGoroutine" := by simpa using hn
  have h2 : fn.body ≠ none := by
    intro h
    rw [h] at hb
    simp at hb
  unfold callFunc
  simp [program, Sem.run, hf, h1, h2]

end Go.Proofs.YtojbhlbknjnioaaGreatDoor
