/- Texts that the proof leans on, in one: PcList, RefRoleParse, PcOneA. -/
import Derived.Test.YtojbhlbknjnioaaGreatDoorPt19
import Derived.Test.YtojbhlbknjnioaaGreatDoorPt9
/- The document's reader of layer 12: list. -/
namespace Go.Proofs.YtojbhlbknjnioaaGreatDoor
open Go.RowKit

theorem list_no {σ : Option (List Tok)} (h : σ.bind (hasT [40]) = none) : σ.bind listG = none := by
  cases σ with
  | none => rfl
  | some ts =>
    simp only [Option.bind_some] at h ⊢
    rw [listG_eq, bracketP, h]
theorem list_nil {σ : Option (List Tok)} {r r2 : List Tok} (h : σ.bind (hasT [40]) = some r) (h2 : (some r).bind (hasT [41]) = some r2) : σ.bind listG = some ([], r2) := by
  cases σ with
  | none => cases h
  | some ts =>
    simp only [Option.bind_some] at h h2 ⊢
    rw [listG_eq, bracketP, h]
    simp only [h2]
theorem list_end {σ σr : Option (List Tok)} {r : List Tok} {us : List AT} (h : σ.bind (hasT [40]) = some r) (h2 : (some r).bind (hasT [41]) = none) (hpi : PI anyG manyG (some r) us σr) (hno : σr.bind (hasT [44]) = none) : (∀ p, σ.bind listG = some p → eraseL us = p.1) ∧ (σ.bind listG).map Prod.snd = σr.bind (hasT [41]) := by
  have he := pi_end manyG_eq hpi hno
  cases σ with
  | none => cases h
  | some ts =>
    simp only [Option.bind_some] at h h2 he ⊢
    rw [listG_eq, bracket_parts anyG manyG h h2, he]
    cases σr with
    | none => exact ⟨fun p hp => (by cases hp), rfl⟩
    | some rest =>
      simp only [Option.map_some, Option.bind_some]
      cases hasT [41] rest with
      | none => exact ⟨fun p hp => (by cases hp), rfl⟩
      | some r3 => exact ⟨fun p hp => (by cases hp; rfl), rfl⟩
theorem any_lt (ts : List Tok) (f : FmB) (r : List Tok) (h : anyG ts = some (f, r)) : r.length < ts.length := by
  have := any_len h
  have := nodesF_pos f
  omega

set_option maxRecDepth 100000 in
set_option maxHeartbeats 4000000 in
theorem rlist (D : Nat → Prop) (R N : Nat) (hN : N ≤ 4096) (hp : ∀ M, M < N → PartS D 23 R M anyG) : ListS D R N := by
  intro σ w hts hrd
  have hRl := hrd.lt
  have HM := hid (rmust D R σ [40] w hrd)
  have HP := hid hp
  clear hrd hp
  go_enter Tryz.func62, Tryz.ntmps62
  go_wp2_with fail
  refine HM.out.mono ?_
  rintro e w1 ⟨rfl, hrd1, hc1⟩
  obtain ⟨s1, g1⟩ := hrd1.cell1
  cases hs1 : σ.bind (hasT [40]) with
  | none =>
    rw [hs1] at hrd1 s1
    have s1 : w1.cell? ⟨R, 1, none⟩ = some (.bool true) := s1
    have HX := hid (And.intro hrd1 (And.intro hc1 (list_no hs1)))
    clear hrd1 hc1 hs1 HM
    go_wp2
    go_ret
    refine ⟨[], none, 0, 0, rfl, rfl, OwnRw.nil _ _, fun p hp => ?_, ?_, HX.out.2.1⟩
    · rw [HX.out.2.2] at hp; cases hp
    · rw [HX.out.2.2]; exact HX.out.1
  | some r =>
    rw [hs1] at hrd1 s1
    have s1 : w1.cell? ⟨R, 1, none⟩ = some (.bool false) := s1
    have hsz := sz_has hs1
    have HT := hid (rhas D R (some r) [41] w1 hrd1)
    have HX := hid (And.intro hc1 hs1)
    have hr1 : r.length + 1 ≤ N := by omega
    clear hrd1 hc1 hs1 HM hsz
    go_wp2_with fail
    refine HT.out.mono ?_
    rintro e w2 ⟨hc2, ⟨rfl, r2, hr2, hrd2⟩ | ⟨rfl, hno, hrd2⟩⟩
    · have HY := hid (And.intro (HX.out.1.trans hc2 (fun _ _ h => h)) (And.intro hrd2 (list_nil HX.out.2 hr2)))
      clear hc2 hr2 hrd2 HT HX
      go_wp2
      go_ret
      refine ⟨[], none, 0, 0, rfl, rfl, OwnRw.nil _ _, fun p hp => ?_, ?_, HY.out.1⟩
      · rw [HY.out.2.2] at hp; cases hp; rfl
      · rw [HY.out.2.2]; exact HY.out.2.1
    · have HP1 := hid (HP.out (N - 1) (by omega) (some r) w2 (show r.length ≤ N - 1 by omega) hrd2)
      have HC1 := hid (And.intro (HX.out.1.trans hc2 (fun _ _ h => h)) (And.intro HX.out.2 hno))
      clear hc2 hno hrd2 HT HX
      go_wp2_with fail
      refine HP1.out.mono ?_
      rintro e w3 ⟨t, ao, q, cp, h2, rfl, h3, h4, h1, h5, h6⟩
      have hsw := HC1.out.1.size
      obtain ⟨ao5, n5, cp5, w5, hap, hn5, hown5, hrd5, hc5⟩ := app_step (OwnRw.nil w.heap.size w2) hsw hRl h2 h3 h4 h5 h6 (by simp)
      have hcw5 : Chg (· = R) w w5 := HC1.out.1.trans hc5 (fun i hi e => e.elim id (fun e => by omega))
      have hss : szS (((some r).bind anyG).map Prod.snd) ≤ r.length := sz_snd any_lt (some r)
      have HIN : Hid (n5 = ([] ++ [t]).length ∧ OwnRw (w.heap.size) w5 (.slice ao5 n5 cp5) ([] ++ [t]) ∧ RdS D R (((some r).bind anyG).map Prod.snd) w5 ∧ ([] ++ [t]).length + szS (((some r).bind anyG).map Prod.snd) ≤ N ∧ PI anyG manyG (some r) ([] ++ [t]) (((some r).bind anyG).map Prod.snd) ∧ Chg (· = R) w w5) := hid ⟨hn5, hown5, hrd5, by have e : ([] ++ [t] : List AT).length = 1 := rfl; omega, pi_start h1, hcw5⟩
      clear h1 h2 h3 h4 h5 h6 hn5 hown5 hrd5 hc5 hcw5 hss hsw HP1
      unfold FmVal
      go_wp2_with (at_builtin; refine wpList_append_runb rfl (.tmp 14) (.tmp 17) 24 rfl rfl rfl hap ?_)
      clear hap
      go_wp2
      go_loopw [3] (fun v wr => ∃ (us : List AT) (ao : Option Addr) (n cp : Nat) (σr : Option (List Tok)), v = .slice ao n cp ∧ Hid (n = us.length ∧ OwnRw (w.heap.size) wr (.slice ao n cp) us ∧ RdS D R σr wr ∧ us.length + szS σr ≤ N ∧ PI anyG manyG (some r) us σr ∧ Chg (· = R) w wr)) (fun v _ => N + 1 - slN v)
      case atStart => exact ⟨[] ++ [t], _, n5, _, _, rfl, HIN⟩
      case round =>
        clear HIN
        obtain ⟨us, ao3, n3, cp3, σr, rfl, HREL⟩ := hrel
        have HT := hid (rhas D R σr [44] wr HREL.out.2.2.1)
        go_wp2_with fail
        refine HT.out.mono ?_
        rintro e w2 ⟨hc2, ⟨rfl, r2, hr2, hrd2⟩ | ⟨rfl, hno, hrd2⟩⟩
        · have hsr := sz_has hr2
          have hx := HREL.out
          have hcw2 := hx.2.2.2.2.2.trans hc2 (fun _ _ h => h)
          have hown2 := hx.2.1.keep hc2 (fun k hk _ e => by have : k = R := e; omega)
          have hl := hx.2.2.2.1
          have HP2 := hid (HP.out (N - 1) (by omega) (some r2) w2 (show r2.length ≤ N - 1 by omega) hrd2)
          have HC2 : Hid (Chg (· = R) w w2 ∧ OwnRw (w.heap.size) w2 (.slice ao3 n3 cp3) us ∧ us.length + (r2.length + 1) ≤ N ∧ n3 = us.length ∧ w.heap.size ≤ w2.heap.size ∧ σr.bind (hasT [44]) = some r2 ∧ PI anyG manyG (some r) us σr) := hid ⟨hcw2, hown2, by omega, hx.1, hcw2.size, hr2, hx.2.2.2.2.1⟩
          clear hsr hx hcw2 hown2 hl hc2 hr2 hrd2 HT HREL
          go_wp2_with fail
          refine HP2.out.mono ?_
          rintro e w3 ⟨t2, ao, q, cp, h2, rfl, h3, h4, h1, h5, h6⟩
          have hl := HC2.out.2.2.1
          obtain ⟨ao5, n5, cp5, w5, hap, hn5, hown5, hrd5, hc5⟩ := app_step HC2.out.2.1 HC2.out.2.2.2.2.1 (by omega) h2 h3 h4 h5 h6 (by omega)
          have hpi := pi_step manyG_eq HC2.out.2.2.2.2.2.2 HC2.out.2.2.2.2.2.1 h1
          have hcw5 : Chg (· = R) w w5 := HC2.out.1.trans hc5 (fun i hi e => e.elim id (fun e => by omega))
          have hss2 : szS (((some r2).bind anyG).map Prod.snd) ≤ r2.length := sz_snd any_lt (some r2)
          have hls : (us ++ [t2]).length = us.length + 1 := by simp
          have HEND : Hid (n5 = (us ++ [t2]).length ∧ OwnRw (w.heap.size) w5 (.slice ao5 n5 cp5) (us ++ [t2]) ∧ RdS D R (((some r2).bind anyG).map Prod.snd) w5 ∧ (us ++ [t2]).length + szS (((some r2).bind anyG).map Prod.snd) ≤ N ∧ PI anyG manyG (some r) (us ++ [t2]) (((some r2).bind anyG).map Prod.snd) ∧ Chg (· = R) w w5) := hid ⟨hn5, hown5, hrd5, by omega, hpi, hcw5⟩
          have HM : Hid (N + 1 - n5 < N + 1 - n3) := hid (by have := HC2.out.2.2.2.1; omega)
          clear h1 h2 h3 h4 h5 h6 hn5 hown5 hrd5 hc5 hpi hcw5 hss2 hls hl HP2 HC2
          unfold FmVal
          go_wp2_with (at_builtin; refine wpList_append_runb rfl (.tmp 21) (.tmp 24) 24 rfl rfl rfl hap ?_)
          clear hap
          go_wp2
          go_roundw
          case rel => exact ⟨us ++ [t2], _, n5, _, _, rfl, HEND⟩
          case measure => exact HM.out
        · have HT2 := hid (rmust D R σr [41] w2 hrd2)
          have HE := hid (And.intro (HREL.out.2.2.2.2.2.trans hc2 (fun _ _ h => h)) (And.intro (HREL.out.2.1.keep hc2 (fun k hk _ e => by have : k = R := e; omega)) (And.intro HREL.out.1 (list_end HC1.out.2.1 HC1.out.2.2 HREL.out.2.2.2.2.1 hno))))
          clear hno hrd2 hc2 HT HREL HC1
          go_wp2_with fail
          refine HT2.out.mono ?_
          rintro e w4 ⟨rfl, hrd4, hc4⟩
          have HF := hid (And.intro hrd4 hc4)
          clear hrd4 hc4 HT2
          go_wp2
          go_ret
          refine ⟨us, ao3, n3, cp3, HE.out.2.2.1, rfl, HE.out.2.1.keep HF.out.2 (fun k hk _ e => by have : k = R := e; omega), HE.out.2.2.2.1, ?_, HE.out.1.trans HF.out.2 (fun _ _ h => h)⟩
          rw [HE.out.2.2.2.2]
          exact HF.out.1
end Go.Proofs.YtojbhlbknjnioaaGreatDoor

/- The contract of the document's Parse of layer 4. -/
namespace Go.Proofs.YtojbhlbknjnioaaGreatDoor
open Go.RowKit

set_option maxRecDepth 100000 in
set_option maxHeartbeats 1000000 in
theorem rparse_ref (s : List UInt8) (w : World) (hs : s.length ≤ 9223372036854775806) :
    Calls Tryz.prog 63 #[.string ⟨s.toArray⟩] w (ParsePost s w) := by
  have gx := ba_get s
  have hc0 : Chg (fun _ => False) w (w.alloc (.cells #[.string ⟨#[]⟩, .string ⟨#[]⟩] 23)) := (Chg.refl _ w).alloc _
  have hC := heap_alloc_new w (.cells #[.string ⟨#[]⟩, .string ⟨#[]⟩] 23)
  go_enter Tryz.func63, Tryz.ntmps63
  go_wp2
  generalize w.alloc (.cells #[.string ⟨#[]⟩, .string ⟨#[]⟩] 23) = w1 at *
  generalize hCC : w.heap.size = C at *
  go_loop [4] (fun i => ∃ k : Nat, i = .int .i64 k ∧ k ≤ s.length ∧ Hid (∀ c ∈ s.take k, c.toNat ≠ 46)) (fun i => s.length - (intOf i).toNat)
  case atStart => exact ⟨0, rfl, Nat.zero_le _, fun c hc => by simp at hc⟩
  case round =>
    obtain ⟨k, rfl, hk, hno⟩ := hrel
    by_cases hlt : k < s.length
    · by_cases hd : s[k].toNat = 46
      · have z1 : ((s[k].toNat : Int) == 46) = true := by simp; omega
        have hcd : Hid (cutDot s = some (s.take k, s.drop (k + 1))) := hid (cutDot_at s k hlt hno.out hd)
        have st := str_take s k
        have sd := str_drop s (k + 1)
        have hlt2 : ((k : Int) + 1) ≤ (s.length : Int) := by omega
        clear hd hno
        go_wp2
        go_region
        have hc1 : Chg (fun _ => False) w1 (w1.alloc (.cells #[.string ⟨(s.take k).toArray⟩, .string ⟨(s.drop (k + 1)).toArray⟩] 23)).drew := ((Chg.refl _ w1).alloc _).drew
        have hB : (w1.alloc (.cells #[.string ⟨(s.take k).toArray⟩, .string ⟨(s.drop (k + 1)).toArray⟩] 23)).drew.heap[w1.heap.size]? = some (.cells #[.string ⟨(s.take k).toArray⟩, .string ⟨(s.drop (k + 1)).toArray⟩] 23) := heap_alloc_new w1 _
        have hC1 := blk_keep hC hc1 id
        have hCB : C < w1.heap.size := lt_blk hC
        generalize (w1.alloc (.cells #[.string ⟨(s.take k).toArray⟩, .string ⟨(s.drop (k + 1)).toArray⟩] 23)).drew = w2 at *
        generalize w1.heap.size = B at *
        have l1 : (s.take k).length ≤ 9223372036854775807 := by simp; omega
        have l2 : (s.drop (k + 1)).length ≤ 9223372036854775807 := by simp; omega
        clear st sd hlt2 z1 gx
        generalize s.take k = o at *
        generalize s.drop (k + 1) = x at *
        have b0 := cell_blk hB 0
        have b1 := cell_blk hB 1
        simp only [List.getElem?_toArray, List.getElem?_cons_zero, List.getElem?_cons_succ] at b0 b1
        have hcw := hc0.trans hc1 (fun _ _ h => h)
        clear hc0 hc1 hC
        go_wp2_with fail
        refine (rright_ref (o, x) w2 l1 l2).mono ?_
        rintro e w3 ⟨rfl, hc3⟩
        have hC3 := blk_keep hC1 hc3 id
        have hB3 := blk_keep hB hc3 id
        have hcw3 := hcw.trans hc3 (fun _ _ h => h)
        clear b0 b1 hcw hB hC1 hc3
        have b0 := cell_blk hB3 0
        have b1 := cell_blk hB3 1
        have q0 := cell_blk hC3 0
        have q1 := cell_blk hC3 1
        have f0 := froz_blk hC3 0
        have f1 := froz_blk hC3 1
        simp only [List.getElem?_toArray, List.getElem?_cons_zero, List.getElem?_cons_succ] at b0 b1 q0 q1
        cases hr : isRole (o, x) with
        | true =>
          have hp : Hid (parseR s = some (o, x)) := hid (by rw [parseR, hcd.out]; simp [hr])
          have hD : ((w3.setCell ⟨C, 0, none⟩ (.string ⟨o.toArray⟩)).setCell ⟨C, 1, none⟩ (.string ⟨x.toArray⟩)).heap[C]? = some (.cells #[.string ⟨o.toArray⟩, .string ⟨x.toArray⟩] 23 (0, 0)) := set_blk (set_blk hC3 0 (.string ⟨o.toArray⟩)) 1 (.string ⟨x.toArray⟩)
          have hch : Chg (fun _ => False) w ((w3.setCell ⟨C, 0, none⟩ (.string ⟨o.toArray⟩)).setCell ⟨C, 1, none⟩ (.string ⟨x.toArray⟩)) := (hcw3.trans (setCell_chg w3 C 0 _) (fun i hi h => by omega)).trans (setCell_chg _ C 1 _) (fun i hi h => by omega)
          have HH := hid (And.intro hD hch)
          clear hD hch hcw3 hC3 hB3
          go_wp2
          refine bodyPost_ret (results_row_tmp rfl _ _ C _ rfl (run_loadVar_row (P := Tryz.prog) _ C 23 23 _ (0, 0) _ HH.out.1 Tryz.underlying23 rfl (by kernel_rfl))) rfl ?_
          exact ⟨by rw [hp.out]; rfl, HH.out.2⟩
        | false =>
          have hp : Hid (parseR s = none) := hid (by rw [parseR, hcd.out]; simp [hr])
          have hD : ((w3.setCell ⟨C, 0, none⟩ (.string ⟨#[]⟩)).setCell ⟨C, 1, none⟩ (.string ⟨#[]⟩)).heap[C]? = some (.cells #[.string ⟨#[]⟩, .string ⟨#[]⟩] 23 (0, 0)) := set_blk (set_blk hC3 0 (.string ⟨#[]⟩)) 1 (.string ⟨#[]⟩)
          have hch : Chg (fun _ => False) w ((w3.setCell ⟨C, 0, none⟩ (.string ⟨#[]⟩)).setCell ⟨C, 1, none⟩ (.string ⟨#[]⟩)) := (hcw3.trans (setCell_chg w3 C 0 _) (fun i hi h => by omega)).trans (setCell_chg _ C 1 _) (fun i hi h => by omega)
          have HH := hid (And.intro hD hch)
          clear hD hch hcw3 hC3 hB3
          go_wp2
          refine bodyPost_ret (results_row_tmp rfl _ _ C _ rfl (run_loadVar_row (P := Tryz.prog) _ C 23 23 _ (0, 0) _ HH.out.1 Tryz.underlying23 rfl (by kernel_rfl))) rfl ?_
          exact ⟨by rw [hp.out]; rfl, HH.out.2⟩
      · have z1 : ((s[k].toNat : Int) == 46) = false := by simp; omega
        have hn2 : Hid (∀ c ∈ s.take (k + 1), c.toNat ≠ 46) := hid (fun c hc => by
          rw [List.take_succ_eq_append_getElem hlt] at hc
          rcases List.mem_append.1 hc with h | h
          · exact hno.out c h
          · rw [List.mem_singleton.1 h]; exact hd)
        clear hd hno
        go_wp2
        go_round
        case rel => exact ⟨k + 1, by go_num, by omega, hn2⟩
        case measure => simp [intOf]; omega
    · have hk2 : k = s.length := by omega
      subst hk2
      have hp : Hid (parseR s = none) := hid (by
        have := hno.out
        rw [List.take_of_length_le (Nat.le_refl _)] at this
        rw [parseR, cutDot_none s this])
      have hch : Chg (fun _ => False) w ((w1.setCell ⟨C, 0, none⟩ (.string ⟨#[]⟩)).setCell ⟨C, 1, none⟩ (.string ⟨#[]⟩)) := (hc0.trans (setCell_chg w1 C 0 _) (fun i hi h => by omega)).trans (setCell_chg _ C 1 _) (fun i hi h => by omega)
      have hD : ((w1.setCell ⟨C, 0, none⟩ (.string ⟨#[]⟩)).setCell ⟨C, 1, none⟩ (.string ⟨#[]⟩)).heap[C]? = some (.cells #[.string ⟨#[]⟩, .string ⟨#[]⟩] 23 (0, 0)) := set_blk (set_blk hC 0 (.string ⟨#[]⟩)) 1 (.string ⟨#[]⟩)
      have q0 := cell_blk hC 0
      have q1 := cell_blk hC 1
      have f0 := froz_blk hC 0
      have f1 := froz_blk hC 1
      simp only [List.getElem?_toArray, List.getElem?_cons_zero, List.getElem?_cons_succ] at q0 q1
      have HH := hid (And.intro hD hch)
      clear hD hch hC hc0 gx
      go_wp2
      refine bodyPost_ret (results_row_tmp rfl _ _ C _ rfl (run_loadVar_row (P := Tryz.prog) _ C 23 23 _ (0, 0) _ HH.out.1 Tryz.underlying23 rfl (by kernel_rfl))) rfl ?_
      exact ⟨by rw [hp.out]; rfl, HH.out.2⟩
end Go.Proofs.YtojbhlbknjnioaaGreatDoor

/- The document's reader of layer 12: what a step finds. -/
namespace Go.Proofs.YtojbhlbknjnioaaGreatDoor
open Go.RowKit

set_option maxRecDepth 100000 in
theorem slice_one (b off n cp : Nat) (h0 : 0 < n) (_ : n ≤ cp) : ∃ o2, (o2 = off + 1 ∨ cp = 1) ∧ ∀ W : World, (Instr.sliceAt 45 (.slice (some ⟨b, off, none⟩) n cp) (some (.int .i64 1)) none none).run Tryz.prog W = .ok (.slice (some ⟨b, o2, none⟩) (n - 1) (cp - 1)) W := by
  obtain ⟨i0, hi, hz0, hz1, hz2⟩ := info_parts Tryz.info9
  refine ⟨if cp = 1 then off else off + 1, by
    by_cases h : cp = 1
    · exact .inr h
    · rw [if_neg h]; exact .inl rfl, fun W => ?_⟩
  rw [run_sliceAt_slice (t := 45) (h := Tryz.underlying45), run_slice_l (t := 45) (ht := Tryz.underlying45) (kl := .i64) (l := 1) (h0 := by decide) (h1 := by omega)]
  by_cases hc : cp = 1
  · simp [go_sem, sliced, hc]
  · simp [go_sem, sliced, hc]

/-- What a reader with a word next has in its cells, and what it has behind it is taken. -/
theorem RdS.open_cons {D : Nat → Prop} {R : Nat} {k : Tok} {r : List Tok} {w : World} (O : Obj) (h : RdS D R (some (k :: r)) w) : ∃ (b off n cp o2 : Nat), (w.alloc O).cell? ⟨R, 0, none⟩ = some (.slice (some ⟨b, off, none⟩) n cp) ∧ (w.alloc O).cell? ⟨R, 1, none⟩ = some (.bool false) ∧ (w.alloc O).frozen? ⟨R, 0, none⟩ = false ∧ (w.alloc O).frozen? ⟨R, 1, none⟩ = false ∧ (w.alloc O).cell? ⟨b, off, none⟩ = some (.string ⟨k.toArray⟩) ∧ k.length ≤ 4096 ∧ 0 < n ∧ n ≤ cp ∧ (∀ W : World, (Instr.sliceAt 45 (.slice (some ⟨b, off, none⟩) n cp) (some (.int .i64 1)) none none).run Tryz.prog W = .ok (.slice (some ⟨b, o2, none⟩) (n - 1) (cp - 1)) W) ∧ RdS D R (some r) (w.setCell ⟨R, 0, none⟩ (.slice (some ⟨b, o2, none⟩) (n - 1) (cp - 1))) ∧ Chg (· = R) w (w.setCell ⟨R, 0, none⟩ (.slice (some ⟨b, o2, none⟩) (n - 1) (cp - 1))) := by
  obtain ⟨ao, n, cp, bad, ts, h1, h2, h3, h4, h5, h6, h7, h8⟩ := h
  have hA : Chg (fun _ => False) w (w.alloc O) := (Chg.refl _ w).alloc _
  have h1A := blk_keep h1 hA id
  have h5A := h5.keep hA (fun _ _ => id)
  cases bad with
  | true => cases h8
  | false =>
    have e : k :: r = ts := by simpa using h8
    subst e
    obtain ⟨b, off, e, hDb, hc0, hl0⟩ := h5A 0 (by simp)
    subst e
    have hn2 : 0 < n := by rw [h2]; simp
    obtain ⟨o2, ho, hs⟩ := slice_one b off n cp hn2 h3
    have hy : HasP D R (some (k :: r)) k w (.returned (.bool true)) (w.setCell ⟨R, 0, none⟩ (.slice (some ⟨b, o2, none⟩) (n - 1) (cp - 1))) := .yes rfl h1 h2 h3 h4 h5 h6 h7 (by simp [hasT]) o2 ho
    obtain ⟨hc, ⟨_, r2, e2, h9⟩ | ⟨e2, _⟩⟩ := hy
    · have : r2 = r := by simpa [hasT] using e2.symm
      subst this
      refine ⟨b, off, n, cp, o2, ?_, ?_, froz_blk h1A 0, froz_blk h1A 1, by simpa using hc0, h7.2 k (by simp), hn2, h3, hs, h9, hc⟩
      · rw [cell_blk h1A 0]; rfl
      · rw [cell_blk h1A 1]; rfl
    · cases e2
theorem RdS.open_nil {D : Nat → Prop} {R : Nat} {w : World} (h : RdS D R (some []) w) : ∃ (ao : Option Addr) (cp : Nat), w.cell? ⟨R, 0, none⟩ = some (.slice ao 0 cp) ∧ w.cell? ⟨R, 1, none⟩ = some (.bool false) ∧ w.frozen? ⟨R, 0, none⟩ = false ∧ w.frozen? ⟨R, 1, none⟩ = false := by
  obtain ⟨ao, n, cp, bad, ts, h1, h2, h3, h4, h5, h6, h7, h8⟩ := h
  cases bad with
  | true => cases h8
  | false =>
    have e : [] = ts := by simpa using h8
    subst e
    have : n = 0 := h2
    subst this
    exact ⟨ao, cp, by rw [cell_blk h1 0]; rfl, by rw [cell_blk h1 1]; rfl, froz_blk h1 0, froz_blk h1 1⟩

theorem br_o {r : List Tok} {t : AT} (h : ∀ p, (some r).bind anyG = some p → eraseA t = p.1) : (∀ p, oneG ([40] :: r) = some p → eraseA t = p.1) ∧ (oneG ([40] :: r)).map Prod.snd = (((some r).bind anyG).map Prod.snd).bind (hasT [41]) := by
  rw [oneG_eq, stepP.eq_def, if_pos rfl]
  simp only [Option.bind_some] at h ⊢
  cases hq : anyG r with
  | none => exact ⟨fun p hp => (by cases hp), rfl⟩
  | some p =>
    have := h p hq
    simp only [Option.map_some, Option.bind_some]
    cases hasT [41] p.2 with
    | none => exact ⟨fun p hp => (by cases hp), rfl⟩
    | some r3 => exact ⟨fun p2 hp => (by cases hp; exact this), rfl⟩
def dgP (c : UInt8) : Bool := decide (48 ≤ c.toNat) && decide (c.toNat ≤ 57)
def valK (k : Tok) : Int := k.foldl (fun n c => 10 * n + ((c.toNat : Int) - 48)) 0
theorem valK_snoc (l : Tok) (c : UInt8) : valK (l ++ [c]) = 10 * valK l + ((c.toNat : Int) - 48) := by unfold valK; rw [List.foldl_append]; rfl
theorem valK_one (l : Tok) (h : l.length ≤ 1) : -48 ≤ valK l ∧ valK l ≤ 207 := by
  match l, h with
  | [], _ => exact ⟨by decide, by decide⟩
  | [c], _ => have := c.toNat_lt; unfold valK; simp only [List.foldl_cons, List.foldl_nil]; omega
/-- Is it a number as the grammar has it? -/
def okK (k : Tok) : Bool := decide (k ≠ []) && (decide (k.length ≤ 2) && !(decide (k.length = 2) && k.head? == some 48))
theorem numW_def (k : Tok) : numW k = if k.all dgP && okK k then some (valK k) else none := rfl
theorem at_o (k : Tok) (r : List Tok) (β : Option (List Tok)) (x : Int) (hx : k.length ≤ 2 → x = valK k) (hβ : β = if k.all dgP && okK k then some r else none) : oneG (atW :: k :: r) = (β.bind listG).map (fun p => (.mk 4 x ([], []) p.1, p.2)) := by
  rw [oneG_eq, stepP.eq_def, if_neg (by decide), if_neg (by decide), if_neg (by decide), if_pos rfl]
  simp only [numW_def]
  by_cases h : (k.all dgP && okK k) = true
  · rw [if_pos h] at hβ ⊢
    have hl : k.length ≤ 2 := by
      unfold okK at h
      simp only [Bool.and_eq_true, decide_eq_true_eq] at h
      exact h.2.2.1
    rw [hβ, hx hl]
    rfl
  · rw [if_neg h] at hβ ⊢
    rw [hβ]
    rfl
end Go.Proofs.YtojbhlbknjnioaaGreatDoor
