/- The document's reader of layer 12: both, Any, list. -/
import Derived.Test.YtojbhlbknjnioaaGreatDoorPt18
namespace Go.Proofs.YtojbhlbknjnioaaGreatDoor
open Go.RowKit

def szS : Option (List Tok) → Nat
  | none => 0
  | some l => l.length
def slN : Value → Nat
  | .slice _ n _ => n
  | _ => 0
/-- A formula that was read, or any one where it is wrong. -/
def RPost (D : Nat → Prop) (R : Nat) (o : Option (FmB × List Tok)) (w : World) (e : Ending) (w' : World) : Prop := ∃ (t : AT) (ao : Option Addr) (q cp : Nat), t.v = .slice ao q cp ∧ e = .returned (FmVal t ao q cp) ∧ OwnA w.heap.size w' t ∧ (blksA t).Nodup ∧ (∀ p, o = some p → eraseA t = p.1) ∧ RdS D R (o.map Prod.snd) w' ∧ Chg (· = R) w w'
def LPost (D : Nat → Prop) (R : Nat) (o : Option (List FmB × List Tok)) (w : World) (e : Ending) (w' : World) : Prop := ∃ (us : List AT) (ao : Option Addr) (n cp : Nat), n = us.length ∧ e = .returned (.slice ao n cp) ∧ OwnRw w.heap.size w' (.slice ao n cp) us ∧ (∀ p, o = some p → eraseL us = p.1) ∧ RdS D R (o.map Prod.snd) w' ∧ Chg (· = R) w w'
def PartS (D : Nat → Prop) (gf R N : Nat) (pf : List Tok → Option (FmB × List Tok)) : Prop := ∀ (σ : Option (List Tok)) (w : World), szS σ ≤ N → RdS D R σ w → Calls Tryz.prog gf #[.pointer (some ⟨R, 0, none⟩)] w (RPost D R (σ.bind pf) w)
def ListS (D : Nat → Prop) (R N : Nat) : Prop := ∀ (σ : Option (List Tok)) (w : World), szS σ ≤ N → RdS D R σ w → Calls Tryz.prog 62 #[.pointer (some ⟨R, 0, none⟩)] w (LPost D R (σ.bind listG) w)

/-- What the rest of the words is to be read as. -/
def PI (pf : List Tok → Option (FmB × List Tok)) (rf : List Tok → Option (List FmB × List Tok)) (σ : Option (List Tok)) (us : List AT) (σr : Option (List Tok)) : Prop := σ.bind (partsP pf rf) = σr.bind (fun rest => (rf rest).map fun p => (eraseL us ++ p.1, p.2))
theorem pi_start {pf : List Tok → Option (FmB × List Tok)} {rf : List Tok → Option (List FmB × List Tok)} {σ : Option (List Tok)} {t : AT} (h : ∀ p, σ.bind pf = some p → eraseA t = p.1) : PI pf rf σ [t] ((σ.bind pf).map Prod.snd) := by
  unfold PI
  cases σ with
  | none => rfl
  | some ts =>
    simp only [Option.bind_some] at h ⊢
    cases hq : pf ts with
    | none => rw [partsP_none hq]; rfl
    | some p =>
      rw [partsP_some (f := p.1) (r := p.2) hq, ← h p hq]
      rfl
theorem pi_step {x : Tok} {pf : List Tok → Option (FmB × List Tok)} {rf : List Tok → Option (List FmB × List Tok)} (hrf : ∀ ts, rf ts = moreP x pf rf ts) {σ σr : Option (List Tok)} {us : List AT} {t : AT} {r2 : List Tok} (h : PI pf rf σ us σr) (hh : σr.bind (hasT x) = some r2) (ht : ∀ p, (some r2).bind pf = some p → eraseA t = p.1) : PI pf rf σ (us ++ [t]) (((some r2).bind pf).map Prod.snd) := by
  unfold PI at h ⊢
  rw [h]
  cases σr with
  | none => cases hh
  | some rest =>
    simp only [Option.bind_some] at hh ht ⊢
    rw [hrf rest, moreP, hh]
    simp only
    cases hq : pf r2 with
    | none => rfl
    | some p =>
      simp only [Option.map_some, Option.bind_some, Option.map_map]
      congr 1
      funext p2
      rw [eraseL_map (us ++ [t]), List.map_append, List.map_singleton, ht p hq, ← eraseL_map]
      simp
theorem pi_end {x : Tok} {pf : List Tok → Option (FmB × List Tok)} {rf : List Tok → Option (List FmB × List Tok)} (hrf : ∀ ts, rf ts = moreP x pf rf ts) {σ σr : Option (List Tok)} {us : List AT} (h : PI pf rf σ us σr) (hh : σr.bind (hasT x) = none) : σ.bind (partsP pf rf) = σr.map (fun rest => (eraseL us, rest)) := by
  unfold PI at h
  rw [h]
  cases σr with
  | none => rfl
  | some rest =>
    simp only [Option.bind_some] at hh
    simp only [Option.bind_some, Option.map_some]
    rw [hrf rest, moreP, hh]
    simp
theorem pi_join (op : Int) {x : Tok} {pf : List Tok → Option (FmB × List Tok)} {rf : List Tok → Option (List FmB × List Tok)} (hrf : ∀ ts, rf ts = moreP x pf rf ts) {σ σr : Option (List Tok)} {u : AT} {us : List AT} (h : PI pf rf σ (u :: us) σr) (hh : σr.bind (hasT x) = none) : (∀ p, σ.bind (joinP op pf rf) = some p → fmOf op (eraseL us) (eraseA u) = p.1) ∧ (σ.bind (joinP op pf rf)).map Prod.snd = σr := by
  have he := pi_end hrf h hh
  have h2 : eraseL (u :: us) = eraseA u :: eraseL us := by rw [eraseL_map, eraseL_map]; rfl
  rw [h2] at he
  cases σ with
  | none =>
    cases σr with
    | none => exact ⟨fun p hp => (by cases hp), rfl⟩
    | some r => cases he
  | some ts =>
    simp only [Option.bind_some] at he ⊢
    rcases join_parts op pf rf ts with ⟨e1, e2⟩ | ⟨f, l, r, e1, e2⟩
    · rw [e1] at he
      rw [e2]
      cases σr with
      | none => exact ⟨fun p hp => (by cases hp), rfl⟩
      | some r => cases he
    · rw [e1] at he
      rw [e2]
      cases σr with
      | none => cases he
      | some rest =>
        simp only [Option.map_some, Option.some.injEq, Prod.mk.injEq, List.cons.injEq] at he
        obtain ⟨⟨rfl, rfl⟩, rfl⟩ := he
        exact ⟨fun p hp => (by cases hp; rfl), rfl⟩
theorem sz_snd {pf : List Tok → Option (FmB × List Tok)} (hlen : ∀ ts f r, pf ts = some (f, r) → r.length < ts.length) (σ : Option (List Tok)) : szS ((σ.bind pf).map Prod.snd) ≤ szS σ := by
  cases σ with
  | none => exact Nat.le_refl _
  | some ts =>
    simp only [Option.bind_some]
    cases hq : pf ts with
    | none => exact Nat.zero_le _
    | some p => exact Nat.le_of_lt (hlen ts p.1 p.2 hq)
theorem sz_has {x : Tok} {σ : Option (List Tok)} {r : List Tok} (h : σ.bind (hasT x) = some r) : szS σ = r.length + 1 := by
  cases σ with
  | none => cases h
  | some ts =>
    cases ts with
    | nil => cases h
    | cons y l =>
      simp only [Option.bind_some, hasT] at h
      split at h
      · cases h; rfl
      · cases h

/-- One formula more, behind it was read. -/
theorem app_step {D : Nat → Prop} {B R : Nat} {σ : Option (List Tok)} {w2 w3 : World} {v : Value} {us : List AT} {t : AT} {ao : Option Addr} {q cp : Nat} (hw2 : OwnRw B w2 v us) (hB : B ≤ w2.heap.size) (hR : R < B) (h2 : t.v = .slice ao q cp) (h3 : OwnA w2.heap.size w3 t) (h4 : (blksA t).Nodup) (h5 : RdS D R σ w3) (h6 : Chg (· = R) w2 w3) (hl : us.length ≤ 1048576) :
    ∃ (ao5 : Option Addr) (n5 cp5 : Nat) (w5 : World), (Builtin.append_ #[24, 24] 24 #[v, .slice (some ⟨w3.heap.size, 0, none⟩) 1 1]).run Tryz.prog (w3.alloc (.cells #[.int .i64 t.op, .int .i64 t.k, .string ⟨t.r.1.toArray⟩, .string ⟨t.r.2.toArray⟩, .slice ao q cp] 26)) = .ok (.slice ao5 n5 cp5) w5 ∧ n5 = (us ++ [t]).length ∧ OwnRw B w5 (.slice ao5 n5 cp5) (us ++ [t]) ∧ RdS D R σ w5 ∧ Chg (fun k => k = R ∨ B ≤ k) w2 w5 := by
  have hal : Chg (fun _ => False) w3 (w3.alloc (.cells #[.int .i64 t.op, .int .i64 t.k, .string ⟨t.r.1.toArray⟩, .string ⟨t.r.2.toArray⟩, .slice ao q cp] 26)) := (Chg.refl _ w3).alloc _
  have hbn := heap_alloc_new w3 (.cells #[.int .i64 t.op, .int .i64 t.k, .string ⟨t.r.1.toArray⟩, .string ⟨t.r.2.toArray⟩, .slice ao q cp] 26)
  have hsz6 := h6.size
  have hown4 := (hw2.keep h6 (fun k hk _ e => by have : k = R := e; omega)).keep hal (fun _ _ _ h => h)
  obtain ⟨v5, w5, hap0, hrow5, hc5, hv5⟩ := run_append_fmb 24 hown4.row (b := w3.heap.size) (t := t) (by rw [cellsV t h2]; exact hbn) (own_one h3) hl (by have := hal.size; omega)
  have hown5 := hown4.app (B1 := w2.heap.size) ⟨hB, fun k hk => (hw2.row.lt k hk).2, fun k hk => (ownL_lt hw2.own k hk).2⟩ (ownA_keep hal t h3 (fun _ _ => id)) h4 hrow5 hc5 hv5
  have hbl := hown4.row.lt
  have hrd5 := (h5.keep hal (fun _ h => h.elim)).keep hc5 (fun k e => by have := (hbl k e).1; omega)
  obtain ⟨a, c, e, _⟩ := rowV_shape hown5.row
  subst e
  exact ⟨_, _, _, w5, hap0, rfl, hown5, hrd5, ((h6.mono (T := fun k => k = R ∨ B ≤ k) (fun _ _ h => .inl h)).trans (hal.mono (T := fun k => k = R ∨ B ≤ k) (fun _ _ h => h.elim)) (fun _ _ h => h)).trans (hc5.mono (T := fun k => k = R ∨ B ≤ k) (fun k _ e => .inr (hbl k e).1)) (fun _ _ h => h)⟩

set_option maxRecDepth 100000 in
set_option maxHeartbeats 4000000 in
theorem rboth (D : Nat → Prop) (R N : Nat) (hN : N ≤ 4096) (hp : PartS D 49 R N oneG) : PartS D 36 R N bothG := by
  intro σ w hts hrd
  have hRl := hrd.lt
  have hcA : Chg (fun _ => False) w (w.alloc (.cells #[.int .i64 0, .int .i64 0, .string ⟨#[]⟩, .string ⟨#[]⟩, .slice none 0 0] 26)) := (Chg.refl _ w).alloc _
  have hZ := heap_alloc_new w (.cells #[.int .i64 0, .int .i64 0, .string ⟨#[]⟩, .string ⟨#[]⟩, .slice none 0 0] 26)
  have hsz : (w.alloc (.cells #[.int .i64 0, .int .i64 0, .string ⟨#[]⟩, .string ⟨#[]⟩, .slice none 0 0] 26)).heap.size = w.heap.size + 1 := by simp
  have hlen : ∀ ts f r, oneG ts = some (f, r) → r.length < ts.length := fun ts f r h => by have := one_len h; have := nodesF_pos f; omega
  have hrf : ∀ ts, andsG ts = moreP [97, 110, 100] oneG andsG ts := andsG_eq
  have HP1 := hid (hp σ (w.alloc (.cells #[.int .i64 0, .int .i64 0, .string ⟨#[]⟩, .string ⟨#[]⟩, .slice none 0 0] 26)) hts (hrd.keep hcA (fun _ h => h.elim)))
  have HP := hid hp
  have HZ := hid (And.intro hZ (And.intro hcA hsz))
  have HL := hid (And.intro hlen hrf)
  have HJ : Hid (σ.bind bothG = σ.bind (joinP 2 oneG andsG)) := hid (by
    cases σ with
    | none => rfl
    | some ts => exact bothG_eq ts)
  clear hcA hZ hsz hp hrd hlen hrf
  go_enter Tryz.func36, Tryz.ntmps36
  go_wp2_with fail
  refine HP1.out.mono ?_
  rintro e w1 ⟨t, ao, q, cp, h2, rfl, h3, h4, h1, h5, h6⟩
  have hZ1 := blk_keep HZ.out.1 h6 (fun e => by have : w.heap.size = R := e; omega)
  have hch := (HZ.out.2.1.mono (T := (· = R)) (fun _ _ h => h.elim)).trans h6 (fun _ _ h => h)
  have hs6 := h6.size
  rw [HZ.out.2.2] at h3 hs6
  have hone := OwnRw.one hs6 h3 h4
  rw [cellsV t h2] at hone
  have hal : Chg (fun _ => False) w1 (w1.alloc (.cells #[.int .i64 t.op, .int .i64 t.k, .string ⟨t.r.1.toArray⟩, .string ⟨t.r.2.toArray⟩, .slice ao q cp] 26)) := (Chg.refl _ w1).alloc _
  have hss := sz_snd HL.out.1 σ
  have HIN : Hid (OwnRw (w.heap.size + 1) (w1.alloc (.cells #[.int .i64 t.op, .int .i64 t.k, .string ⟨t.r.1.toArray⟩, .string ⟨t.r.2.toArray⟩, .slice ao q cp] 26)) (.slice (some ⟨w1.heap.size, 0, none⟩) 1 1) [t] ∧ RdS D R ((σ.bind oneG).map Prod.snd) (w1.alloc (.cells #[.int .i64 t.op, .int .i64 t.k, .string ⟨t.r.1.toArray⟩, .string ⟨t.r.2.toArray⟩, .slice ao q cp] 26)) ∧ 1 + szS ((σ.bind oneG).map Prod.snd) ≤ N + 1 ∧ PI oneG andsG σ [t] ((σ.bind oneG).map Prod.snd) ∧ Chg (· = R) w (w1.alloc (.cells #[.int .i64 t.op, .int .i64 t.k, .string ⟨t.r.1.toArray⟩, .string ⟨t.r.2.toArray⟩, .slice ao q cp] 26)) ∧ (w1.alloc (.cells #[.int .i64 t.op, .int .i64 t.k, .string ⟨t.r.1.toArray⟩, .string ⟨t.r.2.toArray⟩, .slice ao q cp] 26)).heap[w.heap.size]? = some (.cells #[.int .i64 0, .int .i64 0, .string ⟨#[]⟩, .string ⟨#[]⟩, .slice none 0 0] 26)) := hid ⟨hone, h5.keep hal (fun _ h => h.elim), by omega, pi_start h1, hch.alloc _, blk_keep hZ1 hal id⟩
  clear h1 h2 h3 h4 h5 h6 hZ1 hch hs6 hone hal hss HP1
  unfold FmVal
  go_wp2
  go_loopw [3] (fun v wr => ∃ (us : List AT) (ao : Option Addr) (n cp : Nat) (σr : Option (List Tok)), v = .slice ao n cp ∧ Hid (n = us.length ∧ OwnRw (w.heap.size + 1) wr (.slice ao n cp) us ∧ RdS D R σr wr ∧ us.length + szS σr ≤ N + 1 ∧ 0 < us.length ∧ PI oneG andsG σ us σr ∧ Chg (· = R) w wr ∧ wr.heap[w.heap.size]? = some (.cells #[.int .i64 0, .int .i64 0, .string ⟨#[]⟩, .string ⟨#[]⟩, .slice none 0 0] 26))) (fun v _ => N + 1 - slN v)
  case atStart => exact ⟨[t], _, 1, 1, _, rfl, hid ⟨rfl, HIN.out.1, HIN.out.2.1, HIN.out.2.2.1, by simp, HIN.out.2.2.2⟩⟩
  case round =>
    obtain ⟨us, ao3, n3, cp3, σr, rfl, HREL⟩ := hrel
    have HT := hid (rhas D R σr [97, 110, 100] wr HREL.out.2.2.1)
    go_wp2_with fail
    refine HT.out.mono ?_
    rintro e w2 ⟨hc2, ⟨rfl, r2, hr2, hrd2⟩ | ⟨rfl, hno, hrd2⟩⟩
    · have hsr := sz_has hr2
      have hx := HREL.out
      have hcw2 := hx.2.2.2.2.2.2.1.trans hc2 (fun _ _ h => h)
      have hown2 := hx.2.1.keep hc2 (fun k hk _ e => by have : k = R := e; omega)
      have hZ2 := blk_keep hx.2.2.2.2.2.2.2 hc2 (fun e => by have : w.heap.size = R := e; omega)
      have hl := hx.2.2.2.1
      have HP2 := hid (HP.out (some r2) w2 (show r2.length ≤ N by omega) hrd2)
      have hs2 : w.heap.size + 1 ≤ w2.heap.size := lt_blk hZ2
      have HC2 : Hid (Chg (· = R) w w2 ∧ OwnRw (w.heap.size + 1) w2 (.slice ao3 n3 cp3) us ∧ w2.heap[w.heap.size]? = some (.cells #[.int .i64 0, .int .i64 0, .string ⟨#[]⟩, .string ⟨#[]⟩, .slice none 0 0] 26) ∧ us.length + (r2.length + 1) ≤ N + 1 ∧ n3 = us.length ∧ w.heap.size + 1 ≤ w2.heap.size ∧ σr.bind (hasT [97, 110, 100]) = some r2 ∧ PI oneG andsG σ us σr) := hid ⟨hcw2, hown2, hZ2, by omega, hx.1, hs2, hr2, hx.2.2.2.2.2.1⟩
      clear hsr hx hcw2 hown2 hZ2 hl hs2 hc2 hr2 hrd2 HT HREL
      go_wp2_with fail
      refine HP2.out.mono ?_
      rintro e w3 ⟨t2, ao, q, cp, h2, rfl, h3, h4, h1, h5, h6⟩
      have hl := HC2.out.2.2.2.1
      obtain ⟨ao5, n5, cp5, w5, hap, hn5, hown5, hrd5, hc5⟩ := app_step HC2.out.2.1 HC2.out.2.2.2.2.2.1 (by omega) h2 h3 h4 h5 h6 (by omega)
      have hpi := pi_step HL.out.2 HC2.out.2.2.2.2.2.2.2 HC2.out.2.2.2.2.2.2.1 h1
      have hss := sz_snd HL.out.1 (some r2)
      have hcw5 : Chg (· = R) w w5 := HC2.out.1.trans hc5 (fun i hi e => e.elim id (fun e => by omega))
      have hZ5 := blk_keep HC2.out.2.2.1 hc5 (fun e => e.elim (fun e => by omega) (fun e => by omega))
      have hss2 : szS (((some r2).bind oneG).map Prod.snd) ≤ r2.length := hss
      have hls : (us ++ [t2]).length = us.length + 1 := by simp
      have HEND : Hid (n5 = (us ++ [t2]).length ∧ OwnRw (w.heap.size + 1) w5 (.slice ao5 n5 cp5) (us ++ [t2]) ∧ RdS D R (((some r2).bind oneG).map Prod.snd) w5 ∧ (us ++ [t2]).length + szS (((some r2).bind oneG).map Prod.snd) ≤ N + 1 ∧ 0 < (us ++ [t2]).length ∧ PI oneG andsG σ (us ++ [t2]) (((some r2).bind oneG).map Prod.snd) ∧ Chg (· = R) w w5 ∧ w5.heap[w.heap.size]? = some (.cells #[.int .i64 0, .int .i64 0, .string ⟨#[]⟩, .string ⟨#[]⟩, .slice none 0 0] 26)) := hid ⟨hn5, hown5, hrd5, by omega, by omega, hpi, hcw5, hZ5⟩
      have HM : Hid (N + 1 - n5 < N + 1 - n3) := hid (by have := HC2.out.2.2.2.2.1; omega)
      clear h1 h2 h3 h4 h5 h6 hn5 hown5 hrd5 hc5 hpi hss hcw5 hZ5 hss2 hls hl HP2 HC2
      unfold FmVal
      go_wp2_with (at_builtin; refine wpList_append_runb rfl (.tmp 9) (.tmp 12) 24 rfl rfl rfl hap ?_)
      clear hap
      go_wp2
      go_roundw
      case rel => exact ⟨us ++ [t2], _, n5, _, _, rfl, HEND⟩
      case measure => exact HM.out
    · obtain ⟨hn, hown, _, hl, hpos, hpi, hcw, hzb⟩ := HREL.out
      have h3 := hown.keep hc2 (fun k hk _ e => by have : k = R := e; omega)
      have hZ1 := blk_keep hzb hc2 (fun e => by have : w.heap.size = R := e; omega)
      have hch := hcw.trans hc2 (fun _ _ h => h)
      obtain ⟨u, us2, rfl⟩ : ∃ u l, us = u :: l := by
        cases us with
        | nil => simp at hpos
        | cons u l => exact ⟨u, l, rfl⟩
      have hj := pi_join 2 HL.out.2 hpi hno
      rw [← HJ.out] at hj
      have HO := hid hj
      clear hown hl hpos hpi hcw hzb hno hj HREL HT hc2
      have g0 := froz_blk hZ1 0
      have g1 := froz_blk hZ1 1
      have g2 := froz_blk hZ1 2
      have g3 := froz_blk hZ1 3
      have g4 := froz_blk hZ1 4
      have r0 := cell_blk hZ1 0
      have r1 := cell_blk hZ1 1
      have r2 := cell_blk hZ1 2
      have r3 := cell_blk hZ1 3
      have r4 := cell_blk hZ1 4
      simp only [List.getElem?_toArray, List.getElem?_cons_zero, List.getElem?_cons_succ] at r0 r1 r2 r3 r4
      by_cases hn1 : n3 = 1
      · have hz : ((n3 : Int) == 1) = true := beq_iff_eq.2 (by omega)
        obtain rfl : us2 = [] := by
          cases us2 with
          | nil => rfl
          | cons s l => simp at hn; omega
        obtain ⟨g, rfl, c0, c1, c2, c3, c4⟩ := h3.cells0
        have hown := (ownL_all _ _ _).1 h3.own u (by simp)
        obtain ⟨ao2, cp2, hv2, _⟩ := own_fms hown
        obtain ⟨q2, hq2⟩ : ∃ q2, q2 = u.kids.length := ⟨_, rfl⟩
        rw [← hq2] at hv2
        rw [hv2] at c4
        have hnd : (blksA u).Nodup := by
          have := (List.nodup_append.1 h3.nd).2.1
          rw [blksL_flat] at this
          simpa using this
        have HE := hid (And.intro hown (And.intro hnd (And.intro hrd2 (And.intro hch (And.intro hZ1 hv2)))))
        have hlt : (0 : Int) < (n3 : Int) := by omega
        clear hn h3 hrd2 hch hZ1 hown hnd hq2 hv2
        go_wp2
        obtain ⟨hown, hnd, hrd, hch, hZ1, hv2⟩ := HE.out
        obtain ⟨hend, hcz⟩ := st5 hZ1 (.int .i64 u.op) (.int .i64 u.k) (.string ⟨u.r.1.toArray⟩) (.string ⟨u.r.2.toArray⟩) (.slice ao2 q2 cp2)
        refine bodyPost_ret (results_cell_row (P := Tryz.prog) rfl _ _ w.heap.size 26 _ (0, 0) _ rfl hend Tryz.underlying26 rfl (by kernel_rfl)) rfl ?_
        refine ⟨u, ao2, q2, cp2, hv2, rfl, ownA_low (Nat.le_succ _) u (ownA_keep hcz u hown (fun b hb e => by have := (ownA_lt u hown b hb).1; have : b = w.heap.size := e; omega)), hnd, HO.out.1, ?_, hch.trans hcz (fun i hi e => by have : i = w.heap.size := e; omega)⟩
        rw [HO.out.2]
        exact hrd.keep hcz (fun k e => by have : k = w.heap.size := e; omega)
      · have hz : ((n3 : Int) == 1) = false := by
          have : ¬ (n3 : Int) = 1 := by omega
          simpa using this
        obtain ⟨hfm, hnd⟩ := h3.fm 2 0
        have he : eraseA (.mk 2 0 ([], []) (.slice ao3 n3 cp3) (u :: us2)) = fmOf 2 (eraseL us2) (eraseA u) := by
          rw [eraseA]
          cases us2 with
          | nil => simp at hn; omega
          | cons y l => simp only [eraseL_map, List.map_cons]; rfl
        have HE := hid (And.intro hfm (And.intro hnd (And.intro hrd2 (And.intro hch (And.intro hZ1 he)))))
        clear hn h3 hrd2 hch hZ1 hfm hnd he hn1
        go_wp2
        obtain ⟨hown, hnd, hrd, hch, hZ1, he⟩ := HE.out
        obtain ⟨hend, hcz⟩ := st5 hZ1 (.int .i64 2) (.int .i64 0) (.string ⟨#[]⟩) (.string ⟨#[]⟩) (.slice ao3 n3 cp3)
        refine bodyPost_ret (results_cell_row (P := Tryz.prog) rfl _ _ w.heap.size 26 _ (0, 0) _ rfl hend Tryz.underlying26 rfl (by kernel_rfl)) rfl ?_
        refine ⟨.mk 2 0 ([], []) (.slice ao3 n3 cp3) (u :: us2), ao3, n3, cp3, rfl, rfl, ownA_low (Nat.le_succ _) _ (ownA_keep hcz _ hown (fun b hb e => by have := (ownA_lt _ hown b hb).1; have : b = w.heap.size := e; omega)), hnd, fun p hp => by rw [he]; exact HO.out.1 p hp, ?_, hch.trans hcz (fun i hi e => by have : i = w.heap.size := e; omega)⟩
        rw [HO.out.2]
        exact hrd.keep hcz (fun k e => by have : k = w.heap.size := e; omega)

set_option maxRecDepth 100000 in
set_option maxHeartbeats 4000000 in
theorem rany (D : Nat → Prop) (R N : Nat) (hN : N ≤ 4096) (hp : PartS D 36 R N bothG) : PartS D 23 R N anyG := by
  intro σ w hts hrd
  have hRl := hrd.lt
  have hcA : Chg (fun _ => False) w (w.alloc (.cells #[.int .i64 0, .int .i64 0, .string ⟨#[]⟩, .string ⟨#[]⟩, .slice none 0 0] 26)) := (Chg.refl _ w).alloc _
  have hZ := heap_alloc_new w (.cells #[.int .i64 0, .int .i64 0, .string ⟨#[]⟩, .string ⟨#[]⟩, .slice none 0 0] 26)
  have hsz : (w.alloc (.cells #[.int .i64 0, .int .i64 0, .string ⟨#[]⟩, .string ⟨#[]⟩, .slice none 0 0] 26)).heap.size = w.heap.size + 1 := by simp
  have hlen : ∀ ts f r, bothG ts = some (f, r) → r.length < ts.length := fun ts f r h => by have := both_len h; have := nodesF_pos f; omega
  have hrf : ∀ ts, orsG ts = moreP [111, 114] bothG orsG ts := orsG_eq
  have HP1 := hid (hp σ (w.alloc (.cells #[.int .i64 0, .int .i64 0, .string ⟨#[]⟩, .string ⟨#[]⟩, .slice none 0 0] 26)) hts (hrd.keep hcA (fun _ h => h.elim)))
  have HP := hid hp
  have HZ := hid (And.intro hZ (And.intro hcA hsz))
  have HL := hid (And.intro hlen hrf)
  have HJ : Hid (σ.bind anyG = σ.bind (joinP 3 bothG orsG)) := hid (by
    cases σ with
    | none => rfl
    | some ts => exact anyG_eq ts)
  clear hcA hZ hsz hp hrd hlen hrf
  go_enter Tryz.func23, Tryz.ntmps23
  go_wp2_with fail
  refine HP1.out.mono ?_
  rintro e w1 ⟨t, ao, q, cp, h2, rfl, h3, h4, h1, h5, h6⟩
  have hZ1 := blk_keep HZ.out.1 h6 (fun e => by have : w.heap.size = R := e; omega)
  have hch := (HZ.out.2.1.mono (T := (· = R)) (fun _ _ h => h.elim)).trans h6 (fun _ _ h => h)
  have hs6 := h6.size
  rw [HZ.out.2.2] at h3 hs6
  have hone := OwnRw.one hs6 h3 h4
  rw [cellsV t h2] at hone
  have hal : Chg (fun _ => False) w1 (w1.alloc (.cells #[.int .i64 t.op, .int .i64 t.k, .string ⟨t.r.1.toArray⟩, .string ⟨t.r.2.toArray⟩, .slice ao q cp] 26)) := (Chg.refl _ w1).alloc _
  have hss := sz_snd HL.out.1 σ
  have HIN : Hid (OwnRw (w.heap.size + 1) (w1.alloc (.cells #[.int .i64 t.op, .int .i64 t.k, .string ⟨t.r.1.toArray⟩, .string ⟨t.r.2.toArray⟩, .slice ao q cp] 26)) (.slice (some ⟨w1.heap.size, 0, none⟩) 1 1) [t] ∧ RdS D R ((σ.bind bothG).map Prod.snd) (w1.alloc (.cells #[.int .i64 t.op, .int .i64 t.k, .string ⟨t.r.1.toArray⟩, .string ⟨t.r.2.toArray⟩, .slice ao q cp] 26)) ∧ 1 + szS ((σ.bind bothG).map Prod.snd) ≤ N + 1 ∧ PI bothG orsG σ [t] ((σ.bind bothG).map Prod.snd) ∧ Chg (· = R) w (w1.alloc (.cells #[.int .i64 t.op, .int .i64 t.k, .string ⟨t.r.1.toArray⟩, .string ⟨t.r.2.toArray⟩, .slice ao q cp] 26)) ∧ (w1.alloc (.cells #[.int .i64 t.op, .int .i64 t.k, .string ⟨t.r.1.toArray⟩, .string ⟨t.r.2.toArray⟩, .slice ao q cp] 26)).heap[w.heap.size]? = some (.cells #[.int .i64 0, .int .i64 0, .string ⟨#[]⟩, .string ⟨#[]⟩, .slice none 0 0] 26)) := hid ⟨hone, h5.keep hal (fun _ h => h.elim), by omega, pi_start h1, hch.alloc _, blk_keep hZ1 hal id⟩
  clear h1 h2 h3 h4 h5 h6 hZ1 hch hs6 hone hal hss HP1
  unfold FmVal
  go_wp2
  go_loopw [3] (fun v wr => ∃ (us : List AT) (ao : Option Addr) (n cp : Nat) (σr : Option (List Tok)), v = .slice ao n cp ∧ Hid (n = us.length ∧ OwnRw (w.heap.size + 1) wr (.slice ao n cp) us ∧ RdS D R σr wr ∧ us.length + szS σr ≤ N + 1 ∧ 0 < us.length ∧ PI bothG orsG σ us σr ∧ Chg (· = R) w wr ∧ wr.heap[w.heap.size]? = some (.cells #[.int .i64 0, .int .i64 0, .string ⟨#[]⟩, .string ⟨#[]⟩, .slice none 0 0] 26))) (fun v _ => N + 1 - slN v)
  case atStart => exact ⟨[t], _, 1, 1, _, rfl, hid ⟨rfl, HIN.out.1, HIN.out.2.1, HIN.out.2.2.1, by simp, HIN.out.2.2.2⟩⟩
  case round =>
    obtain ⟨us, ao3, n3, cp3, σr, rfl, HREL⟩ := hrel
    have HT := hid (rhas D R σr [111, 114] wr HREL.out.2.2.1)
    go_wp2_with fail
    refine HT.out.mono ?_
    rintro e w2 ⟨hc2, ⟨rfl, r2, hr2, hrd2⟩ | ⟨rfl, hno, hrd2⟩⟩
    · have hsr := sz_has hr2
      have hx := HREL.out
      have hcw2 := hx.2.2.2.2.2.2.1.trans hc2 (fun _ _ h => h)
      have hown2 := hx.2.1.keep hc2 (fun k hk _ e => by have : k = R := e; omega)
      have hZ2 := blk_keep hx.2.2.2.2.2.2.2 hc2 (fun e => by have : w.heap.size = R := e; omega)
      have hl := hx.2.2.2.1
      have HP2 := hid (HP.out (some r2) w2 (show r2.length ≤ N by omega) hrd2)
      have hs2 : w.heap.size + 1 ≤ w2.heap.size := lt_blk hZ2
      have HC2 : Hid (Chg (· = R) w w2 ∧ OwnRw (w.heap.size + 1) w2 (.slice ao3 n3 cp3) us ∧ w2.heap[w.heap.size]? = some (.cells #[.int .i64 0, .int .i64 0, .string ⟨#[]⟩, .string ⟨#[]⟩, .slice none 0 0] 26) ∧ us.length + (r2.length + 1) ≤ N + 1 ∧ n3 = us.length ∧ w.heap.size + 1 ≤ w2.heap.size ∧ σr.bind (hasT [111, 114]) = some r2 ∧ PI bothG orsG σ us σr) := hid ⟨hcw2, hown2, hZ2, by omega, hx.1, hs2, hr2, hx.2.2.2.2.2.1⟩
      clear hsr hx hcw2 hown2 hZ2 hl hs2 hc2 hr2 hrd2 HT HREL
      go_wp2_with fail
      refine HP2.out.mono ?_
      rintro e w3 ⟨t2, ao, q, cp, h2, rfl, h3, h4, h1, h5, h6⟩
      have hl := HC2.out.2.2.2.1
      obtain ⟨ao5, n5, cp5, w5, hap, hn5, hown5, hrd5, hc5⟩ := app_step HC2.out.2.1 HC2.out.2.2.2.2.2.1 (by omega) h2 h3 h4 h5 h6 (by omega)
      have hpi := pi_step HL.out.2 HC2.out.2.2.2.2.2.2.2 HC2.out.2.2.2.2.2.2.1 h1
      have hss := sz_snd HL.out.1 (some r2)
      have hcw5 : Chg (· = R) w w5 := HC2.out.1.trans hc5 (fun i hi e => e.elim id (fun e => by omega))
      have hZ5 := blk_keep HC2.out.2.2.1 hc5 (fun e => e.elim (fun e => by omega) (fun e => by omega))
      have hss2 : szS (((some r2).bind bothG).map Prod.snd) ≤ r2.length := hss
      have hls : (us ++ [t2]).length = us.length + 1 := by simp
      have HEND : Hid (n5 = (us ++ [t2]).length ∧ OwnRw (w.heap.size + 1) w5 (.slice ao5 n5 cp5) (us ++ [t2]) ∧ RdS D R (((some r2).bind bothG).map Prod.snd) w5 ∧ (us ++ [t2]).length + szS (((some r2).bind bothG).map Prod.snd) ≤ N + 1 ∧ 0 < (us ++ [t2]).length ∧ PI bothG orsG σ (us ++ [t2]) (((some r2).bind bothG).map Prod.snd) ∧ Chg (· = R) w w5 ∧ w5.heap[w.heap.size]? = some (.cells #[.int .i64 0, .int .i64 0, .string ⟨#[]⟩, .string ⟨#[]⟩, .slice none 0 0] 26)) := hid ⟨hn5, hown5, hrd5, by omega, by omega, hpi, hcw5, hZ5⟩
      have HM : Hid (N + 1 - n5 < N + 1 - n3) := hid (by have := HC2.out.2.2.2.2.1; omega)
      clear h1 h2 h3 h4 h5 h6 hn5 hown5 hrd5 hc5 hpi hss hcw5 hZ5 hss2 hls hl HP2 HC2
      unfold FmVal
      go_wp2_with (at_builtin; refine wpList_append_runb rfl (.tmp 9) (.tmp 12) 24 rfl rfl rfl hap ?_)
      clear hap
      go_wp2
      go_roundw
      case rel => exact ⟨us ++ [t2], _, n5, _, _, rfl, HEND⟩
      case measure => exact HM.out
    · obtain ⟨hn, hown, _, hl, hpos, hpi, hcw, hzb⟩ := HREL.out
      have h3 := hown.keep hc2 (fun k hk _ e => by have : k = R := e; omega)
      have hZ1 := blk_keep hzb hc2 (fun e => by have : w.heap.size = R := e; omega)
      have hch := hcw.trans hc2 (fun _ _ h => h)
      obtain ⟨u, us2, rfl⟩ : ∃ u l, us = u :: l := by
        cases us with
        | nil => simp at hpos
        | cons u l => exact ⟨u, l, rfl⟩
      have hj := pi_join 3 HL.out.2 hpi hno
      rw [← HJ.out] at hj
      have HO := hid hj
      clear hown hl hpos hpi hcw hzb hno hj HREL HT hc2
      have g0 := froz_blk hZ1 0
      have g1 := froz_blk hZ1 1
      have g2 := froz_blk hZ1 2
      have g3 := froz_blk hZ1 3
      have g4 := froz_blk hZ1 4
      have r0 := cell_blk hZ1 0
      have r1 := cell_blk hZ1 1
      have r2 := cell_blk hZ1 2
      have r3 := cell_blk hZ1 3
      have r4 := cell_blk hZ1 4
      simp only [List.getElem?_toArray, List.getElem?_cons_zero, List.getElem?_cons_succ] at r0 r1 r2 r3 r4
      by_cases hn1 : n3 = 1
      · have hz : ((n3 : Int) == 1) = true := beq_iff_eq.2 (by omega)
        obtain rfl : us2 = [] := by
          cases us2 with
          | nil => rfl
          | cons s l => simp at hn; omega
        obtain ⟨g, rfl, c0, c1, c2, c3, c4⟩ := h3.cells0
        have hown := (ownL_all _ _ _).1 h3.own u (by simp)
        obtain ⟨ao2, cp2, hv2, _⟩ := own_fms hown
        obtain ⟨q2, hq2⟩ : ∃ q2, q2 = u.kids.length := ⟨_, rfl⟩
        rw [← hq2] at hv2
        rw [hv2] at c4
        have hnd : (blksA u).Nodup := by
          have := (List.nodup_append.1 h3.nd).2.1
          rw [blksL_flat] at this
          simpa using this
        have HE := hid (And.intro hown (And.intro hnd (And.intro hrd2 (And.intro hch (And.intro hZ1 hv2)))))
        have hlt : (0 : Int) < (n3 : Int) := by omega
        clear hn h3 hrd2 hch hZ1 hown hnd hq2 hv2
        go_wp2
        obtain ⟨hown, hnd, hrd, hch, hZ1, hv2⟩ := HE.out
        obtain ⟨hend, hcz⟩ := st5 hZ1 (.int .i64 u.op) (.int .i64 u.k) (.string ⟨u.r.1.toArray⟩) (.string ⟨u.r.2.toArray⟩) (.slice ao2 q2 cp2)
        refine bodyPost_ret (results_cell_row (P := Tryz.prog) rfl _ _ w.heap.size 26 _ (0, 0) _ rfl hend Tryz.underlying26 rfl (by kernel_rfl)) rfl ?_
        refine ⟨u, ao2, q2, cp2, hv2, rfl, ownA_low (Nat.le_succ _) u (ownA_keep hcz u hown (fun b hb e => by have := (ownA_lt u hown b hb).1; have : b = w.heap.size := e; omega)), hnd, HO.out.1, ?_, hch.trans hcz (fun i hi e => by have : i = w.heap.size := e; omega)⟩
        rw [HO.out.2]
        exact hrd.keep hcz (fun k e => by have : k = w.heap.size := e; omega)
      · have hz : ((n3 : Int) == 1) = false := by
          have : ¬ (n3 : Int) = 1 := by omega
          simpa using this
        obtain ⟨hfm, hnd⟩ := h3.fm 3 0
        have he : eraseA (.mk 3 0 ([], []) (.slice ao3 n3 cp3) (u :: us2)) = fmOf 3 (eraseL us2) (eraseA u) := by
          rw [eraseA]
          cases us2 with
          | nil => simp at hn; omega
          | cons y l => simp only [eraseL_map, List.map_cons]; rfl
        have HE := hid (And.intro hfm (And.intro hnd (And.intro hrd2 (And.intro hch (And.intro hZ1 he)))))
        clear hn h3 hrd2 hch hZ1 hfm hnd he hn1
        go_wp2
        obtain ⟨hown, hnd, hrd, hch, hZ1, he⟩ := HE.out
        obtain ⟨hend, hcz⟩ := st5 hZ1 (.int .i64 3) (.int .i64 0) (.string ⟨#[]⟩) (.string ⟨#[]⟩) (.slice ao3 n3 cp3)
        refine bodyPost_ret (results_cell_row (P := Tryz.prog) rfl _ _ w.heap.size 26 _ (0, 0) _ rfl hend Tryz.underlying26 rfl (by kernel_rfl)) rfl ?_
        refine ⟨.mk 3 0 ([], []) (.slice ao3 n3 cp3) (u :: us2), ao3, n3, cp3, rfl, rfl, ownA_low (Nat.le_succ _) _ (ownA_keep hcz _ hown (fun b hb e => by have := (ownA_lt _ hown b hb).1; have : b = w.heap.size := e; omega)), hnd, fun p hp => by rw [he]; exact HO.out.1 p hp, ?_, hch.trans hcz (fun i hi e => by have : i = w.heap.size := e; omega)⟩
        rw [HO.out.2]
        exact hrd.keep hcz (fun k e => by have : k = w.heap.size := e; omega)
end Go.Proofs.YtojbhlbknjnioaaGreatDoor
