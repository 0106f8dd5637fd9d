/- Texts that the proof leans on, in one: PbOwn, PbFirst, RoleHas. -/
import Derived.Test.YtojbhlbknjnioaaGreatDoorPa18
import Derived.Test.YtojbhlbknjnioaaGreatDoorPa23
import Derived.Test.YtojbhlbknjnioaaGreatDoorPa1
/- Text, Same and True at formulas of the call's own. -/
namespace Go.Proofs.YtojbhlbknjnioaaGreatDoor
open Go.RowKit

theorem own_fms2 {B : Nat} {w : World} {t : AT} {ao : Option Addr} {q cp : Nat} (h : OwnA B w t) (hv : t.v = .slice ao q cp) : q = (eraseA t).kids.length ∧ (ao = none → cp = 0) ∧ FmsAt (fun k => B ≤ k ∧ k < w.heap.size) w (deepF (eraseA t)) ao (eraseA t).kids ∧ FmOk (eraseA t) ∧ (eraseA t).op = t.op ∧ (eraseA t).k = t.k ∧ (eraseA t).r = t.r := by
  obtain ⟨ao2, cp2, k1, k2, k3, k4⟩ := own_fms h
  rw [hv] at k1
  injection k1 with k1 k5 k6
  subst k1 k6
  refine ⟨by rw [eraseA_eq]; simp only [FmB.kids, eraseL_len]; exact k5, k2, by rw [eraseA_eq] at k3 ⊢; exact k3, k4, by rw [eraseA_eq]; rfl, by rw [eraseA_eq]; rfl, by rw [eraseA_eq]; rfl⟩

theorem own_text {B : Nat} (t : AT) (ao : Option Addr) (q cp : Nat) (w : World) (hv : t.v = .slice ao q cp) (h : OwnA B w t) (hN : nodesF (eraseA t) ≤ 4096) :
    Calls Tryz.prog 11 #[FmVal t ao q cp] w fun e w' => e = .returned (.string ⟨(textP (eraseA t)).toArray⟩) ∧ Chg (fun _ => False) w w' := by
  obtain ⟨k1, k2, k3, k4, k5, k6, k7⟩ := own_fms2 h hv
  have := pText _ (eraseA t) ao cp w k3 (fun i hi => hi.2) k4 hN
  rw [← k1, k5, k6, k7] at this
  exact this
theorem text_zero (w : World) : Calls Tryz.prog 11 #[.agg #[.int .i64 0, .int .i64 0, .string ⟨#[]⟩, .string ⟨#[]⟩, .slice none 0 0]] w fun e w' => e = .returned (.string ⟨#[]⟩) ∧ Chg (fun _ => False) w w' := by
  have := pText (D := fun _ => False) 1 zeroF none 0 w (FmsAt.nil _ _ _ _) (fun i hi => hi.elim) ⟨by simp [zeroF, FmB.r], by simp [zeroF, FmB.r]⟩ (by decide)
  have e : textP zeroF = [] := by decide
  rw [e] at this
  exact this
/-- Same of one of the call's own, and any other. -/
theorem own_same {D : Nat → Prop} {B : Nat} (t : AT) (ao : Option Addr) (q cp : Nat) (w : World) (hv : t.v = .slice ao q cp) (h : OwnA B w t) (hnd : (blksA t).Nodup) (hN : nodesF (eraseA t) ≤ 4096) (f : FmB) (n : Nat) (bo : Option Addr) (bp : Nat) (hf : FmsAt D w n bo f.kids) (hD : ∀ i, D i → i < w.heap.size) (hok : FmOk f) (hz : bo = none → bp = 0) (hfl : nodesF f ≤ 90000) :
    Calls Tryz.prog 14 #[FmVal t ao q cp, .agg #[.int .i64 f.op, .int .i64 f.k, .string ⟨f.r.1.toArray⟩, .string ⟨f.r.2.toArray⟩, .slice bo f.kids.length bp]] w fun e w' => ∃ b : Bool, e = .returned (.bool b) ∧ (b = true ↔ eraseA t = f) ∧ Chg (fun _ => False) w w' := by
  obtain ⟨k1, _⟩ := own_fms2 h hv
  obtain ⟨op, k, r, v, kids⟩ := t
  have hv : v = .slice ao q cp := hv
  subst hv
  have hnf := nodesF_eq f
  have hnl := nodesL_len f.kids
  rw [eraseA] at k1
  simp only [FmB.kids, eraseL_len] at k1
  exact fm_same B op k r ao q cp kids f n bo bp w k1 h hnd (by omega) hf hD hok hz (by omega)
theorem own_same2 {B C : Nat} (t s : AT) (ao bo : Option Addr) (q cp q2 cp2 : Nat) (w : World) (hv : t.v = .slice ao q cp) (h : OwnA B w t) (hnd : (blksA t).Nodup) (hN : nodesF (eraseA t) ≤ 4096) (hv2 : s.v = .slice bo q2 cp2) (h2 : OwnA C w s) (hN2 : nodesF (eraseA s) ≤ 4096) :
    Calls Tryz.prog 14 #[FmVal t ao q cp, FmVal s bo q2 cp2] w fun e w' => ∃ b : Bool, e = .returned (.bool b) ∧ (b = true ↔ eraseA t = eraseA s) ∧ Chg (fun _ => False) w w' := by
  obtain ⟨k1, k2, k3, k4, k5, k6, k7⟩ := own_fms2 h2 hv2
  have := own_same t ao q cp w hv h hnd hN (eraseA s) _ bo cp2 k3 (fun i hi => hi.2) k4 k2 (by omega)
  rw [← k1, k5, k6, k7] at this
  exact this
theorem parse_nodes (s : List UInt8) : nodesF (parseF s).1 ≤ 4096 := by
  obtain ⟨ts, hx, htl⟩ := lex_all s.length s (Nat.le_refl _)
  rw [parse_gram hx]
  by_cases hl : 2048 < s.length
  · rw [if_pos hl]; decide
  · rw [if_neg hl]
    cases hg : gramP ts with
    | none => exact (by decide : nodesF zeroF ≤ 4096)
    | some f =>
      have := gram_len hg
      simp only
      split
      · show nodesF f ≤ 4096
        omega
      · exact (by decide : nodesF zeroF ≤ 4096)
theorem ParsedPost.known {s : List UInt8} {f : FmB} {n : Nat} {z : Int} {w w' : World} {e : Ending} (h : ParsedPost s w e w') (hp : parseF s = (f, n)) (hz : (n : Int) = z) : Chg (fun _ => False) w w' ∧ ∃ (t : AT) (ao : Option Addr) (q cp : Nat), eraseA t = f ∧ t.v = .slice ao q cp ∧ e = .returned (.tuple #[FmVal t ao q cp, .int .i64 z]) ∧ OwnA w.heap.size w' t ∧ (blksA t).Nodup := by
  obtain ⟨hc, t, ao, q, cp, h1, h2, h3, h4, h5⟩ := h
  rw [hp] at h1 h3
  simp only [hz] at h3
  exact ⟨hc, t, ao, q, cp, h1, h2, h3, h4, h5⟩
end Go.Proofs.YtojbhlbknjnioaaGreatDoor

/- Layer 12's first. -/
namespace Go.Proofs.YtojbhlbknjnioaaGreatDoor
open Go.RowKit

def firA : FmB := .mk 2 0 ([], []) [.mk 1 0 ([97], [114]) [], .mk 3 0 ([], []) [.mk 1 0 ([98], [115]) [], .mk 1 0 ([99], [116]) []]]
def firB : FmB := .mk 4 1 ([], []) [.mk 1 0 ([97], [114]) [], .mk 1 0 ([98], [115]) []]
theorem fir1 : parseF [97, 46, 114, 32, 97, 110, 100, 32, 40, 98, 46, 115, 32, 111, 114, 32, 99, 46, 116, 41] = (firA, 0) := by kernel_rfl
theorem fir2 : parseF [97, 46, 114, 32, 97, 110, 100] = (zeroF, 11) := by kernel_rfl
theorem fir3 : parseF [32, 97, 116, 32, 49, 9, 40, 97, 46, 114, 44, 98, 46, 115, 41, 32] = (firB, 0) := by kernel_rfl
theorem firX1 : (textP firA == [97, 108, 108, 40, 97, 46, 114, 44, 32, 115, 111, 109, 101, 40, 98, 46, 115, 44, 32, 99, 46, 116, 41, 41]) = true := by kernel_rfl
theorem firX3 : (textP firB == [97, 116, 32, 49, 40, 97, 46, 114, 44, 32, 98, 46, 115, 41]) = true := by kernel_rfl

set_option maxRecDepth 100000 in
set_option maxHeartbeats 4000000 in
theorem pfirst (w : World) (hv : VarsAt w) : Calls Tryz.prog 5 #[] w fun e w' => e = .returned (.bool true) ∧ Chg (fun _ => False) w w' := by
  have HV := hid hv
  have HP1 := hid (pparseF [97, 46, 114, 32, 97, 110, 100, 32, 40, 98, 46, 115, 32, 111, 114, 32, 99, 46, 116, 41] (by decide) w hv)
  clear hv
  go_enter Tryz.func5, Tryz.ntmps5
  go_wp2_with fail
  refine HP1.out.mono ?_
  intro e w1 hp
  obtain ⟨hc1, t1, ao1, q1, cp1, a1, b1, rfl, d1, n1⟩ := hp.known fir1 (z := 0) rfl
  have hl1 : Chg (fun _ => False) w1 (w1.alloc (.cells #[.int .i64 t1.op, .int .i64 t1.k, .string ⟨t1.r.1.toArray⟩, .string ⟨t1.r.2.toArray⟩, .slice ao1 q1 cp1] 26)) := (Chg.refl _ w1).alloc _
  have hb1 := heap_alloc_new w1 (.cells #[.int .i64 t1.op, .int .i64 t1.k, .string ⟨t1.r.1.toArray⟩, .string ⟨t1.r.2.toArray⟩, .slice ao1 q1 cp1] 26)
  have hw1 := hc1.trans hl1 (fun _ _ h => h)
  have HP2 := hid (pparseF [97, 46, 114, 32, 97, 110, 100] (by decide) (w1.alloc (.cells #[.int .i64 t1.op, .int .i64 t1.k, .string ⟨t1.r.1.toArray⟩, .string ⟨t1.r.2.toArray⟩, .slice ao1 q1 cp1] 26)) (HV.out.keep hw1 ⟨id, id⟩))
  have H1 := hid (And.intro hw1 (And.intro hb1 (And.intro (ownA_keep hl1 t1 d1 (fun _ _ => id)) (And.intro a1 b1))))
  clear hc1 a1 b1 d1 n1 hl1 hb1 hw1 hp HP1
  unfold FmVal
  go_wp2_with fail
  refine HP2.out.mono ?_
  intro e w2 hp
  obtain ⟨hc2, t2, ao2, q2, cp2, a2, b2, rfl, d2, n2⟩ := hp.known fir2 (z := 11) rfl
  have hl2 : Chg (fun _ => False) w2 (w2.alloc (.cells #[.int .i64 t2.op, .int .i64 t2.k, .string ⟨t2.r.1.toArray⟩, .string ⟨t2.r.2.toArray⟩, .slice ao2 q2 cp2] 26)) := (Chg.refl _ w2).alloc _
  have hw2 := hc2.trans hl2 (fun _ _ h => h)
  have HP3 := hid (pparseF [32, 97, 116, 32, 49, 9, 40, 97, 46, 114, 44, 98, 46, 115, 41, 32] (by decide) (w2.alloc (.cells #[.int .i64 t2.op, .int .i64 t2.k, .string ⟨t2.r.1.toArray⟩, .string ⟨t2.r.2.toArray⟩, .slice ao2 q2 cp2] 26)) (HV.out.keep (H1.out.1.trans hw2 (fun _ _ h => h)) ⟨id, id⟩))
  have H2 := hid (And.intro (H1.out.1.trans hw2 (fun _ _ h => h)) (And.intro (blk_keep H1.out.2.1 hw2 id) (ownA_keep hw2 t1 H1.out.2.2.1 (fun _ _ => id))))
  clear hc2 a2 b2 d2 n2 hl2 hw2 hp HP2
  unfold FmVal
  go_wp2_with fail
  refine HP3.out.mono ?_
  intro e w3 hp
  obtain ⟨hc3, t3, ao3, q3, cp3, a3, b3, rfl, d3, n3⟩ := hp.known fir3 (z := 0) rfl
  have hl3 : Chg (fun _ => False) w3 (w3.alloc (.cells #[.int .i64 t3.op, .int .i64 t3.k, .string ⟨t3.r.1.toArray⟩, .string ⟨t3.r.2.toArray⟩, .slice ao3 q3 cp3] 26)) := (Chg.refl _ w3).alloc _
  have hb3 := heap_alloc_new w3 (.cells #[.int .i64 t3.op, .int .i64 t3.k, .string ⟨t3.r.1.toArray⟩, .string ⟨t3.r.2.toArray⟩, .slice ao3 q3 cp3] 26)
  have hw3 := hc3.trans hl3 (fun _ _ h => h)
  have hb1 := blk_keep H2.out.2.1 hw3 id
  have hX1 := own_text t1 ao1 q1 cp1 (w3.alloc (.cells #[.int .i64 t3.op, .int .i64 t3.k, .string ⟨t3.r.1.toArray⟩, .string ⟨t3.r.2.toArray⟩, .slice ao3 q3 cp3] 26)) H1.out.2.2.2.2 (ownA_keep hw3 t1 H2.out.2.2 (fun _ _ => id)) (by rw [H1.out.2.2.2.1]; decide)
  rw [H1.out.2.2.2.1] at hX1
  obtain ⟨x1, hx1⟩ : ∃ x, x = textP firA := ⟨_, rfl⟩
  have z1 := firX1
  rw [← hx1] at hX1 z1
  have HX1 := hid hX1
  have H3 := hid (And.intro (H2.out.1.trans hw3 (fun _ _ h => h)) (And.intro hb3 (And.intro (ownA_keep hl3 t3 d3 (fun _ _ => id)) (And.intro a3 b3))))
  have s0 := cell_blk hb1 0
  have s1 := cell_blk hb1 1
  have s2 := cell_blk hb1 2
  have s3 := cell_blk hb1 3
  have s4 := cell_blk hb1 4
  simp only [List.getElem?_toArray, List.getElem?_cons_zero, List.getElem?_cons_succ] at s0 s1 s2 s3 s4
  clear hc3 a3 b3 d3 n3 hl3 hw3 hb3 hb1 hp HP3 hX1 hx1 H2 H1
  unfold FmVal
  go_wp2_with fail
  unfold FmVal at HX1
  refine HX1.out.mono ?_
  rintro e w4 ⟨rfl, hc4⟩
  have hb3 := blk_keep H3.out.2.1 hc4 id
  have hX3 := own_text t3 ao3 q3 cp3 w4 H3.out.2.2.2.2 (ownA_keep hc4 t3 H3.out.2.2.1 (fun _ _ => id)) (by rw [H3.out.2.2.2.1]; decide)
  rw [H3.out.2.2.2.1] at hX3
  obtain ⟨x3, hx3⟩ : ∃ x, x = textP firB := ⟨_, rfl⟩
  have z3 := firX3
  rw [← hx3] at hX3 z3
  unfold FmVal at hX3
  have HX3 := hid hX3
  have HC4 := hid (H3.out.1.trans hc4 (fun _ _ h => h))
  clear s0 s1 s2 s3 s4
  have s0 := cell_blk hb3 0
  have s1 := cell_blk hb3 1
  have s2 := cell_blk hb3 2
  have s3 := cell_blk hb3 3
  have s4 := cell_blk hb3 4
  simp only [List.getElem?_toArray, List.getElem?_cons_zero, List.getElem?_cons_succ] at s0 s1 s2 s3 s4
  clear hc4 hb3 hX3 hx3 H3 HX1
  go_wp2_with fail
  refine HX3.out.mono ?_
  rintro e w5 ⟨rfl, hc5⟩
  have HC5 := hid (HC4.out.trans hc5 (fun _ _ h => h))
  have HT := hid (text_zero w5)
  clear hc5 HX3 s0 s1 s2 s3 s4
  go_wp2_with fail
  refine HT.out.mono ?_
  rintro e w6 ⟨rfl, hc6⟩
  have HC6 := hid (HC5.out.trans hc6 (fun _ _ h => h))
  clear hc6 HT
  go_wp2
  go_ret
  exact ⟨rfl, HC6.out⟩
end Go.Proofs.YtojbhlbknjnioaaGreatDoor

/- The contracts of the document's Has and Same of layer 4. -/
namespace Go.Proofs.YtojbhlbknjnioaaGreatDoor
open Go.RowKit

set_option maxRecDepth 100000 in
theorem rhas_ref {D : Nat → Prop} (ao : Option Addr) (cp : Nat) (ls : List RoleB) (r : RoleB) (w : World) (hn : ls.length ≤ 9223372036854775807) (h : RolesAt D w ao ls) :
    Calls Tryz.prog 16 #[.slice ao ls.length cp, roleV r] w fun e w' => e = .returned (.bool (hasR ls r)) ∧ Chg (fun _ => False) w w' := by
  obtain ⟨o, x⟩ := r
  show Calls Tryz.prog 16 #[.slice ao ls.length cp, .agg #[.string ⟨o.toArray⟩, .string ⟨x.toArray⟩]] w _
  have hc : Chg (fun _ => False) w (w.alloc (.cells #[.string ⟨o.toArray⟩, .string ⟨x.toArray⟩] 23)) := (Chg.refl _ w).alloc _
  have hA := heap_alloc_new w (.cells #[.string ⟨o.toArray⟩, .string ⟨x.toArray⟩] 23)
  have h' := h.keep hc (fun _ _ => id)
  go_enter Tryz.func16, Tryz.ntmps16
  go_wp2
  generalize hw1 : w.alloc (.cells #[.string ⟨o.toArray⟩, .string ⟨x.toArray⟩] 23) = w1 at *
  generalize w.heap.size = A at *
  go_loopw [9] (fun i wr => ∃ k : Nat, k ≤ ls.length ∧ i = .int .i64 k ∧ Hid (hasR (ls.take k) (o, x) = false) ∧ Chg (fun _ => False) w1 wr) (fun i _ => ls.length - (intOf i).toNat)
  case atStart => exact ⟨0, Nat.zero_le _, rfl, by rw [List.take_zero]; rfl, Chg.refl _ _⟩
  case round =>
    obtain ⟨k, hk, rfl, hf, hc1⟩ := hrel
    have hA1 := blk_keep hA hc1 id
    have a0 := cell_blk hA1 0
    have a1 := cell_blk hA1 1
    simp only [List.getElem?_toArray, List.getElem?_cons_zero, List.getElem?_cons_succ] at a0 a1
    by_cases hlt : k < ls.length
    · obtain ⟨b, off, rfl, _, c0, c1, _⟩ := (h'.keep hc1 (fun _ _ => id)) k hlt
      have hft := hasR_take ls (o, x) k hlt hf.out
      have HFT := hid hft
      clear h h' hft
      have hmem : Hid (ls[k] ∈ ls) := hid (List.getElem_mem hlt)
      generalize ls[k] = q at *
      obtain ⟨p, y⟩ := q
      have hc2 : Chg (fun _ => False) wr (wr.alloc (.cells #[.string ⟨p.toArray⟩, .string ⟨y.toArray⟩] 23)) := (Chg.refl _ wr).alloc _
      have b0 := hc2.cell a0 id
      have b1 := hc2.cell a1 id
      have HC := hid (hc1.trans hc2 (fun _ _ h => h))
      have HW := hid hc
      clear hc hc1 hc2 hA hA1 hw1
      by_cases e1 : p = o
      · subst e1
        have f1 : (p == p) = true := by simp
        by_cases e2 : y = x
        · subst e2
          have f2 : (y == y) = true := by simp
          have hh : Hid (hasR ls (p, y) = true) := hid (by simpa [hasR] using hmem.out)
          go_wp2
          go_ret
          exact ⟨by rw [hh.out]; rfl, HW.out.trans HC.out (fun _ _ h => h)⟩
        · have f2 : (y == x) = false := by simpa using e2
          have hx := hid (HFT.out (fun h => e2 (congrArg Prod.snd h)))
          clear e2
          go_wp2
          go_roundw
          case rel => exact ⟨k + 1, by omega, by go_num, hx, HC.out⟩
          case measure => simp [intOf]; omega
      · have f1 : (p == o) = false := by simpa using e1
        have hx := hid (HFT.out (fun h => e1 (congrArg Prod.fst h)))
        clear e1
        go_wp2
        go_roundw
        case rel => exact ⟨k + 1, by omega, by go_num, hx, HC.out⟩
        case measure => simp [intOf]; omega
    · have hk2 : k = ls.length := by omega
      have hh : Hid (hasR ls (o, x) = false) := by have := hf.out; rwa [List.take_of_length_le (by omega)] at this
      have HC := hid (hc.trans hc1 (fun _ _ h => h))
      clear h h' hc hc1 hA hA1 hw1
      go_wp2
      go_ret
      exact ⟨by rw [hh.out]; rfl, HC.out⟩
end Go.Proofs.YtojbhlbknjnioaaGreatDoor
