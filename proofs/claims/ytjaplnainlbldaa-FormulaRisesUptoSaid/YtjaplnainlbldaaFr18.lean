/- Texts that the proof leans on, in one: FmCmp, RNum, CredApp, PmMap, OpenB, PmKeys, FactMap, KindW, KvMap, PmMath, RefRoleLess, RefCredRight, RefKFollows, RefKStands, StepApp, RefKTight, KwMath, KwState, KvEntry. -/
import Derived.Test.YtjaplnainlbldaaFr17
import Derived.Test.YtjaplnainlbldaaFr7
import Derived.Test.YtjaplnainlbldaaFr8
import Derived.Test.YtjaplnainlbldaaFr9
import Derived.Test.YtjaplnainlbldaaFr10
import Derived.Test.YtjaplnainlbldaaFr3
import Derived.Maps.OwnSet
import Derived.Maps.RangeWalk
import Derived.WalkSpells
import Derived.Test.YtjaplnainlbldaaRows
import Derived.Test.YtjaplnainlbldaaFr1
import Derived.Test.YtjaplnainlbldaaFr2
import Derived.ProofKit
import Derived.OpenShut
import Derived.ShutString
import Derived.ChangeOld
import Derived.Deep.Slices
import Derived.Deep.Fields
import Derived.ChangeSame
import Derived.DeepKeys4
import Derived.WideKeyEntry
import Derived.Test.YtjaplnainlbldaaFr14
import Derived.Maps.AppendAt
/- Compare of two formulas. -/
namespace Go.Proofs.Ytjaplnainlbldaa
open Go.RowKit

def wrF (f : FmB) : List UInt8 := if isF f then encF f else []
theorem wrF_len (f : FmB) : (wrF f).length ≤ 2560 := by
  unfold wrF
  split
  · rename_i h
    have h1 := isF_right h
    have := encF_len f h1.2.2
    omega
  · simp
set_option maxRecDepth 100000 in
set_option maxHeartbeats 4000000 in
theorem fm_written {D : Nat → Prop} (n : Nat) (f : FmB) (ao : Option Addr) (cp : Nat) (w : World) (h : FmsAt D w n ao f.kids) (hD : ∀ i, D i → i < w.heap.size) (hok : FmOk f) (hN : nodesF f ≤ 4096) :
    Calls Try.prog 70 #[.agg #[.int .i64 f.op, .int .i64 f.k, .string ⟨f.r.1.toArray⟩, .string ⟨f.r.2.toArray⟩, .slice ao f.kids.length cp]] w fun e w' => ∃ (a : Option Addr) (c : Nat), e = .returned (.slice a (wrF f).length c) ∧ BytesAt (fun k => w.heap.size ≤ k) w' (.slice a (wrF f).length c) (wrF f) ∧ Chg (fun _ => False) w w' := by
  have hc1 : Chg (fun _ => False) w (w.alloc (.cells #[.int .i64 f.op, .int .i64 f.k, .string ⟨f.r.1.toArray⟩, .string ⟨f.r.2.toArray⟩, .slice ao f.kids.length cp] 58)) := (Chg.refl _ w).alloc _
  have hc2 : Chg (fun _ => False) w ((w.alloc (.cells #[.int .i64 f.op, .int .i64 f.k, .string ⟨f.r.1.toArray⟩, .string ⟨f.r.2.toArray⟩, .slice ao f.kids.length cp] 58)).alloc (.cells #[.slice none 0 0] 67)) := hc1.alloc _
  have hsz : (w.alloc (.cells #[.int .i64 f.op, .int .i64 f.k, .string ⟨f.r.1.toArray⟩, .string ⟨f.r.2.toArray⟩, .slice ao f.kids.length cp] 58)).heap.size = w.heap.size + 1 := by simp
  have hsz2 : ((w.alloc (.cells #[.int .i64 f.op, .int .i64 f.k, .string ⟨f.r.1.toArray⟩, .string ⟨f.r.2.toArray⟩, .slice ao f.kids.length cp] 58)).alloc (.cells #[.slice none 0 0] 67)).heap.size = w.heap.size + 2 := by simp
  have hpn : PenAt (w.heap.size + 2) ((w.alloc (.cells #[.int .i64 f.op, .int .i64 f.k, .string ⟨f.r.1.toArray⟩, .string ⟨f.r.2.toArray⟩, .slice ao f.kids.length cp] 58)).alloc (.cells #[.slice none 0 0] 67)) (w.heap.size + 1) none 0 [] := by
    have := pen_new (w.alloc (.cells #[.int .i64 f.op, .int .i64 f.k, .string ⟨f.r.1.toArray⟩, .string ⟨f.r.2.toArray⟩, .slice ao f.kids.length cp] 58)) (w.heap.size + 2)
    rw [hsz] at this
    exact this
  have hb := blk_keep (heap_alloc_new w (.cells #[.int .i64 f.op, .int .i64 f.k, .string ⟨f.r.1.toArray⟩, .string ⟨f.r.2.toArray⟩, .slice ao f.kids.length cp] 58)) ((Chg.refl (fun _ => False) (w.alloc (.cells #[.int .i64 f.op, .int .i64 f.k, .string ⟨f.r.1.toArray⟩, .string ⟨f.r.2.toArray⟩, .slice ao f.kids.length cp] 58))).alloc (.cells #[.slice none 0 0] 67)) id
  have s0 := cell_blk hb 0
  have s1 := cell_blk hb 1
  have s2 := cell_blk hb 2
  have s3 := cell_blk hb 3
  have s4 := cell_blk hb 4
  simp only [List.getElem?_toArray, List.getElem?_cons_zero, List.getElem?_cons_succ] at s0 s1 s2 s3 s4
  cases hf : isF f with
  | false =>
    have HP := hid (fm_putno (.pointer (some ⟨w.heap.size + 1, 0, none⟩)) n f ao cp ((w.alloc (.cells #[.int .i64 f.op, .int .i64 f.k, .string ⟨f.r.1.toArray⟩, .string ⟨f.r.2.toArray⟩, .slice ao f.kids.length cp] 58)).alloc (.cells #[.slice none 0 0] 67)) (h.keep hc2 (fun _ _ => id)) (fun i hi => Nat.lt_of_lt_of_le (hD i hi) hc2.size) hok hN hf)
    have HWF : Hid (wrF f = []) := hid (by unfold wrF; rw [hf]; rfl)
    have HPN := hid hpn
    have HC2 := hid hc2
    clear hc1 hc2 hsz hsz2 hpn hb h hD hok hN hf
    go_enter Try.func70, Try.ntmps70
    go_wp2_with fail
    refine HP.out.mono ?_
    rintro e w3 ⟨rfl, hc3⟩
    have HB := hid (bytes_any (w.heap.size + 2) (w.heap.size + 1) 0 none [] w3 (HPN.out.keep hc3 id (fun _ _ => id)) (by simp))
    have HC3 := hid (HC2.out.trans hc3 (fun _ _ h => h))
    clear HP hc3 s0 s1 s2 s3 s4
    go_wp2_with fail
    refine HB.out.mono ?_
    rintro e w4 ⟨a, c, rfl, hb4, hc4⟩
    have HE := hid (And.intro hb4 (HC3.out.trans hc4 (fun _ _ h => h)))
    have hs := HC3.out.size
    clear HB hb4 hc4
    go_wp2
    go_ret
    rw [HWF.out]
    exact ⟨a, c, rfl, HE.out.1.mono (fun i hi => Nat.le_trans hs hi.1), HE.out.2⟩
  | true =>
    have HP := hid (fm_putyes n f ao cp (w.heap.size + 2) (w.heap.size + 1) 0 none [] ((w.alloc (.cells #[.int .i64 f.op, .int .i64 f.k, .string ⟨f.r.1.toArray⟩, .string ⟨f.r.2.toArray⟩, .slice ao f.kids.length cp] 58)).alloc (.cells #[.slice none 0 0] 67)) (h.keep hc2 (fun _ _ => id)) hok hf (by simp) hpn (by omega) (by omega) (fun i hi => by have := hD i hi; omega))
    have HWF : Hid (wrF f = encF f) := hid (by unfold wrF; rw [hf]; rfl)
    have HL := hid (wrF_len f)
    have HC2 := hid hc2
    have HPN := hid hpn
    clear hc1 hc2 hsz hsz2 hpn hb h hD hok hN hf
    go_enter Try.func70, Try.ntmps70
    go_wp2_with fail
    refine HP.out.mono ?_
    rintro e w3 ⟨rfl, hps⟩
    rw [List.nil_append, ← HWF.out] at hps
    obtain ⟨a3, c3, hp3, hch3⟩ := hps
    have HB := hid (bytes_any (w.heap.size + 2) (w.heap.size + 1) c3 a3 (wrF f) w3 hp3 (by have := HL.out; omega))
    have HC3 := hid (pchg_new HC2.out HPN.out (by omega) (by omega) hch3)
    clear HP hp3 hch3 s0 s1 s2 s3 s4
    go_wp2_with fail
    refine HB.out.mono ?_
    rintro e w4 ⟨a, c, rfl, hb4, hc4⟩
    have HE := hid (And.intro hb4 (HC3.out.trans hc4 (fun _ _ h => h)))
    have hs := HC3.out.size
    clear HB hb4 hc4
    go_wp2
    go_ret
    exact ⟨a, c, rfl, HE.out.1.mono (fun i hi => Nat.le_trans hs hi.1), HE.out.2⟩

/-- What is written of a formula. -/
def Spec.wr (f : FmB) : Spec := ⟨fun v w => ∃ a c, v = .slice a (wrF f).length c ∧ BytesAt (fun _ => True) w (.slice a (wrF f).length c) (wrF f), fun _ _ _ hc ⟨a, c, h1, h2⟩ => ⟨a, c, h1, h2.keep hc (fun _ _ => id)⟩⟩
set_option maxRecDepth 100000 in
set_option maxHeartbeats 4000000 in
theorem fm_compare {D E : Nat → Prop} (n : Nat) (f : FmB) (ao : Option Addr) (cp : Nat) (w : World) (h : FmsAt D w n ao f.kids) (hD : ∀ i, D i → i < w.heap.size) (hok : FmOk f) (hN : nodesF f ≤ 4096) (n2 : Nat) (g : FmB) (bo : Option Addr) (bp : Nat) (h2 : FmsAt E w n2 bo g.kids) (hD2 : ∀ i, E i → i < w.heap.size) (hok2 : FmOk g) (hN2 : nodesF g ≤ 4096) :
    Calls Try.prog 36 #[.agg #[.int .i64 f.op, .int .i64 f.k, .string ⟨f.r.1.toArray⟩, .string ⟨f.r.2.toArray⟩, .slice ao f.kids.length cp], .agg #[.int .i64 g.op, .int .i64 g.k, .string ⟨g.r.1.toArray⟩, .string ⟨g.r.2.toArray⟩, .slice bo g.kids.length bp]] w fun e w' => e = .returned (.int .i64 (Lib.compareBytes (wrF f) (wrF g))) ∧ Chg (fun _ => False) w w' := by
  have hc1 : Chg (fun _ => False) w (w.alloc (.cells #[.int .i64 f.op, .int .i64 f.k, .string ⟨f.r.1.toArray⟩, .string ⟨f.r.2.toArray⟩, .slice ao f.kids.length cp] 58)) := (Chg.refl _ w).alloc _
  have hc2 : Chg (fun _ => False) w ((w.alloc (.cells #[.int .i64 f.op, .int .i64 f.k, .string ⟨f.r.1.toArray⟩, .string ⟨f.r.2.toArray⟩, .slice ao f.kids.length cp] 58)).alloc (.cells #[.int .i64 g.op, .int .i64 g.k, .string ⟨g.r.1.toArray⟩, .string ⟨g.r.2.toArray⟩, .slice bo g.kids.length bp] 58)) := hc1.alloc _
  have hsz : (w.alloc (.cells #[.int .i64 f.op, .int .i64 f.k, .string ⟨f.r.1.toArray⟩, .string ⟨f.r.2.toArray⟩, .slice ao f.kids.length cp] 58)).heap.size = w.heap.size + 1 := by simp
  have hbf := blk_keep (heap_alloc_new w (.cells #[.int .i64 f.op, .int .i64 f.k, .string ⟨f.r.1.toArray⟩, .string ⟨f.r.2.toArray⟩, .slice ao f.kids.length cp] 58)) ((Chg.refl (fun _ => False) (w.alloc (.cells #[.int .i64 f.op, .int .i64 f.k, .string ⟨f.r.1.toArray⟩, .string ⟨f.r.2.toArray⟩, .slice ao f.kids.length cp] 58))).alloc (.cells #[.int .i64 g.op, .int .i64 g.k, .string ⟨g.r.1.toArray⟩, .string ⟨g.r.2.toArray⟩, .slice bo g.kids.length bp] 58)) id
  have hbg := heap_alloc_new (w.alloc (.cells #[.int .i64 f.op, .int .i64 f.k, .string ⟨f.r.1.toArray⟩, .string ⟨f.r.2.toArray⟩, .slice ao f.kids.length cp] 58)) (.cells #[.int .i64 g.op, .int .i64 g.k, .string ⟨g.r.1.toArray⟩, .string ⟨g.r.2.toArray⟩, .slice bo g.kids.length bp] 58)
  rw [hsz] at hbg
  have HBB := hid (And.intro hbf hbg)
  have HC2 := hid hc2
  have HWF := hid (fun w' (hc : Chg (fun _ => False) ((w.alloc (.cells #[.int .i64 f.op, .int .i64 f.k, .string ⟨f.r.1.toArray⟩, .string ⟨f.r.2.toArray⟩, .slice ao f.kids.length cp] 58)).alloc (.cells #[.int .i64 g.op, .int .i64 g.k, .string ⟨g.r.1.toArray⟩, .string ⟨g.r.2.toArray⟩, .slice bo g.kids.length bp] 58)) w') => fm_written n f ao cp w' ((h.keep hc2 (fun _ _ => id)).keep hc (fun _ _ => id)) (fun i hi => by have := hD i hi; have := hc2.size; have := hc.size; omega) hok hN)
  have HWG := hid (fun w' (hc : Chg (fun _ => False) ((w.alloc (.cells #[.int .i64 f.op, .int .i64 f.k, .string ⟨f.r.1.toArray⟩, .string ⟨f.r.2.toArray⟩, .slice ao f.kids.length cp] 58)).alloc (.cells #[.int .i64 g.op, .int .i64 g.k, .string ⟨g.r.1.toArray⟩, .string ⟨g.r.2.toArray⟩, .slice bo g.kids.length bp] 58)) w') => fm_written n2 g bo bp w' ((h2.keep hc2 (fun _ _ => id)).keep hc (fun _ _ => id)) (fun i hi => by have := hD2 i hi; have := hc2.size; have := hc.size; omega) hok2 hN2)
  clear hc1 hc2 hsz hbf hbg h h2 hD hD2 hok hok2 hN hN2
  go_enter Try.func36, Try.ntmps36
  go_wp2
  generalize ((w.alloc (.cells #[.int .i64 f.op, .int .i64 f.k, .string ⟨f.r.1.toArray⟩, .string ⟨f.r.2.toArray⟩, .slice ao f.kids.length cp] 58)).alloc (.cells #[.int .i64 g.op, .int .i64 g.k, .string ⟨g.r.1.toArray⟩, .string ⟨g.r.2.toArray⟩, .slice bo g.kids.length bp] 58)) = w2 at *
  generalize w.heap.size = X at *
  refine wp_region_specs [.any, .any, .eq (.pointer (some ⟨X, 0, none⟩)), .eq (.pointer (some ⟨X + 1, 0, none⟩)), .eq (.int .i64 (Lib.compareBytes (wrF f) (wrF g))), .eq (.agg #[.int .i64 f.op, .int .i64 f.k, .string ⟨f.r.1.toArray⟩, .string ⟨f.r.2.toArray⟩, .slice ao f.kids.length cp]), .wr f, .eq (.agg #[.int .i64 g.op, .int .i64 g.k, .string ⟨g.r.1.toArray⟩, .string ⟨g.r.2.toArray⟩, .slice bo g.kids.length bp]), .wr g, .eq (.int .i64 (Lib.compareBytes (wrF f) (wrF g)))] [5, 6, 7, 8, 9, 4] [2, 3] (by kernel_rfl) (by kernel_rfl) (by rfl) (by kernel_rfl) ?start ?obs ?fin
  case start =>
    simp only [List.forall_mem_cons]; exact ⟨⟨_, rfl, rfl⟩, ⟨_, rfl, rfl⟩, fun _ h => by cases h⟩
  case obs =>
    refine Obs.cons none (by kernel_rfl) ?_ ?_
    · refine Ob.plain fun a w hR hk K k => ?_
      obtain ⟨_, e2, rfl⟩ := hk 2 (by decide)
      clear hk
      have hb := blk_keep HBB.out.1 hR id
      have s0 := cell_blk hb 0
      have s1 := cell_blk hb 1
      have s2 := cell_blk hb 2
      have s3 := cell_blk hb 3
      have s4 := cell_blk hb 4
      simp only [List.getElem?_toArray, List.getElem?_cons_zero, List.getElem?_cons_succ] at s0 s1 s2 s3 s4
      clear hb hR
      go_simp
      exact k _ _ (Chg.refl _ _) rfl
    refine Obs.cons none (by kernel_rfl) ?_ ?_
    · refine Ob.plain fun a w hR hk K k => ?_
      obtain ⟨_, e5, rfl⟩ := hk 5 (by decide)
      clear hk
      have hq := HWF.out w hR
      clear hR
      go_simp
      refine hq.mono ?_
      rintro e w5 ⟨a1, c1, rfl, h1, h2⟩
      exact k _ _ h2 ⟨a1, c1, rfl, h1.mono (fun _ _ => trivial)⟩
    refine Obs.cons none (by kernel_rfl) ?_ ?_
    · refine Ob.plain fun a w hR hk K k => ?_
      obtain ⟨_, e3, rfl⟩ := hk 3 (by decide)
      clear hk
      have hb := blk_keep HBB.out.2 hR id
      have s0 := cell_blk hb 0
      have s1 := cell_blk hb 1
      have s2 := cell_blk hb 2
      have s3 := cell_blk hb 3
      have s4 := cell_blk hb 4
      simp only [List.getElem?_toArray, List.getElem?_cons_zero, List.getElem?_cons_succ] at s0 s1 s2 s3 s4
      clear hb hR
      go_simp
      exact k _ _ (Chg.refl _ _) rfl
    refine Obs.cons none (by kernel_rfl) ?_ ?_
    · refine Ob.plain fun a w hR hk K k => ?_
      obtain ⟨_, e7, rfl⟩ := hk 7 (by decide)
      clear hk
      have hq := HWG.out w hR
      clear hR
      go_simp
      refine hq.mono ?_
      rintro e w5 ⟨a1, c1, rfl, h1, h2⟩
      exact k _ _ h2 ⟨a1, c1, rfl, h1.mono (fun _ _ => trivial)⟩
    refine Obs.cons none (by kernel_rfl) ?_ ?_
    · refine Ob.plain fun a w hR hk K k => ?_
      obtain ⟨_, e6, f6⟩ := hk 6 (by decide)
      obtain ⟨_, e8, f8⟩ := hk 8 (by decide)
      clear hk
      obtain ⟨a1, c1, rfl, h1⟩ := f6
      obtain ⟨a2, c2, rfl, h2⟩ := f8
      obtain ⟨l1, hl1⟩ : ∃ l1, l1 = (wrF f).length := ⟨_, rfl⟩
      obtain ⟨l2, hl2⟩ : ∃ l2, l2 = (wrF g).length := ⟨_, rfl⟩
      rw [← hl1] at h1
      rw [← hl2] at h2
      simp only [← hl1, ← hl2] at *
      have hq := bytes_compare w h1 h2
      have HQ := hid hq
      clear hl1 hl2 h1 h2 hq hR
      have hq := HQ.out
      go_simp
      refine hq.mono ?_
      rintro e w5 ⟨rfl, rfl⟩
      exact k _ _ (Chg.refl _ _) rfl
    refine Obs.cons none (by kernel_rfl) ?_ ?_
    · refine Ob.plain fun a w hR hk K k => ?_
      obtain ⟨_, e9, f9⟩ := hk 9 (by decide)
      clear hk
      go_simp
      exact k _ _ (Chg.refl _ _) f9
    exact Obs.nil
  case fin =>
    intro vals w9 hc9 hv
    have h4 : vals 4 = .int .i64 (Lib.compareBytes (wrF f) (wrF g)) := hv 4 (by decide)
    have HC9 := hid (HC2.out.trans hc9 (fun _ _ h => h))
    simp only [putAll, List.setIfInBounds_toArray, List.set_cons_zero, List.set_cons_succ, h4]
    clear hv h4 hc9
    go_wp2
    go_ret
    exact ⟨rfl, HC9.out⟩
end Go.Proofs.Ytjaplnainlbldaa

/- The contracts of a reader's Left and Number. -/
namespace Go.Proofs.Ytjaplnainlbldaa
open Go.RowKit

def RNumOk (D : Nat → Prop) (R : Nat) (l : List UInt8) (w : World) (e : Ending) (w' : World) : Prop :=
  e = .returned (.int .i64 (numN 9 l 0 0).1) ∧ ∃ v', BytesAt D w' v' (l.drop (numN 9 l 0 0).2.1) ∧ ReaderAt w' R true v' 0 ∧ Chg (· = R) w w'

set_option maxRecDepth 100000 in
theorem rnum_ok {D : Nat → Prop} (R b off cap : Nat) (l : List UInt8) (most : Int) (w : World) (hl : l.length ≤ 9223372036854775807) (hb : D b) (hDR : ¬ D R) (hlc : l.length ≤ cap) (hcm : cap ≤ maxLen)
    (hc : ∀ i (h : i < l.length), w.cell? ⟨b, off + i, none⟩ = some (.int .u8 (l[i].toNat : Int)))
    (hR : ReaderAt w R true (.slice (some ⟨b, off, none⟩) l.length cap) 0) (n k : Nat) (hN : Hid (numN 9 l 0 0 = (n, k, 0))) (hk : k ≤ l.length) (hn : (n : Int) ≤ most) (_ : (n : Int) ≤ 9223372036854775807) :
    Calls Try.prog 97 #[.pointer (some ⟨R, 0, none⟩), .int .i64 most] w (RNumOk D R l w) := by
  have h0 := cell_blk hR 0
  have h1 := cell_blk hR 1
  have f1 := froz_blk hR 1
  simp only [List.getElem?_toArray, List.getElem?_cons_zero, List.getElem?_cons_succ] at h0 h1
  have hnum := number_some b off cap l w hl hc
  go_enter Try.func97, Try.ntmps97
  go_wp2_with (first | (go_at_call 99; refine (ended_true _ _ h0).mono ?_; rintro e w' ⟨rfl, rfl⟩) | (go_at_call 121; refine hnum.mono ?_; rintro e w' ⟨rfl, rfl⟩; rw [hN.out]) | (go_at_call 67; refine (fail_ok _ _ h0).mono ?_; rintro e w' ⟨rfl, rfl⟩))
  · go_ret
    refine ⟨by simp [hN.out], ?_⟩
    rw [hN.out]
    exact reader_cut hb hDR hlc hcm hc hR hk (.inl ⟨by assumption, rfl⟩)
  · go_ret
    refine ⟨by simp [hN.out], ?_⟩
    rw [hN.out]
    exact reader_cut hb hDR hlc hcm hc hR hk (.inr ⟨rfl, rfl⟩)

/-- Reader.Number, of an open reader: the number. -/
theorem rnum_reads {D : Nat → Prop} {R : Nat} {v : Value} {l : List UInt8} {most : Int} {w : World} (hl : l.length ≤ 9223372036854775807) (hv : BytesAt D w v l) (hDR : ¬ D R) (hR : ReaderAt w R true v 0) (he : errNum l most = 0) :
    Calls Try.prog 97 #[.pointer (some ⟨R, 0, none⟩), .int .i64 most] w (RNumOk D R l w) := by
  have hz : (numN 9 l 0 0).2.2 = 0 := by
    unfold errNum at he
    by_cases h : (numN 9 l 0 0).2.2 = 0
    · exact h
    · rw [if_neg h] at he
      exact he
  have hm : ((numN 9 l 0 0).1 : Int) ≤ most := by
    unfold errNum at he
    rw [if_pos hz] at he
    by_cases h : most < ((numN 9 l 0 0).1 : Int)
    · rw [if_pos h] at he
      omega
    · omega
  obtain ⟨k1, k2, k3⟩ := numN_ok hz
  rcases hv with ⟨ao, cp, rfl, rfl, _⟩ | ⟨b, off, cap, rfl, h1, h2, h3, h4⟩
  · simp at k2
    omega
  · exact rnum_ok R b off cap l most w hl h3 hDR h1 h2 h4 hR _ _ (pair3 _ hz) k2 hm (by omega)

end Go.Proofs.Ytjaplnainlbldaa

/- append of a list of credentials, onto a row of the call's own. -/
namespace Go.Proofs.Ytjaplnainlbldaa
open Go.RowKit

end Go.Proofs.Ytjaplnainlbldaa

/- Maps and sets of the model, as they lie in memory: whatever the kind of their keys. -/
namespace Go.Proofs.Ytjaplnainlbldaa
open Go.RowKit Go.Maps Go.ChangeMaps Go.WideMaps

/-- A kind of keys. -/
structure KT (α : Type) where
  ty : TypeId
  val : α → Value
  lit : α → Lit
  ok : α → Prop
  keyed : Keyed Try.prog ty
  isKey : ∀ a, WideAt.IsKeyLit (lit a)
  reads : ∀ a, ok a → Go.keyOf Try.prog ty (val a) = some (lit a)
  inj : ∀ a b, val a = val b → a = b

variable {α : Type} {β : Type}

section
variable {k : KT α} {R : Value → Option (DataW Value × List MemPlace)} {w : World} {mb : Nat} {ks : List α} {M : DataW Value}

end

section
variable {k : KT α} {w : World} {mb : Nat} {l : List α}
end

section
variable {k : KT α} {w : World} {mb : Nat} {l : List (α × Nat)}
end

section
variable {k : KT α} {R : Value → Option (DataW Value × List MemPlace)} {w : World} {mo : Option Nat} {r cnt : Nat} {rest : List α}

end

section
variable {ko : KT α} {ki : KT β} {O : Nat → Prop} {w : World} {mb n : Nat} {rel : α → β → Prop}

end
end Go.Proofs.Ytjaplnainlbldaa

/- The arguments of laws, opened to cells: bytes, a small array. -/
namespace Go.Proofs.Ytjaplnainlbldaa
open Go.ChangeShapes Go.WideShapes Go.ChangeAt Go.RowKit Go.Deep

theorem Try.own : ownKnob Try.prog.godebug = none := by kernel_rfl
theorem Try.laidOut : laidOutB Try.prog = true := by kernel_rfl

theorem spot_none {w : World} {a : Addr} {v : Value} (h : w.cell? a = some v) : a = ⟨a.block, a.off, none⟩ := by
  obtain ⟨b, o, s⟩ := a
  cases s with
  | none => rfl
  | some x =>
    simp only [World.cell?] at h
    split at h
    · simp at h
    · cases h

theorem add_zero (a : Addr) : a.add 0 = a := by
  unfold Addr.add
  simp

section
variable {H : Type} {enc : TypeId × Value → H} {w : World} {base : Nat} {held : Bool} {fuel : Nat}

end

end Go.Proofs.Ytjaplnainlbldaa

/- The keys of the model's maps: names, roles, credentials. -/
namespace Go.Proofs.Ytjaplnainlbldaa
open Go.RowKit Go.Maps Go.ChangeMaps Go.WideMaps

end Go.Proofs.Ytjaplnainlbldaa

/- A map by facts, of bools, as it lies in memory. -/
namespace Go.Proofs.Ytjaplnainlbldaa
open Go.RowKit Go.Maps Go.ChangeMaps Go.WideMaps

end Go.Proofs.Ytjaplnainlbldaa

/- The kinds of credentials that came in are ints as they can be. -/
namespace Go.Proofs.Ytjaplnainlbldaa
open Go.RowKit

end Go.Proofs.Ytjaplnainlbldaa

/- Maps of the program's check, as they lie in memory: by what a look-up gives. -/
namespace Go.Proofs.Ytjaplnainlbldaa
open Go.RowKit Go.Maps Go.ChangeMaps Go.WideMaps

variable {α : Type}

section
variable {k : KT α} {w : World} {mb n : Nat} {F : α → Option Value}

end
end Go.Proofs.Ytjaplnainlbldaa

/- How the program's model grows: plain words, nothing of the program's text. -/
namespace Go.Proofs.Ytjaplnainlbldaa
open Go.RowKit

end Go.Proofs.Ytjaplnainlbldaa

/- The contract of the document's Less of layer 4. -/
namespace Go.Proofs.Ytjaplnainlbldaa
open Go.RowKit

end Go.Proofs.Ytjaplnainlbldaa

/- The contract of the document's Right of layer 5. -/
namespace Go.Proofs.Ytjaplnainlbldaa
open Go.RowKit

end Go.Proofs.Ytjaplnainlbldaa

/- The contract of the document's Follows, of layer 9. -/
namespace Go.Proofs.Ytjaplnainlbldaa
open Go.RowKit
attribute [local go_sem ↓ high] run_eqg_role run_eql_role

end Go.Proofs.Ytjaplnainlbldaa

/- The contract of the document's stands, of layer 9. -/
namespace Go.Proofs.Ytjaplnainlbldaa
open Go.RowKit

end Go.Proofs.Ytjaplnainlbldaa

/- append of a list of steps, onto a row of the call's own. -/
namespace Go.Proofs.Ytjaplnainlbldaa
open Go.RowKit

end Go.Proofs.Ytjaplnainlbldaa

/- The contract of the document's Tight, of layer 9. -/
namespace Go.Proofs.Ytjaplnainlbldaa
open Go.RowKit

theorem run_eqg_factl (x y : Operand) (a b : FactB) (w : World) : Sem.run Try.prog (eqGuard BinOp.eql 26 x y (.agg #[.string ⟨a.1.1.toArray⟩, .string ⟨a.1.2.toArray⟩, .string ⟨a.2.toArray⟩]) (.agg #[.string ⟨b.1.1.toArray⟩, .string ⟨b.1.2.toArray⟩, .string ⟨b.2.toArray⟩])) w = .ok () w := by
  go_simp
theorem run_eql_factl (a b : FactB) (w : World) : Sem.run Try.prog (binOp BinOp.eql 26 (.agg #[.string ⟨a.1.1.toArray⟩, .string ⟨a.1.2.toArray⟩, .string ⟨a.2.toArray⟩]) (.agg #[.string ⟨b.1.1.toArray⟩, .string ⟨b.1.2.toArray⟩, .string ⟨b.2.toArray⟩])) w = .ok (.bool (decide (a = b))) w := by
  have : decide (a = b) = decide (a.1.1 = b.1.1 ∧ a.1.2 = b.1.2 ∧ a.2 = b.2) := by simp only [Prod.ext_iff, and_assoc]
  rw [this]
  go_simp
  by_cases h1 : a.1.1 = b.1.1 <;> by_cases h2 : a.1.2 = b.1.2 <;> by_cases h3 : a.2 = b.2 <;> simp [h1, h2, h3]
attribute [local go_sem ↓ high] run_eqg_factl run_eql_factl

/-- An append whose run is known. -/
theorem ob_appendK {o : Oper} {a : Act} {w : World} {K : Act → World → Prop} {Q : Exit → Act → World → Prop} {s x : Tmp} {v y : Value} (tt : TypeId)
    (ho : o.op = .call { callee := .builtin .append, args := #[.tmp s, .tmp x], argTypes := #[tt, tt] }) (hs : a.tmps[s]? = some v) (hx : a.tmps[x]? = some y) {v' : Value} {w' : World}
    (hr : (Builtin.append_ #[tt, tt] o.type #[v, y]).run Try.prog w = .ok v' w') (hK : K (a.put o.dst v') w') : o.wp Try.prog a w K Q := by
  have h1 : a.eval (.tmp s) = v := by simp [Act.eval, hs]
  have h2 : a.eval (.tmp x) = y := by simp [Act.eval, hx]
  unfold Oper.wp execOp
  simp only [ho, resolve, invoke, builtin, Sem.run_bind, Sem.run_pure, Result.andThen_ok, List.map_toArray, List.map_cons, List.map_nil, h1, h2, hr]
  exact hK

end Go.Proofs.Ytjaplnainlbldaa

/- The program's check: facts that are known, places and ways: plain words, nothing of the program's text. -/
namespace Go.Proofs.Ytjaplnainlbldaa
open Go.RowKit

end Go.Proofs.Ytjaplnainlbldaa

/- What the program's check knows, as it lies in memory. -/
namespace Go.Proofs.Ytjaplnainlbldaa
open Go.RowKit Go.Maps

theorem Chg.none9 {S : Nat → Prop} {w w' : World} (h : Chg (fun _ => False) w w') : Chg S w w' := h.mono (fun _ _ h => h.elim)

/-- What a block is for. -/
inductive KTag
  | top
  | at
  | of
  | row
  | role (r : RoleB)

section
variable {T : Nat → Option KTag} {w w1 : World} {g : Nat} {F : List FactB} {f : FactB} {v : Value} {m1 m2 : Nat} {Sl : RoleB → Option Value}

end
end Go.Proofs.Ytjaplnainlbldaa

/- An element of a map that is stored anew: what is read ahead hangs on the map's block alone. -/
namespace Go.Proofs.Ytjaplnainlbldaa
open Go.RowKit Go.Maps Go.ChangeMaps Go.WideMaps

variable {α : Type} {k : KT α} {w : World} {mb n : Nat} {F : α → Option Value}

end Go.Proofs.Ytjaplnainlbldaa
