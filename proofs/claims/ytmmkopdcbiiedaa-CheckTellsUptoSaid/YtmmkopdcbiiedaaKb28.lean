/- Texts that the proof leans on, in one: CheckTells, OpenB, RoleCells, CredOpen. -/
import Derived.Test.YtmmkopdcbiiedaaKb19
import Derived.Test.YtmmkopdcbiiedaaRows
import Derived.Test.YtmmkopdcbiiedaaKb5
import Derived.ProofKit
import Derived.OpenShut
import Derived.ShutString
import Derived.ChangeOld
import Derived.Deep.Slices
import Derived.Deep.Fields
import Derived.ChangeSame
import Derived.Test.YtmmkopdcbiiedaaKb4
import Derived.Test.YtmmkopdcbiiedaaKb14
/- The law CheckTells, walked, over the contracts of CheckK. -/
namespace Go.Proofs.Ytmmkopdcbiiedaa
open Go.RowKit

theorem totalC_len20K (a : List CredB) : a.length * 20 ≤ totalC a := by
  induction a with
  | nil => simp [totalC]
  | cons x l ih => rw [totalC, List.length_cons, sizeC]; omega

theorem facts_shortK {ls : List StepB} (h : ∀ s ∈ ls, stepShort s 9223372036854775807) (k : Nat) : ∀ f ∈ factsK (ls.take k), factShort f 9223372036854775807 := fun f hf => by
  unfold factsK at hf
  obtain ⟨s, hs, rfl⟩ := List.mem_map.1 hf
  exact (h s (List.mem_of_mem_take hs)).2

set_option maxRecDepth 100000 in
set_option maxHeartbeats 8000000 in
theorem ktells_main (HC0 : CK) (hfirst : ∀ w : World, Calls Try.prog 7 #[] w fun e w' => e = .returned (.bool true) ∧ Chg (fun _ => False) w w')
    {D E : Nat → Prop} (ao co : Option Addr) (cp cc : Nat) (ls : List StepB) (cs : List CredB) (wf : FactB) (w : World) (hn : totalSt ls ≤ 4503599627370496) (hn2 : totalC cs ≤ 4503599627370496) (hwf : factShort wf 9223372036854775807) (hcp : ls.length ≤ cp) (hcp2 : cp ≤ 9223372036854775807) (h : StepsAt D w ao ls) (hcs : CredsAt E w co cs) (hks : KindsS ls) (hkc : KindsC cs) :
    Calls Try.prog 3 #[.slice ao ls.length cp, .slice co cs.length cc, .agg #[.string ⟨wf.1.1.toArray⟩, .string ⟨wf.1.2.toArray⟩, .string ⟨wf.2.toArray⟩]] w fun e w' => e = .returned (.bool true) ∧ Chg (fun _ => False) w w' := by
  have HF := hid hfirst
  have HK := hid HC0
  have HKD := hid (And.intro hks hkc)
  clear hks hkc
  have hA := heap_alloc_new w (.cells #[.string ⟨wf.1.1.toArray⟩, .string ⟨wf.1.2.toArray⟩, .string ⟨wf.2.toArray⟩] 27)
  have hc0 : Chg (fun _ => False) w (w.alloc (.cells #[.string ⟨wf.1.1.toArray⟩, .string ⟨wf.1.2.toArray⟩, .string ⟨wf.2.toArray⟩] 27)) := (Chg.refl _ w).alloc _
  have HX : Hid ((w.alloc (.cells #[.string ⟨wf.1.1.toArray⟩, .string ⟨wf.1.2.toArray⟩, .string ⟨wf.2.toArray⟩] 27)).heap[w.heap.size]? = some (.cells (factBox wf) 27 (0, 0)) ∧ StepsAt D (w.alloc (.cells #[.string ⟨wf.1.1.toArray⟩, .string ⟨wf.1.2.toArray⟩, .string ⟨wf.2.toArray⟩] 27)) ao ls ∧ CredsAt E (w.alloc (.cells #[.string ⟨wf.1.1.toArray⟩, .string ⟨wf.1.2.toArray⟩, .string ⟨wf.2.toArray⟩] 27)) co cs) := hid ⟨hA, h.keep hc0 (fun _ _ => id), hcs.keep hc0 (fun _ _ => id)⟩
  have HC0 := hid hc0
  have HSH := hid (steps_short h)
  have HWF := hid hwf
  have hl := totalSt_len ls
  have hl2 := totalC_len20K cs
  clear hfirst h hcs hA hc0 hwf
  go_enter Try.func3, Try.ntmps3
  go_wp2_with fail
  generalize (w.alloc (.cells #[.string ⟨wf.1.1.toArray⟩, .string ⟨wf.1.2.toArray⟩, .string ⟨wf.2.toArray⟩] 27)) = w0 at *
  generalize w.heap.size = A at *
  refine (HF.out _).mono ?_
  rintro e w1 ⟨rfl, hc1⟩
  have HC1 := hid hc1
  have HG := hid (great9 ao cp ls w1 hn (HX.out.2.1.keep hc1 (fun _ _ => id)))
  clear hc1 HF
  go_wp2_with fail
  refine HG.out.mono ?_
  rintro e w2 ⟨rfl, hc2⟩
  have HC2 := hid (HC1.out.trans hc2 (fun _ _ h => h))
  have HG2 := hid (great_any co cc cs w2 hn2 (HX.out.2.2.keep HC2.out (fun _ _ => id)))
  clear hc2 HG HC1
  go_wp2_with fail
  refine HG2.out.mono ?_
  rintro e w3 ⟨rfl, hc3⟩
  have HC3 := hid (HC2.out.trans hc3 (fun _ _ h => h))
  have e1 : IntKind.i64.wrap ((totalSt ls : Int) + (totalC cs : Int)) = (totalSt ls : Int) + (totalC cs : Int) := by rw [IntKind.wrap_i64]; omega
  clear hc3 HG2 HC2
  by_cases hg : totalSt ls + totalC cs ≤ 2500
  · have z1 : decide ((2500 : Int) < (totalSt ls : Int) + (totalC cs : Int)) = false := decide_eq_false (by omega)
    go_wp2
    clear z1 e1
    go_loopw [24] (fun i wr => ∃ k : Nat, k ≤ ls.length ∧ i = .int .i64 k ∧ Hid (Chg (fun _ => False) w0 wr)) (fun i _ => ls.length - (intOf i).toNat)
    case atStart => exact ⟨0, Nat.zero_le _, rfl, HC3⟩
    case round =>
      obtain ⟨k, hk, rfl, hc⟩ := hrel
      by_cases hlt : k < ls.length
      · obtain ⟨b, off, hao, _, ⟨⟨a0, a1, a2, a3, a4, a5, a6, a7, a8⟩, ⟨b0, b1, b2⟩⟩, hss⟩ := (HX.out.2.1.keep hc.out (fun _ _ => id)) k hlt
        have HKL := hid hlt
        generalize ls[k] = s at *
        change wr.cell? ⟨b, off + k * 12 + 10, none⟩ = _ at b1
        change wr.cell? ⟨b, off + k * 12 + 11, none⟩ = _ at b2
        have hSb : (wr.alloc (.cells #[.int .i64 s.c.kind, .string ⟨s.c.head.1.toArray⟩, .string ⟨s.c.head.2.toArray⟩, .string ⟨s.c.who.toArray⟩, .string ⟨s.c.b.1.toArray⟩, .string ⟨s.c.b.2.toArray⟩, .string ⟨s.c.c.1.toArray⟩, .string ⟨s.c.c.2.toArray⟩, .string ⟨s.c.w2.toArray⟩, .string ⟨s.f.1.1.toArray⟩, .string ⟨s.f.1.2.toArray⟩, .string ⟨s.f.2.toArray⟩] 34)).heap[wr.heap.size]? = some (.cells (stepBox s) 34 (0, 0)) := heap_alloc_new wr _
        have hcA : Chg (fun _ => False) wr (wr.alloc (.cells #[.int .i64 s.c.kind, .string ⟨s.c.head.1.toArray⟩, .string ⟨s.c.head.2.toArray⟩, .string ⟨s.c.who.toArray⟩, .string ⟨s.c.b.1.toArray⟩, .string ⟨s.c.b.2.toArray⟩, .string ⟨s.c.c.1.toArray⟩, .string ⟨s.c.c.2.toArray⟩, .string ⟨s.c.w2.toArray⟩, .string ⟨s.f.1.1.toArray⟩, .string ⟨s.f.1.2.toArray⟩, .string ⟨s.f.2.toArray⟩] 34)) := (Chg.refl _ wr).alloc _
        have HSB := hid (And.intro hSb hss)
        have HC2 := hid (hc.out.trans hcA (fun _ _ h => h))
        obtain ⟨fs, hfs⟩ : ∃ fs, fs = factsK (ls.take k) := ⟨_, rfl⟩
        have HFS : Hid (fs.length ≤ 1000 ∧ ∀ f ∈ fs, factShort f 9223372036854775807) := hid ⟨by rw [hfs, factsK_len, List.length_take]; omega, by rw [hfs]; exact facts_shortK HSH.out k⟩
        have hq := rkfacts ao cp (ls.take k) (wr.alloc (.cells #[.int .i64 s.c.kind, .string ⟨s.c.head.1.toArray⟩, .string ⟨s.c.head.2.toArray⟩, .string ⟨s.c.who.toArray⟩, .string ⟨s.c.b.1.toArray⟩, .string ⟨s.c.b.2.toArray⟩, .string ⟨s.c.c.1.toArray⟩, .string ⟨s.c.c.2.toArray⟩, .string ⟨s.c.w2.toArray⟩, .string ⟨s.f.1.1.toArray⟩, .string ⟨s.f.1.2.toArray⟩, .string ⟨s.f.2.toArray⟩] 34)) (by rw [List.length_take]; omega) ((HX.out.2.1.keep HC2.out (fun _ _ => id)).take k)
        rw [List.length_take, Nat.min_eq_left (Nat.le_of_lt hlt), ← hfs] at hq
        have HQ := hid hq
        have hk3 : k ≤ cp := by omega
        clear hSb hcA hc hss hfs hq
        subst hao
        go_wp2_with fail
        refine HQ.out.mono ?_
        clear HQ a0 a1 a2 a3 a4 a5 a6 a7 a8 b0 b1 b2
        generalize (wr.alloc (.cells #[.int .i64 s.c.kind, .string ⟨s.c.head.1.toArray⟩, .string ⟨s.c.head.2.toArray⟩, .string ⟨s.c.who.toArray⟩, .string ⟨s.c.b.1.toArray⟩, .string ⟨s.c.b.2.toArray⟩, .string ⟨s.c.c.1.toArray⟩, .string ⟨s.c.c.2.toArray⟩, .string ⟨s.c.w2.toArray⟩, .string ⟨s.f.1.1.toArray⟩, .string ⟨s.f.1.2.toArray⟩, .string ⟨s.f.2.toArray⟩] 34)) = w4 at *
        generalize wr.heap.size = X at *
        rintro e w5 ⟨af, cf, rfl, hown, hc5⟩
        obtain ⟨a8, c8, hv8, hst8, _⟩ := hown.facts
        cases hv8
        have HT : Hid (w5.heap[X]? = some (.cells (stepBox s) 34 (0, 0)) ∧ stepShort s 9223372036854775807 ∧ FactsAt (fun _ => True) w5 af fs) := hid ⟨blk_keep HSB.out.1 hc5 id, HSB.out.2, hst8.mono (fun _ _ => trivial)⟩
        have HC5 := hid (HC2.out.trans hc5 (fun _ _ h => h))
        clear hown hst8 hc5 HC2 HSB
        go_wp2_with fail
        refine wp_region_specs ([.any, .any, .any, .any, .any, .any, .any, .any, .eq (.pointer (some ⟨X, 0, none⟩)), .eq (.slice af fs.length cf), .any, .any, .any, .any, .any, .any, .any, .any, .any, .any, .any, .any, .any, .any, .any, .any, .any, .any, .any, .any, .any, .any, .any, .eq (.agg #[.int .i64 s.c.kind, .string ⟨s.c.head.1.toArray⟩, .string ⟨s.c.head.2.toArray⟩, .string ⟨s.c.who.toArray⟩, .string ⟨s.c.b.1.toArray⟩, .string ⟨s.c.b.2.toArray⟩, .string ⟨s.c.c.1.toArray⟩, .string ⟨s.c.c.2.toArray⟩, .string ⟨s.c.w2.toArray⟩, .string ⟨s.f.1.1.toArray⟩, .string ⟨s.f.1.2.toArray⟩, .string ⟨s.f.2.toArray⟩]), .eq (.slice af fs.length cf), .eq (.bool (followsK s fs)), .eq (.agg #[.int .i64 s.c.kind, .string ⟨s.c.head.1.toArray⟩, .string ⟨s.c.head.2.toArray⟩, .string ⟨s.c.who.toArray⟩, .string ⟨s.c.b.1.toArray⟩, .string ⟨s.c.b.2.toArray⟩, .string ⟨s.c.c.1.toArray⟩, .string ⟨s.c.c.2.toArray⟩, .string ⟨s.c.w2.toArray⟩, .string ⟨s.f.1.1.toArray⟩, .string ⟨s.f.1.2.toArray⟩, .string ⟨s.f.2.toArray⟩]), .eq (.slice af fs.length cf), .eq (.bool (followsK s fs)), .eq (.bool false), .any, .any, .any, .any, .any, .any, .any, .any, .any, .any, .any, .any, .any, .any, .any, .any, .any, .any, .any, .any, .any, .any, .any] : List Spec) [33, 34, 35, 36, 37, 38, 39] [8, 9] (by kernel_rfl) (by kernel_rfl) (by rfl) (by kernel_rfl) ?start ?obs ?fin
        case start =>
          simp only [List.forall_mem_cons]; exact ⟨⟨_, rfl, rfl⟩, ⟨_, rfl, rfl⟩, fun _ h => by cases h⟩
        case obs =>
          refine Obs.cons none (by kernel_rfl) ?_ ?_
          · refine Ob.plain fun a w hR hk K k9 => ?_
            obtain ⟨_, e8, rfl⟩ := hk 8 (by decide)
            clear hk
            obtain ⟨⟨a0, a1, a2, a3, a4, a5, a6, a7, a8⟩, ⟨b0, b1, b2⟩⟩ := step_at_blk (blk_keep HT.out.1 hR id)
            simp only [Nat.zero_add] at a0 a1 a2 a3 a4 a5 a6 a7 a8 b0 b1 b2
            go_simp
            exact k9 _ _ (Chg.refl _ _) rfl
          refine Obs.cons none (by kernel_rfl) ?_ ?_
          · refine Ob.plain fun a w hR hk K k9 => ?_
            obtain ⟨_, e9, f9⟩ := hk 9 (by decide)
            clear hk
            go_simp
            exact k9 _ _ (Chg.refl _ _) f9
          refine Obs.cons none (by kernel_rfl) ?_ ?_
          · refine Ob.plain fun a w hR hk K k9 => ?_
            obtain ⟨_, e33, rfl⟩ := hk 33 (by decide)
            obtain ⟨_, e34, rfl⟩ := hk 34 (by decide)
            clear hk
            have hq := HK.out.follows af cf s fs w HFS.out.1 HT.out.2.1 HFS.out.2 (HT.out.2.2.keep hR (fun _ _ => id))
            go_simp
            refine hq.mono ?_
            rintro e w2 ⟨rfl, hc⟩
            exact k9 _ _ hc rfl
          refine Obs.cons none (by kernel_rfl) ?_ ?_
          · refine Ob.plain fun a w hR hk K k9 => ?_
            obtain ⟨_, e8, rfl⟩ := hk 8 (by decide)
            clear hk
            obtain ⟨⟨a0, a1, a2, a3, a4, a5, a6, a7, a8⟩, ⟨b0, b1, b2⟩⟩ := step_at_blk (blk_keep HT.out.1 hR id)
            simp only [Nat.zero_add] at a0 a1 a2 a3 a4 a5 a6 a7 a8 b0 b1 b2
            go_simp
            exact k9 _ _ (Chg.refl _ _) rfl
          refine Obs.cons none (by kernel_rfl) ?_ ?_
          · refine Ob.plain fun a w hR hk K k9 => ?_
            obtain ⟨_, e9, f9⟩ := hk 9 (by decide)
            clear hk
            go_simp
            exact k9 _ _ (Chg.refl _ _) f9
          refine Obs.cons none (by kernel_rfl) ?_ ?_
          · refine Ob.plain fun a w hR hk K k9 => ?_
            obtain ⟨_, e36, rfl⟩ := hk 36 (by decide)
            obtain ⟨_, e37, rfl⟩ := hk 37 (by decide)
            clear hk
            have hq := rkfollows af cf s fs w (by have := HFS.out.1; omega) HT.out.2.1 (fun f hf => (HFS.out.2 f hf).2.2) (HT.out.2.2.keep hR (fun _ _ => id))
            go_simp
            refine hq.mono ?_
            rintro e w2 ⟨rfl, hc⟩
            exact k9 _ _ hc rfl
          refine Obs.cons none (by kernel_rfl) ?_ ?_
          · refine Ob.plain fun a w hR hk K k9 => ?_
            obtain ⟨_, e35, rfl⟩ := hk 35 (by decide)
            obtain ⟨_, e38, rfl⟩ := hk 38 (by decide)
            clear hk
            have hz : (followsK s fs != followsK s fs) = false := by simp
            go_simp
            exact k9 _ _ (Chg.refl _ _) (by first | rfl | (show Value.bool _ = Value.bool _; simp))
          exact Obs.nil
        case fin =>
          intro vals w9 hc9 hv
          have h39 : vals 39 = .bool false := hv 39 (by decide)
          have HC9 := hid (HC5.out.trans hc9 (fun _ _ h => h))
          simp only [putAll, List.setIfInBounds_toArray, List.set_cons_zero, List.set_cons_succ, h39]
          clear hv h39 hc9
          go_wp2
          go_roundw
          case rel => exact ⟨k + 1, by have := HKL.out; omega, by go_num, HC9⟩
          case measure => have := HKL.out; simp [intOf]; omega
      · obtain ⟨y0, y1, y2⟩ := fact_at_blk (blk_keep HX.out.1 hc.out id)
        simp only [Nat.zero_add] at y0 y1 y2
        have HQ := hid (HK.out.check ao co cp cc ls cs wf wr hg HWF.out hcp hcp2 (HX.out.2.1.keep hc.out (fun _ _ => id)) (HX.out.2.2.keep hc.out (fun _ _ => id)) HKD.out.1 HKD.out.2)
        go_wp2_with fail
        refine HQ.out.mono ?_
        clear HQ y0 y1 y2
        rintro e w4 ⟨n1, f1, rfl, hn1, hi1, hc4⟩
        have HC4 := hid (hc.out.trans hc4 (fun _ _ h => h))
        obtain ⟨y0, y1, y2⟩ := fact_at_blk (blk_keep HX.out.1 HC4.out id)
        simp only [Nat.zero_add] at y0 y1 y2
        have HQ := hid (rkcheck ao co cp cc ls cs wf w4 (by omega) (by omega) hcp hcp2 (HX.out.2.1.keep HC4.out (fun _ _ => id)) (HX.out.2.2.keep HC4.out (fun _ _ => id)))
        have HI1 := hid hi1
        clear hc4 hc hi1
        go_wp2_with fail
        refine HQ.out.mono ?_
        clear HQ y0 y1 y2
        rintro e w5 ⟨n2, f2, rfl, hn2, hi2, hc5⟩
        obtain ⟨q1, q2⟩ := HI1.out.one hi2
        subst q1 q2
        have HC5 := hid (HC0.out.trans (HC4.out.trans hc5 (fun _ _ h => h)) (fun _ _ h => h))
        have z3 : ((n1 : Int) == (n1 : Int)) = true := beq_self_eq_true _
        have z4 : (f1 == f1) = true := beq_self_eq_true _
        clear hc5 hi2 HC4
        go_wp2
        go_ret
        exact ⟨rfl, HC5.out⟩
  · have z1 : decide ((2500 : Int) < (totalSt ls : Int) + (totalC cs : Int)) = true := decide_eq_true (by omega)
    go_wp2
    go_ret
    exact ⟨rfl, HC0.out.trans HC3.out (fun _ _ h => h)⟩
end Go.Proofs.Ytmmkopdcbiiedaa

/- The arguments of laws, opened to cells: bytes, a small array. -/
namespace Go.Proofs.Ytmmkopdcbiiedaa
open Go.ChangeShapes Go.WideShapes Go.ChangeAt Go.RowKit Go.Deep

theorem Try.own : ownKnob Try.prog.godebug = none := by kernel_rfl
theorem Try.laidOut : laidOutB Try.prog = true := by kernel_rfl

theorem spot_none {w : World} {a : Addr} {v : Value} (h : w.cell? a = some v) : a = ⟨a.block, a.off, none⟩ := by
  obtain ⟨b, o, s⟩ := a
  cases s with
  | none => rfl
  | some x =>
    simp only [World.cell?] at h
    split at h
    · simp at h
    · cases h

theorem add_zero (a : Addr) : a.add 0 = a := by
  unfold Addr.add
  simp

theorem wf_u8 {n : Int} (h : (Lit.int .u8 n).wf = true) : 0 ≤ n ∧ n ≤ 255 := by
  have hmin : IntKind.u8.min = 0 := rfl
  have hmax : IntKind.u8.max = 255 := rfl
  simp only [Lit.wf, Bool.and_eq_true, decide_eq_true_eq] at h
  omega

section
variable {H : Type} {enc : TypeId × Value → H} {w : World} {base : Nat} {held : Bool} {fuel : Nat}

theorem open_bytes {cs : List Value} {x : DataW H × List MemPlace} (h : DataW.trod enc Try.prog w base (fun _ => true) held fuel 45 cs = some x) :
    ∃ (ao : Option Addr) (cap : Nat) (l : List UInt8), cs = [.slice ao l.length cap] ∧ l.length ≤ 9223372036854775807 ∧ BytesAt (fun k => k < w.heap.size) w (.slice ao l.length cap) l := by
  rcases open_ints Try.underlying45 Try.underlying5 (by kernel_rfl) h with ⟨rfl, _⟩ | ⟨a, len, cap, zs, rfl, _, hl, hm, hz, _, hcell, hwz⟩
  · exact ⟨none, 0, [], rfl, by simp, BytesAt.nil _ _⟩
  · simp only [if_true] at hz
    have hlen : ((zs.take len).map fun n => UInt8.ofNat n.toNat).length = len := by simp; omega
    refine ⟨some a, cap, (zs.take len).map fun n => UInt8.ofNat n.toNat, by rw [hlen], by rw [hlen]; unfold maxLen at hm; omega, ?_⟩
    rw [hlen]
    by_cases h0 : len = 0
    · subst h0
      exact .inl ⟨some a, cap, rfl, by simp, fun h => by cases h⟩
    · have h1 := hcell 0 (by omega)
      rw [add_zero] at h1
      have ha := spot_none h1
      have hlt := World.block_lt_of_cell? w _ h1
      refine .inr ⟨a.block, a.off, cap, by rw [hlen]; exact congrArg (fun z => Value.slice (some z) len cap) ha, by rw [hlen]; exact hl, hm, hlt, fun i hi => ?_⟩
      rw [hlen] at hi
      have h2 := hcell i (by omega)
      rw [ha, add_off] at h2
      rw [h2]
      have hget : zs.getD i 0 = zs[i]'(by omega) := by simp [List.getD, show i < zs.length by omega]
      have hb := wf_u8 (hwz _ (List.getElem_mem (show i < zs.length by omega)))
      rw [hget]
      congr 2
      simp only [List.getElem_map, List.getElem_take]
      rw [ofNat_u8 _ (by omega)]
      omega

end

end Go.Proofs.Ytmmkopdcbiiedaa

/- A role that came in, opened to its cells. -/
namespace Go.Proofs.Ytmmkopdcbiiedaa
open Go.ChangeShapes Go.WideShapes Go.ChangeAt Go.RowKit Go.Deep

theorem choose_roles {α : Type} (n : Nat) (p : Nat → α → Prop) (h : ∀ i, i < n → ∃ x, p i x) : ∃ l : List α, l.length = n ∧ ∀ i (hi : i < l.length), p i l[i] := by
  induction n with
  | zero => exact ⟨[], rfl, fun i hi => by simp at hi⟩
  | succ n ih =>
    obtain ⟨l, hl, hp⟩ := ih (fun i hi => h i (by omega))
    obtain ⟨x, hx⟩ := h n (by omega)
    refine ⟨l ++ [x], by simp [hl], fun i hi => ?_⟩
    by_cases hin : i < l.length
    · rw [List.getElem_append_left hin]
      exact hp i hin
    · have : i = n := by simp [hl] at hi; omega
      subst this
      rw [List.getElem_append_right (by omega)]
      simpa [hl] using hx

section
variable {H : Type} {enc : TypeId × Value → H} {w : World} {base : Nat} {held : Bool} {fuel : Nat}

set_option maxRecDepth 100000 in
/-- Two cells that are read as a role. -/
theorem open_role_cells {spare : Nat → Bool} {cs : List Value} {x : DataW H × List MemPlace} (h : DataW.trod enc Try.prog w base spare held fuel 25 cs = some x) :
    ∃ r : RoleB, cs = roleCells r ∧ r.1.length ≤ 9223372036854775807 ∧ r.2.length ≤ 9223372036854775807 ∧ 1 + r.1.length + r.2.length ≤ Rows.uptoBulk x.1 := by
  obtain ⟨y0, y1, n, rfl, hl, h0, h1⟩ := trod_struct2 Try.underlying25 h
  have hc : Try.prog.cellsOf 25 = 2 := by kernel_rfl
  rw [hc] at hl
  match cs, hl with
  | [c0, c1], _ =>
    have e0 : DataW.trod enc Try.prog w base spare held n 9 [c0] = some y0 := h0
    have e1 : DataW.trod enc Try.prog w base spare held n 9 [c1] = some y1 := h1
    obtain ⟨s0, hs0, rfl, hm0⟩ := DataW.trod_string Try.underlying9 e0
    obtain ⟨s1, hs1, rfl, hm1⟩ := DataW.trod_string Try.underlying9 e1
    simp only [List.cons.injEq, and_true] at hs0 hs1
    subst hs0
    subst hs1
    unfold maxLen at hm0 hm1
    refine ⟨(s0.data.toList, s1.data.toList), rfl, hm0, hm1, ?_⟩
    simp [Rows.uptoBulk, Rows.uptoBulkAll]
    omega

end
end Go.Proofs.Ytmmkopdcbiiedaa

/- Credentials that came in, one or a list, opened to cells; how much they hold. -/
namespace Go.Proofs.Ytmmkopdcbiiedaa
open Go.ChangeShapes Go.WideShapes Go.ChangeAt Go.RowKit Go.Deep

theorem cred_at_cells' {w : World} {g o : Nat} {c : CredB} (h : ∀ j, j < 9 → w.cell? ⟨g, o + j, none⟩ = (credCells c)[j]?) : CredAt w g o c :=
  ⟨h 0 (by omega), h 1 (by omega), h 2 (by omega), h 3 (by omega), h 4 (by omega), h 5 (by omega), h 6 (by omega), h 7 (by omega), h 8 (by omega)⟩

section
variable {H : Type} {enc : TypeId × Value → H} {w : World} {base : Nat} {held : Bool} {fuel : Nat}

set_option maxRecDepth 100000 in
/-- Nine cells that are read as a credential. -/
theorem open_cred_cells {spare : Nat → Bool} {cs : List Value} {x : DataW H × List MemPlace} (h : DataW.trod enc Try.prog w base spare held fuel 32 cs = some x) :
    ∃ c : CredB, cs = credCells c ∧ credShort c 9223372036854775807 ∧ sizeC c ≤ 3 * Rows.uptoBulk x.1 := by
  obtain ⟨xs, n, _, rfl, hl, hlen, hf⟩ := DataW.trod_struct Try.underlying32 h
  have hc : Try.prog.cellsOf 32 = 9 := by kernel_rfl
  have hr : Try.prog.cellsOf 25 = 2 := by kernel_rfl
  rw [hc] at hl
  match cs, hl, xs, hlen with
  | [c0, c1, c2, c3, c4, c5, c6, c7, c8], _, [y0, y1, y2, y3, y4, y5], _ =>
    have e0 : DataW.trod enc Try.prog w base spare held n 3 [c0] = some y0 := hf 0 _ rfl
    have e1 : DataW.trod enc Try.prog w base spare held n 25 [c1, c2] = some y1 := hf 1 _ rfl
    have e2 : DataW.trod enc Try.prog w base spare held n 9 [c3] = some y2 := hf 2 _ rfl
    have e3 : DataW.trod enc Try.prog w base spare held n 25 [c4, c5] = some y3 := hf 3 _ rfl
    have e4 : DataW.trod enc Try.prog w base spare held n 25 [c6, c7] = some y4 := hf 4 _ rfl
    have e5 : DataW.trod enc Try.prog w base spare held n 9 [c8] = some y5 := hf 5 _ rfl
    obtain ⟨k, hk, rfl, _⟩ := DataW.trod_int Try.underlying3 e0
    obtain ⟨hd, h1, a1, a2, a3⟩ := open_role_cells e1
    obtain ⟨s2, hs2, rfl, hm2⟩ := DataW.trod_string Try.underlying9 e2
    obtain ⟨b, h3, b1, b2, b3⟩ := open_role_cells e3
    obtain ⟨c, h4, d1, d2, d3⟩ := open_role_cells e4
    obtain ⟨s5, hs5, rfl, hm5⟩ := DataW.trod_string Try.underlying9 e5
    simp only [roleCells, List.cons.injEq, and_true] at hk h1 hs2 h3 h4 hs5
    obtain ⟨h1a, h1b⟩ := h1
    obtain ⟨h3a, h3b⟩ := h3
    obtain ⟨h4a, h4b⟩ := h4
    subst hk h1a h1b hs2 h3a h3b h4a h4b hs5
    unfold maxLen at hm2 hm5
    refine ⟨⟨k, hd, s2.data.toList, b, c, s5.data.toList⟩, rfl, ⟨a1, a2, hm2, b1, b2, d1, d2, hm5⟩, ?_⟩
    simp only [sizeC, Rows.uptoBulk, Rows.uptoBulkAll, List.map_cons, List.map_nil]
    omega

theorem bulk_creds (D : Nat → DataW H) : ∀ (l : List CredB), (∀ i (h : i < l.length), sizeC l[i] ≤ 3 * Rows.uptoBulk (D i)) → totalC l ≤ 3 * Rows.uptoBulkAll ((List.range l.length).map D)
  | [], _ => Nat.zero_le _
  | x :: l, h => by
    have ih := bulk_creds (fun i => D (i + 1)) l (fun i hi => h (i + 1) (by simp only [List.length_cons]; omega))
    rw [List.length_cons, List.range_succ_eq_map, List.map_cons, List.map_map]
    simp only [totalC, Rows.uptoBulkAll]
    have h0 := h 0 (by simp)
    simp only [List.getElem_cons_zero] at h0
    have e : (List.range l.length).map (D ∘ Nat.succ) = (List.range l.length).map (fun i => D (i + 1)) := rfl
    rw [e]
    omega

set_option maxRecDepth 100000 in
/-- A list of credentials that came in. -/
theorem open_creds {cs : List Value} {x : DataW H × List MemPlace} (h : DataW.trod enc Try.prog w base (fun _ => true) held fuel 23 cs = some x) :
    ∃ (ao : Option Addr) (cap : Nat) (ls : List CredB), cs = [.slice ao ls.length cap] ∧ CredsAt (fun k => k < w.heap.size) w ao ls ∧ totalC ls ≤ 3 * Rows.uptoBulk x.1 ∧ (ao = none → cap = 0) := by
  rcases open_slice Try.underlying23 h with ⟨rfl, rfl⟩ | ⟨a, len, cap, m, n, D, Pl, rfl, _, hl, hm, hmm, rfl, hi⟩
  · exact ⟨none, 0, [], rfl, CredsAt.nil _ _ _, Nat.zero_le _, fun _ => rfl⟩
  · simp only [if_true] at hmm
    have hc9 : Try.prog.cellsOf 32 = 9 := by kernel_rfl
    have each : ∀ i, i < len → ∃ y : CredB, (∃ b off, some a = some ⟨b, off, none⟩ ∧ b < w.heap.size ∧ CredAt w b (off + i * 9) y ∧ credShort y 9223372036854775807) ∧ sizeC y ≤ 3 * Rows.uptoBulk (D i) := by
      intro i hil
      obtain ⟨cs', hcs, ht⟩ := hi i (by omega)
      rw [hc9] at hcs
      obtain ⟨r, hr, h1, h2⟩ := open_cred_cells ht
      subst hr
      obtain ⟨_, _, hat⟩ := World.cells?_some hcs
      have hs : a = ⟨a.block, a.off, none⟩ := by
        obtain ⟨cs'', hcs'', ht''⟩ := hi 0 (by omega)
        rw [hc9] at hcs''
        obtain ⟨r'', hr'', _⟩ := open_cred_cells ht''
        subst hr''
        obtain ⟨_, _, hat''⟩ := World.cells?_some hcs''
        have q := hat'' 0 (by decide)
        rw [Nat.zero_mul, add_zero, add_zero] at q
        exact spot_none q
      have hall : ∀ j, j < 9 → w.cell? ⟨a.block, a.off + i * 9 + j, none⟩ = (credCells r)[j]? := fun j hj => by
        have q := hat j (by simpa [credCells] using hj)
        rw [hs, add_off, add_off] at q
        exact q
      have hat9 := cred_at_cells' hall
      exact ⟨r, ⟨a.block, a.off, congrArg some hs, World.block_lt_of_cell? w ⟨a.block, a.off + i * 9, none⟩ hat9.k0, hat9, h1⟩, h2⟩
    obtain ⟨xs, hlen, hp⟩ := choose_roles len _ each
    subst hlen
    refine ⟨some a, cap, xs, rfl, fun i hi => (hp i hi).1, ?_, fun e => by cases e⟩
    have := bulk_creds D xs (fun i hi => (hp i hi).2)
    simp only [Rows.uptoBulk]
    omega
end
end Go.Proofs.Ytmmkopdcbiiedaa
