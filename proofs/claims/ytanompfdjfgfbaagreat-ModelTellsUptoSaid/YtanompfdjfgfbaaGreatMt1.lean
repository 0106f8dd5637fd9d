/- Texts that the proof leans on, in one: ModelTells, ModelTellsRow. -/
import Derived.Test.YtanompfdjfgfbaaGreatMb9
import Derived.Test.YtanompfdjfgfbaaGreatMb12
import Derived.Test.YtanompfdjfgfbaaGreatMb13
import Derived.ChangeMaps5
import Derived.ProofKit
import Derived.OpenShut
/- The law ModelTells, walked, over the contracts of ModelK. -/
namespace Go.Proofs.YtanompfdjfgfbaaGreat
open Go.RowKit

theorem drewN_chg8 (w : World) (n : Nat) : Chg (fun _ => False) w (w.drewN n) := ⟨rfl, rfl, rfl, Nat.le_refl _, fun _ _ _ => rfl⟩
/-- Lists, told. -/
def Spec.factsL (xs : List FactB) : Spec := ⟨fun v w => ∃ ao cap, v = .slice ao xs.length cap ∧ FactsAt (fun _ => True) w ao xs, fun _ _ _ hc ⟨a, c, h1, h2⟩ => ⟨a, c, h1, h2.keep hc (fun _ _ => id)⟩⟩
def Spec.strsL (xs : List (List UInt8)) : Spec := ⟨fun v w => ∃ ao cap, v = .slice ao xs.length cap ∧ StrsAt (fun _ => True) w ao xs, fun _ _ _ hc ⟨a, c, h1, h2⟩ => ⟨a, c, h1, h2.keep hc (fun _ _ => id)⟩⟩
def Spec.rolesL (xs : List RoleB) : Spec := ⟨fun v w => ∃ ao cap, v = .slice ao xs.length cap ∧ RolesAt (fun _ => True) w ao xs, fun _ _ _ hc ⟨a, c, h1, h2⟩ => ⟨a, c, h1, h2.keep hc (fun _ _ => id)⟩⟩
def Spec.slice0 : Spec := ⟨fun v _ => ∃ ao cap, v = .slice ao 0 cap, fun _ _ _ _ h => h⟩

set_option maxRecDepth 100000 in
set_option maxHeartbeats 8000000 in
theorem mtells_main {MA : (Nat → Prop) → World → Nat → List CredB → Prop} (HK : MK MA) (hfirst : ∀ w : World, Calls Tryz.prog 6 #[] w fun e w' => e = .returned (.bool true) ∧ Chg (fun _ => False) w w')
    {D : Nat → Prop} (ao : Option Addr) (cp : Nat) (ls : List CredB) (r : RoleB) (s : List UInt8) (w : World) (hn : totalC ls ≤ 4503599627370496) (hr1 : r.1.length ≤ 4503599627370496) (hr2 : r.2.length ≤ 4503599627370496) (hs : s.length ≤ 4503599627370496) (h : CredsAt D w ao ls) (h0 : ao = none → cp = 0) (hD : ∀ i, D i → i < w.heap.size) :
    Calls Tryz.prog 3 #[.slice ao ls.length cp, .agg #[.string ⟨r.1.toArray⟩, .string ⟨r.2.toArray⟩], .string ⟨s.toArray⟩] w fun e w' => e = .returned (.bool true) ∧ Chg (fun _ => False) w w' := by
  have HF := hid hfirst
  have HK2 := hid HK
  have hA := heap_alloc_new w (.cells #[.string ⟨r.1.toArray⟩, .string ⟨r.2.toArray⟩] 24)
  have hc0 : Chg (fun _ => False) w (w.alloc (.cells #[.string ⟨r.1.toArray⟩, .string ⟨r.2.toArray⟩] 24)) := (Chg.refl _ w).alloc _
  have HH := hid (And.intro hA (And.intro hc0 (And.intro (h.keep hc0 (fun _ _ => id)) hD)))
  clear hA hc0 h hD hfirst HK
  go_enter Tryz.func3, Tryz.ntmps3
  go_wp2_with fail
  refine (HF.out _).mono ?_
  rintro e w1 ⟨rfl, hc1⟩
  obtain ⟨hA, hc0, h, hD⟩ := HH.out
  have hA1 := blk_keep hA hc1 id
  have hC1 := hc0.trans hc1 (fun _ _ h => h)
  have h1 := h.keep hc1 (fun _ _ => id)
  have hD1 : ∀ i, D i → i < w1.heap.size := fun i hi => Nat.lt_of_lt_of_le (hD i hi) hC1.size
  clear HH hA hc0 h hD hc1 HF
  have HA : w.heap.size < w1.heap.size := lt_blk hA1
  generalize hAA : w.heap.size = A at *
  have HG := hid (great_any ao cp ls w1 hn h1)
  have HW := hid (And.intro hA1 (And.intro hC1 (And.intro h1 hD1)))
  clear hA1 hC1 h1 hD1
  go_wp2_with fail
  refine HG.out.mono ?_
  rintro e w2 ⟨rfl, hc2⟩
  obtain ⟨hA1, hC1, h1, hD1⟩ := HW.out
  have hA2 := blk_keep hA1 hc2 id
  have a0 := cell_blk hA2 0
  have a1 := cell_blk hA2 1
  simp only [List.getElem?_toArray, List.getElem?_cons_zero, List.getElem?_cons_succ] at a0 a1
  have HC2 := hid (And.intro hA2 (And.intro (hC1.trans hc2 (fun _ _ h => h)) (And.intro (h1.keep hc2 (fun _ _ => id)) (fun i hi => Nat.lt_of_lt_of_le (hD1 i hi) hc2.size))))
  clear HW HG hA1 hC1 h1 hD1 hA2 hc2
  by_cases hg : totalC ls ≤ 1200
  · have z1 : decide ((1200 : Int) < (totalC ls : Int)) = false := decide_eq_false (by omega)
    by_cases hl : r.1.length + r.2.length + s.length ≤ 200
    · have e1 : IntKind.i64.wrap ((r.1.length : Int) + (r.2.length : Int)) = (r.1.length : Int) + (r.2.length : Int) := by rw [IntKind.wrap_i64]; omega
      have e2 : IntKind.i64.wrap ((r.1.length : Int) + (r.2.length : Int) + (s.length : Int)) = (r.1.length : Int) + (r.2.length : Int) + (s.length : Int) := by rw [IntKind.wrap_i64]; omega
      have z2 : decide ((200 : Int) < (r.1.length : Int) + (r.2.length : Int) + (s.length : Int)) = false := decide_eq_false (by omega)
      have hsm : SmallC ls := SmallC.of (by omega)
      have HR : Hid (r.1.length ≤ 100000 ∧ r.2.length ≤ 100000 ∧ s.length ≤ 100000) := hid ⟨by omega, by omega, by omega⟩
      have HSM := hid hsm
      have HO := hid (HK2.out.of ao cp ls w2 hsm HC2.out.2.2.1 h0 HC2.out.2.2.2)
      clear hsm
      go_wp2_with fail
      refine HO.out.mono ?_
      rintro e w3 ⟨g, O, rfl, hma, hlow, hc3⟩
      have hfo := hid (rfof ao cp ls w3 (by have := HSM.out.1; omega) (HC2.out.2.2.1.keep hc3 (fun _ _ => id)) (fun i hi => Nat.lt_of_lt_of_le (HC2.out.2.2.2 i hi) hc3.size))
      have HM := hid (And.intro hma (And.intro hlow hc3))
      clear hma hlow hc3 HO
      go_wp2_with fail
      refine hfo.out.mono ?_
      rintro e w4 ⟨xs, ax, cx, rfl, hmo, hox, hc4⟩
      have hxs := hmo.few HSM.out
      have HX := hid hxs
      obtain ⟨ax2, cx2, hv2, hfx, _⟩ := hox.facts
      cases hv2
      have HT : Hid (_ ∧ _ ∧ _ ∧ _) := hid ⟨blk_keep (blk_keep HC2.out.1 HM.out.2.2 id) hc4 id, HK2.out.keep HM.out.1 hc4 (fun _ _ => id), hfx, (HC2.out.2.1.trans HM.out.2.2 (fun _ _ h => h)).trans hc4 (fun _ _ h => h)⟩
      have HB := hid (And.intro HSM.out hmo)
      clear hmo hox hfx hc4 hfo HM HC2 a0 a1 hxs
      go_wp2_with fail
      have HK := HK2.out
      refine wp_region_specs ([.eq (.slice ao ls.length cp), .any, .eq (.string ⟨s.toArray⟩), .any, .eq (.pointer (some ⟨A, 0, none⟩)), .any, .eq (.bool true), .eq (.pointer (some ⟨g, 0, none⟩)), .eq (.slice ax xs.length cx), .eq (.pointer none), .any, .any, .any, .any, .any, .any, .any, .any, .any, .any, .any, .any, .any, .any, .any, .any, .any, .any, .any, .any, .any, .any, .eq (.pointer (some ⟨g, 0, none⟩)), .factsL xs, .eq (.slice ax xs.length cx), .eq (.bool true), .eq (.bool true), .eq (.pointer (some ⟨g, 0, none⟩)), .eq (.agg #[.string ⟨r.1.toArray⟩, .string ⟨r.2.toArray⟩]), .eq (.string ⟨s.toArray⟩), .eq (.bool (inF xs r s)), .eq (.slice ax xs.length cx), .eq (.agg #[.string ⟨r.1.toArray⟩, .string ⟨r.2.toArray⟩]), .eq (.string ⟨s.toArray⟩), .eq (.bool (inF xs r s)), .eq (.bool true), .eq (.bool true), .eq (.bool true), .eq (.pointer (some ⟨g, 0, none⟩)), .eq (.agg #[.string ⟨r.1.toArray⟩, .string ⟨r.2.toArray⟩]), .strsL (membersF xs r), .eq (.slice ax xs.length cx), .eq (.agg #[.string ⟨r.1.toArray⟩, .string ⟨r.2.toArray⟩]), .strsL (membersF xs r), .eq (.bool true), .eq (.bool true), .eq (.bool true), .eq (.pointer (some ⟨g, 0, none⟩)), .eq (.string ⟨s.toArray⟩), .rolesL (rolesF xs s), .eq (.slice ax xs.length cx), .eq (.string ⟨s.toArray⟩), .rolesL (rolesF xs s), .eq (.bool true), .eq (.bool true), .eq (.bool true), .eq (.pointer none), .eq (.agg #[.string ⟨r.1.toArray⟩, .string ⟨r.2.toArray⟩]), .eq (.string ⟨s.toArray⟩), .eq (.bool false), .eq (.bool true), .eq (.bool true), .eq (.bool true), .eq (.pointer none), .slice0, .eq (.int .i64 0), .eq (.pointer none), .eq (.agg #[.string ⟨r.1.toArray⟩, .string ⟨r.2.toArray⟩]), .slice0, .eq (.int .i64 0), .eq (.int .i64 0), .eq (.pointer none), .eq (.string ⟨s.toArray⟩), .slice0, .eq (.int .i64 0), .eq (.int .i64 0), .eq (.bool true), .eq (.bool true), .eq (.bool true), .eq (.pointer none), .eq (.slice ao ls.length cp), .eq (.int .i64 0), .eq (.bool true), .eq (.bool true)] : List Spec) [32, 33, 34, 35, 36, 37, 38, 39, 40, 41, 42, 43, 44, 45, 46, 47, 48, 49, 50, 51, 52, 53, 54, 55, 56, 57, 58, 59, 60, 61, 62, 63, 64, 65, 66, 67, 68, 69, 70, 71, 72, 73, 74, 75, 76, 77, 78, 79, 80, 81, 82, 83, 84, 85, 86, 87, 88, 89, 90, 91, 92, 93, 6] [0, 2, 4, 7, 8, 9] (by kernel_rfl) (by kernel_rfl) (by rfl) (by kernel_rfl) ?start ?obs ?fin
      case start =>
        simp only [List.forall_mem_cons]
        exact ⟨⟨_, rfl, rfl⟩, ⟨_, rfl, rfl⟩, ⟨_, rfl, rfl⟩, ⟨_, rfl, rfl⟩, ⟨_, rfl, rfl⟩, ⟨_, rfl, rfl⟩, fun _ h => by cases h⟩
      case obs =>
        refine Obs.cons none (by kernel_rfl) ?_ ?_
        · refine Ob.plain fun a w hR hk K k => ?_
          obtain ⟨_, e7, f7⟩ := hk 7 (by decide)
          clear hk
          go_simp
          exact k _ _ (Chg.refl _ _) f7
        refine Obs.cons none (by kernel_rfl) ?_ ?_
        · refine Ob.plain fun a w hR hk K k => ?_
          obtain ⟨_, e32, rfl⟩ := hk 32 (by decide)
          clear hk
          have hq := HK.facts g ls xs w (HK.keep HT.out.2.1 hR (fun _ _ => id)) HB.out.1 HB.out.2
          go_simp
          refine hq.mono ?_
          rintro e w2 ⟨⟨a9, c9, rfl, h9⟩, hc⟩
          exact k _ _ hc ⟨a9, c9, rfl, h9⟩
        refine Obs.cons none (by kernel_rfl) ?_ ?_
        · refine Ob.plain fun a w hR hk K k => ?_
          obtain ⟨_, e8, f8⟩ := hk 8 (by decide)
          clear hk
          go_simp
          exact k _ _ (Chg.refl _ _) f8
        refine Obs.cons none (by kernel_rfl) ?_ ?_
        · refine Ob.plain fun a w hR hk K k => ?_
          obtain ⟨_, e33, f33⟩ := hk 33 (by decide)
          obtain ⟨_, e34, rfl⟩ := hk 34 (by decide)
          clear hk
          obtain ⟨a1, p1, rfl, h1⟩ := f33
          have hq := rfsame a1 ax p1 cx xs xs w (by have := HX.out; omega) (by have := HX.out; omega) h1 (HT.out.2.2.1.keep hR (fun _ _ => id))
          go_simp
          refine hq.mono ?_
          rintro e w2 ⟨rfl, n, rfl⟩
          exact k _ _ (drewN_chg8 _ _) (congrArg Value.bool (show sameF xs xs = true by simp [sameF]))
        refine Obs.cons none (by kernel_rfl) ?_ ?_
        · refine Ob.plain fun a w hR hk K k => ?_
          obtain ⟨_, e35, f35⟩ := hk 35 (by decide)
          clear hk
          go_simp
          exact k _ _ (Chg.refl _ _) f35
        refine Obs.cons (some (36, true)) (by kernel_rfl) ?_ ?_
        · refine Ob.yes (fun _ _ h => h) fun a w hR hk K k => ?_
          obtain ⟨_, e7, f7⟩ := hk 7 (by decide)
          clear hk
          go_simp
          exact k _ _ (Chg.refl _ _) f7
        refine Obs.cons (some (36, true)) (by kernel_rfl) ?_ ?_
        · refine Ob.yes (fun _ _ h => h) fun a w hR hk K k => ?_
          obtain ⟨_, e4, rfl⟩ := hk 4 (by decide)
          clear hk
          obtain ⟨q0, q1⟩ := (⟨cell_blk (blk_keep HT.out.1 hR id) 0, cell_blk (blk_keep HT.out.1 hR id) 1⟩ : _ ∧ _)
          simp only [List.getElem?_toArray, List.getElem?_cons_zero, List.getElem?_cons_succ] at q0 q1
          go_simp
          exact k _ _ (Chg.refl _ _) rfl
        refine Obs.cons (some (36, true)) (by kernel_rfl) ?_ ?_
        · refine Ob.yes (fun _ _ h => h) fun a w hR hk K k => ?_
          obtain ⟨_, e2, f2⟩ := hk 2 (by decide)
          clear hk
          go_simp
          exact k _ _ (Chg.refl _ _) f2
        refine Obs.cons (some (36, true)) (by kernel_rfl) ?_ ?_
        · refine Ob.yes (fun _ _ h => h) fun a w hR hk K k => ?_
          obtain ⟨_, e37, rfl⟩ := hk 37 (by decide)
          obtain ⟨_, e38, rfl⟩ := hk 38 (by decide)
          obtain ⟨_, e39, rfl⟩ := hk 39 (by decide)
          clear hk
          have hq := HK.inn g ls xs r s w (HK.keep HT.out.2.1 hR (fun _ _ => id)) HB.out.1 HB.out.2 HR.out.1 HR.out.2.1 HR.out.2.2
          go_simp
          refine hq.mono ?_
          rintro e w2 ⟨rfl, hc⟩
          exact k _ _ hc rfl
        refine Obs.cons (some (36, true)) (by kernel_rfl) ?_ ?_
        · refine Ob.yes (fun _ _ h => h) fun a w hR hk K k => ?_
          obtain ⟨_, e8, f8⟩ := hk 8 (by decide)
          clear hk
          go_simp
          exact k _ _ (Chg.refl _ _) f8
        refine Obs.cons (some (36, true)) (by kernel_rfl) ?_ ?_
        · refine Ob.yes (fun _ _ h => h) fun a w hR hk K k => ?_
          obtain ⟨_, e4, rfl⟩ := hk 4 (by decide)
          clear hk
          obtain ⟨q0, q1⟩ := (⟨cell_blk (blk_keep HT.out.1 hR id) 0, cell_blk (blk_keep HT.out.1 hR id) 1⟩ : _ ∧ _)
          simp only [List.getElem?_toArray, List.getElem?_cons_zero, List.getElem?_cons_succ] at q0 q1
          go_simp
          exact k _ _ (Chg.refl _ _) rfl
        refine Obs.cons (some (36, true)) (by kernel_rfl) ?_ ?_
        · refine Ob.yes (fun _ _ h => h) fun a w hR hk K k => ?_
          obtain ⟨_, e2, f2⟩ := hk 2 (by decide)
          clear hk
          go_simp
          exact k _ _ (Chg.refl _ _) f2
        refine Obs.cons (some (36, true)) (by kernel_rfl) ?_ ?_
        · refine Ob.yes (fun _ _ h => h) fun a w hR hk K k => ?_
          obtain ⟨_, e41, rfl⟩ := hk 41 (by decide)
          obtain ⟨_, e42, rfl⟩ := hk 42 (by decide)
          obtain ⟨_, e43, rfl⟩ := hk 43 (by decide)
          clear hk
          have hq := rfin ax cx xs r s w (by have := HX.out; omega) (HT.out.2.2.1.keep hR (fun _ _ => id))
          go_simp
          refine hq.mono ?_
          rintro e w2 ⟨rfl, hc⟩
          exact k _ _ hc rfl
        refine Obs.cons (some (36, true)) (by kernel_rfl) ?_ ?_
        · refine Ob.yes (fun _ _ h => h) fun a w hR hk K k => ?_
          obtain ⟨_, e40, rfl⟩ := hk 40 (by decide)
          obtain ⟨_, e44, rfl⟩ := hk 44 (by decide)
          clear hk
          have z : (inF xs r s == inF xs r s) = true := beq_self_eq_true _
          go_simp
          exact k _ _ (Chg.refl _ _) (by first | rfl | (show Value.bool _ = Value.bool _; simp))
        refine Obs.cons none (by kernel_rfl) ?_ ?_
        · refine Ob.plain fun a w hR hk K k => ?_
          obtain ⟨_, e36, rfl⟩ := hk 36 (by decide)
          obtain ⟨_, e45, rfl⟩ := hk 45 (by decide)
          clear hk
          go_simp
          exact k _ _ (Chg.refl _ _) rfl
        refine Obs.cons none (by kernel_rfl) ?_ ?_
        · refine Ob.plain fun a w hR hk K k => ?_
          obtain ⟨_, e46, f46⟩ := hk 46 (by decide)
          clear hk
          go_simp
          exact k _ _ (Chg.refl _ _) f46
        refine Obs.cons (some (47, true)) (by kernel_rfl) ?_ ?_
        · refine Ob.yes (fun _ _ h => h) fun a w hR hk K k => ?_
          obtain ⟨_, e7, f7⟩ := hk 7 (by decide)
          clear hk
          go_simp
          exact k _ _ (Chg.refl _ _) f7
        refine Obs.cons (some (47, true)) (by kernel_rfl) ?_ ?_
        · refine Ob.yes (fun _ _ h => h) fun a w hR hk K k => ?_
          obtain ⟨_, e4, rfl⟩ := hk 4 (by decide)
          clear hk
          obtain ⟨q0, q1⟩ := (⟨cell_blk (blk_keep HT.out.1 hR id) 0, cell_blk (blk_keep HT.out.1 hR id) 1⟩ : _ ∧ _)
          simp only [List.getElem?_toArray, List.getElem?_cons_zero, List.getElem?_cons_succ] at q0 q1
          go_simp
          exact k _ _ (Chg.refl _ _) rfl
        refine Obs.cons (some (47, true)) (by kernel_rfl) ?_ ?_
        · refine Ob.yes (fun _ _ h => h) fun a w hR hk K k => ?_
          obtain ⟨_, e48, rfl⟩ := hk 48 (by decide)
          obtain ⟨_, e49, rfl⟩ := hk 49 (by decide)
          clear hk
          have hq := HK.members g ls xs r w (HK.keep HT.out.2.1 hR (fun _ _ => id)) HB.out.1 HB.out.2 HR.out.1 HR.out.2.1
          go_simp
          refine hq.mono ?_
          rintro e w2 ⟨⟨a9, c9, rfl, h9⟩, hc⟩
          exact k _ _ hc ⟨a9, c9, rfl, h9⟩
        refine Obs.cons (some (47, true)) (by kernel_rfl) ?_ ?_
        · refine Ob.yes (fun _ _ h => h) fun a w hR hk K k => ?_
          obtain ⟨_, e8, f8⟩ := hk 8 (by decide)
          clear hk
          go_simp
          exact k _ _ (Chg.refl _ _) f8
        refine Obs.cons (some (47, true)) (by kernel_rfl) ?_ ?_
        · refine Ob.yes (fun _ _ h => h) fun a w hR hk K k => ?_
          obtain ⟨_, e4, rfl⟩ := hk 4 (by decide)
          clear hk
          obtain ⟨q0, q1⟩ := (⟨cell_blk (blk_keep HT.out.1 hR id) 0, cell_blk (blk_keep HT.out.1 hR id) 1⟩ : _ ∧ _)
          simp only [List.getElem?_toArray, List.getElem?_cons_zero, List.getElem?_cons_succ] at q0 q1
          go_simp
          exact k _ _ (Chg.refl _ _) rfl
        refine Obs.cons (some (47, true)) (by kernel_rfl) ?_ ?_
        · refine Ob.yes (fun _ _ h => h) fun a w hR hk K k => ?_
          obtain ⟨_, e51, rfl⟩ := hk 51 (by decide)
          obtain ⟨_, e52, rfl⟩ := hk 52 (by decide)
          clear hk
          have hq := rfmembers ax cx xs r w (by have := HX.out; omega) (HT.out.2.2.1.keep hR (fun _ _ => id))
          go_simp
          refine hq.mono ?_
          rintro e w2 ⟨a9, c9, rfl, h9, hc⟩
          obtain ⟨a8, c8, hv8, h8⟩ := h9.strs (membersF_short HB.out.2 r)
          cases hv8
          exact k _ _ hc ⟨_, _, rfl, h8.mono (fun _ _ => trivial)⟩
        refine Obs.cons (some (47, true)) (by kernel_rfl) ?_ ?_
        · refine Ob.yes (fun _ _ h => h) fun a w hR hk K k => ?_
          obtain ⟨_, e50, f50⟩ := hk 50 (by decide)
          obtain ⟨_, e53, f53⟩ := hk 53 (by decide)
          clear hk
          obtain ⟨a1, p1, rfl, h1⟩ := f50
          obtain ⟨a2, p2, rfl, h2⟩ := f53
          have hml := membersF_len xs r
          have hq := refsame_any a1 a2 p1 p2 _ _ w (by have := HX.out; omega) (by have := HX.out; omega) h1 h2
          go_simp
          refine hq.mono ?_
          rintro e w2 ⟨rfl, n, rfl⟩
          exact k _ _ (drewN_chg8 _ _) (congrArg Value.bool (show sameS (membersF xs r) (membersF xs r) = true by simp [sameS]))
        refine Obs.cons none (by kernel_rfl) ?_ ?_
        · refine Ob.plain fun a w hR hk K k => ?_
          obtain ⟨_, e47, rfl⟩ := hk 47 (by decide)
          obtain ⟨_, e54, rfl⟩ := hk 54 (by decide)
          clear hk
          go_simp
          exact k _ _ (Chg.refl _ _) rfl
        refine Obs.cons none (by kernel_rfl) ?_ ?_
        · refine Ob.plain fun a w hR hk K k => ?_
          obtain ⟨_, e55, f55⟩ := hk 55 (by decide)
          clear hk
          go_simp
          exact k _ _ (Chg.refl _ _) f55
        refine Obs.cons (some (56, true)) (by kernel_rfl) ?_ ?_
        · refine Ob.yes (fun _ _ h => h) fun a w hR hk K k => ?_
          obtain ⟨_, e7, f7⟩ := hk 7 (by decide)
          clear hk
          go_simp
          exact k _ _ (Chg.refl _ _) f7
        refine Obs.cons (some (56, true)) (by kernel_rfl) ?_ ?_
        · refine Ob.yes (fun _ _ h => h) fun a w hR hk K k => ?_
          obtain ⟨_, e2, f2⟩ := hk 2 (by decide)
          clear hk
          go_simp
          exact k _ _ (Chg.refl _ _) f2
        refine Obs.cons (some (56, true)) (by kernel_rfl) ?_ ?_
        · refine Ob.yes (fun _ _ h => h) fun a w hR hk K k => ?_
          obtain ⟨_, e57, rfl⟩ := hk 57 (by decide)
          obtain ⟨_, e58, rfl⟩ := hk 58 (by decide)
          clear hk
          have hq := HK.roles g ls xs s w (HK.keep HT.out.2.1 hR (fun _ _ => id)) HB.out.1 HB.out.2 HR.out.2.2
          go_simp
          refine hq.mono ?_
          rintro e w2 ⟨⟨a9, c9, rfl, h9⟩, hc⟩
          exact k _ _ hc ⟨a9, c9, rfl, h9⟩
        refine Obs.cons (some (56, true)) (by kernel_rfl) ?_ ?_
        · refine Ob.yes (fun _ _ h => h) fun a w hR hk K k => ?_
          obtain ⟨_, e8, f8⟩ := hk 8 (by decide)
          clear hk
          go_simp
          exact k _ _ (Chg.refl _ _) f8
        refine Obs.cons (some (56, true)) (by kernel_rfl) ?_ ?_
        · refine Ob.yes (fun _ _ h => h) fun a w hR hk K k => ?_
          obtain ⟨_, e2, f2⟩ := hk 2 (by decide)
          clear hk
          go_simp
          exact k _ _ (Chg.refl _ _) f2
        refine Obs.cons (some (56, true)) (by kernel_rfl) ?_ ?_
        · refine Ob.yes (fun _ _ h => h) fun a w hR hk K k => ?_
          obtain ⟨_, e60, rfl⟩ := hk 60 (by decide)
          obtain ⟨_, e61, rfl⟩ := hk 61 (by decide)
          clear hk
          have hq := rfroles ax cx xs s w (by have := HX.out; omega) (HT.out.2.2.1.keep hR (fun _ _ => id))
          go_simp
          refine hq.mono ?_
          rintro e w2 ⟨a9, c9, rfl, h9, hc⟩
          obtain ⟨a8, c8, hv8, h8, _⟩ := h9.roles (rolesF_short HB.out.2 s)
          cases hv8
          exact k _ _ hc ⟨_, _, rfl, h8.mono (fun _ _ => trivial)⟩
        refine Obs.cons (some (56, true)) (by kernel_rfl) ?_ ?_
        · refine Ob.yes (fun _ _ h => h) fun a w hR hk K k => ?_
          obtain ⟨_, e59, f59⟩ := hk 59 (by decide)
          obtain ⟨_, e62, f62⟩ := hk 62 (by decide)
          clear hk
          obtain ⟨a1, p1, rfl, h1⟩ := f59
          obtain ⟨a2, p2, rfl, h2⟩ := f62
          have hml := rolesF_len xs s
          have hq := rsame_ref a1 a2 p1 p2 _ _ w (by have := HX.out; omega) (by have := HX.out; omega) h1 h2
          go_simp
          refine hq.mono ?_
          rintro e w2 ⟨rfl, n, rfl⟩
          exact k _ _ (drewN_chg8 _ _) (congrArg Value.bool (show sameR (rolesF xs s) (rolesF xs s) = true by simp [sameR]))
        refine Obs.cons none (by kernel_rfl) ?_ ?_
        · refine Ob.plain fun a w hR hk K k => ?_
          obtain ⟨_, e56, rfl⟩ := hk 56 (by decide)
          obtain ⟨_, e63, rfl⟩ := hk 63 (by decide)
          clear hk
          go_simp
          exact k _ _ (Chg.refl _ _) rfl
        refine Obs.cons none (by kernel_rfl) ?_ ?_
        · refine Ob.plain fun a w hR hk K k => ?_
          obtain ⟨_, e64, f64⟩ := hk 64 (by decide)
          clear hk
          go_simp
          exact k _ _ (Chg.refl _ _) f64
        refine Obs.cons (some (65, true)) (by kernel_rfl) ?_ ?_
        · refine Ob.yes (fun _ _ h => h) fun a w hR hk K k => ?_
          obtain ⟨_, e9, f9⟩ := hk 9 (by decide)
          clear hk
          go_simp
          exact k _ _ (Chg.refl _ _) f9
        refine Obs.cons (some (65, true)) (by kernel_rfl) ?_ ?_
        · refine Ob.yes (fun _ _ h => h) fun a w hR hk K k => ?_
          obtain ⟨_, e4, rfl⟩ := hk 4 (by decide)
          clear hk
          obtain ⟨q0, q1⟩ := (⟨cell_blk (blk_keep HT.out.1 hR id) 0, cell_blk (blk_keep HT.out.1 hR id) 1⟩ : _ ∧ _)
          simp only [List.getElem?_toArray, List.getElem?_cons_zero, List.getElem?_cons_succ] at q0 q1
          go_simp
          exact k _ _ (Chg.refl _ _) rfl
        refine Obs.cons (some (65, true)) (by kernel_rfl) ?_ ?_
        · refine Ob.yes (fun _ _ h => h) fun a w hR hk K k => ?_
          obtain ⟨_, e2, f2⟩ := hk 2 (by decide)
          clear hk
          go_simp
          exact k _ _ (Chg.refl _ _) f2
        refine Obs.cons (some (65, true)) (by kernel_rfl) ?_ ?_
        · refine Ob.yes (fun _ _ h => h) fun a w hR hk K k => ?_
          obtain ⟨_, e66, rfl⟩ := hk 66 (by decide)
          obtain ⟨_, e67, rfl⟩ := hk 67 (by decide)
          obtain ⟨_, e68, rfl⟩ := hk 68 (by decide)
          clear hk
          have hq := HK.innNil r s w
          go_simp
          refine hq.mono ?_
          rintro e w2 ⟨rfl, hc⟩
          exact k _ _ hc rfl
        refine Obs.cons (some (65, true)) (by kernel_rfl) ?_ ?_
        · refine Ob.yes (fun _ _ h => h) fun a w hR hk K k => ?_
          obtain ⟨_, e69, rfl⟩ := hk 69 (by decide)
          clear hk
          go_simp
          exact k _ _ (Chg.refl _ _) rfl
        refine Obs.cons none (by kernel_rfl) ?_ ?_
        · refine Ob.plain fun a w hR hk K k => ?_
          obtain ⟨_, e65, rfl⟩ := hk 65 (by decide)
          obtain ⟨_, e70, rfl⟩ := hk 70 (by decide)
          clear hk
          go_simp
          exact k _ _ (Chg.refl _ _) rfl
        refine Obs.cons none (by kernel_rfl) ?_ ?_
        · refine Ob.plain fun a w hR hk K k => ?_
          obtain ⟨_, e71, f71⟩ := hk 71 (by decide)
          clear hk
          go_simp
          exact k _ _ (Chg.refl _ _) f71
        refine Obs.cons (some (72, true)) (by kernel_rfl) ?_ ?_
        · refine Ob.yes (fun _ _ h => h) fun a w hR hk K k => ?_
          obtain ⟨_, e9, f9⟩ := hk 9 (by decide)
          clear hk
          go_simp
          exact k _ _ (Chg.refl _ _) f9
        refine Obs.cons (some (72, true)) (by kernel_rfl) ?_ ?_
        · refine Ob.yes (fun _ _ h => h) fun a w hR hk K k => ?_
          obtain ⟨_, e73, rfl⟩ := hk 73 (by decide)
          clear hk
          have hq := HK.factsNil w
          go_simp
          refine hq.mono ?_
          rintro e w2 ⟨⟨a9, c9, rfl⟩, hc⟩
          exact k _ _ hc ⟨a9, c9, rfl⟩
        refine Obs.cons (some (72, true)) (by kernel_rfl) ?_ ?_
        · refine Ob.yes (fun _ _ h => h) fun a w hR hk K k => ?_
          obtain ⟨_, e74, f74⟩ := hk 74 (by decide)
          clear hk
          obtain ⟨a1, p1, rfl⟩ := f74
          go_simp
          exact k _ _ (Chg.refl _ _) rfl
        refine Obs.cons (some (72, true)) (by kernel_rfl) ?_ ?_
        · refine Ob.yes (fun _ _ h => h) fun a w hR hk K k => ?_
          obtain ⟨_, e9, f9⟩ := hk 9 (by decide)
          clear hk
          go_simp
          exact k _ _ (Chg.refl _ _) f9
        refine Obs.cons (some (72, true)) (by kernel_rfl) ?_ ?_
        · refine Ob.yes (fun _ _ h => h) fun a w hR hk K k => ?_
          obtain ⟨_, e4, rfl⟩ := hk 4 (by decide)
          clear hk
          obtain ⟨q0, q1⟩ := (⟨cell_blk (blk_keep HT.out.1 hR id) 0, cell_blk (blk_keep HT.out.1 hR id) 1⟩ : _ ∧ _)
          simp only [List.getElem?_toArray, List.getElem?_cons_zero, List.getElem?_cons_succ] at q0 q1
          go_simp
          exact k _ _ (Chg.refl _ _) rfl
        refine Obs.cons (some (72, true)) (by kernel_rfl) ?_ ?_
        · refine Ob.yes (fun _ _ h => h) fun a w hR hk K k => ?_
          obtain ⟨_, e76, rfl⟩ := hk 76 (by decide)
          obtain ⟨_, e77, rfl⟩ := hk 77 (by decide)
          clear hk
          have hq := HK.membersNil r w
          go_simp
          refine hq.mono ?_
          rintro e w2 ⟨⟨a9, c9, rfl⟩, hc⟩
          exact k _ _ hc ⟨a9, c9, rfl⟩
        refine Obs.cons (some (72, true)) (by kernel_rfl) ?_ ?_
        · refine Ob.yes (fun _ _ h => h) fun a w hR hk K k => ?_
          obtain ⟨_, e78, f78⟩ := hk 78 (by decide)
          clear hk
          obtain ⟨a1, p1, rfl⟩ := f78
          go_simp
          exact k _ _ (Chg.refl _ _) rfl
        refine Obs.cons (some (72, true)) (by kernel_rfl) ?_ ?_
        · refine Ob.yes (fun _ _ h => h) fun a w hR hk K k => ?_
          obtain ⟨_, e75, rfl⟩ := hk 75 (by decide)
          obtain ⟨_, e79, rfl⟩ := hk 79 (by decide)
          clear hk
          go_simp
          exact k _ _ (Chg.refl _ _) rfl
        refine Obs.cons (some (72, true)) (by kernel_rfl) ?_ ?_
        · refine Ob.yes (fun _ _ h => h) fun a w hR hk K k => ?_
          obtain ⟨_, e9, f9⟩ := hk 9 (by decide)
          clear hk
          go_simp
          exact k _ _ (Chg.refl _ _) f9
        refine Obs.cons (some (72, true)) (by kernel_rfl) ?_ ?_
        · refine Ob.yes (fun _ _ h => h) fun a w hR hk K k => ?_
          obtain ⟨_, e2, f2⟩ := hk 2 (by decide)
          clear hk
          go_simp
          exact k _ _ (Chg.refl _ _) f2
        refine Obs.cons (some (72, true)) (by kernel_rfl) ?_ ?_
        · refine Ob.yes (fun _ _ h => h) fun a w hR hk K k => ?_
          obtain ⟨_, e81, rfl⟩ := hk 81 (by decide)
          obtain ⟨_, e82, rfl⟩ := hk 82 (by decide)
          clear hk
          have hq := HK.rolesNil s w
          go_simp
          refine hq.mono ?_
          rintro e w2 ⟨⟨a9, c9, rfl⟩, hc⟩
          exact k _ _ hc ⟨a9, c9, rfl⟩
        refine Obs.cons (some (72, true)) (by kernel_rfl) ?_ ?_
        · refine Ob.yes (fun _ _ h => h) fun a w hR hk K k => ?_
          obtain ⟨_, e83, f83⟩ := hk 83 (by decide)
          clear hk
          obtain ⟨a1, p1, rfl⟩ := f83
          go_simp
          exact k _ _ (Chg.refl _ _) rfl
        refine Obs.cons (some (72, true)) (by kernel_rfl) ?_ ?_
        · refine Ob.yes (fun _ _ h => h) fun a w hR hk K k => ?_
          obtain ⟨_, e80, rfl⟩ := hk 80 (by decide)
          obtain ⟨_, e84, rfl⟩ := hk 84 (by decide)
          clear hk
          go_simp
          exact k _ _ (Chg.refl _ _) rfl
        refine Obs.cons (some (72, true)) (by kernel_rfl) ?_ ?_
        · refine Ob.yes (fun _ _ h => h) fun a w hR hk K k => ?_
          obtain ⟨_, e85, rfl⟩ := hk 85 (by decide)
          clear hk
          go_simp
          exact k _ _ (Chg.refl _ _) rfl
        refine Obs.cons none (by kernel_rfl) ?_ ?_
        · refine Ob.plain fun a w hR hk K k => ?_
          obtain ⟨_, e72, rfl⟩ := hk 72 (by decide)
          obtain ⟨_, e86, rfl⟩ := hk 86 (by decide)
          clear hk
          go_simp
          exact k _ _ (Chg.refl _ _) rfl
        refine Obs.cons none (by kernel_rfl) ?_ ?_
        · refine Ob.plain fun a w hR hk K k => ?_
          obtain ⟨_, e87, f87⟩ := hk 87 (by decide)
          clear hk
          go_simp
          exact k _ _ (Chg.refl _ _) f87
        refine Obs.cons (some (88, true)) (by kernel_rfl) ?_ ?_
        · refine Ob.yes (fun _ _ h => h) fun a w hR hk K k => ?_
          obtain ⟨_, e9, f9⟩ := hk 9 (by decide)
          clear hk
          go_simp
          exact k _ _ (Chg.refl _ _) f9
        refine Obs.cons (some (88, true)) (by kernel_rfl) ?_ ?_
        · refine Ob.yes (fun _ _ h => h) fun a w hR hk K k => ?_
          obtain ⟨_, e0, f0⟩ := hk 0 (by decide)
          clear hk
          go_simp
          exact k _ _ (Chg.refl _ _) f0
        refine Obs.cons (some (88, true)) (by kernel_rfl) ?_ ?_
        · refine Ob.yes (fun _ _ h => h) fun a w hR hk K k => ?_
          obtain ⟨_, e89, rfl⟩ := hk 89 (by decide)
          obtain ⟨_, e90, rfl⟩ := hk 90 (by decide)
          clear hk
          have hq := HK.addNil ao ls.length cp w
          go_simp
          refine hq.mono ?_
          rintro e w2 ⟨rfl, hc⟩
          exact k _ _ hc rfl
        refine Obs.cons (some (88, true)) (by kernel_rfl) ?_ ?_
        · refine Ob.yes (fun _ _ h => h) fun a w hR hk K k => ?_
          obtain ⟨_, e91, rfl⟩ := hk 91 (by decide)
          clear hk
          go_simp
          exact k _ _ (Chg.refl _ _) rfl
        refine Obs.cons none (by kernel_rfl) ?_ ?_
        · refine Ob.plain fun a w hR hk K k => ?_
          obtain ⟨_, e88, rfl⟩ := hk 88 (by decide)
          obtain ⟨_, e92, rfl⟩ := hk 92 (by decide)
          clear hk
          go_simp
          exact k _ _ (Chg.refl _ _) rfl
        refine Obs.cons none (by kernel_rfl) ?_ ?_
        · refine Ob.plain fun a w hR hk K k => ?_
          obtain ⟨_, e93, f93⟩ := hk 93 (by decide)
          clear hk
          go_simp
          exact k _ _ (Chg.refl _ _) f93
        exact Obs.nil
      case fin =>
        intro vals w9 hc9 hv
        have h6 : vals 6 = .bool true := hv 6 (by decide)
        simp only [putAll, List.setIfInBounds_toArray, List.set_cons_zero, List.set_cons_succ, h6]
        clear hv h6
        go_wp2
        go_ret
        exact ⟨rfl, HT.out.2.2.2.trans hc9 (fun _ _ h => h)⟩
    · have e1 : IntKind.i64.wrap ((r.1.length : Int) + (r.2.length : Int)) = (r.1.length : Int) + (r.2.length : Int) := by rw [IntKind.wrap_i64]; omega
      have e2 : IntKind.i64.wrap ((r.1.length : Int) + (r.2.length : Int) + (s.length : Int)) = (r.1.length : Int) + (r.2.length : Int) + (s.length : Int) := by rw [IntKind.wrap_i64]; omega
      have z2 : decide ((200 : Int) < (r.1.length : Int) + (r.2.length : Int) + (s.length : Int)) = true := decide_eq_true (by omega)
      go_wp2
      go_ret
      exact ⟨rfl, HC2.out.2.1⟩
  · have z1 : decide ((1200 : Int) < (totalC ls : Int)) = true := decide_eq_true (by omega)
    go_wp2
    go_ret
    exact ⟨rfl, HC2.out.2.1⟩
end Go.Proofs.YtanompfdjfgfbaaGreat

/- The law ModelTells of layer 8, at every list of credentials, role and text that hold together at most 1048576 values and letters. -/
namespace Go.Proofs.YtanompfdjfgfbaaGreat
open Go.ChangeShapes Go.WideShapes Go.ChangeAt Go.RowKit

set_option maxRecDepth 100000 in
theorem modelTells_lifted {MA : (Nat → Prop) → World → Nat → List CredB → Prop} (HK : MK MA) (os : Os) (started : os.Started) (H : Type) (enc : TypeId × Value → H) (F : Stop.Interp) :
    ReturnsInHanded {} Tryz.checked os 3 .any ((Rows.OpenSpec.upto Rows.modelTellsSpec).pre6 enc Tryz.prog Tryz.f3 Rows.modelTellsUptoRow.domain false) (((Rows.OpenSpec.upto Rows.modelTellsSpec).at F).post enc Tryz.prog Tryz.f3 false true false false) := by
  refine handed_cond_shaped (C := Tryz.checked) (s := Rows.OpenSpec.upto Rows.modelTellsSpec) (k := Rows.uptoSmall) rfl Tryz.own started (by kernel_rfl) Tryz.func3
    (OpenSpec.witness (enc := enc) (C := Tryz.checked) (s := Rows.OpenSpec.upto Rows.modelTellsSpec) (k := Rows.uptoSmall) rfl false ⟨#[], #[.slice none 0 0, .agg #[.string ⟨#[]⟩, .string ⟨#[]⟩], .string ⟨#[]⟩], []⟩ 8 (by kernel_rfl) (by kernel_rfl) (by kernel_rfl)
      (x := ([.nil, .agg [.lit (.string []), .lit (.string [])], .lit (.string [])], [], [])) (by kernel_rfl) rfl (by kernel_rfl)) ?_
  intro W base args ds gs before hshp hval0 hW hk
  have hval : ∀ (j : Nat) t v, Tryz.f3.params[j]? = some t → args[j]? = some v → Value.okWide Tryz.prog W .any base t v := hval0
  have hW' := hW
  obtain ⟨p, q, hA0, hV, rfl, hfz, hnd⟩ := hW
  have hA : DataW.TrodAll enc Tryz.prog W 0 (fun _ => true) true Tryz.f3.params.toList args.toList ds p := hA0
  rw [Tryz.params3] at hA hval
  obtain ⟨v0, v1, v2, d0, d1, d2, p0, p1, p2, rfl, rfl, rfl, h0, h1, h2⟩ := trodAll_three hA
  obtain ⟨rfl, rfl⟩ := trodVars_none hV
  have k0 := h0
  have k1 := h1
  have k2 := h2
  have lt0 : ∀ x ∈ p0, x.block < W.heap.size := by obtain ⟨m, hm⟩ := k0; exact DataW.trod_lt m _ _ _ hm
  have lt1 : ∀ x ∈ p1, x.block < W.heap.size := by obtain ⟨m, hm⟩ := k1; exact DataW.trod_lt m _ _ _ hm
  have lt2 : ∀ x ∈ p2, x.block < W.heap.size := by obtain ⟨m, hm⟩ := k2; exact DataW.trod_lt m _ _ _ hm
  have hk' := of_decide_eq_true hk
  simp only [List.append_nil, Rows.uptoBulkAll] at hk'
  obtain ⟨a0, len0, cap0, rfl⟩ := okWide_slice Tryz.underlying22 (hval 0 22 v0 rfl rfl)
  obtain ⟨fuel0, hf0⟩ := h0
  obtain ⟨ao, cap, xs, hcs, hst0, ht0, z0⟩ := open_creds hf0
  simp only [Value.cells, List.cons.injEq, and_true, Value.slice.injEq] at hcs
  obtain ⟨rfl, rfl, rfl⟩ := hcs
  obtain ⟨r, rfl, hr1, hr2, hr3⟩ := open_role (hval 1 24 v1 rfl rfl) h1
  obtain ⟨s, rfl, rfl, rfl, hs⟩ := Go.ChangeMaps.open_string Tryz.underlying9 (hval 2 9 v2 rfl rfl) h2
  dsimp only at ht0
  simp only [Rows.uptoBulk] at hk'
  clear hA0 hval0
  refine (mtells_main HK (mfirst HK) _ _ xs r s.data.toList W (by omega) (by omega) (by omega) (by omega) hst0 z0 (fun _ h => h)).mono fun e W' ⟨he, hc⟩ => ?_
  subst he
  have bel : Below W.heap.size W W' := hc.below (Nat.le_refl _) (fun _ _ => id)
  exact ⟨_, rfl, _, _, _, [], _, [], hW', trodAll_mk1 (shut_bool Tryz.underlying4 _), (trodAll_cons_mk (Below.trod Tryz.laidOut (by kernel_rfl) (of_decide_eq_true (by kernel_rfl)) k0 bel lt0) (trodAll_cons_mk (Below.trod Tryz.laidOut (by kernel_rfl) (of_decide_eq_true (by kernel_rfl)) k1 bel lt1) (trodAll_cons_mk (Below.trod Tryz.laidOut (by kernel_rfl) (of_decide_eq_true (by kernel_rfl)) k2 bel lt2) trodAll_mk0))), rfl, bel.frame _, fun h => by cases h⟩

theorem modelTells_said {MA : (Nat → Prop) → World → Nat → List CredB → Prop} (HK : MK MA) : Rows.ModelTellsUptoSaid :=
  OpenClaim.holds_of_cond 3 Tryz.f3 rfl rfl rfl rfl rfl rfl rfl ⟨rfl, rfl, rfl, rfl, rfl⟩ rfl rfl rfl rfl rfl (by kernel_rfl) Tryz.func3 (by kernel_rfl)
    (of_decide_eq_true (by kernel_rfl)) (by unfold Func.isWrapper; first | (rw [if_pos (by decide +kernel)]; kernel_rfl) | (rw [if_neg (by decide +kernel)]; exact ⟨rfl, rfl⟩))
    (fun os started H enc _ F => modelTells_lifted HK os started H enc F)
end Go.Proofs.YtanompfdjfgfbaaGreat
