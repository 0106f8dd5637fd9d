/- Texts that the proof leans on, in one: PmTake4, PmTake, PmMA, RoleProg, ShelfStr, RoleCmp, RoleOr, Grown. -/
import Derived.Test.YtanompfdjfgfbaaGreatMb17
import Derived.Test.YtanompfdjfgfbaaGreatMb14
import Derived.Test.YtanompfdjfgfbaaGreatMb18
import Derived.Test.YtanompfdjfgfbaaGreatMb19
import Derived.Test.YtanompfdjfgfbaaGreatMb9
import Derived.Test.YtanompfdjfgfbaaGreatMb3
import Derived.Test.YtanompfdjfgfbaaGreatMb2
import Derived.Shelf.Small.Strs
import Derived.Shelf.Strings.Search1
import Derived.Shelf.Strings.Search2
import Derived.Test.YtanompfdjfgfbaaGreatProg
import Derived.Sort.Grow
/- A credential of kind 4 is taken. -/
namespace Go.Proofs.YtanompfdjfgfbaaGreat
open Go.RowKit Go.Maps

set_option maxRecDepth 100000 in
set_option maxHeartbeats 4000000 in
theorem ptake4 {K O : Nat → Prop} (ls : List CredB) (g : Nat) (F : List FactB) (T : List CredB) (c : CredB) (w : World) (h : MS K O w g F (2 * T.length) (leanR T) T.length (linkR T)) (hl : ls.length ≤ 1000) (hnd : F.Nodup) (hF : ∀ f ∈ F, Der ls f) (hc : isCred c = true) (hcl : c ∈ ls) (hT : T.length ≤ 1000) (hk : c.kind = 4) :
    Calls Tryz.prog 34 #[.pointer (some ⟨g, 0, none⟩), .agg #[.int .i64 c.kind, .string ⟨c.head.1.toArray⟩, .string ⟨c.head.2.toArray⟩, .string ⟨c.who.toArray⟩, .string ⟨c.b.1.toArray⟩, .string ⟨c.b.2.toArray⟩, .string ⟨c.c.1.toArray⟩, .string ⟨c.c.2.toArray⟩, .string ⟨c.w2.toArray⟩]] w (TakePost ls O g F T c w) := by
  have hc1 : Chg (fun _ => False) w (w.alloc (.cells #[.int .i64 c.kind, .string ⟨c.head.1.toArray⟩, .string ⟨c.head.2.toArray⟩, .string ⟨c.who.toArray⟩, .string ⟨c.b.1.toArray⟩, .string ⟨c.b.2.toArray⟩, .string ⟨c.c.1.toArray⟩, .string ⟨c.c.2.toArray⟩, .string ⟨c.w2.toArray⟩] 47)) := (Chg.refl _ w).alloc _
  have hb1 : (w.alloc (.cells #[.int .i64 c.kind, .string ⟨c.head.1.toArray⟩, .string ⟨c.head.2.toArray⟩, .string ⟨c.who.toArray⟩, .string ⟨c.b.1.toArray⟩, .string ⟨c.b.2.toArray⟩, .string ⟨c.c.1.toArray⟩, .string ⟨c.c.2.toArray⟩, .string ⟨c.w2.toArray⟩] 47)).heap[w.heap.size]? = some (.cells (credBox c) 47 (0, 0)) := heap_alloc_new w _
  obtain ⟨c0, c1, c2, c3, c4, c5, c6, c7, c8⟩ := cred_at_blk hb1
  simp only [Nat.zero_add] at c0 c1 c2 c3 c4 c5 c6 c7 c8
  have HMS := hid (h.quiet hc1)
  have HB := hid (And.intro hl (And.intro hnd (And.intro hF (And.intro hc (And.intro hcl hT)))))
  have HBX0 := hid hb1
  have HC1 := hid hc1
  have HAO0 : Hid (¬ O w.heap.size) := hid (fun e => by have := h.lo _ e; omega)
  have HKK := hid hk
  have d1 : (c.kind == 1) = false := by rw [hk]; rfl
  have d3 : (c.kind == 3) = false := by rw [hk]; rfl
  have d4 : (c.kind == 4) = true := by rw [hk]; rfl
  clear hb1 hc1 h hl hnd hF hc hcl hT hk
  by_cases hT : c ∈ T
  · have HT := hid hT
    have HR1 : Hid (leanR T c.c c) := hid ⟨hT, HB.out.2.2.2.1, by have := HKK.out; omega, .inr ⟨HKK.out, rfl⟩⟩
    have HR2 : Hid (leanR T c.b c) := hid ⟨hT, HB.out.2.2.2.1, by have := HKK.out; omega, .inl rfl⟩
    clear hT
    go_enter Tryz.func34, Tryz.ntmps34
    go_wp2_with fail
    clear c0 c1 c2 c3 c4 c5 c6 c7 c8
    generalize (w.alloc (.cells #[.int .i64 c.kind, .string ⟨c.head.1.toArray⟩, .string ⟨c.head.2.toArray⟩, .string ⟨c.who.toArray⟩, .string ⟨c.b.1.toArray⟩, .string ⟨c.b.2.toArray⟩, .string ⟨c.c.1.toArray⟩, .string ⟨c.c.2.toArray⟩, .string ⟨c.w2.toArray⟩] 47)) = w1 at *
    obtain ⟨A, hAe⟩ : ∃ A, w.heap.size = A := ⟨_, rfl⟩
    rw [hAe] at HBX0 HAO0
    have HBX := hid HBX0.out
    have HAO := hid HAO0.out
    have HCW : Hid (Grew O O w ∧ Chg O w w1) := hid ⟨Grew.refl _ _, HC1.out.none⟩
    simp only [hAe]
    clear hAe HBX0 HAO0 HC1
    obtain ⟨m, z0, hcall⟩ := HMS.out.lean_no c.c c (by have h := isCred_short HB.out.2.2.2.1; unfold credShort at h; exact ⟨by omega, by omega⟩) HB.out.2.2.2.1 (by have := HB.out.2.2.2.2.2; omega) HR1.out
    have HX := hid (And.intro z0 HBX.out)
    have HE := hid hcall
    clear z0 hcall
    go_wp2_with fail

    refine wp_region_stateD (Chg O) (LastW 7 7 w1 (fun w' => Chg (fun _ => False) w1 w')) (specAtR [.eq (.pointer (some ⟨g, 0, none⟩)), .any, .any, .eq (.pointer (some ⟨A, 0, none⟩)), .any, .any, .any, .any, .any, .any, .any, .any, .any, .any, .any, .any, .any, .any, .any, .any, .any, .any, .any, .any, .any, .any, .any, .any, .any, .any, .any, .any, .eq (.pointer (some ⟨g, 0, none⟩)), .eq (.pointer (some ⟨g, 0, none⟩)), .eq (.pointer (some ⟨g, 1, none⟩)), .eq (.map (some m)), .eq (.pointer (some ⟨A, 6, none⟩)), .eq (.agg #[.string ⟨c.c.1.toArray⟩, .string ⟨c.c.2.toArray⟩]), .eq (.agg #[.int .i64 c.kind, .string ⟨c.head.1.toArray⟩, .string ⟨c.head.2.toArray⟩, .string ⟨c.who.toArray⟩, .string ⟨c.b.1.toArray⟩, .string ⟨c.b.2.toArray⟩, .string ⟨c.c.1.toArray⟩, .string ⟨c.c.2.toArray⟩, .string ⟨c.w2.toArray⟩]), .eq (.bool false), .any, .any, .any, .any, .any, .any, .any, .any, .any, .any, .any, .any, .any, .any, .any, .any, .any, .any, .any, .any, .any, .any, .any, .any, .any, .any, .any, .any]) [32, 33, 34, 35, 36, 37, 38, 39] [0, 3] (by kernel_rfl) (by kernel_rfl) (LastW.start _ _ _ _ (Chg.refl _ _).drew) (fun t v w w' hc h => specAtR_st _ t v w w' hc h) (by rfl) (by kernel_rfl) ?start5 ?obs5 ?fin5
    case start5 =>
      simp only [List.forall_mem_cons]; exact ⟨⟨_, rfl, rfl⟩, ⟨_, rfl, rfl⟩, fun _ h => by cases h⟩
    case obs5 =>
      clear HMS HBX HCW HAO HB HT HR1 HR2 
      refine ObsD.cons none (by kernel_rfl) ?_ ?_
      · refine ObD.plain fun L a w hi he hD hW hk K k => ?_
        obtain ⟨_, e0, rfl⟩ := hk 0 (by decide)
        clear hk
        have hR := hW.early (by decide) hi
        have hS := hW.step (by decide) hi (Chg.refl _ _)
        clear hi he hW hD
        go_simp
        exact k _ _ (Chg.refl _ _) hS rfl
      refine ObsD.cons none (by kernel_rfl) ?_ ?_
      · refine ObD.plain fun L a w hi he hD hW hk K k => ?_
        obtain ⟨_, e32, rfl⟩ := hk 32 (by decide)
        clear hk
        have hR := hW.early (by decide) hi
        have hS := hW.step (by decide) hi (Chg.refl _ _)
        clear hi he hW hD
        go_simp
        exact k _ _ (Chg.refl _ _) hS rfl
      refine ObsD.cons none (by kernel_rfl) ?_ ?_
      · refine ObD.plain fun L a w hi he hD hW hk K k => ?_
        obtain ⟨_, e33, rfl⟩ := hk 33 (by decide)
        clear hk
        have hR := hW.early (by decide) hi
        have hS := hW.step (by decide) hi (Chg.refl _ _)
        clear hi he hW hD
        go_simp
        exact k _ _ (Chg.refl _ _) hS rfl
      refine ObsD.cons none (by kernel_rfl) ?_ ?_
      · refine ObD.plain fun L a w hi he hD hW hk K k => ?_
        obtain ⟨_, e34, rfl⟩ := hk 34 (by decide)
        clear hk
        have hR := hW.early (by decide) hi
        have hS := hW.step (by decide) hi (Chg.refl _ _)
        have zz := hR.cell HX.out.1 id
        clear hi he hW hD
        go_simp
        exact k _ _ (Chg.refl _ _) hS rfl
      refine ObsD.cons none (by kernel_rfl) ?_ ?_
      · refine ObD.plain fun L a w hi he hD hW hk K k => ?_
        obtain ⟨_, e3, rfl⟩ := hk 3 (by decide)
        clear hk
        have hR := hW.early (by decide) hi
        have hS := hW.step (by decide) hi (Chg.refl _ _)
        clear hi he hW hD
        go_simp
        exact k _ _ (Chg.refl _ _) hS rfl
      refine ObsD.cons none (by kernel_rfl) ?_ ?_
      · refine ObD.plain fun L a w hi he hD hW hk K k => ?_
        obtain ⟨_, e36, rfl⟩ := hk 36 (by decide)
        clear hk
        have hR := hW.early (by decide) hi
        have hS := hW.step (by decide) hi (Chg.refl _ _)
        obtain ⟨c0, c1, c2, c3, c4, c5, c6, c7, c8⟩ := cred_at_blk (blk_keep HX.out.2 hR id)
        simp only [Nat.zero_add] at c0 c1 c2 c3 c4 c5 c6 c7 c8
        clear hi he hW hD
        go_simp
        exact k _ _ (Chg.refl _ _) hS rfl
      refine ObsD.cons none (by kernel_rfl) ?_ ?_
      · refine ObD.plain fun L a w hi he hD hW hk K k => ?_
        obtain ⟨_, e3, rfl⟩ := hk 3 (by decide)
        clear hk
        have hR := hW.early (by decide) hi
        have hS := hW.step (by decide) hi (Chg.refl _ _)
        obtain ⟨c0, c1, c2, c3, c4, c5, c6, c7, c8⟩ := cred_at_blk (blk_keep HX.out.2 hR id)
        simp only [Nat.zero_add] at c0 c1 c2 c3 c4 c5 c6 c7 c8
        clear hi he hW hD
        go_simp
        exact k _ _ (Chg.refl _ _) hS rfl
      refine ObsD.cons none (by kernel_rfl) ?_ ?_
      · refine ObD.plain fun L a w hi he hD hW hk K k => ?_
        obtain ⟨_, e35, rfl⟩ := hk 35 (by decide)
        obtain ⟨_, e37, rfl⟩ := hk 37 (by decide)
        obtain ⟨_, e38, rfl⟩ := hk 38 (by decide)
        clear hk
        have hR := hW.pre hi
        have hall := behind_all (n := 7) hD rfl he (by kernel_rfl)
        clear he hD
        have hq := HE.out w hR
        have HS := hid (And.intro hW hall)
        have HR := hid hR
        clear hi hW hall hR
        simp only [credV, credBox] at hq
        go_simp
        refine hq.mono ?_
        rintro e w5 ⟨rfl, hC⟩
        exact k _ _ hC.none (HS.out.1.last (w' := w5) HS.out.2 (HR.out.trans hC (fun _ _ h => h))) rfl
      exact ObsD.nil
    case fin5 =>
      intro L vals w10 hL hWL hv
      have HEND := hid (hWL.post (hL 7 (by decide)))
      clear hL hWL
      have hb : vals 39 = .bool false := hv 39 (by decide)
      simp only [putAll, List.setIfInBounds_toArray, List.set_cons_zero, List.set_cons_succ]
      have HMS2 := hid (HMS.out.quiet HEND.out)
      have HCW2 : Hid (Grew O O w ∧ Chg O w w10) := hid ⟨Grew.refl _ _, HCW.out.2.step HCW.out.1 HEND.out.none⟩
      have HBX2 := hid (blk_keep HBX.out HEND.out id)
      clear hb hv HX HE HEND HMS HCW HBX HR1
      have HMS := HMS2
      have HCW := HCW2
      have HBX := HBX2
      clear HMS2 HCW2 HBX2
      obtain ⟨m, z0, hcall⟩ := HMS.out.lean_no c.b c (by have h := isCred_short HB.out.2.2.2.1; unfold credShort at h; exact ⟨by omega, by omega⟩) HB.out.2.2.2.1 (by have := HB.out.2.2.2.2.2; omega) (by first | exact HR2.out | simpa using HR2.out)
      have HX := hid (And.intro z0 HBX.out)
      have HE := hid hcall
      clear z0 hcall
      go_wp2_with fail
      clear d1 d3 d4
      refine wp_region_stateD (Chg O) (LastW 7 7 w10 (fun w' => Chg (fun _ => False) w10 w')) (specAtR [.eq (.pointer (some ⟨g, 0, none⟩)), .any, .any, .eq (.pointer (some ⟨A, 0, none⟩)), .any, .any, .any, .any, .any, .any, .any, .any, .any, .any, .any, .any, .any, .any, .any, .any, .any, .any, .any, .any, .any, .any, .any, .any, .any, .any, .any, .any, .any, .any, .any, .any, .any, .any, .any, .any, .eq (.pointer (some ⟨g, 0, none⟩)), .eq (.pointer (some ⟨g, 0, none⟩)), .eq (.pointer (some ⟨g, 1, none⟩)), .eq (.map (some m)), .eq (.pointer (some ⟨A, 4, none⟩)), .eq (.agg #[.string ⟨c.b.1.toArray⟩, .string ⟨c.b.2.toArray⟩]), .eq (.agg #[.int .i64 c.kind, .string ⟨c.head.1.toArray⟩, .string ⟨c.head.2.toArray⟩, .string ⟨c.who.toArray⟩, .string ⟨c.b.1.toArray⟩, .string ⟨c.b.2.toArray⟩, .string ⟨c.c.1.toArray⟩, .string ⟨c.c.2.toArray⟩, .string ⟨c.w2.toArray⟩]), .eq (.bool false), .eq (.bool true), .any, .any, .any, .any, .any, .any, .any, .any, .any, .any, .any, .any, .any, .any, .any, .any, .any, .any, .any]) [40, 41, 42, 43, 44, 45, 46, 47, 48] [0, 3] (by kernel_rfl) (by kernel_rfl) (LastW.start _ _ _ _ (Chg.refl _ _).drew) (fun t v w w' hc h => specAtR_st _ t v w w' hc h) (by rfl) (by kernel_rfl) ?start8 ?obs8 ?fin8
      case start8 =>
        simp only [List.forall_mem_cons]; exact ⟨⟨_, rfl, rfl⟩, ⟨_, rfl, rfl⟩, fun _ h => by cases h⟩
      case obs8 =>
        clear HMS HBX HCW HAO HB HT HR2
        refine ObsD.cons none (by kernel_rfl) ?_ ?_
        · refine ObD.plain fun L a w hi he hD hW hk K k => ?_
          obtain ⟨_, e0, rfl⟩ := hk 0 (by decide)
          clear hk
          have hR := hW.early (by decide) hi
          have hS := hW.step (by decide) hi (Chg.refl _ _)
          clear hi he hW hD
          go_simp
          exact k _ _ (Chg.refl _ _) hS rfl
        refine ObsD.cons none (by kernel_rfl) ?_ ?_
        · refine ObD.plain fun L a w hi he hD hW hk K k => ?_
          obtain ⟨_, e40, rfl⟩ := hk 40 (by decide)
          clear hk
          have hR := hW.early (by decide) hi
          have hS := hW.step (by decide) hi (Chg.refl _ _)
          clear hi he hW hD
          go_simp
          exact k _ _ (Chg.refl _ _) hS rfl
        refine ObsD.cons none (by kernel_rfl) ?_ ?_
        · refine ObD.plain fun L a w hi he hD hW hk K k => ?_
          obtain ⟨_, e41, rfl⟩ := hk 41 (by decide)
          clear hk
          have hR := hW.early (by decide) hi
          have hS := hW.step (by decide) hi (Chg.refl _ _)
          clear hi he hW hD
          go_simp
          exact k _ _ (Chg.refl _ _) hS rfl
        refine ObsD.cons none (by kernel_rfl) ?_ ?_
        · refine ObD.plain fun L a w hi he hD hW hk K k => ?_
          obtain ⟨_, e42, rfl⟩ := hk 42 (by decide)
          clear hk
          have hR := hW.early (by decide) hi
          have hS := hW.step (by decide) hi (Chg.refl _ _)
          have zz := hR.cell HX.out.1 id
          clear hi he hW hD
          go_simp
          exact k _ _ (Chg.refl _ _) hS rfl
        refine ObsD.cons none (by kernel_rfl) ?_ ?_
        · refine ObD.plain fun L a w hi he hD hW hk K k => ?_
          obtain ⟨_, e3, rfl⟩ := hk 3 (by decide)
          clear hk
          have hR := hW.early (by decide) hi
          have hS := hW.step (by decide) hi (Chg.refl _ _)
          clear hi he hW hD
          go_simp
          exact k _ _ (Chg.refl _ _) hS rfl
        refine ObsD.cons none (by kernel_rfl) ?_ ?_
        · refine ObD.plain fun L a w hi he hD hW hk K k => ?_
          obtain ⟨_, e44, rfl⟩ := hk 44 (by decide)
          clear hk
          have hR := hW.early (by decide) hi
          have hS := hW.step (by decide) hi (Chg.refl _ _)
          obtain ⟨c0, c1, c2, c3, c4, c5, c6, c7, c8⟩ := cred_at_blk (blk_keep HX.out.2 hR id)
          simp only [Nat.zero_add] at c0 c1 c2 c3 c4 c5 c6 c7 c8
          clear hi he hW hD
          go_simp
          exact k _ _ (Chg.refl _ _) hS rfl
        refine ObsD.cons none (by kernel_rfl) ?_ ?_
        · refine ObD.plain fun L a w hi he hD hW hk K k => ?_
          obtain ⟨_, e3, rfl⟩ := hk 3 (by decide)
          clear hk
          have hR := hW.early (by decide) hi
          have hS := hW.step (by decide) hi (Chg.refl _ _)
          obtain ⟨c0, c1, c2, c3, c4, c5, c6, c7, c8⟩ := cred_at_blk (blk_keep HX.out.2 hR id)
          simp only [Nat.zero_add] at c0 c1 c2 c3 c4 c5 c6 c7 c8
          clear hi he hW hD
          go_simp
          exact k _ _ (Chg.refl _ _) hS rfl
        refine ObsD.cons none (by kernel_rfl) ?_ ?_
        · refine ObD.plain fun L a w hi he hD hW hk K k => ?_
          obtain ⟨_, e43, rfl⟩ := hk 43 (by decide)
          obtain ⟨_, e45, rfl⟩ := hk 45 (by decide)
          obtain ⟨_, e46, rfl⟩ := hk 46 (by decide)
          clear hk
          have hR := hW.pre hi
          have hall := behind_all (n := 7) hD rfl he (by kernel_rfl)
          clear he hD
          have hq := HE.out w hR
          have HS := hid (And.intro hW hall)
          have HR := hid hR
          clear hi hW hall hR
          simp only [credV, credBox] at hq
          go_simp
          refine hq.mono ?_
          rintro e w5 ⟨rfl, hC⟩
          exact k _ _ hC.none (HS.out.1.last (w' := w5) HS.out.2 (HR.out.trans hC (fun _ _ h => h))) rfl
        refine ObsD.cons none (by kernel_rfl) ?_ ?_
        · refine ObD.plain fun L a w hi he hD hW hk K k => ?_
          obtain ⟨_, e47, rfl⟩ := hk 47 (by decide)
          clear hk
          have hS := hW.stay (j := 8) (by decide)
          clear hi he hW hD
          go_simp
          exact k _ _ (Chg.refl _ _) hS rfl
        exact ObsD.nil
      case fin8 =>
        intro L vals w12 hL hWL hv
        have HEND := hid (hWL.post (hL 7 (by decide)))
        clear hL hWL
        have h48 : vals 48 = .bool true := hv 48 (by decide)
        simp only [putAll, List.setIfInBounds_toArray, List.set_cons_zero, List.set_cons_succ, h48]
        clear hv h48 HX HE
        go_wp2
        go_ret
        exact TakePost.nil (HMS.out.quiet HEND.out) (leanR_in HT.out) (linkR_in HT.out) (by simp; omega) (by simp) HCW.out.1 (HCW.out.2.step HCW.out.1 HEND.out.none) HB.out.2.1 HB.out.2.2.1 HT.out
  · have HT := hid hT
    have HR1 : Hid (¬ leanR T c.c c) := hid (fun e => hT e.1)
    have HR2 : Hid (¬ ((fun a x => leanR T a x ∨ (a = c.c ∧ x = c)) c.b c)) := hid (fun e => e.elim (fun e => hT e.1) (fun e => both_ne HB.out.2.2.2.1 HKK.out e.1))
    have HKN : Hid (c.kind ≠ 1) := hid (by have := HKK.out; omega)
    clear hT
    go_enter Tryz.func34, Tryz.ntmps34
    go_wp2_with fail
    clear c0 c1 c2 c3 c4 c5 c6 c7 c8
    generalize (w.alloc (.cells #[.int .i64 c.kind, .string ⟨c.head.1.toArray⟩, .string ⟨c.head.2.toArray⟩, .string ⟨c.who.toArray⟩, .string ⟨c.b.1.toArray⟩, .string ⟨c.b.2.toArray⟩, .string ⟨c.c.1.toArray⟩, .string ⟨c.c.2.toArray⟩, .string ⟨c.w2.toArray⟩] 47)) = w1 at *
    obtain ⟨A, hAe⟩ : ∃ A, w.heap.size = A := ⟨_, rfl⟩
    rw [hAe] at HBX0 HAO0
    have HBX := hid HBX0.out
    have HAO := hid HAO0.out
    have HCW : Hid (Grew O O w ∧ Chg O w w1) := hid ⟨Grew.refl _ _, HC1.out.none⟩
    simp only [hAe]
    clear hAe HBX0 HAO0 HC1
    obtain ⟨m, z0, hcall⟩ := HMS.out.lean_yes c.c c (by have h := isCred_short HB.out.2.2.2.1; unfold credShort at h; exact ⟨by omega, by omega⟩) HB.out.2.2.2.1 (by have := HB.out.2.2.2.2.2; omega) HR1.out
    have HX := hid (And.intro z0 HBX.out)
    have HE := hid hcall
    clear z0 hcall
    go_wp2_with fail

    refine wp_region_stateD (Chg O) (LastW 7 7 w1 (fun w' => ∃ w8, Chg (fun _ => False) w1 w8 ∧ LeanPost O g F (2 * T.length + 1) (fun a x => leanR T a x ∨ (a = c.c ∧ x = c)) T.length (linkR T) w8 w')) (specAtR [.eq (.pointer (some ⟨g, 0, none⟩)), .any, .any, .eq (.pointer (some ⟨A, 0, none⟩)), .any, .any, .any, .any, .any, .any, .any, .any, .any, .any, .any, .any, .any, .any, .any, .any, .any, .any, .any, .any, .any, .any, .any, .any, .any, .any, .any, .any, .eq (.pointer (some ⟨g, 0, none⟩)), .eq (.pointer (some ⟨g, 0, none⟩)), .eq (.pointer (some ⟨g, 1, none⟩)), .eq (.map (some m)), .eq (.pointer (some ⟨A, 6, none⟩)), .eq (.agg #[.string ⟨c.c.1.toArray⟩, .string ⟨c.c.2.toArray⟩]), .eq (.agg #[.int .i64 c.kind, .string ⟨c.head.1.toArray⟩, .string ⟨c.head.2.toArray⟩, .string ⟨c.who.toArray⟩, .string ⟨c.b.1.toArray⟩, .string ⟨c.b.2.toArray⟩, .string ⟨c.c.1.toArray⟩, .string ⟨c.c.2.toArray⟩, .string ⟨c.w2.toArray⟩]), .eq (.bool true), .any, .any, .any, .any, .any, .any, .any, .any, .any, .any, .any, .any, .any, .any, .any, .any, .any, .any, .any, .any, .any, .any, .any, .any, .any, .any, .any, .any]) [32, 33, 34, 35, 36, 37, 38, 39] [0, 3] (by kernel_rfl) (by kernel_rfl) (LastW.start _ _ _ _ (Chg.refl _ _).drew) (fun t v w w' hc h => specAtR_st _ t v w w' hc h) (by rfl) (by kernel_rfl) ?start6 ?obs6 ?fin6
    case start6 =>
      simp only [List.forall_mem_cons]; exact ⟨⟨_, rfl, rfl⟩, ⟨_, rfl, rfl⟩, fun _ h => by cases h⟩
    case obs6 =>
      clear HMS HBX HCW HAO HB HT HR1 HR2 HKN
      refine ObsD.cons none (by kernel_rfl) ?_ ?_
      · refine ObD.plain fun L a w hi he hD hW hk K k => ?_
        obtain ⟨_, e0, rfl⟩ := hk 0 (by decide)
        clear hk
        have hR := hW.early (by decide) hi
        have hS := hW.step (by decide) hi (Chg.refl _ _)
        clear hi he hW hD
        go_simp
        exact k _ _ (Chg.refl _ _) hS rfl
      refine ObsD.cons none (by kernel_rfl) ?_ ?_
      · refine ObD.plain fun L a w hi he hD hW hk K k => ?_
        obtain ⟨_, e32, rfl⟩ := hk 32 (by decide)
        clear hk
        have hR := hW.early (by decide) hi
        have hS := hW.step (by decide) hi (Chg.refl _ _)
        clear hi he hW hD
        go_simp
        exact k _ _ (Chg.refl _ _) hS rfl
      refine ObsD.cons none (by kernel_rfl) ?_ ?_
      · refine ObD.plain fun L a w hi he hD hW hk K k => ?_
        obtain ⟨_, e33, rfl⟩ := hk 33 (by decide)
        clear hk
        have hR := hW.early (by decide) hi
        have hS := hW.step (by decide) hi (Chg.refl _ _)
        clear hi he hW hD
        go_simp
        exact k _ _ (Chg.refl _ _) hS rfl
      refine ObsD.cons none (by kernel_rfl) ?_ ?_
      · refine ObD.plain fun L a w hi he hD hW hk K k => ?_
        obtain ⟨_, e34, rfl⟩ := hk 34 (by decide)
        clear hk
        have hR := hW.early (by decide) hi
        have hS := hW.step (by decide) hi (Chg.refl _ _)
        have zz := hR.cell HX.out.1 id
        clear hi he hW hD
        go_simp
        exact k _ _ (Chg.refl _ _) hS rfl
      refine ObsD.cons none (by kernel_rfl) ?_ ?_
      · refine ObD.plain fun L a w hi he hD hW hk K k => ?_
        obtain ⟨_, e3, rfl⟩ := hk 3 (by decide)
        clear hk
        have hR := hW.early (by decide) hi
        have hS := hW.step (by decide) hi (Chg.refl _ _)
        clear hi he hW hD
        go_simp
        exact k _ _ (Chg.refl _ _) hS rfl
      refine ObsD.cons none (by kernel_rfl) ?_ ?_
      · refine ObD.plain fun L a w hi he hD hW hk K k => ?_
        obtain ⟨_, e36, rfl⟩ := hk 36 (by decide)
        clear hk
        have hR := hW.early (by decide) hi
        have hS := hW.step (by decide) hi (Chg.refl _ _)
        obtain ⟨c0, c1, c2, c3, c4, c5, c6, c7, c8⟩ := cred_at_blk (blk_keep HX.out.2 hR id)
        simp only [Nat.zero_add] at c0 c1 c2 c3 c4 c5 c6 c7 c8
        clear hi he hW hD
        go_simp
        exact k _ _ (Chg.refl _ _) hS rfl
      refine ObsD.cons none (by kernel_rfl) ?_ ?_
      · refine ObD.plain fun L a w hi he hD hW hk K k => ?_
        obtain ⟨_, e3, rfl⟩ := hk 3 (by decide)
        clear hk
        have hR := hW.early (by decide) hi
        have hS := hW.step (by decide) hi (Chg.refl _ _)
        obtain ⟨c0, c1, c2, c3, c4, c5, c6, c7, c8⟩ := cred_at_blk (blk_keep HX.out.2 hR id)
        simp only [Nat.zero_add] at c0 c1 c2 c3 c4 c5 c6 c7 c8
        clear hi he hW hD
        go_simp
        exact k _ _ (Chg.refl _ _) hS rfl
      refine ObsD.cons none (by kernel_rfl) ?_ ?_
      · refine ObD.plain fun L a w hi he hD hW hk K k => ?_
        obtain ⟨_, e35, rfl⟩ := hk 35 (by decide)
        obtain ⟨_, e37, rfl⟩ := hk 37 (by decide)
        obtain ⟨_, e38, rfl⟩ := hk 38 (by decide)
        clear hk
        have hR := hW.pre hi
        have hall := behind_all (n := 7) hD rfl he (by kernel_rfl)
        clear he hD
        have hq := HE.out w hR
        have HS := hid (And.intro hW hall)
        have HR := hid hR
        clear hi hW hall hR
        simp only [credV, credBox] at hq
        go_simp
        refine hq.mono ?_
        rintro e w5 ⟨rfl, hP, hC⟩
        exact k _ _ hC (HS.out.1.last (w' := w5) HS.out.2 ⟨w, HR.out, hP⟩) rfl
      exact ObsD.nil
    case fin6 =>
      intro L vals w10 hL hWL hv
      have HEND := hid (hWL.post (hL 7 (by decide)))
      clear hL hWL
      have hb : vals 39 = .bool true := hv 39 (by decide)
      simp only [putAll, List.setIfInBounds_toArray, List.set_cons_zero, List.set_cons_succ]
      obtain ⟨w8, hc8, Ka, Oa, hms, hgr, hch⟩ := HEND.out
      have HMS2 := hid hms
      have hca := hc8.none.trans hch (fun _ _ h => h)
      have HCW2 : Hid (Grew O Oa w ∧ Chg O w w10) := hid ⟨fun i hi => (hgr i hi).imp id (fun h => Nat.le_trans HCW.out.2.size (Nat.le_trans hc8.size h)), HCW.out.2.step HCW.out.1 hca⟩
      have HBX2 := hid (blk_keep HBX.out hca HAO.out)
      have HAO2 : Hid (¬ Oa A) := hid (hgr.not (Nat.lt_of_lt_of_le (lt_blk HBX.out) hc8.size) HAO.out)
      clear hb hv HX HE HEND hc8 hms hgr hch hca HMS HBX HAO HCW HR1
      have HMS := HMS2
      have HCW := HCW2
      have HBX := HBX2
      have HAO := HAO2
      clear HMS2 HCW2 HBX2 HAO2
      obtain ⟨m, z0, hcall⟩ := HMS.out.lean_yes c.b c (by have h := isCred_short HB.out.2.2.2.1; unfold credShort at h; exact ⟨by omega, by omega⟩) HB.out.2.2.2.1 (by have := HB.out.2.2.2.2.2; omega) (by first | exact HR2.out | simpa using HR2.out)
      have HX := hid (And.intro z0 HBX.out)
      have HE := hid hcall
      clear z0 hcall
      go_wp2_with fail
      clear d1 d3 d4
      refine wp_region_stateD (Chg Oa) (LastW 7 7 w10 (fun w' => ∃ w8, Chg (fun _ => False) w10 w8 ∧ LeanPost Oa g F ((2 * T.length + 1) + 1) (fun a x => (fun a x => leanR T a x ∨ (a = c.c ∧ x = c)) a x ∨ (a = c.b ∧ x = c)) T.length (linkR T) w8 w')) (specAtR [.eq (.pointer (some ⟨g, 0, none⟩)), .any, .any, .eq (.pointer (some ⟨A, 0, none⟩)), .any, .any, .any, .any, .any, .any, .any, .any, .any, .any, .any, .any, .any, .any, .any, .any, .any, .any, .any, .any, .any, .any, .any, .any, .any, .any, .any, .any, .any, .any, .any, .any, .any, .any, .any, .any, .eq (.pointer (some ⟨g, 0, none⟩)), .eq (.pointer (some ⟨g, 0, none⟩)), .eq (.pointer (some ⟨g, 1, none⟩)), .eq (.map (some m)), .eq (.pointer (some ⟨A, 4, none⟩)), .eq (.agg #[.string ⟨c.b.1.toArray⟩, .string ⟨c.b.2.toArray⟩]), .eq (.agg #[.int .i64 c.kind, .string ⟨c.head.1.toArray⟩, .string ⟨c.head.2.toArray⟩, .string ⟨c.who.toArray⟩, .string ⟨c.b.1.toArray⟩, .string ⟨c.b.2.toArray⟩, .string ⟨c.c.1.toArray⟩, .string ⟨c.c.2.toArray⟩, .string ⟨c.w2.toArray⟩]), .eq (.bool true), .eq (.bool false), .any, .any, .any, .any, .any, .any, .any, .any, .any, .any, .any, .any, .any, .any, .any, .any, .any, .any, .any]) [40, 41, 42, 43, 44, 45, 46, 47, 48] [0, 3] (by kernel_rfl) (by kernel_rfl) (LastW.start _ _ _ _ (Chg.refl _ _).drew) (fun t v w w' hc h => specAtR_st _ t v w w' hc h) (by rfl) (by kernel_rfl) ?start8 ?obs8 ?fin8
      case start8 =>
        simp only [List.forall_mem_cons]; exact ⟨⟨_, rfl, rfl⟩, ⟨_, rfl, rfl⟩, fun _ h => by cases h⟩
      case obs8 =>
        clear HMS HBX HCW HAO HB HT HR2 HKN
        refine ObsD.cons none (by kernel_rfl) ?_ ?_
        · refine ObD.plain fun L a w hi he hD hW hk K k => ?_
          obtain ⟨_, e0, rfl⟩ := hk 0 (by decide)
          clear hk
          have hR := hW.early (by decide) hi
          have hS := hW.step (by decide) hi (Chg.refl _ _)
          clear hi he hW hD
          go_simp
          exact k _ _ (Chg.refl _ _) hS rfl
        refine ObsD.cons none (by kernel_rfl) ?_ ?_
        · refine ObD.plain fun L a w hi he hD hW hk K k => ?_
          obtain ⟨_, e40, rfl⟩ := hk 40 (by decide)
          clear hk
          have hR := hW.early (by decide) hi
          have hS := hW.step (by decide) hi (Chg.refl _ _)
          clear hi he hW hD
          go_simp
          exact k _ _ (Chg.refl _ _) hS rfl
        refine ObsD.cons none (by kernel_rfl) ?_ ?_
        · refine ObD.plain fun L a w hi he hD hW hk K k => ?_
          obtain ⟨_, e41, rfl⟩ := hk 41 (by decide)
          clear hk
          have hR := hW.early (by decide) hi
          have hS := hW.step (by decide) hi (Chg.refl _ _)
          clear hi he hW hD
          go_simp
          exact k _ _ (Chg.refl _ _) hS rfl
        refine ObsD.cons none (by kernel_rfl) ?_ ?_
        · refine ObD.plain fun L a w hi he hD hW hk K k => ?_
          obtain ⟨_, e42, rfl⟩ := hk 42 (by decide)
          clear hk
          have hR := hW.early (by decide) hi
          have hS := hW.step (by decide) hi (Chg.refl _ _)
          have zz := hR.cell HX.out.1 id
          clear hi he hW hD
          go_simp
          exact k _ _ (Chg.refl _ _) hS rfl
        refine ObsD.cons none (by kernel_rfl) ?_ ?_
        · refine ObD.plain fun L a w hi he hD hW hk K k => ?_
          obtain ⟨_, e3, rfl⟩ := hk 3 (by decide)
          clear hk
          have hR := hW.early (by decide) hi
          have hS := hW.step (by decide) hi (Chg.refl _ _)
          clear hi he hW hD
          go_simp
          exact k _ _ (Chg.refl _ _) hS rfl
        refine ObsD.cons none (by kernel_rfl) ?_ ?_
        · refine ObD.plain fun L a w hi he hD hW hk K k => ?_
          obtain ⟨_, e44, rfl⟩ := hk 44 (by decide)
          clear hk
          have hR := hW.early (by decide) hi
          have hS := hW.step (by decide) hi (Chg.refl _ _)
          obtain ⟨c0, c1, c2, c3, c4, c5, c6, c7, c8⟩ := cred_at_blk (blk_keep HX.out.2 hR id)
          simp only [Nat.zero_add] at c0 c1 c2 c3 c4 c5 c6 c7 c8
          clear hi he hW hD
          go_simp
          exact k _ _ (Chg.refl _ _) hS rfl
        refine ObsD.cons none (by kernel_rfl) ?_ ?_
        · refine ObD.plain fun L a w hi he hD hW hk K k => ?_
          obtain ⟨_, e3, rfl⟩ := hk 3 (by decide)
          clear hk
          have hR := hW.early (by decide) hi
          have hS := hW.step (by decide) hi (Chg.refl _ _)
          obtain ⟨c0, c1, c2, c3, c4, c5, c6, c7, c8⟩ := cred_at_blk (blk_keep HX.out.2 hR id)
          simp only [Nat.zero_add] at c0 c1 c2 c3 c4 c5 c6 c7 c8
          clear hi he hW hD
          go_simp
          exact k _ _ (Chg.refl _ _) hS rfl
        refine ObsD.cons none (by kernel_rfl) ?_ ?_
        · refine ObD.plain fun L a w hi he hD hW hk K k => ?_
          obtain ⟨_, e43, rfl⟩ := hk 43 (by decide)
          obtain ⟨_, e45, rfl⟩ := hk 45 (by decide)
          obtain ⟨_, e46, rfl⟩ := hk 46 (by decide)
          clear hk
          have hR := hW.pre hi
          have hall := behind_all (n := 7) hD rfl he (by kernel_rfl)
          clear he hD
          have hq := HE.out w hR
          have HS := hid (And.intro hW hall)
          have HR := hid hR
          clear hi hW hall hR
          simp only [credV, credBox] at hq
          go_simp
          refine hq.mono ?_
          rintro e w5 ⟨rfl, hP, hC⟩
          exact k _ _ hC (HS.out.1.last (w' := w5) HS.out.2 ⟨w, HR.out, hP⟩) rfl
        refine ObsD.cons none (by kernel_rfl) ?_ ?_
        · refine ObD.plain fun L a w hi he hD hW hk K k => ?_
          obtain ⟨_, e47, rfl⟩ := hk 47 (by decide)
          clear hk
          have hS := hW.stay (j := 8) (by decide)
          clear hi he hW hD
          go_simp
          exact k _ _ (Chg.refl _ _) hS rfl
        exact ObsD.nil
      case fin8 =>
        intro L vals w12 hL hWL hv
        have HEND := hid (hWL.post (hL 7 (by decide)))
        clear hL hWL
        have h48 : vals 48 = .bool false := hv 48 (by decide)
        simp only [putAll, List.setIfInBounds_toArray, List.set_cons_zero, List.set_cons_succ, h48]
        obtain ⟨w8, hc8, Kb, Ob, hms, hgr, hch⟩ := HEND.out
        have HMB := hid hms
        have hca := hc8.none.trans hch (fun _ _ h => h)
        have HCB := hid (And.intro (HCW.out.1.trans (fun i hi => (hgr i hi).imp id (fun h => Nat.le_trans hc8.size h)) HCW.out.2.size) (HCW.out.2.step HCW.out.1 hca))
        have HBB := hid (blk_keep HBX.out hca HAO.out)
        have HAB : Hid (¬ Ob A) := hid (hgr.not (Nat.lt_of_lt_of_le (lt_blk HBX.out) hc8.size) HAO.out)
        clear hv h48 HX HE HEND hc8 hms hgr hch hca HMS HBX HAO HCW HR2
        have h48 : True := trivial
        obtain ⟨c0, c1, c2, c3, c4, c5, c6, c7, c8⟩ := cred_at_blk HBB.out
        simp only [Nat.zero_add] at c0 c1 c2 c3 c4 c5 c6 c7 c8
        have HQ := hid (pmem g F c.b w12 HMB.out (by have h := isCred_short HB.out.2.2.2.1; unfold credShort at h; exact ⟨by omega, by omega⟩) (der_few HB.out.2.1 HB.out.2.2.1 HB.out.1))
        clear h48
        go_wp2_with fail
        refine HQ.out.mono ?_
        rintro e w11 ⟨xs, ao, cap, rfl, hxs, hxn, hst, hc11, h0⟩
        have hss : (sortS xs).length = xs.length := sortS_length xs
        have hsm : ∀ s, s ∈ sortS xs ↔ (c.b, s) ∈ F := fun s => by rw [sortS_mem, hxs]
        have hlen : xs.length ≤ 4000000 := by
          have h1 := nodup_lengthG (xs.map (fun s => (c.b, s))) F (List.pairwise_map.2 (List.Pairwise.imp (fun h e => h (Prod.mk.inj e).2) hxn)) (fun q hq => by
            obtain ⟨s, hs, rfl⟩ := List.mem_map.1 hq
            exact (hxs s).1 hs)
          rw [List.length_map] at h1
          exact Nat.le_trans h1 (der_few HB.out.2.1 HB.out.2.2.1 HB.out.1)
        rw [← hss] at hlen
        rw [← hss]
        generalize sortS xs = ss at *
        have HS := hid (And.intro hsm hst)
        have HC11 := hid hc11
        have HB11 := hid (blk_keep HBB.out hc11 id)
        have HG0 := hid (GrowI.start (ls := ls) (HMB.out.quiet hc11) HB.out.2.1 HB.out.2.2.1)
        clear c0 c1 c2 c3 c4 c5 c6 c7 c8 HQ hss hsm hst hc11 hxs hxn h0 HBB
        go_wp2
        go_loopw [5, 54] (fun v i wr => ∃ (k : Nat) (cs : List FactB) (O1 : Nat → Prop), k ≤ ss.length ∧ i = .int .i64 k ∧ GrowI ls Kb Ob g F ((2 * T.length + 1) + 1) (fun a x => (fun a x => leanR T a x ∨ (a = c.c ∧ x = c)) a x ∨ (a = c.b ∧ x = c)) T.length (linkR T) w11 wr v cs O1 ∧ (∀ s ∈ ss.take k, ∀ q, StepOf F c s q → q ∈ F ++ cs)) (fun _ i _ => ss.length - (intOf i).toNat)
        case atStart => exact ⟨0, [], Ob, Nat.zero_le _, rfl, HG0.out, fun s hs => (by simp at hs)⟩
        case round =>
          clear HG0
          obtain ⟨k, cs, O1, hk, rfl, hg, hdone⟩ := hrel
          by_cases hlt : k < ss.length
          · obtain ⟨b, off, rfl, hDb, a0, hls⟩ := (HS.out.2.keep hg.chg (fun i hi e => by have := HMB.out.lo i e.1; omega)) k hlt
            have hmem := (HS.out.1 ss[k]).1 (List.getElem_mem hlt)
            have htk := List.take_succ_eq_append_getElem hlt
            generalize ss[k] = s at *
            have hbA := hg.blk HB11.out HAB.out
            obtain ⟨c0, c1, c2, c3, c4, c5, c6, c7, c8⟩ := cred_at_blk hbA
            simp only [Nat.zero_add] at c0 c1 c2 c3 c4 c5 c6 c7 c8
            have hfew := hg.few HB.out.1
            have q1 := pstep g (F ++ cs) c s wr hg.ms HB.out.2.2.2.1 hls (by rw [List.length_append]; exact hfew)
            have HQ1 := hid q1
            have HI := hid (And.intro hg (And.intro hdone (And.intro hmem htk)))
            clear hg hdone hmem htk hbA hfew q1 hDb hls
            go_wp2_with fail
            refine HQ1.out.mono ?_
            rintro e w7 ⟨ao3, cap3, hs, rfl, hst, hc7, hmem, hsl⟩
            clear c0 c1 c2 c3 c4 c5 c6 c7 c8 a0 HQ1
            have HP : Hid (Calls Tryz.prog 55 #[.pointer (some ⟨g, 0, none⟩), .slice ao3 hs.length cap3] w7 fun e w8 => ∃ v9, e = .returned v9 ∧ GrowPut ls Kb Ob g F ((2 * T.length + 1) + 1) (fun a x => (fun a x => leanR T a x ∨ (a = c.c ∧ x = c)) a x ∨ (a = c.b ∧ x = c)) T.length (linkR T) w11 u5 cs O1 hs w7 w8 v9) := hid (by
              obtain ⟨hg, hdone, hm, htk⟩ := HI.out
              have hg7 := hg.quiet hc7
              have hH : ∀ q ∈ hs, Der ls q := fun q hq => (((hmem q).1 hq).brings (fun _ => List.mem_append_left _ hm)).der HB.out.2.2.2.2.1 HB.out.2.2.2.1 (fun q hq => hg.der q hq)
              refine (pput ls g (F ++ cs) ao3 cap3 hs w7 hg7.ms HB.out.1 hg7.nd hg7.der hH hst (fun i hi => ⟨fun h => by have := hg.ms.lo i h; omega, hi.2⟩) hsl).mono ?_
              rintro e w8 ⟨v9, rfl, hp⟩
              exact ⟨v9, rfl, hg7.put HB.out.1 hH hp⟩)
            have HK7 := hid hmem
            clear hst hc7 hmem hsl
            go_wp2_with fail
            refine HP.out.mono ?_
            rintro e w8 ⟨v9, rfl, hp⟩
            obtain ⟨ao2, cap2, cs2, O2, rfl, h0, hf2, hcm, hlo, hsz, hfew, hg2, hc8, hnext⟩ := hp
            have HF2 := hid (And.intro h0 (And.intro hf2 (And.intro hcm (And.intro hlo (And.intro hsz (And.intro hfew hnext))))))
            clear h0 hf2 hcm hlo hsz hfew hg2 hc8 hnext HP
            go_wp2_with (at_builtin; refine wpList_append_facts (O := O2) rfl (.tmp 58) (.tmp 64) rfl w11.heap.size u5 cs rfl HF2.out.2.2.1 HF2.out.2.2.2.1 ao2 cap2 cs2 rfl HF2.out.2.1 HF2.out.1 ?c1 ?c2 ?_)
            case c1 => have := HF2.out.2.2.2.2.2.1; omega
            case c2 => exact HF2.out.2.2.2.2.1
            intro v' w3 hown hc3
            have HY := hid (HF2.out.2.2.2.2.2.2 v' w3 hown hc3)
            clear hown hc3
            go_wp2
            go_roundw
            case rel =>
              obtain ⟨hg, hdone, hm, htk⟩ := HI.out
              refine ⟨k + 1, _, O2, by omega, by go_num, HY.out.1, fun s2 hs2 q hq => ?_⟩
              rw [HY.out.2 q]
              rw [htk, List.mem_append, List.mem_singleton] at hs2
              rcases hs2 with hs2 | rfl
              · exact .inl (hdone s2 hs2 q hq)
              · refine .inr ((HK7.out q).2 ⟨hq.1, ?_⟩)
                rcases hq.2 with ⟨k, h⟩ | ⟨k, h⟩ | ⟨k, h1, h2, h3⟩
                · exact .inl ⟨k, h⟩
                · exact .inr (.inl ⟨k, List.mem_append_left _ h⟩)
                · exact .inr (.inr ⟨k, h1, List.mem_append_left _ h2, List.mem_append_left _ h3⟩)
            case measure => simp [intOf]; omega
          · have HF2 := hid (And.intro hg (show ∀ s ∈ ss, ∀ q, StepOf F c s q → q ∈ F ++ cs from fun s hs => hdone s (by rw [List.take_of_length_le (by omega)]; exact hs)))
            clear hg hdone
            go_wp2
            go_ret
            exact HF2.out.1.taken (leanR_both HB.out.2.2.2.1 HKK.out) (linkR_not (by have := HKK.out; omega)) (by simp; omega) (by simp) HCB.out.1 (HCB.out.2.step HCB.out.1 HC11.out.none) (fun _ => taken_of_steps HB.out.2.2.2.1 HKN.out (fun s hs => HF2.out.2 s ((HS.out.1 s).2 hs)))
end Go.Proofs.YtanompfdjfgfbaaGreat

/- A right credential is taken. -/
namespace Go.Proofs.YtanompfdjfgfbaaGreat
open Go.RowKit

theorem ptake {K O : Nat → Prop} (ls : List CredB) (g : Nat) (F : List FactB) (T : List CredB) (c : CredB) (w : World) (h : MS K O w g F (2 * T.length) (leanR T) T.length (linkR T)) (hl : ls.length ≤ 1000) (hnd : F.Nodup) (hF : ∀ f ∈ F, Der ls f) (hc : isCred c = true) (hcl : c ∈ ls) (hT : T.length ≤ 1000) :
    Calls Tryz.prog 34 #[.pointer (some ⟨g, 0, none⟩), .agg #[.int .i64 c.kind, .string ⟨c.head.1.toArray⟩, .string ⟨c.head.2.toArray⟩, .string ⟨c.who.toArray⟩, .string ⟨c.b.1.toArray⟩, .string ⟨c.b.2.toArray⟩, .string ⟨c.c.1.toArray⟩, .string ⟨c.c.2.toArray⟩, .string ⟨c.w2.toArray⟩]] w (TakePost ls O g F T c w) := by
  rcases isCred_kind hc with hk | hk | hk | hk
  · exact ptake1 ls g F T c w h hl hnd hF hc hcl hT hk
  · exact ptake2 ls g F T c w h hl hnd hF hc hcl hT hk
  · exact ptake3 ls g F T c w h hl hnd hF hc hcl hT hk
  · exact ptake4 ls g F T c w h hl hnd hF hc hcl hT hk
end Go.Proofs.YtanompfdjfgfbaaGreat

/- The model of credentials as it lies in memory. -/
namespace Go.Proofs.YtanompfdjfgfbaaGreat
open Go.RowKit Go.Maps

/-- At the block g lies the model of the credentials ls, in blocks of O. -/
def MA (O : Nat → Prop) (w : World) (g : Nat) (ls : List CredB) : Prop :=
  ∃ K O0 F, (∀ i, O0 i → O i) ∧ (∀ i, O i → i < w.heap.size) ∧ MS K O0 w g F (2 * (ls.filter isCred).length) (leanR (ls.filter isCred)) (ls.filter isCred).length (linkR (ls.filter isCred)) ∧ F.Nodup ∧ ∀ f, f ∈ F ↔ Der ls f

theorem MA.keep {O S : Nat → Prop} {w w' : World} {g : Nat} {ls : List CredB} (h : MA O w g ls) (hc : Chg S w w') (hs : ∀ i, O i → ¬ S i) : MA O w' g ls := by
  obtain ⟨K, O0, F, h1, h2, h3, h4, h5⟩ := h
  exact ⟨K, O0, F, h1, fun i hi => Nat.lt_of_lt_of_le (h2 i hi) hc.size, h3.keep hc (fun i hi => hs i (h1 i hi)), h4, h5⟩

/-- Is the block a map's? -/
def IsMapB (w : World) (i : Nat) : Prop := ∃ es cl, w.heap[i]? = some (.map es cl)

theorem Sets.tight {α β : Type} {ko : KT α} {ki : KT β} {O : Nat → Prop} {w : World} {mb n : Nat} {rel : α → β → Prop} (h : Sets ko ki O w mb n rel) : Sets ko ki (fun i => O i ∧ IsMapB w i) w mb n rel := by
  obtain ⟨⟨l, h1, h2, h3⟩, h4⟩ := h
  refine ⟨⟨l, h1, fun p hp => ?_, h3⟩, h4, ?_⟩
  · obtain ⟨a, b, xs, c, d⟩ := h2 p hp
    obtain ⟨M, hM⟩ := id c
    obtain ⟨es, cl, hb, _⟩ := hM.own
    exact ⟨⟨a, es, cl, hb⟩, b, xs, c, d⟩
  · obtain ⟨M, hM, _⟩ := h1.ex
    obtain ⟨es, cl, hb, _⟩ := hM.own
    exact ⟨es, cl, hb⟩

/-- No block of it is anything but a map's, and the model's own. -/
theorem MS.tight {K O : Nat → Prop} {w : World} {g n2 n3 : Nat} {F : List FactB} {R2 : RoleB → CredB → Prop} {R3 : List UInt8 → CredB → Prop} (h : MS K O w g F n2 R2 n3 R3) :
    ∃ K' O', MS K' O' w g F n2 R2 n3 R3 ∧ (∀ i, O' i → O i) ∧ ∀ i, O' i → IsMapB w i ∨ i = g := by
  obtain ⟨⟨m1, m2, m3, O1, O2, O3, h0, h1, h2, h3, d1, d2, d3⟩, h4, hk, h5⟩ := h
  refine ⟨fun i => K i ∧ (IsMapB w i ∨ i = g), fun i => O i ∧ (IsMapB w i ∨ i = g), ⟨⟨m1, m2, m3, _, _, _, h0, h1.tight, h2.tight, h3.tight, fun i hi => ⟨⟨(d1 i hi.1).1, .inl hi.2⟩, fun e => (d1 i hi.1).2 e.1⟩, fun i hi => ⟨⟨(d2 i hi.1).1, .inl hi.2⟩, fun e => (d2 i hi.1).2.1 e.1, (d2 i hi.1).2.2⟩, fun i hi => ⟨⟨(d3 i hi.1).1, .inl hi.2⟩, (d3 i hi.1).2⟩⟩, ⟨h4, .inr rfl⟩, fun i hi => ⟨hk i hi.1, hi.2⟩, fun i hi => h5 i hi.1⟩, fun i hi => hi.1, fun i hi => hi.2⟩

theorem CredsAt.off {D O K : Nat → Prop} {w : World} {ao : Option Addr} {ms : List CredB} {g n2 n3 : Nat} {F : List FactB} {R2 : RoleB → CredB → Prop} {R3 : List UInt8 → CredB → Prop} (h : CredsAt D w ao ms) (hm : MS K O w g F n2 R2 n3 R3) (ht : ∀ i, O i → IsMapB w i ∨ i = g) : CredsAt (fun i => D i ∧ ¬ O i) w ao ms := fun i hi => by
  obtain ⟨b, off, e, hD, hc, hs⟩ := h i hi
  refine ⟨b, off, e, ⟨hD, fun hO => ?_⟩, hc, hs⟩
  have h0 := hc.k0
  rcases ht b hO with ⟨es, cl, hb⟩ | rfl
  · simp [World.cell?, hb] at h0
  · obtain ⟨⟨m1, m2, m3, O1, O2, O3, hb, _⟩, _⟩ := hm
    rw [cell_blk hb] at h0
    rcases ho : off + i * 9 with _ | _ | _ | n <;> rw [ho] at h0 <;> simp at h0

/-- What Add leaves. -/
def AddPostM (O : Nat → Prop) (g : Nat) (ls ms : List CredB) (w : World) (e : Ending) (w' : World) : Prop :=
  ∃ (O' : Nat → Prop) (n : Nat), e = .returned (.int .i64 (n : Nat)) ∧ (∀ xs ys, ModelOf ls xs → ModelOf (ls ++ ms) ys → (n : Int) = (ys.length : Int) - (xs.length : Int)) ∧ MA O' w' g (ls ++ ms) ∧ (∀ i, O' i → O i ∨ w.heap.size ≤ i) ∧ Chg O w w'

theorem addI_start {ls ms : List CredB} {F : List FactB} (hnd : F.Nodup) (hF : ∀ f, f ∈ F ↔ Der ls f) : AddI (ls ++ ms) ((ls ++ ms.take 0).filter isCred) (F ++ []) F := by
  rw [List.append_nil, List.take_zero, List.append_nil]
  exact ⟨hnd, fun f hf => ((hF f).1 hf).mono (fun c hc _ => List.mem_append_left _ hc), fun _ h => h, fun c hc hr g hg => (hF g).2 (hg.der (List.mem_filter.1 hc).1 hr (fun f hf => (hF f).1 hf))⟩

theorem addPost_of {O O0 K' O' : Nat → Prop} {g : Nat} {ls ms : List CredB} {F cs : List FactB} {w w' : World} (hnd : F.Nodup) (hF : ∀ f, f ∈ F ↔ Der ls f) (hO : ∀ i, O0 i → O i)
    (hm : MS K' O' w' g (F ++ cs) (2 * ((ls ++ ms).filter isCred).length) (leanR ((ls ++ ms).filter isCred)) ((ls ++ ms).filter isCred).length (linkR ((ls ++ ms).filter isCred))) (hg : Grew O0 O' w) (hc : Chg O0 w w')
    (hA : AddI (ls ++ ms) ((ls ++ ms).filter isCred) (F ++ cs) (F ++ cs)) : AddPostM O g ls ms w (.returned (.int .i64 (cs.length : Nat))) w' := by
  have hall := hA.done (fun _ h => h) (fun c hc hr => List.mem_filter.2 ⟨hc, hr⟩)
  refine ⟨O', cs.length, rfl, fun xs ys hx hy => ?_, ⟨K', O', F ++ cs, fun _ h => h, hm.lo, hm, hA.nd, hall⟩, fun i hi => (hg i hi).imp (hO i) id, hc.mono (fun i _ hi => hO i hi)⟩
  have e1 : xs.length = F.length := Nat.le_antisymm (nodup_lengthG _ _ (hx.1.nodup ltF_ord) (fun f hf => (hF f).2 ((hx.2 f).1 hf))) (nodup_lengthG _ _ hnd (fun f hf => (hx.2 f).2 ((hF f).1 hf)))
  have e2 : ys.length = (F ++ cs).length := Nat.le_antisymm (nodup_lengthG _ _ (hy.1.nodup ltF_ord) (fun f hf => (hall f).2 ((hy.2 f).1 hf))) (nodup_lengthG _ _ hA.nd (fun f hf => (hy.2 f).2 ((hall f).1 hf)))
  rw [e1, e2, List.length_append]
  omega

theorem filter_take_yes {ls ms : List CredB} {k : Nat} (hk : k < ms.length) (hc : isCred ms[k] = true) : (ls ++ ms.take (k + 1)).filter isCred = (ls ++ ms.take k).filter isCred ++ [ms[k]] := by
  rw [List.take_succ_eq_append_getElem hk, ← List.append_assoc, List.filter_append]
  simp [hc]
theorem filter_take_no {ls ms : List CredB} {k : Nat} (hk : k < ms.length) (hc : isCred ms[k] = false) : (ls ++ ms.take (k + 1)).filter isCred = (ls ++ ms.take k).filter isCred := by
  rw [List.take_succ_eq_append_getElem hk, ← List.append_assoc, List.filter_append]
  simp [hc]
theorem filter_take_len {ls ms : List CredB} {k : Nat} (h : (ls ++ ms).length ≤ 1000) : ((ls ++ ms.take k).filter isCred).length ≤ 1000 := by
  refine Nat.le_trans (List.length_filter_le _ _) ?_
  rw [List.length_append] at h ⊢
  have : (ms.take k).length ≤ ms.length := by rw [List.length_take]; exact Nat.min_le_right _ _
  omega
end Go.Proofs.YtanompfdjfgfbaaGreat

/- The contracts of the program's Right, Text, Put, Get of layer 4. -/
namespace Go.Proofs.YtanompfdjfgfbaaGreat
open Go.RowKit

theorem role_len {r : RoleB} (h : isRole r = true) : r.1.length ≤ 16 ∧ r.2.length ≤ 16 := by
  simp only [isRole, Bool.and_eq_true] at h
  exact ⟨(isName_len h.1).2, (isName_len h.2).2⟩

theorem pright (r : RoleB) (w : World) (h1 : r.1.length ≤ 9223372036854775807) (h2 : r.2.length ≤ 9223372036854775807) :
    Calls Tryz.prog 52 #[roleV r] w fun e w' => e = .returned (.bool (isRole r)) ∧ Chg (fun _ => False) w w' := by
  obtain ⟨o, x⟩ := r
  have hc : Chg (fun _ => False) w (w.alloc (.cells #[.string ⟨o.toArray⟩, .string ⟨x.toArray⟩] 24)) := (Chg.refl _ w).alloc _
  have HC := hid hc
  clear hc
  show Calls Tryz.prog 52 #[.agg #[.string ⟨o.toArray⟩, .string ⟨x.toArray⟩]] w _
  cases ho : isName o with
  | false =>
    have hh : Hid (isRole (o, x) = false) := hid (by simp [isRole, ho])
    go_enter Tryz.func52, Tryz.ntmps52
    go_wp2_with fail
    refine (right_any o _ h1).mono ?_
    rintro e w' ⟨rfl, rfl⟩
    rw [ho]
    go_wp2
    go_ret
    exact ⟨by rw [hh.out]; rfl, HC.out⟩
  | true =>
    have hh : Hid (isRole (o, x) = isName x) := hid (by simp [isRole, ho])
    go_enter Tryz.func52, Tryz.ntmps52
    go_wp2_with fail
    refine (right_any o _ h1).mono ?_
    rintro e w' ⟨rfl, rfl⟩
    rw [ho]
    go_wp2_with fail
    refine (right_any x _ h2).mono ?_
    rintro e w' ⟨rfl, rfl⟩
    go_wp2
    go_ret
    exact ⟨by rw [hh.out]; rfl, HC.out⟩

end Go.Proofs.YtanompfdjfgfbaaGreat

/-
  DERIVED: THE SHELF's CONTRACTS AT THIS DUMP, IN PLAIN WORDS (tools/lay-plain.mjs out of 'TryzShelfStr.lean', which tools/lay-shelf.mjs wrote): THE SAME DECLARATIONS UNDER THE SAME NAMES: 'import', 'namespace', 'open', 'def', 'theorem' AND NOTHING ELSE: no command of the shelf's: FOR A HAND-IN. Each laying: the table of numbers ('.._ren') and one theorem, a field a fact of the dump's own or the kernel's comparison; each contract: ONE APPLICATION.
-/
namespace Go.Proofs
open Go.Shelf
def Tryz.lays213_ren : Go.Shelf.Ren := ⟨fun | 213 => 74 | 265 => 92 | n => n, fun | 9 => 9 | 3 => 3 | n => n, fun | n => n⟩
theorem Tryz.lays213 : Go.Proofs.Lays.n213 Tryz.prog Tryz.lays213_ren := {
  mixed := by kernel_rfl
  f213 := Tryz.func74.trans (congrArg some (by kernel_rfl))
  f265 := Tryz.func92.trans (congrArg some (by kernel_rfl))
  t3 := Tryz.underlying3
  a3 := Tryz.isAgg3
  z3 := Tryz.sizeOf3
  v3 := Tryz.zeroValue3
  t9 := Tryz.underlying9
  a9 := Tryz.isAgg9
  z9 := Tryz.sizeOf9
  v9 := Tryz.zeroValue9 }
open Go.RowKit in
/-- internal/bytealg.CompareString (what strings.Compare calls): IT RETURNS 'Lib.compareBytes a b'; the world is as it was. (LAID: no walk: one application.) -/
theorem Tryz.bytealg_CompareString (a b : ByteArray) (w : World) :
    Calls Tryz.prog 74 #[.string a, .string b] w fun e w' => e = .returned (.int .i64 (Lib.compareBytes a.data.toList b.data.toList)) ∧ w' = w := Any.bytealg_CompareString Tryz.lays213 a b w
def Tryz.lays106_ren : Go.Shelf.Ren := ⟨fun | 106 => 48 | 213 => 74 | 265 => 92 | n => n, fun | 9 => 9 | 3 => 3 | n => n, fun | n => n⟩
theorem Tryz.lays106 : Go.Proofs.Lays.n106 Tryz.prog Tryz.lays106_ren := {
  mixed := by kernel_rfl
  f106 := Tryz.func48.trans (congrArg some (by kernel_rfl))
  f213 := Tryz.func74.trans (congrArg some (by kernel_rfl))
  f265 := Tryz.func92.trans (congrArg some (by kernel_rfl))
  t3 := Tryz.underlying3
  a3 := Tryz.isAgg3
  z3 := Tryz.sizeOf3
  v3 := Tryz.zeroValue3
  t9 := Tryz.underlying9
  a9 := Tryz.isAgg9
  z9 := Tryz.sizeOf9
  v9 := Tryz.zeroValue9 }
open Go.RowKit in
/-- strings.Compare: "Compare returns an integer comparing two strings lexicographically. The result will be 0 if a == b, -1 if a < b, and +1 if a > b.": IT RETURNS 'Lib.compareBytes a b'; the world is as it was. (LAID: no walk: one application.) -/
theorem Tryz.strings_Compare (a b : ByteArray) (w : World) :
    Calls Tryz.prog 48 #[.string a, .string b] w fun e w' => e = .returned (.int .i64 (Lib.compareBytes a.data.toList b.data.toList)) ∧ w' = w := Any.strings_Compare Tryz.lays106 a b w
end Go.Proofs

/- The order of two roles, as a program tells it by strings.Compare. -/
namespace Go.Proofs.YtanompfdjfgfbaaGreat
open Go.RowKit

theorem cmpB_eq : ∀ (a b : List UInt8), Lib.compareBytes a b = if ltS a b then -1 else if ltS b a then 1 else 0
  | [], [] => rfl
  | [], _ :: _ => rfl
  | _ :: _, [] => by simp [Lib.compareBytes, ltS_nil, ltS_nil_cons]
  | x :: a, y :: b => by
    rw [Lib.compareBytes, ltS_cons, ltS_cons, cmpB_eq a b]
    by_cases h1 : x < y
    · simp [h1]
    · by_cases h2 : y < x
      · have hne : x ≠ y := fun e => by subst e; exact h1 h2
        simp [h1, h2, hne]
      · have e : x = y := by
          have h1' : ¬ x.toNat < y.toNat := h1
          have h2' : ¬ y.toNat < x.toNat := h2
          exact UInt8.toNat_inj.1 (by omega)
        subst e
        simp [h1]

theorem cmpB_zero (a b : List UInt8) : Lib.compareBytes a b = 0 ↔ a = b := by
  rw [cmpB_eq]
  constructor
  · intro h
    rcases ltS_tri a b with k | k | k
    · rw [if_pos k] at h; cases h
    · exact k
    · by_cases hb : ltS a b = true
      · rw [if_pos hb] at h; cases h
      · rw [if_neg hb, if_pos k] at h; cases h
  · rintro rfl
    rw [ltS_irrefl]
    rfl

theorem cmpR_eq (a b : RoleB) : cmpR a b = if Lib.compareBytes a.1 b.1 = 0 then Lib.compareBytes a.2 b.2 else Lib.compareBytes a.1 b.1 := by
  obtain ⟨o, x⟩ := a
  obtain ⟨p, y⟩ := b
  rw [cmpR, ltR_def, ltR_def]
  dsimp only
  by_cases h : o = p
  · subst h
    rw [if_pos ((cmpB_zero o o).2 rfl), cmpB_eq x y, ltS_irrefl]
    simp
  · have h2 : p ≠ o := fun e => h e.symm
    rw [if_neg (fun e => h ((cmpB_zero o p).1 e)), cmpB_eq o p]
    simp [h, h2]

theorem cmpB_wrap (a b : List UInt8) : -1 ≤ Lib.compareBytes a b ∧ Lib.compareBytes a b ≤ 1 := by
  rw [cmpB_eq]
  by_cases h : ltS a b = true
  · rw [if_pos h]; decide
  · rw [if_neg h]
    by_cases h2 : ltS b a = true
    · rw [if_pos h2]; decide
    · rw [if_neg h2]; decide
end Go.Proofs.YtanompfdjfgfbaaGreat

/- cmp.Or at two ints: the first that isn't zero, else zero. -/
namespace Go.Proofs.YtanompfdjfgfbaaGreat
open Go.RowKit

/-- A slice of two ints. -/
def Spec.two (x y : Int) : Spec :=
  ⟨fun v w => ∃ g ty f, v = .slice (some ⟨g, 0, none⟩) 2 2 ∧ w.heap[g]? = some (.cells #[.int .i64 x, .int .i64 y] ty f), fun _ _ _ hc ⟨g, ty, f, h1, h2⟩ => ⟨g, ty, f, h1, blk_keep h2 hc id⟩⟩

set_option maxRecDepth 100000 in
theorem por_two (g : Nat) (f : Nat × Nat) (ty : Nat) (x y : Int) (w : World) (h : w.heap[g]? = some (.cells #[.int .i64 x, .int .i64 y] ty f)) :
    Calls Tryz.prog 47 #[.slice (some ⟨g, 0, none⟩) 2 2] w fun e w' => e = .returned (.int .i64 (if x = 0 then y else x)) ∧ w' = w := by
  have c0 := cell_blk h 0
  have c1 := cell_blk h 1
  simp only [List.getElem?_toArray, List.getElem?_cons_zero, List.getElem?_cons_succ] at c0 c1
  clear h
  by_cases hx : x = 0
  · subst hx
    rw [if_pos rfl]
    by_cases hy : y = 0
    · subst hy
      go_enter Tryz.func47, Tryz.ntmps47
      go_wp2
      refine wp_loop_rounds 3 ?_
      rw [rounds_succ]
      go_wp2
      rw [rounds_succ]
      go_wp2
      rw [rounds_succ]
      go_wp2
      go_ret
      exact ⟨rfl, rfl⟩
    · have z : (y == 0) = false := beq_eq_false_iff_ne.2 hy
      clear hy
      go_enter Tryz.func47, Tryz.ntmps47
      go_wp2
      refine wp_loop_rounds 2 ?_
      rw [rounds_succ]
      go_wp2
      rw [rounds_succ]
      go_wp2
      go_ret
      exact ⟨rfl, rfl⟩
  · rw [if_neg hx]
    have z : (x == 0) = false := beq_eq_false_iff_ne.2 hx
    clear hx
    go_enter Tryz.func47, Tryz.ntmps47
    go_wp2
    refine wp_loop_rounds 1 ?_
    rw [rounds_succ]
    go_wp2
    go_ret
    exact ⟨rfl, rfl⟩
end Go.Proofs.YtanompfdjfgfbaaGreat

/- Worlds that have grown by draws and new blocks alone; a region that draws its order and grows so. -/
namespace Go.Proofs.YtanompfdjfgfbaaGreat
open Go.RowKit Go.Sort

/-- Draws, and blocks behind the heap: nothing else. -/
def Gr (w w' : World) : Prop := ∃ (q : Nat) (os : Array Obj), w' = grow (w.drewN q) os

theorem Gr.refl (w : World) : Gr w w := ⟨0, #[], by rw [grow_empty]; rfl⟩

theorem Gr.trans {a b c : World} (h : Gr a b) (k : Gr b c) : Gr a c := by
  obtain ⟨n, os, rfl⟩ := h
  obtain ⟨q, os', rfl⟩ := k
  exact ⟨n + q, os ++ os', by show grow (grow ((a.drewN n).drewN q) os) os' = _; rw [grow_grow, World.drewN_drewN]⟩

theorem Gr.alloc {a b : World} (h : Gr a b) (o : Obj) : Gr a (b.alloc o) :=
  h.trans ⟨0, #[o], by rw [alloc_eq_grow]; rfl⟩

theorem Gr.drew {a b : World} (h : Gr a b) : Gr a b.drew := h.trans ⟨1, #[], by rw [grow_empty]; rfl⟩

theorem Gr.chg {a b : World} (h : Gr a b) (S : Nat → Prop) : Chg S a b := by
  obtain ⟨n, os, rfl⟩ := h
  refine ⟨rfl, rfl, rfl, ?_, fun k hk _ => ?_⟩
  · rw [size_grow]; exact Nat.le_add_right _ _
  · exact heap_grow_old _ _ hk

/-- wp_region_specs, for a region whose calls and operations only grow the world. -/
theorem wp_region_grown {P : Program} {Q : Exit → Act → World → Prop} {w0 : World} {a0 : Act} {id : Nat} {l : List Oper} (specs : List Spec) (ds outs : List Tmp) (hm : P.follows .mixedOrders = true) (hok : regOk l.toArray ds = true)
    (hsize : (ds.all fun t => decide (t < a0.tmps.size)) = true) (houts : ((outsOf l.toArray ds).all fun t => outs.contains t) = true)
    (hstart : ∀ t ∈ outs, Knows (specAt specs) a0 w0 t)
    (hobs : Obs P Q Gr (specAt specs) w0 l.toArray l)
    (hfin : ∀ (vals : Tmp → Value) (w : World), Gr w0 w → (∀ t ∈ ds, specAt specs t (vals t) w) → Q .normal ⟨putAll vals ds a0.tmps, a0.defers⟩ w) :
    (Code.region id l.toArray true).wp P Q a0 w0 :=
  wp_region_known (R := Gr) (G := specAt specs) (ds := ds) hm hok (fun _ _ _ h k => h.trans k) (Gr.refl _).drew (fun t v w w' hc h => specAt_st specs t v w w' (hc.chg _) h) hsize _ rfl
    (fun w hc t ht => by
      have h1 := List.all_eq_true.1 houts t ht
      obtain ⟨v, hv, hg⟩ := hstart t (by simpa using h1)
      exact ⟨v, hv, specAt_st specs t v w0 w (hc.chg _) hg⟩)
    hobs hfin
end Go.Proofs.YtanompfdjfgfbaaGreat
