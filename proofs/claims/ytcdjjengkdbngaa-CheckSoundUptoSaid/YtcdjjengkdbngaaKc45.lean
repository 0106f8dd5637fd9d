/- The contract of enter at what leans. -/
import Derived.Test.YtcdjjengkdbngaaKc43
import Derived.Test.YtcdjjengkdbngaaKc21
namespace Go.Proofs.Ytcdjjengkdbngaa
open Go.RowKit Go.Maps

theorem role_at_blk2 {w : World} {b : Nat} {r : RoleB} {ty : TypeId} {f : Nat × Nat} (h : w.heap[b]? = some (.cells #[.string ⟨r.1.toArray⟩, .string ⟨r.2.toArray⟩] ty f)) : w.cell? ⟨b, 0, none⟩ = some (.string ⟨r.1.toArray⟩) ∧ w.cell? ⟨b, 1, none⟩ = some (.string ⟨r.2.toArray⟩) := ⟨cell_blk h 0, cell_blk h 1⟩

def entcSpecs (A m : Nat) (r : RoleB) (c : CredB) (y : Option Nat) (b : Bool) : List Spec := [.eq (.map (some m)), .any, .any, .any, .eq (.pointer (some ⟨A, 0, none⟩)), .eq (.pointer (some ⟨A + 1, 0, none⟩)), .any, .ptrE, .eq (.bool b), .eq (.tuple #[.agg #[], .bool b]), .eq (.map (some m)), .eq (.agg #[.string ⟨r.1.toArray⟩, .string ⟨r.2.toArray⟩]), .eq (.map y), .eq (.agg #[.int .i64 c.kind, .string ⟨c.head.1.toArray⟩, .string ⟨c.head.2.toArray⟩, .string ⟨c.who.toArray⟩, .string ⟨c.b.1.toArray⟩, .string ⟨c.b.2.toArray⟩, .string ⟨c.c.1.toArray⟩, .string ⟨c.c.2.toArray⟩, .string ⟨c.w2.toArray⟩]), .eq (.tuple #[.agg #[], .bool b]), .eq (.agg #[]), .eq (.bool b), .any, .any, .any, .any, .any, .any, .any, .any, .any, .any, .any, .any, .any]

set_option maxRecDepth 100000 in
set_option maxHeartbeats 2000000 in
theorem enter_c {O : Nat → Prop} (m n : Nat) (rel : RoleB → CredB → Prop) (r : RoleB) (c : CredB) (w : World) (h : Sets ktR ktC O w m n rel) (hO : ∀ i, O i → i < w.heap.size) (hr : ktR.ok r) (hs : ktC.ok c) (hn : n < 4611686018427387904) :
    Calls Try.prog 101 #[.map (some m), .agg #[.string ⟨r.1.toArray⟩, .string ⟨r.2.toArray⟩], .agg #[.int .i64 c.kind, .string ⟨c.head.1.toArray⟩, .string ⟨c.head.2.toArray⟩, .string ⟨c.who.toArray⟩, .string ⟨c.b.1.toArray⟩, .string ⟨c.b.2.toArray⟩, .string ⟨c.c.1.toArray⟩, .string ⟨c.c.2.toArray⟩, .string ⟨c.w2.toArray⟩]] w (EntPost ktR ktC O m n rel r c w) := by
  have hc2 : Chg (fun _ => False) w ((w.alloc (.cells #[.string ⟨r.1.toArray⟩, .string ⟨r.2.toArray⟩] 30)).alloc (.cells #[.int .i64 c.kind, .string ⟨c.head.1.toArray⟩, .string ⟨c.head.2.toArray⟩, .string ⟨c.who.toArray⟩, .string ⟨c.b.1.toArray⟩, .string ⟨c.b.2.toArray⟩, .string ⟨c.c.1.toArray⟩, .string ⟨c.c.2.toArray⟩, .string ⟨c.w2.toArray⟩] 32)) := ((Chg.refl _ w).alloc _).alloc _
  have hbR : ((w.alloc (.cells #[.string ⟨r.1.toArray⟩, .string ⟨r.2.toArray⟩] 30)).alloc (.cells #[.int .i64 c.kind, .string ⟨c.head.1.toArray⟩, .string ⟨c.head.2.toArray⟩, .string ⟨c.who.toArray⟩, .string ⟨c.b.1.toArray⟩, .string ⟨c.b.2.toArray⟩, .string ⟨c.c.1.toArray⟩, .string ⟨c.c.2.toArray⟩, .string ⟨c.w2.toArray⟩] 32)).heap[w.heap.size]? = some (.cells #[.string ⟨r.1.toArray⟩, .string ⟨r.2.toArray⟩] 30 (0, 0)) := blk_keep (heap_alloc_new w (.cells #[.string ⟨r.1.toArray⟩, .string ⟨r.2.toArray⟩] 30)) ((Chg.refl (fun _ => False) _).alloc _) id
  have hbC : ((w.alloc (.cells #[.string ⟨r.1.toArray⟩, .string ⟨r.2.toArray⟩] 30)).alloc (.cells #[.int .i64 c.kind, .string ⟨c.head.1.toArray⟩, .string ⟨c.head.2.toArray⟩, .string ⟨c.who.toArray⟩, .string ⟨c.b.1.toArray⟩, .string ⟨c.b.2.toArray⟩, .string ⟨c.c.1.toArray⟩, .string ⟨c.c.2.toArray⟩, .string ⟨c.w2.toArray⟩] 32)).heap[w.heap.size + 1]? = some (.cells (credBox c) 32 (0, 0)) := by
    have := heap_alloc_new (w.alloc (.cells #[.string ⟨r.1.toArray⟩, .string ⟨r.2.toArray⟩] 30)) (.cells #[.int .i64 c.kind, .string ⟨c.head.1.toArray⟩, .string ⟨c.head.2.toArray⟩, .string ⟨c.who.toArray⟩, .string ⟨c.b.1.toArray⟩, .string ⟨c.b.2.toArray⟩, .string ⟨c.c.1.toArray⟩, .string ⟨c.c.2.toArray⟩, .string ⟨c.w2.toArray⟩] 32)
    have e : (w.alloc (.cells #[.string ⟨r.1.toArray⟩, .string ⟨r.2.toArray⟩] 30)).heap.size = w.heap.size + 1 := by simp
    rw [e] at this
    exact this
  have HH := hid (And.intro hc2 (And.intro hbR hbC))
  clear hc2 hbR hbC
  go_enter Try.func101, Try.ntmps101
  go_wp2_with fail
  obtain ⟨hc2, hbR, hbC⟩ := HH.out
  clear HH
  generalize ((w.alloc (.cells #[.string ⟨r.1.toArray⟩, .string ⟨r.2.toArray⟩] 30)).alloc (.cells #[.int .i64 c.kind, .string ⟨c.head.1.toArray⟩, .string ⟨c.head.2.toArray⟩, .string ⟨c.who.toArray⟩, .string ⟨c.b.1.toArray⟩, .string ⟨c.b.2.toArray⟩, .string ⟨c.c.1.toArray⟩, .string ⟨c.c.2.toArray⟩, .string ⟨c.w2.toArray⟩] 32)) = w2 at *
  have hmO := h.top
  have hmw := hO _ hmO
  obtain ⟨A, hAe⟩ : ∃ A, w.heap.size = A := ⟨_, rfl⟩
  simp only [hAe] at hbR hbC ⊢
  have HX := hid (And.intro hbR hbC)
  have HC := hid hc2
  have HA := hid hAe
  have h2 := h.keep hc2 (fun _ _ => id)
  have HO := hid (And.intro hO (And.intro hmO hmw))
  clear hbR hbC hc2 hAe h hO hmO hmw
  rcases h2.here (t := 72) (e := 76) Try.underlying72 mZeroIc hr with ⟨B, xs, h1, hBm, h3, h4, h5, h6⟩ | ⟨h1, h6⟩
  · obtain ⟨y, hy⟩ : ∃ y, some B = y := ⟨_, rfl⟩
    obtain ⟨b, hb⟩ : ∃ b, decide (c ∈ xs) = b := ⟨_, rfl⟩
    have HL : Hid (∀ w', Chg (fun _ => False) w2 w' → (Instr.lookup 72 (.map (some m)) (.agg #[.string ⟨r.1.toArray⟩, .string ⟨r.2.toArray⟩]) false).run Try.prog w' = .ok (.map y) w' ∧ (Instr.lookup 76 (.map y) (.agg #[.int .i64 c.kind, .string ⟨c.head.1.toArray⟩, .string ⟨c.head.2.toArray⟩, .string ⟨c.who.toArray⟩, .string ⟨c.b.1.toArray⟩, .string ⟨c.b.2.toArray⟩, .string ⟨c.c.1.toArray⟩, .string ⟨c.c.2.toArray⟩, .string ⟨c.w2.toArray⟩]) true).run Try.prog w' = .ok (.tuple #[.agg #[], .bool b]) w') := hid (fun w' hc => by
      rw [← hy, ← hb]
      exact ⟨h6 w' hc.none, (h3.keep hc id).look (t := 76) (e := 80) Try.underlying76 (mZeroUn _) hs⟩)
    have HB := hid hb
    have HS := hid (And.intro h2 (And.intro h1 (And.intro hBm (And.intro h3 (And.intro h4 (And.intro h5 h6))))))
    clear h2 h1 hBm h3 h4 h5 h6 hy hb
    refine wp_region_specs (entcSpecs A m r c y b) [10, 11, 12, 13, 14, 9, 15, 16, 7, 8] [0, 4, 5] (by kernel_rfl) (by kernel_rfl) (by rfl) (by kernel_rfl) ?start ?obs ?fin
    case start =>
      simp only [List.forall_mem_cons]; exact ⟨⟨_, rfl, rfl⟩, ⟨_, rfl, rfl⟩, ⟨_, rfl, rfl⟩, fun _ h => by cases h⟩
    case obs =>
      clear HC HB HS HO HA
      refine Obs.cons none (by kernel_rfl) ?_ ?_
      · refine Ob.plain fun a w hR hk K k => ?_
        obtain ⟨_, e0, f0⟩ := hk 0 (by decide)
        clear hk
        go_simp
        exact k _ _ (Chg.refl _ _) f0
      refine Obs.cons none (by kernel_rfl) ?_ ?_
      · refine Ob.plain fun a w hR hk K k => ?_
        obtain ⟨_, e4, rfl⟩ := hk 4 (by decide)
        clear hk
        have zR := role_at_blk2 (blk_keep HX.out.1 hR id)
        have z0 := zR.1
        have z1 := zR.2
        clear zR
        go_simp
        exact k _ _ (Chg.refl _ _) rfl
      refine Obs.cons none (by kernel_rfl) ?_ ?_
      · refine Ob.plain fun a w hR hk K k => ?_
        obtain ⟨_, e10, rfl⟩ := hk 10 (by decide)
        obtain ⟨_, e11, rfl⟩ := hk 11 (by decide)
        clear hk
        have q := (HL.out w hR).1
        go_simp
        exact k _ _ (Chg.refl _ _) rfl
      refine Obs.cons none (by kernel_rfl) ?_ ?_
      · refine Ob.plain fun a w hR hk K k => ?_
        obtain ⟨_, e5, rfl⟩ := hk 5 (by decide)
        clear hk
        obtain ⟨c0, c1, c2, c3, c4, c5, c6, c7, c8⟩ := cred_at_blk (blk_keep HX.out.2 hR id)
        go_simp
        exact k _ _ (Chg.refl _ _) rfl
      refine Obs.cons none (by kernel_rfl) ?_ ?_
      · refine Ob.plain fun a w hR hk K k => ?_
        obtain ⟨_, e12, rfl⟩ := hk 12 (by decide)
        obtain ⟨_, e13, rfl⟩ := hk 13 (by decide)
        clear hk
        have q := (HL.out w hR).2
        go_simp
        exact k _ _ (Chg.refl _ _) rfl
      refine Obs.cons none (by kernel_rfl) ?_ ?_
      · refine Ob.plain fun a w hR hk K k => ?_
        obtain ⟨_, e14, f14⟩ := hk 14 (by decide)
        clear hk
        go_simp
        exact k _ _ (Chg.refl _ _) f14
      refine Obs.cons none (by kernel_rfl) ?_ ?_
      · refine Ob.plain fun a w hR hk K k => ?_
        obtain ⟨_, e9, rfl⟩ := hk 9 (by decide)
        clear hk
        go_simp
        exact k _ _ (Chg.refl _ _) rfl
      refine Obs.cons none (by kernel_rfl) ?_ ?_
      · refine Ob.plain fun a w hR hk K k => ?_
        obtain ⟨_, e9, rfl⟩ := hk 9 (by decide)
        clear hk
        go_simp
        exact k _ _ (Chg.refl _ _) rfl
      refine Obs.cons none (by kernel_rfl) ?_ ?_
      · refine Ob.plain fun a w hR hk K k => ?_
        clear hk
        go_simp
        exact k _ _ ((Chg.refl _ _).alloc _) ⟨_, rfl⟩
      refine Obs.cons none (by kernel_rfl) ?_ ?_
      · refine Ob.plain fun a w hR hk K k => ?_
        obtain ⟨_, e7, f7⟩ := hk 7 (by decide)
        obtain ⟨_, e15, rfl⟩ := hk 15 (by decide)
        clear hk
        obtain ⟨bb, rfl⟩ := f7
        go_simp
        exact k undef _ (Chg.refl _ _) trivial
      refine Obs.cons none (by kernel_rfl) ?_ ?_
      · refine Ob.plain fun a w hR hk K k => ?_
        obtain ⟨_, e16, f16⟩ := hk 16 (by decide)
        clear hk
        go_simp
        exact k _ _ (Chg.refl _ _) f16
      exact Obs.nil
    case fin =>
      intro vals w9 hc9 hv
      have h8 : vals 8 = .bool b := hv 8 (by decide)
      simp only [putAll, List.setIfInBounds_toArray, List.set_cons_zero, List.set_cons_succ, h8]
      clear h8 hv
      rw [← HB.out]
      obtain ⟨h2, h1, hBm, h3, h4, h5, h6⟩ := HS.out
      have hc29 := HC.out.trans hc9 (fun _ _ h => h)
      have HX9 := hid (And.intro (blk_keep HX.out.1 hc9 id) (blk_keep HX.out.2 hc9 id))
      by_cases hx : c ∈ xs
      · have HE := hid (And.intro ((h5 c).1 hx) hc29)
        simp only [hx, decide_true]
        clear HX9 HX HL HB HS HC hc9 h2 h1 hBm h3 h4 h5 h6 hx hc29
        go_wp2
        go_ret
        exact .inl ⟨HE.out.1, rfl, HE.out.2⟩
      · simp only [hx, decide_false]
        have z3 := h6 w9 hc9.none
        have q1 : ∀ w : World, (binOp .eql 76 (.map (some B)) (.map none)).run Try.prog w = .ok (.bool false) w := fun w => run_eql_map_nil w _ _ _ _ Try.underlying76
        have zR := role_at_blk2 HX9.out.1
        have z0 := zR.1
        have z1 := zR.2
        have HL2 : Hid (∀ w', Chg (fun _ => False) w9 w' → (Instr.lookup 72 (.map (some m)) (.agg #[.string ⟨r.1.toArray⟩, .string ⟨r.2.toArray⟩]) false).run Try.prog w' = .ok (.map (some B)) w') := hid (fun w' hc => h6 w' (hc9.trans hc (fun _ _ h => h)).none)
        have HADD : Hid (∀ w', Chg (fun _ => False) w9 w' → ∃ w7, (Instr.mapUpdate 76 (.map (some B)) (.agg #[.int .i64 c.kind, .string ⟨c.head.1.toArray⟩, .string ⟨c.head.2.toArray⟩, .string ⟨c.who.toArray⟩, .string ⟨c.b.1.toArray⟩, .string ⟨c.b.2.toArray⟩, .string ⟨c.c.1.toArray⟩, .string ⟨c.c.2.toArray⟩, .string ⟨c.w2.toArray⟩]) (.agg #[])).run Try.prog w' = .ok () w7 ∧ SMap ktC w7 B (xs ++ [c]) ∧ Chg (· = B) w' w7) := hid (fun w' hc => (h3.keep (hc9.trans hc (fun _ _ h => h)) id).add (t := 76) (e := 80) Try.underlying76 (by omega) hs hx)
        have HE := hid (And.intro hc29 (And.intro hx (And.intro h1 (And.intro (h2.keep hc9 (fun _ _ => id)) (And.intro h5 (And.intro h4 (fun w' (hc : Chg (fun i => i ≠ m) w9 w') => h6 w' (hc9.none.trans hc (fun _ _ h => h))))))))) 
        clear HX HL HB HS HC hc9 h2 h1 hBm h3 h4 h5 h6 hx hc29 zR
        simp only [ktR] at z3
        go_wp2_with fail
        have HX := HX9
        clear HX9 z3 q1 z0 z1
        refine wp_region_state (Chg (· = B)) (LastW 5 5 w9 (fun w' => ∃ w8, Chg (fun _ => False) w9 w8 ∧ SMap ktC w' B (xs ++ [c]) ∧ Chg (· = B) w8 w')) (specAtR [.eq (.map (some m)), .any, .any, .any, .eq (.pointer (some ⟨A, 0, none⟩)), .eq (.pointer (some ⟨A + 1, 0, none⟩)), .any, .any, .any, .any, .any, .any, .any, .any, .any, .any, .any, .any, .any, .any, .any, .any, .any, .any, .any, .eq (.map (some m)), .eq (.agg #[.string ⟨r.1.toArray⟩, .string ⟨r.2.toArray⟩]), .eq (.map (some B)), .eq (.agg #[.int .i64 c.kind, .string ⟨c.head.1.toArray⟩, .string ⟨c.head.2.toArray⟩, .string ⟨c.who.toArray⟩, .string ⟨c.b.1.toArray⟩, .string ⟨c.b.2.toArray⟩, .string ⟨c.c.1.toArray⟩, .string ⟨c.c.2.toArray⟩, .string ⟨c.w2.toArray⟩]), .eq (.agg #[])]) [25, 26, 27, 28, 29] [0, 4, 5] (by kernel_rfl) (by kernel_rfl) (LastW.start _ _ _ _ (Chg.refl _ _).drew) (fun t v w w' hc h => specAtR_st _ t v w w' hc h) (by rfl) (by kernel_rfl) ?start3 ?obs3 ?fin3
        case start3 =>
          simp only [List.forall_mem_cons]; exact ⟨⟨_, rfl, rfl⟩, ⟨_, rfl, rfl⟩, ⟨_, rfl, rfl⟩, fun _ h => by cases h⟩
        case obs3 =>
          clear HE HO HA
          refine ObsL.cons none (by kernel_rfl) ?_ ?_
          · refine ObL.plain fun L a w hi he hW hk K k => ?_
            obtain ⟨_, e0, rfl⟩ := hk 0 (by decide)
            clear hk
            have hR := hW.early (by decide) hi
            have hS := hW.step (by decide) hi (Chg.refl _ _)
            clear hi he hW
            go_simp
            exact k _ _ (Chg.refl _ _) hS rfl
          refine ObsL.cons none (by kernel_rfl) ?_ ?_
          · refine ObL.plain fun L a w hi he hW hk K k => ?_
            obtain ⟨_, e4, rfl⟩ := hk 4 (by decide)
            clear hk
            have hR := hW.early (by decide) hi
            have hS := hW.step (by decide) hi (Chg.refl _ _)
            have zR := role_at_blk2 (blk_keep HX.out.1 hR id)
            have z0 := zR.1
            have z1 := zR.2
            clear zR
            clear hi he hW
            go_simp
            exact k _ _ (Chg.refl _ _) hS rfl
          refine ObsL.cons none (by kernel_rfl) ?_ ?_
          · refine ObL.plain fun L a w hi he hW hk K k => ?_
            obtain ⟨_, e25, rfl⟩ := hk 25 (by decide)
            obtain ⟨_, e26, rfl⟩ := hk 26 (by decide)
            clear hk
            have hR := hW.early (by decide) hi
            have hS := hW.step (by decide) hi (Chg.refl _ _)
            have q := HL2.out w hR
            clear hi he hW
            go_simp
            exact k _ _ (Chg.refl _ _) hS rfl
          refine ObsL.cons none (by kernel_rfl) ?_ ?_
          · refine ObL.plain fun L a w hi he hW hk K k => ?_
            obtain ⟨_, e5, rfl⟩ := hk 5 (by decide)
            clear hk
            have hR := hW.early (by decide) hi
            have hS := hW.step (by decide) hi (Chg.refl _ _)
            obtain ⟨c0, c1, c2, c3, c4, c5, c6, c7, c8⟩ := cred_at_blk (blk_keep HX.out.2 hR id)
            clear hi he hW
            go_simp
            exact k _ _ (Chg.refl _ _) hS rfl
          refine ObsL.cons none (by kernel_rfl) ?_ ?_
          · refine ObL.plain fun L a w hi he hW hk K k => ?_
            clear hk
            have hR := hW.early (by decide) hi
            have hS := hW.step (by decide) hi (Chg.refl _ _)
            clear hi he hW
            go_simp
            exact k _ _ (Chg.refl _ _) hS rfl
          refine ObsL.cons none (by kernel_rfl) ?_ ?_
          · refine ObL.plain fun L a w hi he hW hk K k => ?_
            obtain ⟨_, e27, rfl⟩ := hk 27 (by decide)
            obtain ⟨_, e28, rfl⟩ := hk 28 (by decide)
            obtain ⟨_, e29, rfl⟩ := hk 29 (by decide)
            clear hk
            have hR := hW.pre hi
            have hall : ∀ j, j < 5 → L j = true := fun j hj => by
              rcases (show j = 0 ∨ j = 1 ∨ j = 2 ∨ j = 3 ∨ j = 4 by omega) with rfl | rfl | rfl | rfl | rfl
              · exact he ⟨0, Ground.phase⟩ (by simp) (by decide)
              · exact he ⟨1, Ground.phase⟩ (by simp) (by decide)
              · exact he ⟨2, Ground.phase⟩ (by simp) (by decide)
              · exact he ⟨3, Ground.phase⟩ (by simp) (by decide)
              · exact he ⟨4, Ground.phase⟩ (by simp) (by decide)
            obtain ⟨w7, hrun, hs7, hc7⟩ := HADD.out w hR
            have HS := hid (hW.last (w' := w7) hall ⟨w, hR, hs7, hc7⟩)
            clear hi he hW hR hall
            go_simp
            exact k undef _ hc7 HS.out trivial
          exact ObsL.nil
        case fin3 =>
          intro L vals w10 hL hWL hv
          have HEND := hid (hWL.post (hL 5 (by decide)))
          clear hL hWL
          simp only [putAll, List.setIfInBounds_toArray, List.set_cons_zero, List.set_cons_succ]
          clear hv HX HL2 HADD
          go_wp2
          go_ret
          obtain ⟨w8, hR, hs7, hc7⟩ := HEND.out
          obtain ⟨hc29, hx, hBO, h2, h5, h4, h6⟩ := HE.out
          have s1 := hR.size
          have s2 := hc7.size
          have s3 := hc29.size
          have hw8 := hc29.trans hR (fun _ _ h => h)
          refine .inr ⟨fun e => hx ((h5 c).2 e), rfl, _, (h2.keep hR (fun _ _ => id)).grow (t := 72) (e := 76) Try.underlying72 mZeroIc hr (b := B) (fun w2 hc => h6 w2 (hR.none.trans hc (fun _ _ h => h))) hc7 hs7 (fun z => by simp [h5 z]) (by simp; omega), Grew.refl _ _, hw8.none.trans hc7 (fun i _ hi => by subst hi; exact hBO), fun i hi => ?_⟩
          have := HO.out.1 i hi
          have := hc29.size
          omega
  · obtain ⟨y, hy⟩ : ∃ y : Option Nat, none = y := ⟨_, rfl⟩
    obtain ⟨b, hb⟩ : ∃ b, false = b := ⟨_, rfl⟩
    have HL : Hid (∀ w', Chg (fun _ => False) w2 w' → (Instr.lookup 72 (.map (some m)) (.agg #[.string ⟨r.1.toArray⟩, .string ⟨r.2.toArray⟩]) false).run Try.prog w' = .ok (.map y) w' ∧ (Instr.lookup 76 (.map y) (.agg #[.int .i64 c.kind, .string ⟨c.head.1.toArray⟩, .string ⟨c.head.2.toArray⟩, .string ⟨c.who.toArray⟩, .string ⟨c.b.1.toArray⟩, .string ⟨c.b.2.toArray⟩, .string ⟨c.c.1.toArray⟩, .string ⟨c.c.2.toArray⟩, .string ⟨c.w2.toArray⟩]) true).run Try.prog w' = .ok (.tuple #[.agg #[], .bool b]) w') := hid (fun w' hc => by
      rw [← hy, ← hb]
      refine ⟨h6 w' hc.none, ?_⟩
      have := Maps.look_nil (w := w') true ktC.keyed (t := 76) (e := 80) Try.underlying76 (mZeroUn _) (ktC.reads c hs)
      exact this)
    have HB := hid hb
    have HS := hid (And.intro h2 (And.intro h1 h6))
    clear h2 h1 h6 hy hb
    refine wp_region_specs (entcSpecs A m r c y b) [10, 11, 12, 13, 14, 9, 15, 16, 7, 8] [0, 4, 5] (by kernel_rfl) (by kernel_rfl) (by rfl) (by kernel_rfl) ?start2 ?obs2 ?fin2
    case start2 =>
      simp only [List.forall_mem_cons]; exact ⟨⟨_, rfl, rfl⟩, ⟨_, rfl, rfl⟩, ⟨_, rfl, rfl⟩, fun _ h => by cases h⟩
    case obs2 =>
      clear HC HB HS HO HA
      refine Obs.cons none (by kernel_rfl) ?_ ?_
      · refine Ob.plain fun a w hR hk K k => ?_
        obtain ⟨_, e0, f0⟩ := hk 0 (by decide)
        clear hk
        go_simp
        exact k _ _ (Chg.refl _ _) f0
      refine Obs.cons none (by kernel_rfl) ?_ ?_
      · refine Ob.plain fun a w hR hk K k => ?_
        obtain ⟨_, e4, rfl⟩ := hk 4 (by decide)
        clear hk
        have zR := role_at_blk2 (blk_keep HX.out.1 hR id)
        have z0 := zR.1
        have z1 := zR.2
        clear zR
        go_simp
        exact k _ _ (Chg.refl _ _) rfl
      refine Obs.cons none (by kernel_rfl) ?_ ?_
      · refine Ob.plain fun a w hR hk K k => ?_
        obtain ⟨_, e10, rfl⟩ := hk 10 (by decide)
        obtain ⟨_, e11, rfl⟩ := hk 11 (by decide)
        clear hk
        have q := (HL.out w hR).1
        go_simp
        exact k _ _ (Chg.refl _ _) rfl
      refine Obs.cons none (by kernel_rfl) ?_ ?_
      · refine Ob.plain fun a w hR hk K k => ?_
        obtain ⟨_, e5, rfl⟩ := hk 5 (by decide)
        clear hk
        obtain ⟨c0, c1, c2, c3, c4, c5, c6, c7, c8⟩ := cred_at_blk (blk_keep HX.out.2 hR id)
        go_simp
        exact k _ _ (Chg.refl _ _) rfl
      refine Obs.cons none (by kernel_rfl) ?_ ?_
      · refine Ob.plain fun a w hR hk K k => ?_
        obtain ⟨_, e12, rfl⟩ := hk 12 (by decide)
        obtain ⟨_, e13, rfl⟩ := hk 13 (by decide)
        clear hk
        have q := (HL.out w hR).2
        go_simp
        exact k _ _ (Chg.refl _ _) rfl
      refine Obs.cons none (by kernel_rfl) ?_ ?_
      · refine Ob.plain fun a w hR hk K k => ?_
        obtain ⟨_, e14, f14⟩ := hk 14 (by decide)
        clear hk
        go_simp
        exact k _ _ (Chg.refl _ _) f14
      refine Obs.cons none (by kernel_rfl) ?_ ?_
      · refine Ob.plain fun a w hR hk K k => ?_
        obtain ⟨_, e9, rfl⟩ := hk 9 (by decide)
        clear hk
        go_simp
        exact k _ _ (Chg.refl _ _) rfl
      refine Obs.cons none (by kernel_rfl) ?_ ?_
      · refine Ob.plain fun a w hR hk K k => ?_
        obtain ⟨_, e9, rfl⟩ := hk 9 (by decide)
        clear hk
        go_simp
        exact k _ _ (Chg.refl _ _) rfl
      refine Obs.cons none (by kernel_rfl) ?_ ?_
      · refine Ob.plain fun a w hR hk K k => ?_
        clear hk
        go_simp
        exact k _ _ ((Chg.refl _ _).alloc _) ⟨_, rfl⟩
      refine Obs.cons none (by kernel_rfl) ?_ ?_
      · refine Ob.plain fun a w hR hk K k => ?_
        obtain ⟨_, e7, f7⟩ := hk 7 (by decide)
        obtain ⟨_, e15, rfl⟩ := hk 15 (by decide)
        clear hk
        obtain ⟨bb, rfl⟩ := f7
        go_simp
        exact k undef _ (Chg.refl _ _) trivial
      refine Obs.cons none (by kernel_rfl) ?_ ?_
      · refine Ob.plain fun a w hR hk K k => ?_
        obtain ⟨_, e16, f16⟩ := hk 16 (by decide)
        clear hk
        go_simp
        exact k _ _ (Chg.refl _ _) f16
      exact Obs.nil
    case fin2 =>
      intro vals w9 hc9 hv
      have h8 : vals 8 = .bool b := hv 8 (by decide)
      simp only [putAll, List.setIfInBounds_toArray, List.set_cons_zero, List.set_cons_succ, h8]
      clear h8 hv
      rw [← HB.out]
      obtain ⟨h2, h1, h6⟩ := HS.out
      have hc29 := HC.out.trans hc9 (fun _ _ h => h)
      have HX9 := hid (And.intro (blk_keep HX.out.1 hc9 id) (blk_keep HX.out.2 hc9 id))
      have z3 := h6 w9 hc9.none
      have q1 : ∀ w : World, (binOp .eql 76 (.map none) (.map none)).run Try.prog w = .ok (.bool true) w := fun w => run_eql_map_nil w _ _ _ _ Try.underlying76
      have zR := role_at_blk2 HX9.out.1
      have z0 := zR.1
      have z1 := zR.2
      have hmm := @run_makeMap Try.prog
      have hn9 := (h2.keep hc9 (fun _ _ => id))
      have hO9 : ∀ i, O i → i < w9.heap.size := fun i hi => Nat.lt_of_lt_of_le (HO.out.1 i hi) hc29.size
      have hm3 : Chg (fun _ => False) w9 (w9.alloc (.map #[] 0)) := (Chg.refl _ _).alloc _
      obtain ⟨w4, z4, k1, k2, k3⟩ := hn9.new (ki := ktC) (t := 72) (e := 76) Try.underlying72 mZeroIc hr (by omega) (h6 w9 hc9.none) hO9 hm3 (b := w9.heap.size) (Nat.le_refl _)
      have hm9 := hO9 m HO.out.2.1
      have hsm4 := (smap_made ktC w9).keep k1 (by omega)
      have hAm : A ≠ m := by have := HO.out.2.2; have := HA.out; omega
      have HX4 := hid (And.intro (blk_keep (blk_keep HX9.out.1 hm3 id) k1 hAm) (blk_keep (blk_keep HX9.out.2 hm3 id) k1 (by have := HO.out.2.2; have := HA.out; omega)))
      have HL2 : Hid (∀ w', Chg (fun _ => False) w4 w' → (Instr.lookup 72 (.map (some m)) (.agg #[.string ⟨r.1.toArray⟩, .string ⟨r.2.toArray⟩]) false).run Try.prog w' = .ok (.map (some w9.heap.size)) w') := hid (fun w' hc => k2 w' hc.none)
      have HADD : Hid (∀ w', Chg (fun _ => False) w4 w' → ∃ w7, (Instr.mapUpdate 76 (.map (some w9.heap.size)) (.agg #[.int .i64 c.kind, .string ⟨c.head.1.toArray⟩, .string ⟨c.head.2.toArray⟩, .string ⟨c.who.toArray⟩, .string ⟨c.b.1.toArray⟩, .string ⟨c.b.2.toArray⟩, .string ⟨c.c.1.toArray⟩, .string ⟨c.c.2.toArray⟩, .string ⟨c.w2.toArray⟩]) (.agg #[])).run Try.prog w' = .ok () w7 ∧ SMap ktC w7 w9.heap.size ([] ++ [c]) ∧ Chg (· = w9.heap.size) w' w7) := hid (fun w' hc => (hsm4.keep hc id).add (t := 76) (e := 80) Try.underlying76 (by simp) hs (by simp))
      have HE := hid (And.intro hc29 (And.intro h1 (And.intro k1 (And.intro k3 (And.intro hm3 hO9)))))
      clear HX HL HB HS HC hc9 h2 h1 h6 hc29 zR hn9 hO9 hm3 k1 k2 k3 hm9 hsm4 hAm HX9
      simp only [ktR] at z3 z4
      go_wp2_with fail
      have HX := HX4
      clear HX4 z3 q1 z0 z1 hmm z4
      refine wp_region_state (Chg (· = w9.heap.size)) (LastW 5 5 w4 (fun w' => ∃ w8, Chg (fun _ => False) w4 w8 ∧ SMap ktC w' w9.heap.size ([] ++ [c]) ∧ Chg (· = w9.heap.size) w8 w')) (specAtR [.eq (.map (some m)), .any, .any, .any, .eq (.pointer (some ⟨A, 0, none⟩)), .eq (.pointer (some ⟨A + 1, 0, none⟩)), .any, .any, .any, .any, .any, .any, .any, .any, .any, .any, .any, .any, .any, .any, .any, .any, .any, .any, .any, .eq (.map (some m)), .eq (.agg #[.string ⟨r.1.toArray⟩, .string ⟨r.2.toArray⟩]), .eq (.map (some w9.heap.size)), .eq (.agg #[.int .i64 c.kind, .string ⟨c.head.1.toArray⟩, .string ⟨c.head.2.toArray⟩, .string ⟨c.who.toArray⟩, .string ⟨c.b.1.toArray⟩, .string ⟨c.b.2.toArray⟩, .string ⟨c.c.1.toArray⟩, .string ⟨c.c.2.toArray⟩, .string ⟨c.w2.toArray⟩]), .eq (.agg #[])]) [25, 26, 27, 28, 29] [0, 4, 5] (by kernel_rfl) (by kernel_rfl) (LastW.start _ _ _ _ (Chg.refl _ _).drew) (fun t v w w' hc h => specAtR_st _ t v w w' hc h) (by rfl) (by kernel_rfl) ?start4 ?obs4 ?fin4
      case start4 =>
        simp only [List.forall_mem_cons]; exact ⟨⟨_, rfl, rfl⟩, ⟨_, rfl, rfl⟩, ⟨_, rfl, rfl⟩, fun _ h => by cases h⟩
      case obs4 =>
        clear HE HO HA
        refine ObsL.cons none (by kernel_rfl) ?_ ?_
        · refine ObL.plain fun L a w hi he hW hk K k => ?_
          obtain ⟨_, e0, rfl⟩ := hk 0 (by decide)
          clear hk
          have hR := hW.early (by decide) hi
          have hS := hW.step (by decide) hi (Chg.refl _ _)
          clear hi he hW
          go_simp
          exact k _ _ (Chg.refl _ _) hS rfl
        refine ObsL.cons none (by kernel_rfl) ?_ ?_
        · refine ObL.plain fun L a w hi he hW hk K k => ?_
          obtain ⟨_, e4, rfl⟩ := hk 4 (by decide)
          clear hk
          have hR := hW.early (by decide) hi
          have hS := hW.step (by decide) hi (Chg.refl _ _)
          have zR := role_at_blk2 (blk_keep HX.out.1 hR id)
          have z0 := zR.1
          have z1 := zR.2
          clear zR
          clear hi he hW
          go_simp
          exact k _ _ (Chg.refl _ _) hS rfl
        refine ObsL.cons none (by kernel_rfl) ?_ ?_
        · refine ObL.plain fun L a w hi he hW hk K k => ?_
          obtain ⟨_, e25, rfl⟩ := hk 25 (by decide)
          obtain ⟨_, e26, rfl⟩ := hk 26 (by decide)
          clear hk
          have hR := hW.early (by decide) hi
          have hS := hW.step (by decide) hi (Chg.refl _ _)
          have q := HL2.out w hR
          clear hi he hW
          go_simp
          exact k _ _ (Chg.refl _ _) hS rfl
        refine ObsL.cons none (by kernel_rfl) ?_ ?_
        · refine ObL.plain fun L a w hi he hW hk K k => ?_
          obtain ⟨_, e5, rfl⟩ := hk 5 (by decide)
          clear hk
          have hR := hW.early (by decide) hi
          have hS := hW.step (by decide) hi (Chg.refl _ _)
          obtain ⟨c0, c1, c2, c3, c4, c5, c6, c7, c8⟩ := cred_at_blk (blk_keep HX.out.2 hR id)
          clear hi he hW
          go_simp
          exact k _ _ (Chg.refl _ _) hS rfl
        refine ObsL.cons none (by kernel_rfl) ?_ ?_
        · refine ObL.plain fun L a w hi he hW hk K k => ?_
          clear hk
          have hR := hW.early (by decide) hi
          have hS := hW.step (by decide) hi (Chg.refl _ _)
          clear hi he hW
          go_simp
          exact k _ _ (Chg.refl _ _) hS rfl
        refine ObsL.cons none (by kernel_rfl) ?_ ?_
        · refine ObL.plain fun L a w hi he hW hk K k => ?_
          obtain ⟨_, e27, rfl⟩ := hk 27 (by decide)
          obtain ⟨_, e28, rfl⟩ := hk 28 (by decide)
          obtain ⟨_, e29, rfl⟩ := hk 29 (by decide)
          clear hk
          have hR := hW.pre hi
          have hall : ∀ j, j < 5 → L j = true := fun j hj => by
            rcases (show j = 0 ∨ j = 1 ∨ j = 2 ∨ j = 3 ∨ j = 4 by omega) with rfl | rfl | rfl | rfl | rfl
            · exact he ⟨0, Ground.phase⟩ (by simp) (by decide)
            · exact he ⟨1, Ground.phase⟩ (by simp) (by decide)
            · exact he ⟨2, Ground.phase⟩ (by simp) (by decide)
            · exact he ⟨3, Ground.phase⟩ (by simp) (by decide)
            · exact he ⟨4, Ground.phase⟩ (by simp) (by decide)
          obtain ⟨w7, hrun, hs7, hc7⟩ := HADD.out w hR
          have HS := hid (hW.last (w' := w7) hall ⟨w, hR, hs7, hc7⟩)
          clear hi he hW hR hall
          go_simp
          exact k undef _ hc7 HS.out trivial
        exact ObsL.nil
      case fin4 =>
        intro L vals w10 hL hWL hv
        have HEND := hid (hWL.post (hL 5 (by decide)))
        clear hL hWL
        simp only [putAll, List.setIfInBounds_toArray, List.set_cons_zero, List.set_cons_succ]
        clear hv HX HL2 HADD
        go_wp2
        go_ret
        obtain ⟨w8, hR, hs7, hc7⟩ := HEND.out
        obtain ⟨hc29, h1, k1, k3, hm3, hO9⟩ := HE.out
        have s1 := hR.size
        have s2 := hc7.size
        have s3 := hc29.size
        have s4 := k1.size
        have s5 := hm3.size
        have hw7 := k3 _ c ((hR.none (S := (· = w9.heap.size))).trans hc7 (fun _ _ h => h)) (by simpa using hs7)
        have hmO := HO.out.2.1
        have hmw := HO.out.2.2
        have hAe := HA.out
        refine .inr ⟨h1 c, rfl, _, hw7, fun i hi => ?_, ?_, fun i hi => ?_⟩
        · rcases hi with hi | hi
          · exact .inl hi
          · exact .inr (by omega)
        · exact (((hc29.trans hm3 (fun _ _ h => h)).none.trans k1 (fun i _ hi => by subst hi; exact hmO)).trans hR (fun _ _ h => h.elim)).trans hc7 (fun i hi e => by omega)
        · rcases hi with hi | hi
          · have := hO9 i hi; omega
          · have := hs7.lt; omega
end Go.Proofs.Ytcdjjengkdbngaa
