/- Texts that the proof leans on, in one: KwWay, KwWaysM. -/
import Derived.Test.YtjaplnainlbldaaSc44
import Derived.Test.YtjaplnainlbldaaSc46
import Derived.Test.YtjaplnainlbldaaSc29
import Derived.Test.YtjaplnainlbldaaSc6
/- One way to a step, and the round that it is handed to. -/
namespace Go.Proofs.Ytjaplnainlbldaa
open Go.RowKit Go.Maps
attribute [local go_sem] Oper.semAt_some

def WayI (F fs : List FactB) (W0 : World) (k : Nat) (l : Value) (w : World) : Prop := (∀ f ∈ fs.take k, f ∈ F) ∧ OwnI W0.heap.size w l ((fs.take k).map (F.idxOf ·)) ∧ Chg (fun _ => False) W0 w

def WayPost (F fs : List FactB) (V : Value × List Nat → Nat → Prop) (W0 : World) (Y N : Value × List Nat → World → Prop) (e : Ending) (w' : World) : Prop :=
  (wayK F fs = [] ∧ e = .returned (.bool true) ∧ Chg (fun _ => False) W0 w') ∨
  (∃ x : Value × List Nat, wayK F fs = [x.2] ∧ e = .returned (.bool true) ∧ Y x w' ∧ Chg (V x) W0 w' ∧ ∀ i, x.1.ownBlock = some i → W0.heap.size ≤ i) ∨
  (∃ x : Value × List Nat, wayK F fs = [x.2] ∧ e = .returned (.bool false) ∧ N x w')

def kwSpecs (g A m : Nat) (f : FactB) (x : Value) (b : Bool) : List Spec := [.eq (.pointer (some ⟨g, 0, none⟩)), .any, .any, .any, .any, .any, .any, .any, .any, .eq (.pointer (some ⟨A, 0, none⟩)), .eq (x), .eq (.bool b), .any, .any, .any, .any, .any, .any, .eq (.tuple #[x, .bool b]), .eq (.pointer (some ⟨g, 0, none⟩)), .eq (.pointer (some ⟨g, 0, none⟩)), .eq (.pointer (some ⟨g, 1, none⟩)), .eq (.map (some m)), .eq (.agg #[.string ⟨f.1.1.toArray⟩, .string ⟨f.1.2.toArray⟩, .string ⟨f.2.toArray⟩]), .eq (.tuple #[x, .bool b]), .eq (x), .eq (.bool b), .any, .any, .any, .any, .any, .any, .any, .any, .any, .any]

set_option maxRecDepth 100000 in
set_option maxHeartbeats 4000000 in
theorem kw_way {T : Nat → Option KTag} {D : Nat → Prop} (g l cp : Nat) (V : Value × List Nat → Nat → Prop) (ao : Option Addr) (F fs : List FactB) (W0 : World) (Y N : Value × List Nat → World → Prop) (h : KS T W0 g F) (hst : FactsAt D W0 ao fs) (hfs : ∀ f ∈ fs, factShort f 9223372036854775807) (hn : fs.length ≤ 2) (hF : F.length ≤ 1000000)
    (hY : ∀ (m : Nat) (x : Value × List Nat) (W1 : World), Chg (fun _ => False) W0 W1 → OwnI W0.heap.size W1 x.1 x.2 → YieldAt Fence.wide m Try.prog l #[x.1] W1 fun e W' =>
      (e = .returned (.bool true) ∧ Y x W' ∧ Chg (V x) W1 W') ∨ (e = .returned (.bool false) ∧ N x W')) :
    Calls Try.prog 116 #[.pointer (some ⟨g, 0, none⟩), .func (.yield l) #[] #[], .slice ao fs.length cp] W0 (WayPost F fs V W0 Y N) := by
  obtain ⟨i0, hi, hz0, hz1, hz2⟩ := info_parts infoInt
  have HI := hid (And.intro hi (And.intro hz0 (And.intro hz1 hz2)))
  have HK := hid h
  have HST := hid hst
  have HSH := hid hfs
  have HYY := hid hY
  have HFL := hid hF
  clear hi hz0 hz1 hz2 h hst hfs hY hF
  go_enter Try.func116, Try.ntmps116
  go_wp2
  go_loopw [7, 14] (fun l i wr => ∃ k : Nat, k ≤ fs.length ∧ i = .int .i64 k ∧ WayI F fs W0 k l wr) (fun _ i _ => fs.length - (intOf i).toNat)
  case atStart => exact ⟨0, Nat.zero_le _, rfl, (by simp), OwnI.nil _ _, Chg.refl _ _⟩
  case round =>
    obtain ⟨k, hk, rfl, hall, hown, hch⟩ := hrel
    by_cases hlt : k < fs.length
    · obtain ⟨b, off, hao, _, ⟨a0, a1, a2⟩⟩ := (HST.out.keep hch (fun _ _ => id)) k hlt
      have hfm : fs[k] ∈ fs := List.getElem_mem hlt
      have hsh := HSH.out _ hfm
      have htk : fs.take (k + 1) = fs.take k ++ [fs[k]] := List.take_succ_eq_append_getElem hlt
      generalize fs[k] = f at *
      have hw1 : Chg (fun _ => False) wr (wr.alloc (.cells #[.string ⟨f.1.1.toArray⟩, .string ⟨f.1.2.toArray⟩, .string ⟨f.2.toArray⟩] 26)) := (Chg.refl _ wr).alloc _
      have hbx := heap_alloc_new wr (.cells #[.string ⟨f.1.1.toArray⟩, .string ⟨f.1.2.toArray⟩, .string ⟨f.2.toArray⟩] 26)
      have hk1 := HK.out.quiet (hch.trans hw1 (fun _ _ h => h))
      obtain ⟨v, m, m2, Sl, hp⟩ := hk1.ex
      have hl : ∀ w', Chg (fun _ => False) (wr.alloc (.cells #[.string ⟨f.1.1.toArray⟩, .string ⟨f.1.2.toArray⟩, .string ⟨f.2.toArray⟩] 26)) w' → (Instr.lookup 82 (.map (some m)) (.agg #[.string ⟨f.1.1.toArray⟩, .string ⟨f.1.2.toArray⟩, .string ⟨f.2.toArray⟩]) true).run Try.prog w' = .ok (.tuple #[(atF F f).getD (.int .i64 0), .bool (decide (f ∈ F))]) w' := fun w' hc => by
        have := (hp.kat.keep hc id).look_ok (t := 82) (e := 3) Try.underlying82 (mZeroAt w') (a := f) hsh
        rw [atF_some] at this
        exact this
      have x0 := cell_blk hp.blk 1
      have x1 := cell_blk hbx 0
      have x2 := cell_blk hbx 1
      have x3 := cell_blk hbx 2
      simp only [List.getElem?_toArray, List.getElem?_cons_zero, List.getElem?_cons_succ] at x0 x1 x2 x3
      have HX := hid (And.intro x0 (And.intro x1 (And.intro x2 x3)))
      have HC2 := hid (hch.trans hw1 (fun _ _ h => h))
      obtain ⟨ps, hps⟩ : ∃ ps, ps = (fs.take k).map (F.idxOf ·) := ⟨_, rfl⟩
      rw [← hps] at hown
      have HO2 := hid (hown.keep hw1 (fun _ _ => id))
      have HPL : Hid (ps.length ≤ 2) := hid (by rw [hps, List.length_map, List.length_take]; omega)
      subst hao
      by_cases hf : f ∈ F
      · have HJ : Hid (∃ j, F.idxOf f = j ∧ j < F.length) := hid ⟨_, rfl, List.idxOf_lt_length_of_mem hf⟩
        obtain ⟨j, hj, hjl⟩ := HJ.out
        have e1 : (atF F f).getD (.int .i64 0) = .int .i64 (j : Nat) := by unfold atF; rw [if_pos hf, ← hj]; rfl
        rw [e1, decide_eq_true hf] at hl
        have HL := hid hl
        have HLE : Hid (j ≤ 1000000 ∧ ps.length ≤ 2) := hid ⟨by have := HFL.out; omega, HPL.out⟩
        have HYES : Hid (∀ w9 v' w1, Chg (fun _ => False) W0 w9 → OwnI W0.heap.size w9 u7 ps → w1.ownsRow W0.heap.size 3 1 v' (ps.length + 1) (intsK ps ++ [.int .i64 (j : Nat)]) → (w9.alloc (.cells #[.int .i64 (j : Nat)] 3)).grownBy w1 u7.ownBlock → WayI F fs W0 (k + 1) v' w1) := hid (fun w9 v' w1 hc9 ho9 hown' hgrow => by
          have ha : Chg (fun _ => False) W0 (w9.alloc (.cells #[.int .i64 (j : Nat)] 3)) := hc9.trans ((Chg.refl _ _).alloc _) (fun _ _ h => h)
          refine ⟨fun x hx => ?_, ?_, ?_⟩
          · rw [htk] at hx
            rcases List.mem_append.1 hx with hx | hx
            · exact hall x hx
            · rw [List.mem_singleton] at hx; rw [hx]; exact hf
          · rw [htk, List.map_append, ← hps]
            show OwnI W0.heap.size w1 v' (ps ++ [F.idxOf f])
            rw [hj]
            unfold OwnI
            rw [intsK_snoc, List.length_append]
            exact hown'
          · exact ha.grown hgrow (fun i hi hlt => by have := (ho9.blt hi).1; omega))
        clear hall hown hch hfm hsh htk hw1 hbx hk1 hp hl x0 x1 x2 x3 hps hf hj hjl e1 HJ HPL
        go_wp2_with fail
        clear a0 a1 a2
        generalize (wr.alloc (.cells #[.string ⟨f.1.1.toArray⟩, .string ⟨f.1.2.toArray⟩, .string ⟨f.2.toArray⟩] 26)) = w2 at *
        obtain ⟨A, hA⟩ : ∃ A, wr.heap.size = A := ⟨_, rfl⟩
        simp only [hA] at HX ⊢
        clear hA
        refine wp_region_specs (kwSpecs g A m f (.int .i64 (j : Nat)) true) [19, 20, 21, 22, 23, 24, 18, 25, 26, 10, 11] [0, 9] (by kernel_rfl) (by kernel_rfl) (by rfl) (by kernel_rfl) ?starty ?obsy ?finy
        case starty =>
          simp only [List.forall_mem_cons]; exact ⟨⟨_, rfl, rfl⟩, ⟨_, rfl, rfl⟩, fun _ h => by cases h⟩
        case obsy =>
          clear HC2 HO2 HYES HI
          refine Obs.cons none (by kernel_rfl) ?_ ?_
          · refine Ob.plain fun a w hR hk K k => ?_
            obtain ⟨_, e0, f0⟩ := hk 0 (by decide)
            clear hk
            go_simp
            exact k _ _ (Chg.refl _ _) f0
          refine Obs.cons none (by kernel_rfl) ?_ ?_
          · refine Ob.plain fun a w hR hk K k => ?_
            obtain ⟨_, e19, rfl⟩ := hk 19 (by decide)
            clear hk
            go_simp
            exact k _ _ (Chg.refl _ _) rfl
          refine Obs.cons none (by kernel_rfl) ?_ ?_
          · refine Ob.plain fun a w hR hk K k => ?_
            obtain ⟨_, e20, rfl⟩ := hk 20 (by decide)
            clear hk
            go_simp
            exact k _ _ (Chg.refl _ _) rfl
          refine Obs.cons none (by kernel_rfl) ?_ ?_
          · refine Ob.plain fun a w hR hk K k => ?_
            obtain ⟨_, e21, rfl⟩ := hk 21 (by decide)
            clear hk
            have zz := hR.cell HX.out.1 id
            go_simp
            exact k _ _ (Chg.refl _ _) rfl
          refine Obs.cons none (by kernel_rfl) ?_ ?_
          · refine Ob.plain fun a w hR hk K k => ?_
            obtain ⟨_, e9, rfl⟩ := hk 9 (by decide)
            clear hk
            have z0 := hR.cell HX.out.2.1 id
            have z1 := hR.cell HX.out.2.2.1 id
            have z2 := hR.cell HX.out.2.2.2 id
            go_simp
            exact k _ _ (Chg.refl _ _) rfl
          refine Obs.cons none (by kernel_rfl) ?_ ?_
          · refine Ob.plain fun a w hR hk K k => ?_
            obtain ⟨_, e22, rfl⟩ := hk 22 (by decide)
            obtain ⟨_, e23, rfl⟩ := hk 23 (by decide)
            clear hk
            have q := HL.out w hR
            go_simp
            exact k _ _ (Chg.refl _ _) rfl
          refine Obs.cons none (by kernel_rfl) ?_ ?_
          · refine Ob.plain fun a w hR hk K k => ?_
            obtain ⟨_, e24, f24⟩ := hk 24 (by decide)
            clear hk
            go_simp
            exact k _ _ (Chg.refl _ _) f24
          refine Obs.cons none (by kernel_rfl) ?_ ?_
          · refine Ob.plain fun a w hR hk K k => ?_
            obtain ⟨_, e18, rfl⟩ := hk 18 (by decide)
            clear hk
            go_simp
            exact k _ _ (Chg.refl _ _) rfl
          refine Obs.cons none (by kernel_rfl) ?_ ?_
          · refine Ob.plain fun a w hR hk K k => ?_
            obtain ⟨_, e18, rfl⟩ := hk 18 (by decide)
            clear hk
            go_simp
            exact k _ _ (Chg.refl _ _) rfl
          refine Obs.cons none (by kernel_rfl) ?_ ?_
          · refine Ob.plain fun a w hR hk K k => ?_
            obtain ⟨_, e25, f25⟩ := hk 25 (by decide)
            clear hk
            go_simp
            exact k _ _ (Chg.refl _ _) f25
          refine Obs.cons none (by kernel_rfl) ?_ ?_
          · refine Ob.plain fun a w hR hk K k => ?_
            obtain ⟨_, e26, f26⟩ := hk 26 (by decide)
            clear hk
            go_simp
            exact k _ _ (Chg.refl _ _) f26
          exact Obs.nil
        case finy =>
          intro vals w9 hc9 hv
          have h10 : vals 10 = .int .i64 (j : Nat) := hv 10 (by decide)
          have h11 : vals 11 = .bool true := hv 11 (by decide)
          simp only [putAll, List.setIfInBounds_toArray, List.set_cons_zero, List.set_cons_succ, h10, h11]
          have HC9 := hid (HC2.out.trans hc9 (fun _ _ h => h))
          have HO9 := hid (HO2.out.keep hc9 (fun _ _ => id))
          clear hc9 hv h10 h11 HX HL HC2 HO2
          have hjw : IntKind.i64.wrap (j : Int) = (j : Int) := by have := HLE.out; rw [IntKind.wrap_i64]; omega
          go_wp2_with (at_builtin; refine wpList_append_own_at _ rfl (.tmp 29) (.tmp 31) 156 rfl W0.heap.size 3 i0 (.int .i64 0) 1 8 Try.underlying156 HI.out.1 HI.out.2.1 HI.out.2.2.1 HI.out.2.2.2 rfl (by decide) _ _ _ rfl (show World.ownsRow _ W0.heap.size 3 1 u7 ps.length (intsK ps) from (HO9.out.keep ((Chg.refl (fun _ => False) w9).alloc _) (fun _ _ => id))) ⟨w9.heap.size, 0, none⟩ 1 1 [.int .i64 (j : Nat)] rfl rfl (cell_one_new _ _ _) ?c2 ?c3 ?c4 ?c5 ?_)
          case c2 => intro u hu; simp only [List.mem_singleton] at hu; subst hu; rfl
          case c3 => have := HLE.out; unfold maxLen; omega
          case c4 => have := HLE.out; omega
          case c5 => have := HC9.out.size; simp; omega
          intro v' w1 hown' hgrow _ hat
          have HN := hid (HYES.out w9 v' w1 HC9.out HO9.out hown' hgrow)
          clear hown' hgrow hat HC9 HO9 HYES
          go_wp2
          go_roundw
          case rel => exact ⟨k + 1, by omega, by go_num, HN.out⟩
          case measure => simp [intOf]; omega
      · have e1 : (atF F f).getD (.int .i64 0) = .int .i64 0 := by unfold atF; rw [if_neg hf]; rfl
        rw [e1, decide_eq_false hf] at hl
        have HL := hid hl
        have HNO : Hid (wayK F fs = []) := hid (wayK_no hfm hf)
        clear hall hown hch hfm hsh htk hw1 hbx hk1 hp hl x0 x1 x2 x3 hps hf e1 HPL
        go_wp2_with fail
        clear a0 a1 a2
        generalize (wr.alloc (.cells #[.string ⟨f.1.1.toArray⟩, .string ⟨f.1.2.toArray⟩, .string ⟨f.2.toArray⟩] 26)) = w2 at *
        obtain ⟨A, hA⟩ : ∃ A, wr.heap.size = A := ⟨_, rfl⟩
        simp only [hA] at HX ⊢
        clear hA
        refine wp_region_specs (kwSpecs g A m f (.int .i64 0) false) [19, 20, 21, 22, 23, 24, 18, 25, 26, 10, 11] [0, 9] (by kernel_rfl) (by kernel_rfl) (by rfl) (by kernel_rfl) ?startn ?obsn ?finn
        case startn =>
          simp only [List.forall_mem_cons]; exact ⟨⟨_, rfl, rfl⟩, ⟨_, rfl, rfl⟩, fun _ h => by cases h⟩
        case obsn =>
          clear HC2 HO2 HNO
          refine Obs.cons none (by kernel_rfl) ?_ ?_
          · refine Ob.plain fun a w hR hk K k => ?_
            obtain ⟨_, e0, f0⟩ := hk 0 (by decide)
            clear hk
            go_simp
            exact k _ _ (Chg.refl _ _) f0
          refine Obs.cons none (by kernel_rfl) ?_ ?_
          · refine Ob.plain fun a w hR hk K k => ?_
            obtain ⟨_, e19, rfl⟩ := hk 19 (by decide)
            clear hk
            go_simp
            exact k _ _ (Chg.refl _ _) rfl
          refine Obs.cons none (by kernel_rfl) ?_ ?_
          · refine Ob.plain fun a w hR hk K k => ?_
            obtain ⟨_, e20, rfl⟩ := hk 20 (by decide)
            clear hk
            go_simp
            exact k _ _ (Chg.refl _ _) rfl
          refine Obs.cons none (by kernel_rfl) ?_ ?_
          · refine Ob.plain fun a w hR hk K k => ?_
            obtain ⟨_, e21, rfl⟩ := hk 21 (by decide)
            clear hk
            have zz := hR.cell HX.out.1 id
            go_simp
            exact k _ _ (Chg.refl _ _) rfl
          refine Obs.cons none (by kernel_rfl) ?_ ?_
          · refine Ob.plain fun a w hR hk K k => ?_
            obtain ⟨_, e9, rfl⟩ := hk 9 (by decide)
            clear hk
            have z0 := hR.cell HX.out.2.1 id
            have z1 := hR.cell HX.out.2.2.1 id
            have z2 := hR.cell HX.out.2.2.2 id
            go_simp
            exact k _ _ (Chg.refl _ _) rfl
          refine Obs.cons none (by kernel_rfl) ?_ ?_
          · refine Ob.plain fun a w hR hk K k => ?_
            obtain ⟨_, e22, rfl⟩ := hk 22 (by decide)
            obtain ⟨_, e23, rfl⟩ := hk 23 (by decide)
            clear hk
            have q := HL.out w hR
            go_simp
            exact k _ _ (Chg.refl _ _) rfl
          refine Obs.cons none (by kernel_rfl) ?_ ?_
          · refine Ob.plain fun a w hR hk K k => ?_
            obtain ⟨_, e24, f24⟩ := hk 24 (by decide)
            clear hk
            go_simp
            exact k _ _ (Chg.refl _ _) f24
          refine Obs.cons none (by kernel_rfl) ?_ ?_
          · refine Ob.plain fun a w hR hk K k => ?_
            obtain ⟨_, e18, rfl⟩ := hk 18 (by decide)
            clear hk
            go_simp
            exact k _ _ (Chg.refl _ _) rfl
          refine Obs.cons none (by kernel_rfl) ?_ ?_
          · refine Ob.plain fun a w hR hk K k => ?_
            obtain ⟨_, e18, rfl⟩ := hk 18 (by decide)
            clear hk
            go_simp
            exact k _ _ (Chg.refl _ _) rfl
          refine Obs.cons none (by kernel_rfl) ?_ ?_
          · refine Ob.plain fun a w hR hk K k => ?_
            obtain ⟨_, e25, f25⟩ := hk 25 (by decide)
            clear hk
            go_simp
            exact k _ _ (Chg.refl _ _) f25
          refine Obs.cons none (by kernel_rfl) ?_ ?_
          · refine Ob.plain fun a w hR hk K k => ?_
            obtain ⟨_, e26, f26⟩ := hk 26 (by decide)
            clear hk
            go_simp
            exact k _ _ (Chg.refl _ _) f26
          exact Obs.nil
        case finn =>
          intro vals w9 hc9 hv
          have h10 : vals 10 = .int .i64 0 := hv 10 (by decide)
          have h11 : vals 11 = .bool false := hv 11 (by decide)
          simp only [putAll, List.setIfInBounds_toArray, List.set_cons_zero, List.set_cons_succ, h10, h11]
          have HC9 := hid (HC2.out.trans hc9 (fun _ _ h => h))
          have HO9 := hid (HO2.out.keep hc9 (fun _ _ => id))
          clear hc9 hv h10 h11 HX HL HC2 HO2
          go_wp2
          go_ret
          exact .inl ⟨HNO.out, rfl, HC9.out⟩
    · have hke : k = fs.length := by omega
      rw [hke, List.take_length] at hall hown
      have HW : Hid (wayK F fs = [(u7, fs.map (F.idxOf ·)).2]) := hid (wayK_yes hall)
      obtain ⟨fn, tmps, assign, body, hy, hR⟩ := HYY.out 0 (u7, fs.map (F.idxOf ·)) _ hch hown
      have HR := hid hR
      have HC := hid hch
      have HO := hid hown
      clear hall hown hch hR hke
      dsimp only at hy
      refine (wpIn_wide (n := 1)).1 ?_
      gi_wp2_with fail
      refine (wpIn_wide (n := 1)).1 ?_
      gi_wp2_with fail
      refine HR.out.mono ?_
      clear HR hy
      rintro e W3 (⟨rfl, hJ3, hk3⟩ | ⟨rfl, hJx3⟩)
      · have HR3 := hid (show WayPost F fs V W0 Y N (.returned (.bool true)) W3 from .inr (.inl ⟨_, HW.out, rfl, hJ3, HC.out.none9.trans hk3 (fun _ _ h => h), fun i hi => (HO.out.blt hi).1⟩))
        clear hJ3 hk3
        gi_wp2
        refine bodyPost_ret (results_tmp rfl _ _ _) rfl ?_
        exact HR3.out
      · have HR3 := hid (show WayPost F fs V W0 Y N (.returned (.bool false)) W3 from .inr (.inr ⟨_, HW.out, rfl, hJx3⟩))
        clear hJx3
        gi_wp2
        refine bodyPost_ret (results_tmp rfl _ _ _) rfl ?_
        exact HR3.out
end Go.Proofs.Ytjaplnainlbldaa

/- The ways to a step: the block that the iterator lays for the credential; what is so between two rounds. -/
namespace Go.Proofs.Ytjaplnainlbldaa
open Go.RowKit Go.Maps

theorem run_neg_role (x y : Operand) (a b : RoleB) (w : World) : Sem.run Try.prog (eqGuard BinOp.neq 24 x y (.agg #[.string ⟨a.1.toArray⟩, .string ⟨a.2.toArray⟩]) (.agg #[.string ⟨b.1.toArray⟩, .string ⟨b.2.toArray⟩])) w = .ok () w := by
  go_simp
theorem run_nel_role (a b : RoleB) (w : World) : Sem.run Try.prog (binOp BinOp.neq 24 (.agg #[.string ⟨a.1.toArray⟩, .string ⟨a.2.toArray⟩]) (.agg #[.string ⟨b.1.toArray⟩, .string ⟨b.2.toArray⟩])) w = .ok (.bool (!decide (a = b))) w := by
  have : decide (a = b) = decide (a.1 = b.1 ∧ a.2 = b.2) := by simp only [Prod.ext_iff]
  rw [this]
  go_simp
  repeat' split
  all_goals simp_all

/-- The credential's block: laid by operation 5 (slot 4), filled by operation 6. -/
structure OneC (B : Nat) (w1 : World) (c : CredB) (L : Nat → Bool) (a : Act) (w : World) : Prop where
  ch : Chg (fun i => B ≤ i) w1 w
  lo : B ≤ w.heap.size
  sz : 4 < a.tmps.size
  p4 : L 5 = true → ∃ b, a.tmps[4]? = some (.pointer (some ⟨b, 0, none⟩)) ∧ B ≤ b ∧ w.heap[b]? = some (.cells (credBox (if L 6 then c else noCred)) 36 (0, 0))
  o6 : L 6 = true → L 5 = true

theorem OneC.quiet {B : Nat} {w1 w : World} {c : CredB} {L : Nat → Bool} {a : Act} {i : Nat} (h : OneC B w1 c L a w) (hi : i ≠ 5 ∧ i ≠ 6) (d : Nat) (v : Value) (hd : d ≠ 4) : OneC B w1 c (upd L i) (a.put (some d) v) w := by
  have e5 : upd L i 5 = L 5 := upd_ne (fun e => hi.1 e.symm)
  have e6 : upd L i 6 = L 6 := upd_ne (fun e => hi.2 e.symm)
  refine ⟨h.ch, h.lo, by simpa [Act.put] using h.sz, ?_, by rw [e5, e6]; exact h.o6⟩
  rw [e5, e6]
  intro h5
  obtain ⟨b, p1, p2⟩ := h.p4 h5
  exact ⟨b, put_tmps p1 (by simpa using hd), p2⟩

theorem OneC.make {B : Nat} {w1 w : World} {c : CredB} {L : Nat → Bool} {a : Act} (h : OneC B w1 c L a w) (hL : L 5 = false) : OneC B w1 c (upd L 5) (a.put (some 4) (.pointer (some ⟨w.heap.size, 0, none⟩))) (w.alloc (.cells (credBox noCred) 36)) := by
  have h6 : L 6 = false := by
    cases h6 : L 6 with
    | false => rfl
    | true => rw [h.o6 h6] at hL; cases hL
  have hal : Chg (fun _ => False) w (w.alloc (.cells (credBox noCred) 36)) := (Chg.refl _ w).alloc _
  have e6 : upd L 5 6 = L 6 := upd_ne (by omega)
  refine ⟨h.ch.trans hal (fun _ _ h => h.elim), Nat.le_trans h.lo hal.size, by simpa [Act.put] using h.sz, fun _ => ⟨w.heap.size, by simp [Act.put, h.sz], h.lo, ?_⟩, fun _ => upd_self _ _⟩
  rw [e6, h6]
  exact heap_alloc_new w _

theorem OneC.set {B : Nat} {w1 w : World} {c : CredB} {L : Nat → Bool} {a : Act} (h : OneC B w1 c L a w) (hL : L 6 = false) {b : Nat} (h4 : a.tmps[4]? = some (.pointer (some ⟨b, 0, none⟩))) (h5 : L 5 = true) :
    OneC B w1 c (upd L 6) a (setCred w b c) ∧ Chg (fun i => B ≤ i) w (setCred w b c) ∧ w.heap[b]? = some (.cells (credBox noCred) 36 (0, 0)) := by
  obtain ⟨b', p1, p2, p3⟩ := h.p4 h5
  rw [h4] at p1
  injection p1 with p1; injection p1 with p1; injection p1 with p1; injection p1 with p1
  subst p1
  rw [hL] at p3
  have hcs := setCred_chg w b c
  have hc : Chg (fun i => B ≤ i) w (setCred w b c) := hcs.mono (fun i _ e => by have e : i = b := e; subst e; exact p2)
  have e5 : upd L 6 5 = L 5 := upd_ne (by omega)
  refine ⟨⟨h.ch.trans hc (fun _ _ h => h), Nat.le_trans h.lo hcs.size, h.sz, fun _ => ⟨b, h4, p2, ?_⟩, fun _ => e5.trans h5⟩, hc, p3⟩
  rw [upd_self]
  exact setCred_blk c p3

/-- What the iterator reads, and what a round may change. -/
structure WCtx (T : Nat → Option KTag) (U : Nat → Prop) (Bs Bk n0 nW : Nat) : Prop where
  tag : ∀ i, T i ≠ none → ¬ U i ∧ i < n0
  bs : ¬ U Bs ∧ Bs < n0
  bk : ¬ U Bk ∧ Bk < n0
  u : ∀ i, U i → i < n0
  le : n0 ≤ nW

def VW (U : Nat → Prop) (n0 nW : Nat) (pre : List (Value × List Nat)) (x : Value × List Nat) (i : Nat) : Prop := U i ∨ (n0 ≤ i ∧ i < nW) ∨ ∃ y ∈ pre ++ [x], y.1.ownBlock = some i

/-- Between two rounds. -/
structure WSt (J : List (Value × List Nat) → World → Prop) (T : Nat → Option KTag) (g : Nat) (F : List FactB) (s : StepB) (Bs Bk b nW : Nat) (pre : List (Value × List Nat)) (w : World) : Prop where
  ks : KS T w g F
  bs : w.heap[Bs]? = some (.cells (stepBox s) 43 (0, 0))
  bk : w.heap[Bk]? = some (.cells #[.pointer (some ⟨g, 0, none⟩)] 103 (0, 0))
  cb : w.heap[b]? = some (.cells (credBox s.c) 36 (0, 0))
  jj : J pre w
  rows : ∀ y ∈ pre, ∀ i, y.1.ownBlock = some i → b < i
  hb : nW ≤ b

section
variable {J : List (Value × List Nat) → World → Prop} {T : Nat → Option KTag} {U : Nat → Prop} {g : Nat} {F : List FactB} {s : StepB} {Bs Bk b n0 nW : Nat} {pre : List (Value × List Nat)} {w w' : World}

theorem WSt.quiet (hJ : ∀ s A B, J s A → Chg (fun _ => False) A B → J s B) (h : WSt J T g F s Bs Bk b nW pre w) (hc : Chg (fun _ => False) w w') : WSt J T g F s Bs Bk b nW pre w' :=
  ⟨h.ks.quiet hc, blk_keep h.bs hc id, blk_keep h.bk hc id, blk_keep h.cb hc id, hJ _ _ _ h.jj hc, h.rows, h.hb⟩

theorem WSt.round (hx : WCtx T U Bs Bk n0 nW) (h : WSt J T g F s Bs Bk b nW pre w) {x : Value × List Nat} (hr : ∀ i, x.1.ownBlock = some i → w.heap.size ≤ i) (hc : Chg (VW U n0 nW pre x) w w') (hj : J (pre ++ [x]) w') : WSt J T g F s Bs Bk b nW (pre ++ [x]) w' := by
  have hblt := lt_blk h.cb
  have hrows : ∀ y ∈ pre ++ [x], ∀ i, y.1.ownBlock = some i → b < i := fun y hy i hi => by
    rcases List.mem_append.1 hy with hy | hy
    · exact h.rows y hy i hi
    · rw [List.mem_singleton] at hy
      subst hy
      exact Nat.lt_of_lt_of_le hblt (hr i hi)
  have hlow : ∀ i, i < n0 → ¬ U i → ¬ VW U n0 nW pre x i := fun i hi hu e => by
    rcases e with e | e | ⟨y, hy, e⟩
    · exact hu e
    · omega
    · have := hrows y hy i e
      have := hx.le
      have := h.hb
      omega
  have hbn : ¬ VW U n0 nW pre x b := fun e => by
    rcases e with e | e | ⟨y, hy, e⟩
    · have := hx.u b e; have := hx.le; have := h.hb; omega
    · have := h.hb; omega
    · have := hrows y hy b e; omega
  exact ⟨h.ks.keep hc (fun i hi => hlow i (hx.tag i hi).2 (hx.tag i hi).1), blk_keep h.bs hc (hlow _ hx.bs.2 hx.bs.1), blk_keep h.bk hc (hlow _ hx.bk.2 hx.bk.1), blk_keep h.cb hc hbn, hj, hrows, h.hb⟩
end

def WaysPost (J Jx : List (Value × List Nat) → World → Prop) (s : StepB) (F : List FactB) (e : Ending) (w' : World) : Prop :=
  (∃ v, e = .returned v) ∧ ((∃ xs : List (Value × List Nat), xs.map (·.2) = waysK s F ∧ J xs w') ∨ (∃ pre : List (Value × List Nat), pre.map (·.2) <+: waysK s F ∧ Jx pre w'))

theorem waysK_off {s : StepB} {F : List FactB} (h : ¬ (isCred s.c = true ∧ s.f.1 = s.c.head)) : waysK s F = [] := if_neg h
theorem waysK_1 {s : StepB} {F : List FactB} (h : isCred s.c = true ∧ s.f.1 = s.c.head) (hk : s.c.kind = 1) : waysK s F = if s.c.who = s.f.2 then [[]] else [] := by
  unfold waysK; rw [if_pos h, if_pos hk]
theorem waysK_2 {s : StepB} {F : List FactB} (h : isCred s.c = true ∧ s.f.1 = s.c.head) (hk : s.c.kind = 2) : waysK s F = wayK F [(s.c.b, s.f.2)] := by
  unfold waysK; rw [if_pos h, if_neg (by omega), if_pos hk]
theorem waysK_3 {s : StepB} {F : List FactB} (h : isCred s.c = true ∧ s.f.1 = s.c.head) (hk : s.c.kind = 3) : waysK s F = (placesK F s.c.b).flatMap (fun i => wayK F (linkFs F s i)) := by
  unfold waysK; rw [if_pos h, if_neg (by omega), if_neg (by omega), if_pos hk]
theorem waysK_4 {s : StepB} {F : List FactB} (h : isCred s.c = true ∧ s.f.1 = s.c.head) (hk : s.c.kind = 4) : waysK s F = wayK F [(s.c.b, s.f.2), (s.c.c, s.f.2)] := by
  unfold waysK; rw [if_pos h, if_neg (by omega), if_neg (by omega), if_neg (by omega)]
end Go.Proofs.Ytjaplnainlbldaa
