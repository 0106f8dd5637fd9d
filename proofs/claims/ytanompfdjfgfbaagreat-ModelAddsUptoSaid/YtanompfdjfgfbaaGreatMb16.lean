/- Texts that the proof leans on, in one: PmStep, NmIsSet, NmMath, ShelfI, ShelfI2, PmSorted, PmMembers. -/
import Derived.Test.YtanompfdjfgfbaaGreatMb15
import Derived.Test.YtanompfdjfgfbaaGreatMb14
import Derived.Test.YtanompfdjfgfbaaGreatMb2
import Derived.Test.YtanompfdjfgfbaaGreatMb1
import Derived.Lib.SlicesCompact
import Derived.Shelf.Spec.SearchS
import Derived.Shelf.SlIter.Nil
import Derived.Shelf.SortM.Plain
import Derived.Shelf.SortM.SortNone
import Derived.Ground.GgzProg
import Derived.Ground.SlgmProg
import Derived.Test.YtanompfdjfgfbaaGreatProg
import Derived.Test.YtanompfdjfgfbaaGreatMb5
import Derived.Sort.KeysCollected
/- What one step of a credential brings. -/
namespace Go.Proofs.YtanompfdjfgfbaaGreat
open Go.RowKit Go.Maps

def pstepSpecs (g A m lo : Nat) (c : CredB) (who : List UInt8) (y : Option Nat) (xs : List (List UInt8)) : List Spec := [.eq (.pointer (some ⟨g, 0, none⟩)), .any, .eq (.string ⟨who.toArray⟩), .any, .eq (.pointer (some ⟨A, 0, none⟩)), .any, .any, .any, .any, .any, .any, .any, .any, .any, .any, .any, .any, .any, .any, .any, .eq (.pointer (some ⟨g, 0, none⟩)), .eq (.pointer (some ⟨g, 0, none⟩)), .eq (.pointer (some ⟨g, 0, none⟩)), .eq (.map (some m)), .eq (.string ⟨who.toArray⟩), .eq (.pointer (some ⟨A, 8, none⟩)), .eq (.string ⟨c.w2.toArray⟩), .eq (.agg #[.string ⟨who.toArray⟩, .string ⟨c.w2.toArray⟩]), .eq (.map y), .rng ktS unitElem lo y xs, .any, .any, .any, .any, .any, .any, .any, .any, .any, .any, .any, .any, .any, .any, .any, .any, .any, .any, .any, .any, .any, .any, .any, .any, .any, .any, .any, .any, .any, .any, .any]

set_option maxRecDepth 100000 in
set_option maxHeartbeats 2000000 in
theorem pstep {K O : Nat → Prop} (g : Nat) (F : List FactB) {n2 n3 : Nat} {R2 : RoleB → CredB → Prop} {R3 : List UInt8 → CredB → Prop} (c : CredB) (who : List UInt8) (w : World) (h : MS K O w g F n2 R2 n3 R3) (hc : isCred c = true) (hw : who.length ≤ 9223372036854775807) (hn : F.length ≤ 4000000) :
    Calls Tryz.prog 58 #[.pointer (some ⟨g, 0, none⟩), .agg #[.int .i64 c.kind, .string ⟨c.head.1.toArray⟩, .string ⟨c.head.2.toArray⟩, .string ⟨c.who.toArray⟩, .string ⟨c.b.1.toArray⟩, .string ⟨c.b.2.toArray⟩, .string ⟨c.c.1.toArray⟩, .string ⟨c.c.2.toArray⟩, .string ⟨c.w2.toArray⟩], .string ⟨who.toArray⟩] w (StepPost F c who w) := by
  have hc1 : Chg (fun _ => False) w (w.alloc (.cells #[.int .i64 c.kind, .string ⟨c.head.1.toArray⟩, .string ⟨c.head.2.toArray⟩, .string ⟨c.who.toArray⟩, .string ⟨c.b.1.toArray⟩, .string ⟨c.b.2.toArray⟩, .string ⟨c.c.1.toArray⟩, .string ⟨c.c.2.toArray⟩, .string ⟨c.w2.toArray⟩] 47)) := (Chg.refl _ w).alloc _
  have hb1 : (w.alloc (.cells #[.int .i64 c.kind, .string ⟨c.head.1.toArray⟩, .string ⟨c.head.2.toArray⟩, .string ⟨c.who.toArray⟩, .string ⟨c.b.1.toArray⟩, .string ⟨c.b.2.toArray⟩, .string ⟨c.c.1.toArray⟩, .string ⟨c.c.2.toArray⟩, .string ⟨c.w2.toArray⟩] 47)).heap[w.heap.size]? = some (.cells (credBox c) 47 (0, 0)) := heap_alloc_new w _
  obtain ⟨c0, c1, c2, c3, c4, c5, c6, c7, c8⟩ := cred_at_blk hb1
  simp only [Nat.zero_add] at c0 c1 c2 c3 c4 c5 c6 c7 c8
  have HA1 := hid (And.intro hb1 hc1)
  have HM := hid (And.intro (h.quiet hc1) (And.intro hc (And.intro hw (And.intro hn h.lo))))
  have hkk := isCred_kind hc
  clear hb1 hc1 h hc hw hn
  rcases hkk with hk | hk | hk | hk
  · have d2 : (c.kind == 2) = false := by rw [hk]; rfl
    have d3 : (c.kind == 3) = false := by rw [hk]; rfl
    have d4 : (c.kind == 4) = false := by rw [hk]; rfl
    have HK := hid hk
    clear hk
    go_enter Tryz.func58, Tryz.ntmps58
    go_wp2
    go_ret
    refine ⟨none, 0, [], rfl, FactsAt.nil _ _ _, HA1.out.2, fun f => ⟨fun h => (by cases h), fun h => ?_⟩, by simp⟩
    have hk := HK.out
    rcases h.2 with ⟨k, _⟩ | ⟨k, _⟩ | ⟨k, _⟩ <;> omega
  · have d2 : (c.kind == 2) = true := by rw [hk]; rfl
    have HK := hid hk
    clear hk
    go_enter Tryz.func58, Tryz.ntmps58
    go_wp2
    go_ret
    refine ⟨some ⟨w.heap.size + 1, 0, none⟩, 1, [(c.head, who)], rfl, ?_, HA1.out.2.alloc _, fun f => ?_, by simp⟩
    · have := fact_new (w.alloc (.cells #[.int .i64 c.kind, .string ⟨c.head.1.toArray⟩, .string ⟨c.head.2.toArray⟩, .string ⟨c.who.toArray⟩, .string ⟨c.b.1.toArray⟩, .string ⟨c.b.2.toArray⟩, .string ⟨c.c.1.toArray⟩, .string ⟨c.c.2.toArray⟩, .string ⟨c.w2.toArray⟩] 47)) (c.head, who)
      have e : (w.alloc (.cells #[.int .i64 c.kind, .string ⟨c.head.1.toArray⟩, .string ⟨c.head.2.toArray⟩, .string ⟨c.who.toArray⟩, .string ⟨c.b.1.toArray⟩, .string ⟨c.b.2.toArray⟩, .string ⟨c.c.1.toArray⟩, .string ⟨c.c.2.toArray⟩, .string ⟨c.w2.toArray⟩] 47)).heap.size = w.heap.size + 1 := by simp
      rw [e] at this
      intro i hi
      have : i = 0 := by simp at hi; omega
      subst this
      exact ⟨_, 0, rfl, ⟨by omega, by simp⟩, fact_at_blk (f := (c.head, who)) (by rw [← e]; exact heap_alloc_new (w.alloc (.cells #[.int .i64 c.kind, .string ⟨c.head.1.toArray⟩, .string ⟨c.head.2.toArray⟩, .string ⟨c.who.toArray⟩, .string ⟨c.b.1.toArray⟩, .string ⟨c.b.2.toArray⟩, .string ⟨c.c.1.toArray⟩, .string ⟨c.c.2.toArray⟩, .string ⟨c.w2.toArray⟩] 47)) _)⟩
    · have hk := HK.out
      obtain ⟨f1, f2⟩ := f
      rw [List.mem_singleton, Prod.mk.injEq]
      constructor
      · rintro ⟨h1, h2⟩
        exact ⟨h1, .inl ⟨hk, h2⟩⟩
      · rintro ⟨h1, h2⟩
        rcases h2 with ⟨_, h2⟩ | ⟨k, _⟩ | ⟨k, _⟩
        · exact ⟨h1, h2⟩
        · omega
        · omega
  · have d2 : (c.kind == 2) = false := by rw [hk]; rfl
    have d3 : (c.kind == 3) = true := by rw [hk]; rfl
    have HK := hid hk
    have hsh := isCred_short HM.out.2.1
    unfold credShort at hsh
    obtain ⟨⟨m, m2, m3, O1, O2, O3, h0, h1, _, _, dd1, _, _⟩, hgO, hlo1⟩ := HM.out.1
    obtain ⟨y, xs, hxs, hxn, hxl, hxok, hyO, hl1, hl2⟩ := h1.row (t := 55) (e := 66) (t2 := 66) (e2 := 68) Tryz.underlying55 mZeroIn Tryz.underlying66 (a := (who, c.w2)) ⟨HM.out.2.2.1, by simp only; omega⟩
    simp only [ktR] at hl1
    have x0 := cell_blk h0 0
    simp only [List.getElem?_toArray, List.getElem?_cons_zero] at x0
    have HX := hid (And.intro x0 c8)
    have HL := hid (And.intro hl1 hl2)
    have HXS := hid (And.intro hxs (Nat.le_trans hxl HM.out.2.2.2.1))
    have HXS2 := hid (fun b (e : y = some b) => (dd1 b (hyO b e)).1)
    have HO := hid HM.out.2.2.2.2
    clear hk hsh h0 h1 dd1 hgO hlo1 hxs hxn hxl hxok hyO hl1 hl2 x0 HM
    go_enter Tryz.func58, Tryz.ntmps58
    go_wp2_with fail
    clear c0 c1 c2 c3 c4 c5 c6 c7 c8
    generalize (w.alloc (.cells #[.int .i64 c.kind, .string ⟨c.head.1.toArray⟩, .string ⟨c.head.2.toArray⟩, .string ⟨c.who.toArray⟩, .string ⟨c.b.1.toArray⟩, .string ⟨c.b.2.toArray⟩, .string ⟨c.c.1.toArray⟩, .string ⟨c.c.2.toArray⟩, .string ⟨c.w2.toArray⟩] 47)) = w1 at *
    obtain ⟨A, hAe⟩ : ∃ A, w.heap.size = A := ⟨_, rfl⟩
    simp only [hAe] at HX ⊢
    have hA1 : w1.heap[A]? = some (.cells (credBox c) 47 (0, 0)) := by rw [← hAe]; exact HA1.out.1
    have HC := hid HA1.out.2
    have hAw : A < w1.heap.size := lt_blk hA1
    have HA2 := hid (And.intro hA1 (And.intro hAw (by omega : w.heap.size ≤ A)))
    have HLO := hid (Nat.le_refl w1.heap.size)
    have HAE := hid hAe
    clear HA1 hAe hA1 hAw
    refine wp_region_specs (pstepSpecs g A m w1.heap.size c who y xs) [20, 21, 22, 23, 24, 25, 26, 27, 28, 29] [0, 2, 4] (by kernel_rfl) (by kernel_rfl) (by rfl) (by kernel_rfl) ?start ?obs ?fin
    case start =>
      simp only [List.forall_mem_cons]; exact ⟨⟨_, rfl, rfl⟩, ⟨_, rfl, rfl⟩, ⟨_, rfl, rfl⟩, fun _ h => by cases h⟩
    case obs =>
      clear HC HA2 HK HXS HXS2 HO HAE
      refine Obs.cons none (by kernel_rfl) ?_ ?_
      · refine Ob.plain fun a w hR hk K k => ?_
        obtain ⟨_, e0, f0⟩ := hk 0 (by decide)
        clear hk
        go_simp
        exact k _ _ (Chg.refl _ _) f0
      refine Obs.cons none (by kernel_rfl) ?_ ?_
      · refine Ob.plain fun a w hR hk K k => ?_
        obtain ⟨_, e20, rfl⟩ := hk 20 (by decide)
        clear hk
        go_simp
        exact k _ _ (Chg.refl _ _) rfl
      refine Obs.cons none (by kernel_rfl) ?_ ?_
      · refine Ob.plain fun a w hR hk K k => ?_
        obtain ⟨_, e21, rfl⟩ := hk 21 (by decide)
        clear hk
        go_simp
        exact k _ _ (Chg.refl _ _) rfl
      refine Obs.cons none (by kernel_rfl) ?_ ?_
      · refine Ob.plain fun a w hR hk K k => ?_
        obtain ⟨_, e22, rfl⟩ := hk 22 (by decide)
        clear hk
        have zz := hR.cell HX.out.1 id
        go_simp
        exact k _ _ (Chg.refl _ _) rfl
      refine Obs.cons none (by kernel_rfl) ?_ ?_
      · refine Ob.plain fun a w hR hk K k => ?_
        obtain ⟨_, e2, f2⟩ := hk 2 (by decide)
        clear hk
        go_simp
        exact k _ _ (Chg.refl _ _) f2
      refine Obs.cons none (by kernel_rfl) ?_ ?_
      · refine Ob.plain fun a w hR hk K k => ?_
        obtain ⟨_, e4, rfl⟩ := hk 4 (by decide)
        clear hk
        go_simp
        exact k _ _ (Chg.refl _ _) rfl
      refine Obs.cons none (by kernel_rfl) ?_ ?_
      · refine Ob.plain fun a w hR hk K k => ?_
        obtain ⟨_, e25, rfl⟩ := hk 25 (by decide)
        clear hk
        have zz := hR.cell HX.out.2 id
        go_simp
        exact k _ _ (Chg.refl _ _) rfl
      refine Obs.cons none (by kernel_rfl) ?_ ?_
      · refine Ob.plain fun a w hR hk K k => ?_
        obtain ⟨_, e24, rfl⟩ := hk 24 (by decide)
        obtain ⟨_, e26, rfl⟩ := hk 26 (by decide)
        clear hk
        go_simp
        exact k _ _ (Chg.refl _ _) rfl
      refine Obs.cons none (by kernel_rfl) ?_ ?_
      · refine Ob.plain fun a w hR hk K k => ?_
        obtain ⟨_, e23, rfl⟩ := hk 23 (by decide)
        obtain ⟨_, e27, rfl⟩ := hk 27 (by decide)
        clear hk
        have q := HL.out.1 w hR
        go_simp
        exact k _ _ (Chg.refl _ _) rfl
      refine Obs.cons none (by kernel_rfl) ?_ ?_
      · refine Ob.plain fun a w hR hk K k => ?_
        obtain ⟨_, e28, rfl⟩ := hk 28 (by decide)
        clear hk
        obtain ⟨w5, cnt, q1, q2, q3⟩ := HL.out.2 w hR
        have hsz := Nat.le_trans HLO.out hR.size
        go_simp
        exact k _ _ q3 ⟨_, _, rfl, hsz, q2⟩
      exact Obs.nil
    case fin =>
      intro vals w9 hc9 hv
      obtain ⟨r, cnt0, h29, hlo, hrg⟩ := hv 29 (by decide)
      simp only [putAll, List.setIfInBounds_toArray, List.set_cons_zero, List.set_cons_succ, h29]
      have HC9 := hid (HC.out.trans hc9 (fun _ _ h => h))
      have HX9 := hid (blk_keep HA2.out.1 hc9 id)
      have HRG := hid (And.intro hlo hrg)
      clear hv h29 hc9 hlo hrg HX HL HC
      go_wp2
      go_loopw [7] (fun v wr => ∃ (rest : List (List UInt8)) (cnt : Nat) (hs : List FactB), KRange ktS unitElem wr y r rest cnt ∧ Came w.heap.size (fun i => O i ∨ i = r ∨ i = A) wr v hs ∧ Chg (fun _ => False) w wr ∧ (∀ f : FactB, f ∈ hs ↔ f.1 = c.head ∧ f.2 ∈ xs ∧ f.2 ∉ rest) ∧ hs.length + rest.length ≤ xs.length ∧ wr.heap[A]? = some (.cells (credBox c) 47 (0, 0)) ∧ r < wr.heap.size ∧ ∀ z ∈ rest, z ∈ xs) (fun _ wr => krLeft wr y r)
      case atStart => exact ⟨xs, cnt0, [], HRG.out.2, Came.nil _ _ _, HC9.out, fun f => ⟨fun h => (by cases h), fun h => absurd h.2.1 h.2.2⟩, by simp, HX9.out, HRG.out.2.lt, fun _ h => h⟩
      case round =>
        obtain ⟨rest, cnt, hs, hrg, hcm, hch, hmem, hlen, hbA, hrl, hsub⟩ := hrel
        have HI := hid (And.intro hcm (And.intro hch (And.intro hmem (And.intro hlen (And.intro hbA (And.intro hrl hsub))))))
        have HQ := hid hrg
        clear hcm hch hmem hlen hbA hrl hsub
        go_wp2_with (at_next; refine wpList_next_k _ rfl (.tmp 29) rfl ktS unitElem y r rest cnt rfl HQ.out ?_ ?_)
        · intro hrest
          have HE := hid hrest
          clear hrest hrg
          go_wp2
          go_ret
          obtain ⟨hcm, hch, hmem, hlen, _⟩ := HI.out
          refine StepPost.of hcm hch (fun f => ?_) (by have := HXS.out.2; omega)
          rw [hmem f, HE.out, HXS.out.1 f.2]
          unfold StepOf
          have hk := HK.out
          constructor
          · rintro ⟨h1, h2, _⟩
            exact ⟨h1, .inr (.inl ⟨hk, h2⟩)⟩
          · rintro ⟨h1, h2⟩
            rcases h2 with ⟨k, _⟩ | ⟨_, h2⟩ | ⟨k, _⟩
            · omega
            · exact ⟨h1, h2, by simp⟩
            · omega
        · intro x cv ya yb w5 cnt5 hx hcv hrg5 hlt5 hc5 hsz5 hent
          obtain ⟨rfl, _⟩ := unitElem_inv hcv
          obtain ⟨hcm, hch, hmem, hlen, hbA, hrl, hsub⟩ := HI.out
          have hrA : r ≠ A := by have := HRG.out.1; have := HA2.out.2; omega
          have hrO : ∀ i, i = r → O i ∨ i = r ∨ i = A := fun i h => .inr (.inl h)
          have hcm5 : Came w.heap.size (fun i => O i ∨ i = r ∨ i = A) w5 u7 hs := hcm.keep (hc5.mono (fun i _ h => hrO i h)) (fun i hi => .inl hi)
          have hwr : w.heap.size ≤ r := by have := HRG.out.1; have := HA2.out.2; have := HA2.out.2.2; omega
          have hch5 : Chg (fun _ => False) w w5 := hch.trans hc5 (fun i hi e => by omega)
          have hbA5 := blk_keep hbA hc5 (fun e => hrA e.symm)
          have z1 := cell_blk hbA5 1
          have z2 := cell_blk hbA5 2
          simp only [credBox, List.getElem?_toArray, List.getElem?_cons_zero, List.getElem?_cons_succ] at z1 z2
          have HJ := hid (And.intro hcm5 (And.intro hch5 (And.intro hbA5 (And.intro hrg5 (And.intro hlt5 (And.intro hx (And.intro hrl hsz5)))))))
          have hll : (rest.filter (fun z => decide (z ≠ x))).length < rest.length := by
            have h1 := List.length_filter_lt_length_iff_exists (p := fun z => decide (z ≠ x)) (l := rest)
            exact h1.2 ⟨x, hx, by simp⟩
          have HLL := hid hll
          simp only [ktS] at hent
          clear hrg hcm hch hmem hlen hbA hrl hsub hcm5 hch5 hbA5 hrg5 hlt5 hx hsz5 hc5 hrA hrO hwr hcv hll
          go_wp2_with (at_builtin; refine wpList_append_facts (O := fun i => O i ∨ i = r ∨ i = A) rfl (.tmp 34) (.tmp 39) rfl w.heap.size u7 hs rfl (HJ.out.1.quiet ((Chg.refl _ w5).alloc _)) (fun i hi => ?c0) (some ⟨w5.heap.size, 0, none⟩) 1 [(c.head, x)] rfl (fact_new w5 (c.head, x)) (fun e => by cases e) ?c1 ?c2 ?_)
          case c0 =>
            have := HJ.out.2.1.size
            rcases hi with hi | hi
            · have := HO.out i hi; simp; omega
            · have := HJ.out.2.2.2.2.2.2.1; have := HJ.out.2.2.2.2.2.2.2; have := lt_blk HJ.out.2.2.1; simp; omega
          case c1 => have := HI.out.2.2.2.1; have := HXS.out.2; simp; omega
          case c2 => have := HJ.out.2.1.size; simp; omega
          intro v' w3 hown hc3
          have HY := hid (And.intro hown hc3)
          clear hown hc3 z1 z2 hent
          go_wp2
          go_roundw
          case rel =>
            obtain ⟨hcm5, hch5, hbA5, hrg5, hlt5, hx, hrl, hsz5⟩ := HJ.out
            obtain ⟨_, _, hmem, hlen, _, _, hsub⟩ := HI.out
            have hwa : Chg (fun _ => False) w5 (w5.alloc (.cells #[.string ⟨c.head.1.toArray⟩, .string ⟨c.head.2.toArray⟩, .string ⟨x.toArray⟩] 52)) := (Chg.refl _ w5).alloc _
            have hAw := HA2.out
            have hwr := HRG.out.1
            refine ⟨_, cnt5, _, (hrg5.keep hwa (fun _ _ => id) id).keep HY.out.2 (fun b e h => by have := HXS2.out b e; simp [this] at h) (fun h => by simp at h), HY.out.1, (hch5.trans hwa (fun _ _ h => h)).trans HY.out.2 (fun i hi e => by have := e.1; omega), fun f => ?_, ?_, blk_keep (blk_keep hbA5 hwa id) HY.out.2 (fun e => by simp at e), ?_, fun z hz => hsub z (List.mem_filter.1 hz).1⟩
            · rw [List.mem_append, List.mem_singleton, hmem f]
              obtain ⟨f1, f2⟩ := f
              simp only [Prod.mk.injEq, List.mem_filter, Bool.not_eq_true', decide_eq_false_iff_not, not_and, Classical.not_not]
              constructor
              · rintro (⟨h1, h2, h3⟩ | ⟨h1, h2⟩)
                · exact ⟨h1, h2, fun h => absurd h h3⟩
                · subst h2; exact ⟨h1, hsub _ hx, fun _ => rfl⟩
              · rintro ⟨h1, h2, h3⟩
                by_cases h4 : f2 ∈ rest
                · exact .inr ⟨h1, h3 h4⟩
                · exact .inl ⟨h1, h2, h4⟩
            · have := HLL.out
              simp only [ne_eq, decide_not] at this
              rw [List.length_append, List.length_singleton]
              omega
            · have := hwa.size; have := HY.out.2.size; omega
          case measure =>
            obtain ⟨hcm5, hch5, hbA5, hrg5, hlt5, hx, hrl, hsz5⟩ := HJ.out
            have hwa : Chg (fun _ => False) w5 (w5.alloc (.cells #[.string ⟨c.head.1.toArray⟩, .string ⟨c.head.2.toArray⟩, .string ⟨x.toArray⟩] 52)) := (Chg.refl _ w5).alloc _
            have hnew := (hrg5.keep hwa (fun _ _ => id) id).keep HY.out.2 (fun b e h => by have := HXS2.out b e; simp [this] at h) (fun h => by simp at h)
            rw [hnew.left_eq, HQ.out.left_eq]
            exact hlt5
  · have d2 : (c.kind == 2) = false := by rw [hk]; rfl
    have d3 : (c.kind == 3) = false := by rw [hk]; rfl
    have d4 : (c.kind == 4) = true := by rw [hk]; rfl
    have hsh := isCred_short HM.out.2.1
    unfold credShort at hsh
    have HK := hid hk
    clear hk
    by_cases e1 : (c.b, who) ∈ F
    · have q1 := pin g F c.b who (w.alloc (.cells #[.int .i64 c.kind, .string ⟨c.head.1.toArray⟩, .string ⟨c.head.2.toArray⟩, .string ⟨c.who.toArray⟩, .string ⟨c.b.1.toArray⟩, .string ⟨c.b.2.toArray⟩, .string ⟨c.c.1.toArray⟩, .string ⟨c.c.2.toArray⟩, .string ⟨c.w2.toArray⟩] 47)) HM.out.1 ⟨by omega, by omega⟩ HM.out.2.2.1
      simp only [e1, decide_true] at q1
      have HQ := hid q1
      have HE1 := hid e1
      have HS := hid hsh
      clear q1 e1 hsh
      go_enter Tryz.func58, Tryz.ntmps58
      go_wp2_with fail
      refine HQ.out.mono ?_
      rintro e w2 ⟨rfl, hc2⟩
      have hb2 := blk_keep HA1.out.1 hc2 id
      obtain ⟨b0, b1, b2, b3, b4, b5, b6, b7, b8⟩ := cred_at_blk hb2
      simp only [Nat.zero_add] at b0 b1 b2 b3 b4 b5 b6 b7 b8
      by_cases e2 : (c.c, who) ∈ F
      · have q2 := pin g F c.c who w2 (HM.out.1.quiet hc2) ⟨by have := HS.out; omega, by have := HS.out; omega⟩ HM.out.2.2.1
        simp only [e2, decide_true] at q2
        have HQ2 := hid q2
        have HE2 := hid e2
        have HC2 := hid hc2
        have HB2 := hid hb2
        clear q2 e2 hc2 HQ hb2 c0 c1 c2 c3 c4 c5 c6 c7 c8
        go_wp2_with fail
        refine HQ2.out.mono ?_
        rintro e w3 ⟨rfl, hc3⟩
        have hb3 := blk_keep HB2.out hc3 id
        obtain ⟨c0, c1, c2, c3, c4, c5, c6, c7, c8⟩ := cred_at_blk hb3
        simp only [Nat.zero_add] at c0 c1 c2 c3 c4 c5 c6 c7 c8
        have HC3 := hid (HC2.out.trans hc3 (fun _ _ h => h))
        clear hb3 hc3 b0 b1 b2 b3 b4 b5 b6 b7 b8
        go_wp2
        go_ret
        refine ⟨some ⟨w3.heap.size, 0, none⟩, 1, [(c.head, who)], rfl, ?_, (HA1.out.2.trans HC3.out (fun _ _ h => h)).alloc _, fun f => ?_, by simp⟩
        · have hs1 := HA1.out.2.size
          have hs2 := HC3.out.size
          intro i hi
          have : i = 0 := by simp at hi; omega
          subst this
          exact ⟨_, 0, rfl, ⟨by omega, by simp⟩, fact_at_blk (f := (c.head, who)) (heap_alloc_new w3 _)⟩
        · have hk := HK.out
          obtain ⟨f1, f2⟩ := f
          rw [List.mem_singleton, Prod.mk.injEq]
          constructor
          · rintro ⟨h1, h2⟩
            exact ⟨h1, .inr (.inr ⟨hk, h2, HE1.out, HE2.out⟩)⟩
          · rintro ⟨h1, h2⟩
            rcases h2 with ⟨k, _⟩ | ⟨k, _⟩ | ⟨_, h2, _⟩
            · omega
            · omega
            · exact ⟨h1, h2⟩
      · have q2 := pin g F c.c who w2 (HM.out.1.quiet hc2) ⟨by have := HS.out; omega, by have := HS.out; omega⟩ HM.out.2.2.1
        simp only [e2, decide_false] at q2
        have HQ2 := hid q2
        have HE2 := hid e2
        have HC2 := hid hc2
        have HB2 := hid hb2
        clear q2 e2 hc2 HQ hb2 c0 c1 c2 c3 c4 c5 c6 c7 c8
        go_wp2_with fail
        refine HQ2.out.mono ?_
        rintro e w3 ⟨rfl, hc3⟩
        have HC3 := hid (HC2.out.trans hc3 (fun _ _ h => h))
        clear hc3 b0 b1 b2 b3 b4 b5 b6 b7 b8
        go_wp2
        go_ret
        refine ⟨none, 0, [], rfl, FactsAt.nil _ _ _, HA1.out.2.trans HC3.out (fun _ _ h => h), fun f => ⟨fun h => (by cases h), fun h => ?_⟩, by simp⟩
        have hk := HK.out
        rcases h.2 with ⟨k, _⟩ | ⟨k, _⟩ | ⟨_, _, _, h2⟩
        · omega
        · omega
        · exact (HE2.out h2).elim
    · have q1 := pin g F c.b who (w.alloc (.cells #[.int .i64 c.kind, .string ⟨c.head.1.toArray⟩, .string ⟨c.head.2.toArray⟩, .string ⟨c.who.toArray⟩, .string ⟨c.b.1.toArray⟩, .string ⟨c.b.2.toArray⟩, .string ⟨c.c.1.toArray⟩, .string ⟨c.c.2.toArray⟩, .string ⟨c.w2.toArray⟩] 47)) HM.out.1 ⟨by omega, by omega⟩ HM.out.2.2.1
      simp only [e1, decide_false] at q1
      have HQ := hid q1
      have HE1 := hid e1
      clear q1 e1 hsh
      go_enter Tryz.func58, Tryz.ntmps58
      go_wp2_with fail
      refine HQ.out.mono ?_
      rintro e w2 ⟨rfl, hc2⟩
      have HC2 := hid hc2
      clear hc2 c0 c1 c2 c3 c4 c5 c6 c7 c8
      go_wp2
      go_ret
      refine ⟨none, 0, [], rfl, FactsAt.nil _ _ _, HA1.out.2.trans HC2.out (fun _ _ h => h), fun f => ⟨fun h => (by cases h), fun h => ?_⟩, by simp⟩
      have hk := HK.out
      rcases h.2 with ⟨k, _⟩ | ⟨k, _⟩ | ⟨_, _, h2, _⟩
      · omega
      · omega
      · exact (HE1.out h2).elim
end Go.Proofs.YtanompfdjfgfbaaGreat

/- The contract of the program's IsSet. -/
namespace Go.Proofs.YtanompfdjfgfbaaGreat
open Go.RowKit

/-- Is the i-th one right, and behind the one before it? -/
def stepS (ls : List (List UInt8)) (i : Nat) : Bool := isName (ls.getD i []) && (decide (i = 0) || ltS (ls.getD (i - 1) []) (ls.getD i []))
/-- Is it a set of names? -/
def isSetB (ls : List (List UInt8)) : Bool := (List.range ls.length).all (stepS ls)
def upTo (ls : List (List UInt8)) (k : Nat) : Bool := (List.range k).all (stepS ls)

theorem upTo_succ (ls : List (List UInt8)) (k : Nat) : upTo ls (k + 1) = (upTo ls k && stepS ls k) := by
  simp [upTo, List.range_succ]

theorem isSetB_bad (ls : List (List UInt8)) (k : Nat) (h : k < ls.length) (hb : stepS ls k = false) : isSetB ls = false := by
  rw [isSetB, List.all_eq_false]
  exact ⟨k, List.mem_range.2 h, by simp [hb]⟩

theorem isSetB_cons (x : List UInt8) (l : List (List UInt8)) (h : isSetB (x :: l) = true) : isSetB l = true ∧ isName x = true ∧ (∀ y ∈ l.head?, ltS x y = true) := by
  simp only [isSetB, List.all_eq_true, List.mem_range] at h
  refine ⟨?_, ?_, ?_⟩
  · simp only [isSetB, List.all_eq_true, List.mem_range]
    intro i hi
    have h1 := h (i + 1) (by simp; omega)
    simp only [stepS, List.getD_cons_succ, Bool.and_eq_true, Bool.or_eq_true, decide_eq_true_eq] at h1 ⊢
    refine ⟨h1.1, ?_⟩
    cases i with
    | zero => exact .inl rfl
    | succ j =>
      rcases h1.2 with h2 | h2
      · omega
      · exact .inr (by simpa using h2)
  · have h1 := h 0 (by simp)
    simp [stepS] at h1
    exact h1
  · intro y hy
    cases l with
    | nil => simp at hy
    | cons z l =>
      have h1 := h 1 (by simp)
      simp [stepS] at h1 hy
      rw [← hy]
      exact h1.2

theorem isSetB_rising : ∀ (ls : List (List UInt8)), isSetB ls = true → Rising ls ∧ ∀ x ∈ ls, isName x = true
  | [], _ => ⟨trivial, fun _ h => by cases h⟩
  | [x], h => ⟨⟨(fun _ h => by cases h), trivial⟩, fun y hy => by rw [List.mem_singleton.1 hy]; exact (isSetB_cons x [] h).2.1⟩
  | x :: z :: l, h => by
    obtain ⟨h1, h2, h3⟩ := isSetB_cons x (z :: l) h
    obtain ⟨h4, h5⟩ := isSetB_rising (z :: l) h1
    have hz := h3 z (by simp)
    refine ⟨⟨fun y hy => ?_, h4⟩, fun y hy => ?_⟩
    · rcases List.mem_cons.1 hy with rfl | k
      · exact hz
      · exact ltS_trans _ _ _ hz (h4.1 y k)
    · rcases List.mem_cons.1 hy with rfl | k
      · exact h2
      · exact h5 y k

theorem Rising.lt : ∀ {ls : List (List UInt8)}, Rising ls → ∀ (i j : Nat) (hj : j < ls.length) (hi : i < j), ltS (ls[i]'(Nat.lt_trans hi hj)) ls[j] = true
  | [], _, _, _, hj, _ => by simp at hj
  | x :: l, h, 0, j + 1, hj, _ => h.1 _ (by simp)
  | x :: l, h, i + 1, j + 1, hj, hi => h.2.lt i j (by simpa using hj) (by omega)

theorem isSetB_of (ls : List (List UInt8)) (h : Rising ls) (hn : ∀ x ∈ ls, isName x = true) : isSetB ls = true := by
  simp only [isSetB, List.all_eq_true, List.mem_range]
  intro i hi
  have e : ls.getD i [] = ls[i] := by simp [List.getD, hi]
  simp only [stepS, Bool.and_eq_true, Bool.or_eq_true, decide_eq_true_eq]
  refine ⟨by rw [e]; exact hn _ (List.getElem_mem hi), ?_⟩
  by_cases h0 : i = 0
  · exact .inl h0
  · have e1 : ls.getD (i - 1) [] = ls[i - 1]'(by omega) := by simp [List.getD, show i - 1 < ls.length by omega]
    exact .inr (by rw [e, e1]; exact h.lt (i - 1) i hi (by omega))

/-- A list is a set just where it is its own. -/
theorem isSetB_iff {ls s : List (List UInt8)} (h : SetOf ls s) : isSetB ls = sameS ls s := by
  cases hb : isSetB ls with
  | true =>
    obtain ⟨h1, h2⟩ := isSetB_rising ls hb
    have : ls = s := SetOf.one (ls := ls) ⟨h1, fun x => ⟨fun k => ⟨k, h2 x k⟩, fun k => k.1⟩⟩ h
    simp [sameS, ← this]
  | false =>
    cases hs : sameS ls s with
    | false => rfl
    | true =>
      have e : ls = s := by simpa [sameS] using hs
      have := isSetB_of ls (e ▸ h.1) (fun x hx => ((h.2 x).1 (e ▸ hx)).2)
      rw [hb] at this
      cases this

end Go.Proofs.YtanompfdjfgfbaaGreat

/- Sorted and compacted: the set; what a search in a set comes to. Plain words, nothing of the program's text. -/
namespace Go.Proofs.YtanompfdjfgfbaaGreat
open Go.RowKit

theorem ltS_eq : ∀ (x y : List UInt8), ltS x y = decide (x < y)
  | [], [] => by simp [ltS_nil]
  | _ :: _, [] => by simp [ltS_nil]
  | [], _ :: _ => by simp [ltS_nil_cons]
  | x :: xs, y :: ys => by
    rw [ltS_cons, ltS_eq xs ys]
    by_cases h : x < y
    · simp [h, List.cons_lt_cons_iff]
    · by_cases e : x = y
      · subst e; simp
      · simp [h, e, List.cons_lt_cons_iff]

theorem le_ltS (x y : List UInt8) : decide (x ≤ y) = !ltS y x := by
  rw [ltS_eq]
  by_cases h : y < x
  · simp [h]
  · simp [h, List.not_lt.1 h]

/-- In order, some more than once. -/
def sortS (l : List (List UInt8)) : List (List UInt8) := l.mergeSort fun x y => decide (x ≤ y)
theorem sortS_length (l : List (List UInt8)) : (sortS l).length = l.length := List.length_mergeSort l
theorem sortS_mem (l : List (List UInt8)) (x : List UInt8) : x ∈ sortS l ↔ x ∈ l := (List.mergeSort_perm l _).mem_iff
theorem sortS_sorted (l : List (List UInt8)) : (sortS l).Pairwise fun x y => ltS y x = false := by
  have h : (sortS l).Pairwise fun x y => decide (x ≤ y) = true := by
    refine List.pairwise_mergeSort (fun a b c h1 h2 => ?_) (fun a b => ?_) l
    · rw [le_ltS] at *
      simp only [Bool.not_eq_true'] at *
      cases hx : ltS c a with
      | false => rfl
      | true =>
        rcases ltS_tri a b with k | k | k
        · have := ltS_trans _ _ _ hx k; rw [h2] at this; cases this
        · subst k; rw [hx] at h2; cases h2
        · rw [k] at h1; cases h1
    · rw [le_ltS, le_ltS]
      cases h1 : ltS b a with
      | false => rfl
      | true =>
        cases h2 : ltS a b with
        | false => rfl
        | true => have := ltS_trans _ _ _ h1 h2; rw [ltS_irrefl] at this; cases this
  exact h.imp fun {a b} k => by rw [le_ltS] at k; simpa using k

/-- What is kept, so far. -/
theorem compact_inv (d : List (List UInt8)) (hs : d.Pairwise fun x y => ltS y x = false) : ∀ m, m ≤ d.length →
    Rising (Lib.compactUpTo d.toArray m) ∧ (∀ y, y ∈ Lib.compactUpTo d.toArray m ↔ y ∈ d.take m)
  | 0, _ => ⟨trivial, fun y => by simp [Lib.compactUpTo]⟩
  | m + 1, h => by
    obtain ⟨h1, h2⟩ := compact_inv d hs m (by omega)
    have hm : m < d.length := by omega
    have hg : d.toArray[m]! = d[m] := by simp [hm]
    rw [Lib.compactUpTo_succ, hg]
    by_cases h0 : m = 0
    · subst h0
      have : Lib.keeps d.toArray 0 = true := by simp [Lib.keeps]
      rw [this, if_pos rfl]
      have e : Lib.compactUpTo d.toArray 0 = [] := rfl
      rw [e]
      refine ⟨⟨(fun _ h => by cases h), trivial⟩, fun y => ?_⟩
      rw [List.take_succ_eq_append_getElem hm]
      simp
    · have hp : m - 1 < d.length := by omega
      have hg1 : d.toArray[m - 1]! = d[m - 1] := by simp [hp]
      have hle : ltS d[m] d[m - 1] = false := List.pairwise_iff_getElem.1 hs (m - 1) m hp hm (by omega)
      have hmem : d[m - 1] ∈ d.take m := List.mem_take_iff_getElem.2 ⟨m - 1, by omega, rfl⟩
      by_cases hk : Lib.keeps d.toArray m = true
      · rw [hk, if_pos rfl]
        have hne : d[m] ≠ d[m - 1] := by
          have : m = 0 ∨ d.toArray[m]! ≠ d.toArray[m - 1]! := by simpa [Lib.keeps] using hk
          rw [hg, hg1] at this
          exact this.resolve_left h0
        have hlt : ltS d[m - 1] d[m] = true := by
          rcases ltS_tri d[m - 1] d[m] with k | k | k
          · exact k
          · exact absurd k.symm hne
          · rw [hle] at k; cases k
        refine ⟨h1.snoc fun y hy => ?_, fun y => ?_⟩
        · obtain ⟨j, hj, rfl⟩ := List.mem_take_iff_getElem.1 ((h2 y).1 hy)
          by_cases hjm : j = m - 1
          · subst hjm; exact hlt
          · have hjl : ltS d[m - 1] d[j] = false := List.pairwise_iff_getElem.1 hs j (m - 1) (by omega) hp (by omega)
            rcases ltS_tri d[j] d[m - 1] with k | k | k
            · exact ltS_trans _ _ _ k hlt
            · rw [k]; exact hlt
            · rw [hjl] at k; cases k
        · rw [List.take_succ_eq_append_getElem hm]
          simp only [List.mem_append, h2 y]
      · have hk' : Lib.keeps d.toArray m = false := by simpa using hk
        rw [hk', if_neg (by simp), List.append_nil]
        have he : d[m] = d[m - 1] := by
          have : ¬ (m = 0 ∨ d.toArray[m]! ≠ d.toArray[m - 1]!) := by simpa [Lib.keeps] using hk'
          rw [hg, hg1] at this
          simp only [not_or, Decidable.not_not] at this
          exact this.2
        refine ⟨h1, fun y => ?_⟩
        rw [List.take_succ_eq_append_getElem hm, h2 y]
        simp only [List.mem_append, List.mem_singleton]
        exact ⟨.inl, fun k => k.elim id fun e => by rw [e, he]; exact hmem⟩

theorem compact_set (ls : List (List UInt8)) : SetOf ls (Lib.compact (sortS (ls.filter isName))) := by
  obtain ⟨h1, h2⟩ := compact_inv (sortS (ls.filter isName)) (sortS_sorted _) _ (Nat.le_refl _)
  refine ⟨h1, fun x => ?_⟩
  rw [List.take_of_length_le (Nat.le_refl _)] at h2
  rw [show Lib.compact (sortS (ls.filter isName)) = Lib.compactUpTo (sortS (ls.filter isName)).toArray (sortS (ls.filter isName)).length from rfl, h2 x, sortS_mem, List.mem_filter]

/-- How many are less. -/
def lessN (l : List (List UInt8)) (s : List UInt8) : Nat := (l.takeWhile fun x => ltS x s).length

theorem lessN_le (l : List (List UInt8)) (s : List UInt8) : lessN l s ≤ l.length := by
  induction l with
  | nil => simp [lessN]
  | cons x l ih =>
    simp only [lessN, List.takeWhile_cons]
    split
    · simp only [lessN] at ih; simp; omega
    · simp

theorem lessN_lt : ∀ (l : List (List UInt8)) (s : List UInt8) (t : Nat), t < lessN l s → ltS (l.getD t []) s = true
  | [], s, t, h => by simp [lessN] at h
  | x :: l, s, t, h => by
    simp only [lessN, List.takeWhile_cons] at h
    split at h
    · rename_i hx
      cases t with
      | zero => simpa using hx
      | succ t => simpa using lessN_lt l s t (by simpa [lessN] using h)
    · simp at h

theorem lessN_ge : ∀ (l : List (List UInt8)) (s : List UInt8) (t : Nat), Rising l → lessN l s ≤ t → t < l.length → ltS (l.getD t []) s = false
  | [], s, t, _, _, h => by simp at h
  | x :: l, s, t, hr, h, hl => by
    simp only [lessN, List.takeWhile_cons] at h
    split at h
    · cases t with
      | zero => simp at h
      | succ t => simpa using lessN_ge l s t hr.2 (by simpa [lessN] using h) (by simpa using hl)
    · rename_i hx
      have hx : ltS x s = false := by simpa using hx
      cases t with
      | zero => simpa using hx
      | succ t =>
        have hl' : t < l.length := by simpa using hl
        have e : (x :: l).getD (t + 1) [] = l[t] := by simp [List.getD, hl']
        rw [e]
        cases hk : ltS l[t] s with
        | false => rfl
        | true =>
          have := ltS_trans _ _ _ (hr.1 _ (List.getElem_mem hl')) hk
          rw [hx] at this; cases this

/-- Is the one behind those the one that is looked for? Just where it is in the set. -/
theorem lessN_has {l : List (List UInt8)} (s : List UInt8) (hr : Rising l) : (decide (lessN l s < l.length) && l.getD (lessN l s) [] == s) = hasS l s := by
  cases hh : hasS l s with
  | true =>
    have hm : s ∈ l := by simpa [hasS] using hh
    obtain ⟨j, hj, e⟩ := List.getElem_of_mem hm
    have ej : l.getD j [] = s := by simp [List.getD, hj, e]
    have h1 : ¬ j < lessN l s := fun k => by have := lessN_lt l s j k; rw [ej, ltS_irrefl] at this; cases this
    have h2 : ¬ lessN l s < j := fun k => by
      have h3 := lessN_ge l s (lessN l s) hr (Nat.le_refl _) (by omega)
      have e2 : l.getD (lessN l s) [] = l[lessN l s]'(by omega) := by simp [List.getD, show lessN l s < l.length by omega]
      have h4 := hr.lt (lessN l s) j hj k
      rw [e2] at h3
      rw [e, h3] at h4
      cases h4
    have h5 : lessN l s = j := by omega
    rw [h5, ej]
    simp [hj]
  | false =>
    have hm : ¬ s ∈ l := by simpa [hasS] using hh
    by_cases hl : lessN l s < l.length
    · have e2 : l.getD (lessN l s) [] = l[lessN l s] := by simp [List.getD, hl]
      rw [e2]
      have : l[lessN l s] ≠ s := fun e => hm (e ▸ List.getElem_mem hl)
      simp [this]
    · simp [hl]

theorem go_lessN (l : List (List UInt8)) (s : List UInt8) (hr : Rising l) :
    Lib.bsGo (fun t => ltS (l.getD t []) s) l.length 0 l.length = lessN l s := by
  have := Lib.bsGo_spec (fun t => decide (t < l.length) && ltS (l.getD t []) s) (lessN l s) (fun t ht => by have := lessN_le l s; have h := lessN_lt l s t ht; rw [h, decide_eq_true (show t < l.length by omega)]; rfl)
    (fun t ht => by
      by_cases hl : t < l.length
      · have := lessN_ge l s t hr ht hl
        rw [this, Bool.and_false]
      · simp [hl]) l.length 0 l.length (by omega) (Nat.zero_le _) (lessN_le l s)
  rw [← this]
  -- below the length the two tests say the same
  have gen : ∀ (f lo hi : Nat), hi ≤ l.length → Lib.bsGo (fun t => ltS (l.getD t []) s) f lo hi = Lib.bsGo (fun t => decide (t < l.length) && ltS (l.getD t []) s) f lo hi := by
    intro f
    induction f with
    | zero => intros; rfl
    | succ f ih =>
      intro lo hi hh
      unfold Lib.bsGo
      by_cases h : lo < hi
      · rw [if_pos h, if_pos h, ih _ _ hh, ih _ ((lo + hi) / 2) (by omega)]
        have : decide ((lo + hi) / 2 < l.length) = true := decide_eq_true (by omega)
        simp only [this, Bool.true_and]
      · rw [if_neg h, if_neg h]
  exact gen _ _ _ (Nat.le_refl _)

end Go.Proofs.YtanompfdjfgfbaaGreat

/-
  DERIVED: THE SHELF's CONTRACTS AT THIS DUMP, IN PLAIN WORDS (tools/lay-plain.mjs out of 'TryzShelfI.lean', which tools/lay-shelf.mjs wrote): THE SAME DECLARATIONS UNDER THE SAME NAMES: 'import', 'namespace', 'open', 'def', 'theorem' AND NOTHING ELSE: no command of the shelf's: FOR A HAND-IN. Each laying: the table of numbers ('.._ren') and one theorem, a field a fact of the dump's own or the kernel's comparison; each contract: ONE APPLICATION.
-/
namespace Go.Proofs
open Go.Shelf
def Tryz.keysI_ren : Go.Shelf.Ren := ⟨fun | 7 => 31 | 10 => 51 | n => n, fun | 23 => 66 | 26 => 9 | 3 => 68 | 28 => 72 | 0 => 0 | 27 => 71 | 33 => 90 | 4 => 4 | n => n, fun | n => n⟩
theorem Tryz.keysI : Go.Proofs.SlLaysZ.n7 Tryz.prog Tryz.keysI_ren := {
  mixed := by kernel_rfl
  f7 := ⟨Tryz.f31.name, by decide, Tryz.func31.trans (congrArg some (by kernel_rfl))⟩
  f10 := ⟨Tryz.f51.name, by decide, Tryz.func51.trans (congrArg some (by kernel_rfl))⟩
  t0 := Tryz.underlying0
  a0 := Tryz.isAgg0
  z0 := Tryz.sizeOf0
  v0 := Tryz.zeroValue0
  t4 := Tryz.underlying4
  a4 := Tryz.isAgg4
  z4 := Tryz.sizeOf4
  v4 := Tryz.zeroValue4
  t23 := Tryz.underlying66
  a23 := Tryz.isAgg66
  z23 := Tryz.sizeOf66
  v23 := Tryz.zeroValue66
  t26 := Tryz.underlying9
  a26 := Tryz.isAgg9
  z26 := Tryz.sizeOf9
  v26 := Tryz.zeroValue9
  t27 := Tryz.underlying71
  a27 := Tryz.isAgg71
  z27 := Tryz.sizeOf71
  v27 := Tryz.zeroValue71
  t28 := Tryz.underlying72
  a28 := Tryz.isAgg72
  z28 := Tryz.sizeOf72
  v28 := Tryz.zeroValue72
  t33 := Tryz.underlying90
  a33 := Tryz.isAgg90
  z33 := Tryz.sizeOf90
  v33 := Tryz.zeroValue90 }
def Tryz.sortedI_ren : Go.Shelf.Ren := ⟨fun | 6 => 30 | 8 => 49 | 9 => 50 | 11 => 75 | 13 => 73 | 12 => 76 | 23 => 90 | 24 => 91 | 14 => 93 | 15 => 94 | 16 => 95 | 17 => 96 | 18 => 97 | 19 => 98 | 20 => 99 | 21 => 100 | 22 => 101 | 25 => 110 | 26 => 106 | 27 => 107 | 28 => 111 | 29 => 112 | 30 => 113 | 31 => 115 | n => n, fun | 26 => 9 | 28 => 72 | 24 => 36 | 0 => 0 | 3 => 3 | 37 => 103 | 48 => 119 | 50 => 121 | 4 => 4 | 40 => 112 | 39 => 111 | 45 => 116 | 5 => 5 | 9 => 9 | 51 => 131 | 55 => 135 | 57 => 140 | 58 => 141 | 33 => 90 | n => n, fun | n => n⟩
theorem Tryz.sortedI : Go.Proofs.SlLaysZ.n6 Tryz.prog Tryz.sortedI_ren := {
  mixed := by kernel_rfl
  f6 := ⟨Tryz.f30.name, by decide, Tryz.func30.trans (congrArg some (by kernel_rfl))⟩
  f8 := ⟨Tryz.f49.name, by decide, Tryz.func49.trans (congrArg some (by kernel_rfl))⟩
  f11 := ⟨Tryz.f75.name, by decide, Tryz.func75.trans (congrArg some (by kernel_rfl))⟩
  t0 := Tryz.underlying0
  a0 := Tryz.isAgg0
  z0 := Tryz.sizeOf0
  v0 := Tryz.zeroValue0
  t24 := Tryz.underlying36
  a24 := Tryz.isAgg36
  z24 := Tryz.sizeOf36
  v24 := Tryz.zeroValue36
  t26 := Tryz.underlying9
  a26 := Tryz.isAgg9
  z26 := Tryz.sizeOf9
  v26 := Tryz.zeroValue9
  t28 := Tryz.underlying72
  a28 := Tryz.isAgg72
  z28 := Tryz.sizeOf72
  v28 := Tryz.zeroValue72
  i26 := by kernel_rfl }
def Tryz.sortI_ren : Go.Shelf.Ren := ⟨fun | 6 => 50 | 8 => 73 | 9 => 76 | 19 => 90 | 20 => 91 | 21 => 93 | 22 => 94 | 23 => 95 | 24 => 96 | 25 => 97 | 26 => 98 | 27 => 99 | 28 => 100 | 29 => 101 | 36 => 110 | 31 => 106 | 32 => 107 | 37 => 111 | 38 => 112 | 39 => 113 | 41 => 115 | n => n, fun | 27 => 36 | 29 => 9 | 3 => 3 | 32 => 103 | 26 => 36 | 0 => 0 | 44 => 119 | 46 => 121 | 4 => 4 | 36 => 112 | 35 => 111 | 41 => 116 | 5 => 5 | 9 => 9 | 53 => 131 | 57 => 135 | 63 => 140 | 64 => 141 | n => n, fun | n => n⟩
theorem Tryz.sortI : Go.Proofs.SlLaysM.n6 Tryz.prog Tryz.sortI_ren := {
  mixed := by kernel_rfl
  f6 := ⟨Tryz.f50.name, by decide, Tryz.func50.trans (congrArg some (by kernel_rfl))⟩
  f8 := Tryz.func73.trans (congrArg some (by kernel_rfl))
  f9 := ⟨Tryz.f76.name, by decide, Tryz.func76.trans (congrArg some (by kernel_rfl))⟩
  f19 := Tryz.func90.trans (congrArg some (by kernel_rfl))
  f20 := Tryz.func91.trans (congrArg some (by kernel_rfl))
  f21 := ⟨Tryz.f93.name, by decide, Tryz.func93.trans (congrArg some (by kernel_rfl))⟩
  f22 := ⟨Tryz.f94.name, by decide, Tryz.func94.trans (congrArg some (by kernel_rfl))⟩
  f23 := ⟨Tryz.f95.name, by decide, Tryz.func95.trans (congrArg some (by kernel_rfl))⟩
  f24 := ⟨Tryz.f96.name, by decide, Tryz.func96.trans (congrArg some (by kernel_rfl))⟩
  f25 := ⟨Tryz.f97.name, by decide, Tryz.func97.trans (congrArg some (by kernel_rfl))⟩
  f26 := ⟨Tryz.f98.name, by decide, Tryz.func98.trans (congrArg some (by kernel_rfl))⟩
  f27 := ⟨Tryz.f99.name, by decide, Tryz.func99.trans (congrArg some (by kernel_rfl))⟩
  f28 := ⟨Tryz.f100.name, by decide, Tryz.func100.trans (congrArg some (by kernel_rfl))⟩
  f29 := ⟨Tryz.f101.name, by decide, Tryz.func101.trans (congrArg some (by kernel_rfl))⟩
  f31 := Tryz.func106.trans (congrArg some (by kernel_rfl))
  f32 := Tryz.func107.trans (congrArg some (by kernel_rfl))
  f36 := ⟨Tryz.f110.name, by decide, Tryz.func110.trans (congrArg some (by kernel_rfl))⟩
  f37 := ⟨Tryz.f111.name, by decide, Tryz.func111.trans (congrArg some (by kernel_rfl))⟩
  f38 := ⟨Tryz.f112.name, by decide, Tryz.func112.trans (congrArg some (by kernel_rfl))⟩
  f39 := ⟨Tryz.f113.name, by decide, Tryz.func113.trans (congrArg some (by kernel_rfl))⟩
  f41 := ⟨Tryz.f115.name, by decide, Tryz.func115.trans (congrArg some (by kernel_rfl))⟩
  t0 := Tryz.underlying0
  a0 := Tryz.isAgg0
  z0 := Tryz.sizeOf0
  v0 := Tryz.zeroValue0
  t3 := Tryz.underlying3
  a3 := Tryz.isAgg3
  z3 := Tryz.sizeOf3
  v3 := Tryz.zeroValue3
  t4 := Tryz.underlying4
  a4 := Tryz.isAgg4
  z4 := Tryz.sizeOf4
  v4 := Tryz.zeroValue4
  t5 := Tryz.underlying5
  a5 := Tryz.isAgg5
  z5 := Tryz.sizeOf5
  v5 := Tryz.zeroValue5
  t9 := Tryz.underlying9
  a9 := Tryz.isAgg9
  z9 := Tryz.sizeOf9
  v9 := Tryz.zeroValue9
  t26 := Tryz.underlying36
  a26 := Tryz.isAgg36
  z26 := Tryz.sizeOf36
  v26 := Tryz.zeroValue36
  t27 := Tryz.underlying36
  a27 := Tryz.isAgg36
  z27 := Tryz.sizeOf36
  v27 := Tryz.zeroValue36
  t29 := Tryz.underlying9
  a29 := Tryz.isAgg9
  z29 := Tryz.sizeOf9
  v29 := Tryz.zeroValue9
  t32 := Tryz.underlying103
  a32 := Tryz.isAgg103
  z32 := Tryz.sizeOf103
  v32 := Tryz.zeroValue103
  t35 := Tryz.underlying111
  a35 := Tryz.isAgg111
  z35 := Tryz.sizeOf111
  v35 := Tryz.zeroValue111
  t36 := Tryz.underlying112
  a36 := Tryz.isAgg112
  z36 := Tryz.sizeOf112
  v36 := Tryz.zeroValue112
  t41 := Tryz.underlying116
  a41 := Tryz.isAgg116
  z41 := Tryz.sizeOf116
  v41 := Tryz.zeroValue116
  t44 := Tryz.underlying119
  a44 := Tryz.isAgg119
  z44 := Tryz.sizeOf119
  v44 := Tryz.zeroValue119
  t46 := Tryz.underlying121
  a46 := Tryz.isAgg121
  z46 := Tryz.sizeOf121
  v46 := Tryz.zeroValue121
  t53 := Tryz.underlying131
  a53 := Tryz.isAgg131
  z53 := Tryz.sizeOf131
  v53 := Tryz.zeroValue131
  t57 := Tryz.underlying135
  a57 := Tryz.isAgg135
  z57 := Tryz.sizeOf135
  v57 := Tryz.zeroValue135
  t63 := Tryz.underlying140
  a63 := Tryz.isAgg140
  z63 := Tryz.sizeOf140
  v63 := Tryz.zeroValue140
  t64 := Tryz.underlying141
  a64 := Tryz.isAgg141
  z64 := Tryz.sizeOf141
  v64 := Tryz.zeroValue141 }
end Go.Proofs

/- The library's contract of slices.Sorted at what maps.Keys hands back, at this program. -/
namespace Go.Proofs
open Go.RowKit Go.Maps Go.Sort Go.Shelf


theorem Tryz.sortsI (m : Nat) : AnyZ.SortsIn Tryz.prog Tryz.sortedI_ren Fence.wide m :=
  ⟨fun blk off cap ss W hH hblk hsz => callsIn_wide.2 (AnyM.slices_Sort_string Tryz.sortI blk off cap ss W hH hblk hsz),
   fun p cap W => callsIn_wide.2 (AnyM.slices_Sort_string_none Tryz.sortI p cap W)⟩

theorem Tryz.maps_Keys_m (mb : Option Nat) (W : World) : CallsIn Fence.wide 5 Tryz.prog 31 #[.map mb] W fun e w' => e = .returned (.func (.func 51) #[] #[.pointer (some ⟨W.heap.size, 0, none⟩)]) ∧ w' = W.alloc (.cells #[.map mb] 66) :=
  AnyZ.keys_in Tryz.keysI Fence.wide 5 trivial rfl mb W

set_option maxHeartbeats 1000000 in
theorem Tryz.slices_Sorted_keys_m {H : Type} (b nn : Nat) (D0 : DataW H) (R : Value → Option (DataW H × List MemPlace)) (w : World) (hown : w.ownsMap Tryz.prog 9 R b nn D0) (hmax : Maps.size D0 ≤ maxLen) (hbytes : Maps.size D0 * 16 ≤ 140737488355328) :
    CallsIn Fence.wide 5 Tryz.prog 30 #[.func (.func 51) #[] #[.pointer (some ⟨w.heap.size, 0, none⟩)]] (w.alloc (.cells #[.map (some b)] 66)) fun e w' => ∃ (v : Value) (ss : List (List UInt8)), e = .returned v ∧ ss.Perm (strKeys D0) ∧
      w'.ownsRow (w.alloc (.cells #[.map (some b)] 66)).heap.size 9 1 v ss.length ((ss.mergeSort (fun x y => decide (x ≤ y))).map encStr) ∧ (v = .slice none 0 0 ↔ ss = []) ∧ Below (w.alloc (.cells #[.map (some b)] 66)).heap.size (w.alloc (.cells #[.map (some b)] 66)) w' := by
  have hbl := hown.lt
  have hseq : SeqGives Fence.wide 2 Tryz.prog 51 #[.pointer (some ⟨w.heap.size, 0, none⟩)] encStr (fun ss => ss.Perm (strKeys D0)) (Maps.size D0) (w.alloc (.cells #[.map (some b)] 66)) :=
    AnyZ.keys_gives (ρ := Tryz.keysI_ren) { Tryz.keysI with } Fence.wide _ trivial rfl (by omega) w.heap.size b nn D0 _ (by simp) (by simp) (by
      obtain ⟨es, clock, hb, Ft, hs, hD⟩ := hown
      exact ⟨es, clock, (Below.heap_alloc _ _ b hbl).trans hb, Ft, hs, hD⟩)
  exact AnyZ.sorted_in Tryz.sortedI Fence.wide 5 trivial trivial trivial trivial rfl (by omega) (Tryz.sortsI _) (enters_of Tryz.func50 (by kernel_rfl) rfl) 51 #[.pointer (some ⟨w.heap.size, 0, none⟩)] trivial (enters_of Tryz.func51 (by kernel_rfl) rfl) _ _ hmax hbytes _ hseq

end Go.Proofs

/- slices.Sorted of maps.Keys, at whatever world; the names of a set. -/
namespace Go.Proofs.YtanompfdjfgfbaaGreat
open Go.RowKit Go.Maps Go.Sort Go.Shelf

set_option maxHeartbeats 1000000 in
theorem sorted_some {H : Type} (Bm b nn : Nat) (D0 : DataW H) (R : Value → Option (DataW H × List MemPlace)) (w : World) (hBm : Bm < w.heap.size) (hm : w.cell? ⟨Bm, 0, none⟩ = some (.map (some b))) (hown : w.ownsMap Tryz.prog 9 R b nn D0) (hmax : Maps.size D0 ≤ maxLen) (hbytes : Maps.size D0 * 16 ≤ 140737488355328) :
    CallsIn Fence.wide 5 Tryz.prog 30 #[.func (.func 51) #[] #[.pointer (some ⟨Bm, 0, none⟩)]] w fun e w' => ∃ (v : Value) (ss : List (List UInt8)), e = .returned v ∧ ss.Perm (strKeys D0) ∧
      w'.ownsRow w.heap.size 9 1 v ss.length ((ss.mergeSort (fun x y => decide (x ≤ y))).map encStr) ∧ (v = .slice none 0 0 ↔ ss = []) ∧ Below w.heap.size w w' := by
  have hseq : SeqGives Fence.wide 2 Tryz.prog 51 #[.pointer (some ⟨Bm, 0, none⟩)] encStr (fun ss => ss.Perm (strKeys D0)) (Maps.size D0) w :=
    AnyZ.keys_gives (ρ := Tryz.keysI_ren) { Tryz.keysI with } Fence.wide _ trivial rfl (by omega) Bm b nn D0 _ hBm hm hown
  exact AnyZ.sorted_in Tryz.sortedI Fence.wide 5 trivial trivial trivial trivial rfl (by omega) (Tryz.sortsI _) (enters_of Tryz.func50 (by kernel_rfl) rfl) 51 #[.pointer (some ⟨Bm, 0, none⟩)] trivial (enters_of Tryz.func51 (by kernel_rfl) rfl) _ _ hmax hbytes _ hseq

set_option maxHeartbeats 1000000 in
theorem sorted_nil (Bm : Nat) (w : World) (hBm : Bm < w.heap.size) (hm : w.cell? ⟨Bm, 0, none⟩ = some (.map none)) :
    CallsIn Fence.wide 5 Tryz.prog 30 #[.func (.func 51) #[] #[.pointer (some ⟨Bm, 0, none⟩)]] w fun e w' => ∃ (v : Value) (ss : List (List UInt8)), e = .returned v ∧ ss = [] ∧
      w'.ownsRow w.heap.size 9 1 v ss.length ((ss.mergeSort (fun x y => decide (x ≤ y))).map encStr) ∧ (v = .slice none 0 0 ↔ ss = []) ∧ Below w.heap.size w w' := by
  have hseq : SeqGives Fence.wide 2 Tryz.prog 51 #[.pointer (some ⟨Bm, 0, none⟩)] encStr (fun ss : List (List UInt8) => ss = []) 0 w :=
    AnyZ.keys_gives_nil (ρ := Tryz.keysI_ren) { Tryz.keysI with } Fence.wide _ trivial rfl Bm _ hBm hm
  exact AnyZ.sorted_in Tryz.sortedI Fence.wide 5 trivial trivial trivial trivial rfl (by omega) (Tryz.sortsI _) (enters_of Tryz.func50 (by kernel_rfl) rfl) 51 #[.pointer (some ⟨Bm, 0, none⟩)] trivial (enters_of Tryz.func51 (by kernel_rfl) rfl) _ 0 (Nat.zero_le _) (by omega) _ hseq

/-- The names of a set, as the map's own words have them. -/
theorem KM.names {R : Value → Option (DataW Value × List MemPlace)} {w : World} {mb : Nat} {l : List (List UInt8)} {M : DataW Value} (h : KM ktS R w mb l M) : l.Perm (strKeys M) ∧ Maps.size M ≤ l.length := by
  refine ⟨?_, h.own.size_le⟩
  obtain ⟨es, rfl, hp⟩ := h.own.tidy ktS.keyed
  obtain ⟨es', he', hk⟩ := h.own.keysOf
  cases he'
  have hstr : ∀ p ∈ es, ∃ x, p.1 = .string x := fun p hp' => by
    obtain ⟨v, hv⟩ := hk p hp'
    obtain ⟨x, _, hx, _⟩ := Maps.keyOf_str Tryz.underlying9 hv
    exact ⟨x, hx⟩
  refine perm_strKeys hp hstr h.nd (fun x => ?_)
  constructor
  · intro hx
    exact (h.has x (h.ok x hx)).2 hx
  · intro hh
    obtain ⟨a, ha, e⟩ := h.of _ hh
    cases e
    exact ha

theorem sortS_rises {l : List (List UInt8)} (h : l.Nodup) : Rising (sortS l) := by
  have hn : (sortS l).Nodup := (List.mergeSort_perm l _).nodup_iff.2 h
  have hs := sortS_sorted l
  generalize sortS l = m at *
  induction m with
  | nil => trivial
  | cons x m ih =>
    obtain ⟨a, b⟩ := List.nodup_cons.1 hn
    obtain ⟨c, d⟩ := List.pairwise_cons.1 hs
    refine ⟨fun y hy => ?_, ih b d⟩
    rcases ltS_tri x y with k | k | k
    · exact k
    · exact absurd (k ▸ hy) a
    · rw [c y hy] at k; cases k

/-- The sorted names, in a row of the call's own. -/
def SortedS (xs : List (List UInt8)) (B : Nat) (e : Ending) (w w' : World) : Prop :=
  ∃ ao cap, e = .returned (.slice ao xs.length cap) ∧ StrsAt (fun k => B ≤ k ∧ k < w'.heap.size) w' ao (sortS xs) ∧ Chg (fun _ => False) w w' ∧ (ao = none → cap = 0)

theorem sortedS_of {w w' : World} {v : Value} {ss xs : List (List UInt8)} (hp : ss.Perm xs) (hrow : w'.ownsRow w.heap.size 9 1 v ss.length ((ss.mergeSort (fun x y => decide (x ≤ y))).map encStr)) (hb : Below w.heap.size w w') (hok : ∀ x ∈ xs, x.length ≤ 9223372036854775807) (hnd : xs.Nodup) : SortedS xs w.heap.size (.returned v) w w' := by
  have hso : sortS ss = sortS xs := by
    refine (sortS_rises (hp.nodup_iff.2 hnd)).ext (sortS_rises hnd) (fun x => ?_)
    rw [sortS_mem, sortS_mem, hp.mem_iff]
  have ho : OwnS w.heap.size w' v (sortS ss) := by
    unfold OwnS
    rw [sortS_length]
    exact hrow
  obtain ⟨ao, cap, hv, hst⟩ := ho.strs (fun x hx => hok x (hp.mem_iff.1 ((sortS_mem _ _).1 hx)))
  have h0 : ao = none → cap = 0 := fun e => by
    subst e
    rcases ho.2 with ⟨e2, _⟩ | ⟨g, cap', cur, e2, _⟩
    · rw [hv] at e2; injection e2
    · rw [hv] at e2; injection e2 with h1; cases h1
  subst hv
  refine ⟨ao, cap, by rw [sortS_length, hp.length_eq], by rw [← hso]; exact hst, ⟨hb.os, hb.tape, hb.output, hb.size, fun k hk _ => hb.block k hk⟩, h0⟩
end Go.Proofs.YtanompfdjfgfbaaGreat

/- Who is in a role. -/
namespace Go.Proofs.YtanompfdjfgfbaaGreat
open Go.RowKit Go.Maps

theorem pmem_nil (r : RoleB) (w : World) : Calls Tryz.prog 15 #[.pointer none, .agg #[.string ⟨r.1.toArray⟩, .string ⟨r.2.toArray⟩]] w fun e w' => e = .returned (.slice none 0 0) ∧ Chg (fun _ => False) w w' := by
  have HC := hid (show Chg (fun _ => False) w (w.alloc (.cells #[.string ⟨r.1.toArray⟩, .string ⟨r.2.toArray⟩] 24)) from (Chg.refl _ w).alloc _)
  go_enter Tryz.func15, Tryz.ntmps15
  go_wp2
  go_ret
  exact ⟨rfl, HC.out⟩

/-- What maps.Keys hands back. -/
def Spec.keysF (y : Option Nat) : Spec :=
  ⟨fun v w => ∃ Bm, v = .func (.func 51) #[] #[.pointer (some ⟨Bm, 0, none⟩)] ∧ w.heap[Bm]? = some (.cells #[.map y] 66 (0, 0)), fun _ _ _ hc ⟨Bm, h1, h2⟩ => ⟨Bm, h1, blk_keep h2 hc id⟩⟩

def Spec.sortedF (lo : Nat) (xs : List (List UInt8)) : Spec :=
  ⟨fun v w => ∃ ao cap, v = .slice ao xs.length cap ∧ StrsAt (fun k => lo ≤ k ∧ k < w.heap.size) w ao (sortS xs) ∧ (ao = none → cap = 0), fun _ _ _ hc ⟨ao, cap, h1, h2, h3⟩ => ⟨ao, cap, h1, (h2.keep hc (fun _ _ => id)).mono (fun _ hi => ⟨hi.1, Nat.lt_of_lt_of_le hi.2 hc.size⟩), h3⟩⟩

def pmemSpecs (g A m lo : Nat) (r : RoleB) (y : Option Nat) (xs : List (List UInt8)) : List Spec := [.eq (.pointer (some ⟨g, 0, none⟩)), .any, .any, .eq (.pointer (some ⟨A, 0, none⟩)), .sortedF lo xs, .any, .any, .eq (.pointer (some ⟨g, 0, none⟩)), .eq (.pointer (some ⟨g, 0, none⟩)), .eq (.pointer (some ⟨g, 0, none⟩)), .eq (.map (some m)), .eq (.agg #[.string ⟨r.1.toArray⟩, .string ⟨r.2.toArray⟩]), .eq (.map y), .keysF y, .sortedF lo xs]

/-- The members of a role, rising. -/
def MemPost (F : List FactB) (r : RoleB) (w : World) (e : Ending) (w' : World) : Prop :=
  ∃ xs ao cap, e = .returned (.slice ao xs.length cap) ∧ (∀ s, s ∈ xs ↔ (r, s) ∈ F) ∧ xs.Nodup ∧ StrsAt (fun k => w.heap.size ≤ k ∧ k < w'.heap.size) w' ao (sortS xs) ∧ Chg (fun _ => False) w w' ∧ (ao = none → cap = 0)

set_option maxRecDepth 100000 in
set_option maxHeartbeats 1000000 in
theorem pmem {K O : Nat → Prop} (g : Nat) (F : List FactB) {n2 n3 : Nat} {R2 : RoleB → CredB → Prop} {R3 : List UInt8 → CredB → Prop} (r : RoleB) (w : World) (h : MS K O w g F n2 R2 n3 R3) (hr : ktR.ok r) (hn : F.length ≤ 4000000) :
    Calls Tryz.prog 15 #[.pointer (some ⟨g, 0, none⟩), .agg #[.string ⟨r.1.toArray⟩, .string ⟨r.2.toArray⟩]] w (MemPost F r w) := by
  have hc1 : Chg (fun _ => False) w (w.alloc (.cells #[.string ⟨r.1.toArray⟩, .string ⟨r.2.toArray⟩] 24)) := (Chg.refl _ w).alloc _
  have hb1 : (w.alloc (.cells #[.string ⟨r.1.toArray⟩, .string ⟨r.2.toArray⟩] 24)).heap[w.heap.size]? = some (.cells #[.string ⟨r.1.toArray⟩, .string ⟨r.2.toArray⟩] 24 (0, 0)) := heap_alloc_new w _
  obtain ⟨⟨m, m2, m3, O1, O2, O3, h0, h1, _⟩, _⟩ := h
  have h0' := blk_keep h0 hc1 id
  have h1' := h1.keep hc1 (fun _ _ => id)
  have HS0 : Hid (∃ (y : Option Nat) (xs : List (List UInt8)), (∀ s, s ∈ xs ↔ (r, s) ∈ F) ∧ xs.Nodup ∧ (∀ w', Chg (fun _ => False) (w.alloc (.cells #[.string ⟨r.1.toArray⟩, .string ⟨r.2.toArray⟩] 24)) w' → (Instr.lookup 55 (.map (some m)) (.agg #[.string ⟨r.1.toArray⟩, .string ⟨r.2.toArray⟩]) false).run Tryz.prog w' = .ok (.map y) w') ∧
      ∀ w', Chg (fun _ => False) (w.alloc (.cells #[.string ⟨r.1.toArray⟩, .string ⟨r.2.toArray⟩] 24)) w' → ∀ Bm, w'.heap[Bm]? = some (.cells #[.map y] 66 (0, 0)) → Calls Tryz.prog 30 #[.func (.func 51) #[] #[.pointer (some ⟨Bm, 0, none⟩)]] w' fun e w'' => ∃ ao cap, e = .returned (.slice ao xs.length cap) ∧ StrsAt (fun k => w'.heap.size ≤ k ∧ k < w''.heap.size) w'' ao (sortS xs) ∧ Chg (fun _ => False) w' w'' ∧ (ao = none → cap = 0)) := hid (by
    rcases h1'.here (t := 55) (e := 66) Tryz.underlying55 mZeroIn hr with ⟨b, xs, q1, q2, ⟨M, hM⟩, q4, q5, q6⟩ | ⟨q1, q2⟩
    · refine ⟨some b, xs, q5, hM.nd, fun w' hc => q6 w' hc.none, fun w' hc Bm hBm => ?_⟩
      have hM' := hM.keep hc id
      have hnm := hM'.names
      refine (callsIn_wide.1 (sorted_some Bm b xs.length M unitElem w' (lt_blk hBm) (cell_blk hBm 0) hM'.own (by unfold maxLen; omega) (by omega))).mono ?_
      rintro e w'' ⟨v, ss, rfl, hp, hrow, _, hb⟩
      exact sortedS_of (hp.trans hnm.1.symm) hrow hb hM.ok hM.nd
    · refine ⟨none, [], fun s => ⟨fun h => (by cases h), fun h => absurd h (q1 s)⟩, List.nodup_nil, fun w' hc => q2 w' hc.none, fun w' hc Bm hBm => ?_⟩
      refine (callsIn_wide.1 (sorted_nil Bm w' (lt_blk hBm) (cell_blk hBm 0))).mono ?_
      rintro e w'' ⟨v, ss, rfl, rfl, hrow, _, hb⟩
      exact sortedS_of (List.Perm.refl _) hrow hb (fun _ h => (by cases h)) List.nodup_nil)
  obtain ⟨y, xs, hxs, hnd, hl, hS⟩ := HS0.out
  have HB := hid (And.intro hxs hnd)
  have x0 := cell_blk h0' 0
  have x1 := cell_blk hb1 0
  have x2 := cell_blk hb1 1
  simp only [List.getElem?_toArray, List.getElem?_cons_zero, List.getElem?_cons_succ] at x0 x1 x2
  have HX := hid (And.intro x0 (And.intro x1 x2))
  have HL := hid hl
  have HS := hid hS
  have HC := hid hc1
  have HLO := hid hc1.size
  clear h0 h1 h0' h1' hl hS x0 x1 x2 hc1 hb1 HS0 hxs hnd
  go_enter Tryz.func15, Tryz.ntmps15
  go_wp2_with fail
  generalize (w.alloc (.cells #[.string ⟨r.1.toArray⟩, .string ⟨r.2.toArray⟩] 24)) = w1 at *
  obtain ⟨A, hAe⟩ : ∃ A, w.heap.size = A := ⟨_, rfl⟩
  obtain ⟨lo, hlo⟩ : ∃ lo, w.heap.size = lo := ⟨_, rfl⟩
  rw [hlo] at HLO
  have HLOE := hid hlo
  simp only [hAe] at HX ⊢
  clear hAe hlo
  refine wp_region_specs (pmemSpecs g A m lo r y xs) [7, 8, 9, 10, 11, 12, 13, 14, 4] [0, 3] (by kernel_rfl) (by kernel_rfl) (by rfl) (by kernel_rfl) ?start ?obs ?fin
  case start =>
    simp only [List.forall_mem_cons]; exact ⟨⟨_, rfl, rfl⟩, ⟨_, rfl, rfl⟩, fun _ h => by cases h⟩
  case obs =>
    clear HC HB
    refine Obs.cons none (by kernel_rfl) ?_ ?_
    · refine Ob.plain fun a w hR hk K k => ?_
      obtain ⟨_, e0, f0⟩ := hk 0 (by decide)
      clear hk
      go_simp
      exact k _ _ (Chg.refl _ _) f0
    refine Obs.cons none (by kernel_rfl) ?_ ?_
    · refine Ob.plain fun a w hR hk K k => ?_
      obtain ⟨_, e7, rfl⟩ := hk 7 (by decide)
      clear hk
      go_simp
      exact k _ _ (Chg.refl _ _) rfl
    refine Obs.cons none (by kernel_rfl) ?_ ?_
    · refine Ob.plain fun a w hR hk K k => ?_
      obtain ⟨_, e8, rfl⟩ := hk 8 (by decide)
      clear hk
      go_simp
      exact k _ _ (Chg.refl _ _) rfl
    refine Obs.cons none (by kernel_rfl) ?_ ?_
    · refine Ob.plain fun a w hR hk K k => ?_
      obtain ⟨_, e9, rfl⟩ := hk 9 (by decide)
      clear hk
      have zz := hR.cell HX.out.1 id
      go_simp
      exact k _ _ (Chg.refl _ _) rfl
    refine Obs.cons none (by kernel_rfl) ?_ ?_
    · refine Ob.plain fun a w hR hk K k => ?_
      obtain ⟨_, e3, rfl⟩ := hk 3 (by decide)
      clear hk
      have z0 := hR.cell HX.out.2.1 id
      have z1 := hR.cell HX.out.2.2 id
      go_simp
      exact k _ _ (Chg.refl _ _) rfl
    refine Obs.cons none (by kernel_rfl) ?_ ?_
    · refine Ob.plain fun a w hR hk K k => ?_
      obtain ⟨_, e10, rfl⟩ := hk 10 (by decide)
      obtain ⟨_, e11, rfl⟩ := hk 11 (by decide)
      clear hk
      have q := HL.out w hR
      go_simp
      exact k _ _ (Chg.refl _ _) rfl
    refine Obs.cons none (by kernel_rfl) ?_ ?_
    · refine Ob.plain fun a w hR hk K k => ?_
      obtain ⟨_, e12, rfl⟩ := hk 12 (by decide)
      clear hk
      have q := callsIn_wide.1 (Tryz.maps_Keys_m y w)
      go_simp
      refine q.mono ?_
      rintro e w5 ⟨rfl, rfl⟩
      exact k _ _ ((Chg.refl _ _).alloc _) ⟨w.heap.size, rfl, heap_alloc_new w _⟩
    refine Obs.cons none (by kernel_rfl) ?_ ?_
    · refine Ob.plain fun a w hR hk K k => ?_
      obtain ⟨_, e13, f13⟩ := hk 13 (by decide)
      clear hk
      obtain ⟨Bm, rfl, hb⟩ := f13
      have q := HS.out w hR Bm hb
      have HR := hid hR.size
      clear hR
      go_simp
      refine q.mono ?_
      rintro e w5 ⟨ao, cap, rfl, h2, h3, h4⟩
      exact k _ _ h3 ⟨ao, cap, rfl, h2.mono (fun i hi => ⟨Nat.le_trans (Nat.le_trans HLO.out HR.out) hi.1, hi.2⟩), h4⟩
    refine Obs.cons none (by kernel_rfl) ?_ ?_
    · refine Ob.plain fun a w hR hk K k => ?_
      obtain ⟨_, e14, f14⟩ := hk 14 (by decide)
      clear hk
      go_simp
      exact k _ _ (Chg.refl _ _) f14
    exact Obs.nil
  case fin =>
    intro vals w9 hc9 hv
    obtain ⟨ao, cap, h4, h5, h6⟩ := hv 4 (by decide)
    simp only [putAll, List.setIfInBounds_toArray, List.set_cons_zero, List.set_cons_succ, h4]
    have HC9 := hid (And.intro (HC.out.trans hc9 (fun _ _ h => h)) (And.intro h5 h6))
    clear hc9 hv h4 h5 h6 HC HX HL HS
    go_wp2
    go_ret
    refine ⟨xs, ao, cap, rfl, HB.out.1, HB.out.2, ?_, HC9.out.1, HC9.out.2.2⟩
    rw [HLOE.out]
    exact HC9.out.2.1
end Go.Proofs.YtanompfdjfgfbaaGreat
