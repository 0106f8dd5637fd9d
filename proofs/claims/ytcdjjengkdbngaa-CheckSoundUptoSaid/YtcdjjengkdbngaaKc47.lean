/- Texts that the proof leans on, in one: PmStep, NmIsSet, NmMath. -/
import Derived.Test.YtcdjjengkdbngaaKc46
import Derived.Test.YtcdjjengkdbngaaKc22
import Derived.Test.YtcdjjengkdbngaaKc5
import Derived.Test.YtcdjjengkdbngaaKc4
import Derived.Lib.SlicesCompact
import Derived.Shelf.Spec.SearchS
/- What one step of a credential brings. -/
namespace Go.Proofs.Ytcdjjengkdbngaa
open Go.RowKit Go.Maps

def pstepSpecs (g A m lo : Nat) (c : CredB) (who : List UInt8) (y : Option Nat) (xs : List (List UInt8)) : List Spec := [.eq (.pointer (some ⟨g, 0, none⟩)), .any, .eq (.string ⟨who.toArray⟩), .any, .eq (.pointer (some ⟨A, 0, none⟩)), .any, .any, .any, .any, .any, .any, .any, .any, .any, .any, .any, .any, .any, .any, .any, .eq (.pointer (some ⟨g, 0, none⟩)), .eq (.pointer (some ⟨g, 0, none⟩)), .eq (.pointer (some ⟨g, 0, none⟩)), .eq (.map (some m)), .eq (.string ⟨who.toArray⟩), .eq (.pointer (some ⟨A, 8, none⟩)), .eq (.string ⟨c.w2.toArray⟩), .eq (.agg #[.string ⟨who.toArray⟩, .string ⟨c.w2.toArray⟩]), .eq (.map y), .rng ktS unitElem lo y xs, .any, .any, .any, .any, .any, .any, .any, .any, .any, .any, .any, .any, .any, .any, .any, .any, .any, .any, .any, .any, .any, .any, .any, .any, .any, .any, .any, .any, .any, .any, .any]

set_option maxRecDepth 100000 in
set_option maxHeartbeats 2000000 in
theorem pstep {K O : Nat → Prop} (g : Nat) (F : List FactB) {n2 n3 : Nat} {R2 : RoleB → CredB → Prop} {R3 : List UInt8 → CredB → Prop} (c : CredB) (who : List UInt8) (w : World) (h : MS K O w g F n2 R2 n3 R3) (hc : isCred c = true) (hw : who.length ≤ 9223372036854775807) (hn : F.length ≤ 4000000) :
    Calls Try.prog 103 #[.pointer (some ⟨g, 0, none⟩), .agg #[.int .i64 c.kind, .string ⟨c.head.1.toArray⟩, .string ⟨c.head.2.toArray⟩, .string ⟨c.who.toArray⟩, .string ⟨c.b.1.toArray⟩, .string ⟨c.b.2.toArray⟩, .string ⟨c.c.1.toArray⟩, .string ⟨c.c.2.toArray⟩, .string ⟨c.w2.toArray⟩], .string ⟨who.toArray⟩] w (StepPost F c who w) := by
  have hc1 : Chg (fun _ => False) w (w.alloc (.cells #[.int .i64 c.kind, .string ⟨c.head.1.toArray⟩, .string ⟨c.head.2.toArray⟩, .string ⟨c.who.toArray⟩, .string ⟨c.b.1.toArray⟩, .string ⟨c.b.2.toArray⟩, .string ⟨c.c.1.toArray⟩, .string ⟨c.c.2.toArray⟩, .string ⟨c.w2.toArray⟩] 32)) := (Chg.refl _ w).alloc _
  have hb1 : (w.alloc (.cells #[.int .i64 c.kind, .string ⟨c.head.1.toArray⟩, .string ⟨c.head.2.toArray⟩, .string ⟨c.who.toArray⟩, .string ⟨c.b.1.toArray⟩, .string ⟨c.b.2.toArray⟩, .string ⟨c.c.1.toArray⟩, .string ⟨c.c.2.toArray⟩, .string ⟨c.w2.toArray⟩] 32)).heap[w.heap.size]? = some (.cells (credBox c) 32 (0, 0)) := heap_alloc_new w _
  obtain ⟨c0, c1, c2, c3, c4, c5, c6, c7, c8⟩ := cred_at_blk hb1
  simp only [Nat.zero_add] at c0 c1 c2 c3 c4 c5 c6 c7 c8
  have HA1 := hid (And.intro hb1 hc1)
  have HM := hid (And.intro (h.quiet hc1) (And.intro hc (And.intro hw (And.intro hn h.lo))))
  have hkk := isCred_kind hc
  clear hb1 hc1 h hc hw hn
  rcases hkk with hk | hk | hk | hk
  · have d2 : (c.kind == 2) = false := by rw [hk]; rfl
    have d3 : (c.kind == 3) = false := by rw [hk]; rfl
    have d4 : (c.kind == 4) = false := by rw [hk]; rfl
    have HK := hid hk
    clear hk
    go_enter Try.func103, Try.ntmps103
    go_wp2
    go_ret
    refine ⟨none, 0, [], rfl, FactsAt.nil _ _ _, HA1.out.2, fun f => ⟨fun h => (by cases h), fun h => ?_⟩, by simp⟩
    have hk := HK.out
    rcases h.2 with ⟨k, _⟩ | ⟨k, _⟩ | ⟨k, _⟩ <;> omega
  · have d2 : (c.kind == 2) = true := by rw [hk]; rfl
    have HK := hid hk
    clear hk
    go_enter Try.func103, Try.ntmps103
    go_wp2
    go_ret
    refine ⟨some ⟨w.heap.size + 1, 0, none⟩, 1, [(c.head, who)], rfl, ?_, HA1.out.2.alloc _, fun f => ?_, by simp⟩
    · have := fact_new (w.alloc (.cells #[.int .i64 c.kind, .string ⟨c.head.1.toArray⟩, .string ⟨c.head.2.toArray⟩, .string ⟨c.who.toArray⟩, .string ⟨c.b.1.toArray⟩, .string ⟨c.b.2.toArray⟩, .string ⟨c.c.1.toArray⟩, .string ⟨c.c.2.toArray⟩, .string ⟨c.w2.toArray⟩] 32)) (c.head, who)
      have e : (w.alloc (.cells #[.int .i64 c.kind, .string ⟨c.head.1.toArray⟩, .string ⟨c.head.2.toArray⟩, .string ⟨c.who.toArray⟩, .string ⟨c.b.1.toArray⟩, .string ⟨c.b.2.toArray⟩, .string ⟨c.c.1.toArray⟩, .string ⟨c.c.2.toArray⟩, .string ⟨c.w2.toArray⟩] 32)).heap.size = w.heap.size + 1 := by simp
      rw [e] at this
      intro i hi
      have : i = 0 := by simp at hi; omega
      subst this
      exact ⟨_, 0, rfl, ⟨by omega, by simp⟩, fact_at_blk (f := (c.head, who)) (by rw [← e]; exact heap_alloc_new (w.alloc (.cells #[.int .i64 c.kind, .string ⟨c.head.1.toArray⟩, .string ⟨c.head.2.toArray⟩, .string ⟨c.who.toArray⟩, .string ⟨c.b.1.toArray⟩, .string ⟨c.b.2.toArray⟩, .string ⟨c.c.1.toArray⟩, .string ⟨c.c.2.toArray⟩, .string ⟨c.w2.toArray⟩] 32)) _)⟩
    · have hk := HK.out
      obtain ⟨f1, f2⟩ := f
      rw [List.mem_singleton, Prod.mk.injEq]
      constructor
      · rintro ⟨h1, h2⟩
        exact ⟨h1, .inl ⟨hk, h2⟩⟩
      · rintro ⟨h1, h2⟩
        rcases h2 with ⟨_, h2⟩ | ⟨k, _⟩ | ⟨k, _⟩
        · exact ⟨h1, h2⟩
        · omega
        · omega
  · have d2 : (c.kind == 2) = false := by rw [hk]; rfl
    have d3 : (c.kind == 3) = true := by rw [hk]; rfl
    have HK := hid hk
    have hsh := isCred_short HM.out.2.1
    unfold credShort at hsh
    obtain ⟨⟨m, m2, m3, O1, O2, O3, h0, h1, _, _, dd1, _, _⟩, hgO, hlo1⟩ := HM.out.1
    obtain ⟨y, xs, hxs, hxn, hxl, hxok, hyO, hl1, hl2⟩ := h1.row (t := 71) (e := 85) (t2 := 85) (e2 := 80) Try.underlying71 mZeroIn Try.underlying85 (a := (who, c.w2)) ⟨HM.out.2.2.1, by simp only; omega⟩
    simp only [ktR] at hl1
    have x0 := cell_blk h0 0
    simp only [List.getElem?_toArray, List.getElem?_cons_zero] at x0
    have HX := hid (And.intro x0 c8)
    have HL := hid (And.intro hl1 hl2)
    have HXS := hid (And.intro hxs (Nat.le_trans hxl HM.out.2.2.2.1))
    have HXS2 := hid (fun b (e : y = some b) => (dd1 b (hyO b e)).1)
    have HO := hid HM.out.2.2.2.2
    clear hk hsh h0 h1 dd1 hgO hlo1 hxs hxn hxl hxok hyO hl1 hl2 x0 HM
    go_enter Try.func103, Try.ntmps103
    go_wp2_with fail
    clear c0 c1 c2 c3 c4 c5 c6 c7 c8
    generalize (w.alloc (.cells #[.int .i64 c.kind, .string ⟨c.head.1.toArray⟩, .string ⟨c.head.2.toArray⟩, .string ⟨c.who.toArray⟩, .string ⟨c.b.1.toArray⟩, .string ⟨c.b.2.toArray⟩, .string ⟨c.c.1.toArray⟩, .string ⟨c.c.2.toArray⟩, .string ⟨c.w2.toArray⟩] 32)) = w1 at *
    obtain ⟨A, hAe⟩ : ∃ A, w.heap.size = A := ⟨_, rfl⟩
    simp only [hAe] at HX ⊢
    have hA1 : w1.heap[A]? = some (.cells (credBox c) 32 (0, 0)) := by rw [← hAe]; exact HA1.out.1
    have HC := hid HA1.out.2
    have hAw : A < w1.heap.size := lt_blk hA1
    have HA2 := hid (And.intro hA1 (And.intro hAw (by omega : w.heap.size ≤ A)))
    have HLO := hid (Nat.le_refl w1.heap.size)
    have HAE := hid hAe
    clear HA1 hAe hA1 hAw
    refine wp_region_specs (pstepSpecs g A m w1.heap.size c who y xs) [20, 21, 22, 23, 24, 25, 26, 27, 28, 29] [0, 2, 4] (by kernel_rfl) (by kernel_rfl) (by rfl) (by kernel_rfl) ?start ?obs ?fin
    case start =>
      simp only [List.forall_mem_cons]; exact ⟨⟨_, rfl, rfl⟩, ⟨_, rfl, rfl⟩, ⟨_, rfl, rfl⟩, fun _ h => by cases h⟩
    case obs =>
      clear HC HA2 HK HXS HXS2 HO HAE
      refine Obs.cons none (by kernel_rfl) ?_ ?_
      · refine Ob.plain fun a w hR hk K k => ?_
        obtain ⟨_, e0, f0⟩ := hk 0 (by decide)
        clear hk
        go_simp
        exact k _ _ (Chg.refl _ _) f0
      refine Obs.cons none (by kernel_rfl) ?_ ?_
      · refine Ob.plain fun a w hR hk K k => ?_
        obtain ⟨_, e20, rfl⟩ := hk 20 (by decide)
        clear hk
        go_simp
        exact k _ _ (Chg.refl _ _) rfl
      refine Obs.cons none (by kernel_rfl) ?_ ?_
      · refine Ob.plain fun a w hR hk K k => ?_
        obtain ⟨_, e21, rfl⟩ := hk 21 (by decide)
        clear hk
        go_simp
        exact k _ _ (Chg.refl _ _) rfl
      refine Obs.cons none (by kernel_rfl) ?_ ?_
      · refine Ob.plain fun a w hR hk K k => ?_
        obtain ⟨_, e22, rfl⟩ := hk 22 (by decide)
        clear hk
        have zz := hR.cell HX.out.1 id
        go_simp
        exact k _ _ (Chg.refl _ _) rfl
      refine Obs.cons none (by kernel_rfl) ?_ ?_
      · refine Ob.plain fun a w hR hk K k => ?_
        obtain ⟨_, e2, f2⟩ := hk 2 (by decide)
        clear hk
        go_simp
        exact k _ _ (Chg.refl _ _) f2
      refine Obs.cons none (by kernel_rfl) ?_ ?_
      · refine Ob.plain fun a w hR hk K k => ?_
        obtain ⟨_, e4, rfl⟩ := hk 4 (by decide)
        clear hk
        go_simp
        exact k _ _ (Chg.refl _ _) rfl
      refine Obs.cons none (by kernel_rfl) ?_ ?_
      · refine Ob.plain fun a w hR hk K k => ?_
        obtain ⟨_, e25, rfl⟩ := hk 25 (by decide)
        clear hk
        have zz := hR.cell HX.out.2 id
        go_simp
        exact k _ _ (Chg.refl _ _) rfl
      refine Obs.cons none (by kernel_rfl) ?_ ?_
      · refine Ob.plain fun a w hR hk K k => ?_
        obtain ⟨_, e24, rfl⟩ := hk 24 (by decide)
        obtain ⟨_, e26, rfl⟩ := hk 26 (by decide)
        clear hk
        go_simp
        exact k _ _ (Chg.refl _ _) rfl
      refine Obs.cons none (by kernel_rfl) ?_ ?_
      · refine Ob.plain fun a w hR hk K k => ?_
        obtain ⟨_, e23, rfl⟩ := hk 23 (by decide)
        obtain ⟨_, e27, rfl⟩ := hk 27 (by decide)
        clear hk
        have q := HL.out.1 w hR
        go_simp
        exact k _ _ (Chg.refl _ _) rfl
      refine Obs.cons none (by kernel_rfl) ?_ ?_
      · refine Ob.plain fun a w hR hk K k => ?_
        obtain ⟨_, e28, rfl⟩ := hk 28 (by decide)
        clear hk
        obtain ⟨w5, cnt, q1, q2, q3⟩ := HL.out.2 w hR
        have hsz := Nat.le_trans HLO.out hR.size
        go_simp
        exact k _ _ q3 ⟨_, _, rfl, hsz, q2⟩
      exact Obs.nil
    case fin =>
      intro vals w9 hc9 hv
      obtain ⟨r, cnt0, h29, hlo, hrg⟩ := hv 29 (by decide)
      simp only [putAll, List.setIfInBounds_toArray, List.set_cons_zero, List.set_cons_succ, h29]
      have HC9 := hid (HC.out.trans hc9 (fun _ _ h => h))
      have HX9 := hid (blk_keep HA2.out.1 hc9 id)
      have HRG := hid (And.intro hlo hrg)
      clear hv h29 hc9 hlo hrg HX HL HC
      go_wp2
      go_loopw [7] (fun v wr => ∃ (rest : List (List UInt8)) (cnt : Nat) (hs : List FactB), KRange ktS unitElem wr y r rest cnt ∧ Came w.heap.size (fun i => O i ∨ i = r ∨ i = A) wr v hs ∧ Chg (fun _ => False) w wr ∧ (∀ f : FactB, f ∈ hs ↔ f.1 = c.head ∧ f.2 ∈ xs ∧ f.2 ∉ rest) ∧ hs.length + rest.length ≤ xs.length ∧ wr.heap[A]? = some (.cells (credBox c) 32 (0, 0)) ∧ r < wr.heap.size ∧ ∀ z ∈ rest, z ∈ xs) (fun _ wr => krLeft wr y r)
      case atStart => exact ⟨xs, cnt0, [], HRG.out.2, Came.nil _ _ _, HC9.out, fun f => ⟨fun h => (by cases h), fun h => absurd h.2.1 h.2.2⟩, by simp, HX9.out, HRG.out.2.lt, fun _ h => h⟩
      case round =>
        obtain ⟨rest, cnt, hs, hrg, hcm, hch, hmem, hlen, hbA, hrl, hsub⟩ := hrel
        have HI := hid (And.intro hcm (And.intro hch (And.intro hmem (And.intro hlen (And.intro hbA (And.intro hrl hsub))))))
        have HQ := hid hrg
        clear hcm hch hmem hlen hbA hrl hsub
        go_wp2_with (at_next; refine wpList_next_k _ rfl (.tmp 29) rfl ktS unitElem y r rest cnt rfl HQ.out ?_ ?_)
        · intro hrest
          have HE := hid hrest
          clear hrest hrg
          go_wp2
          go_ret
          obtain ⟨hcm, hch, hmem, hlen, _⟩ := HI.out
          refine StepPost.of hcm hch (fun f => ?_) (by have := HXS.out.2; omega)
          rw [hmem f, HE.out, HXS.out.1 f.2]
          unfold StepOf
          have hk := HK.out
          constructor
          · rintro ⟨h1, h2, _⟩
            exact ⟨h1, .inr (.inl ⟨hk, h2⟩)⟩
          · rintro ⟨h1, h2⟩
            rcases h2 with ⟨k, _⟩ | ⟨_, h2⟩ | ⟨k, _⟩
            · omega
            · exact ⟨h1, h2, by simp⟩
            · omega
        · intro x cv ya yb w5 cnt5 hx hcv hrg5 hlt5 hc5 hsz5 hent
          obtain ⟨rfl, _⟩ := unitElem_inv hcv
          obtain ⟨hcm, hch, hmem, hlen, hbA, hrl, hsub⟩ := HI.out
          have hrA : r ≠ A := by have := HRG.out.1; have := HA2.out.2; omega
          have hrO : ∀ i, i = r → O i ∨ i = r ∨ i = A := fun i h => .inr (.inl h)
          have hcm5 : Came w.heap.size (fun i => O i ∨ i = r ∨ i = A) w5 u7 hs := hcm.keep (hc5.mono (fun i _ h => hrO i h)) (fun i hi => .inl hi)
          have hwr : w.heap.size ≤ r := by have := HRG.out.1; have := HA2.out.2; have := HA2.out.2.2; omega
          have hch5 : Chg (fun _ => False) w w5 := hch.trans hc5 (fun i hi e => by omega)
          have hbA5 := blk_keep hbA hc5 (fun e => hrA e.symm)
          have z1 := cell_blk hbA5 1
          have z2 := cell_blk hbA5 2
          simp only [credBox, List.getElem?_toArray, List.getElem?_cons_zero, List.getElem?_cons_succ] at z1 z2
          have HJ := hid (And.intro hcm5 (And.intro hch5 (And.intro hbA5 (And.intro hrg5 (And.intro hlt5 (And.intro hx (And.intro hrl hsz5)))))))
          have hll : (rest.filter (fun z => decide (z ≠ x))).length < rest.length := by
            have h1 := List.length_filter_lt_length_iff_exists (p := fun z => decide (z ≠ x)) (l := rest)
            exact h1.2 ⟨x, hx, by simp⟩
          have HLL := hid hll
          simp only [ktS] at hent
          clear hrg hcm hch hmem hlen hbA hrl hsub hcm5 hch5 hbA5 hrg5 hlt5 hx hsz5 hc5 hrA hrO hwr hcv hll
          go_wp2_with (at_builtin; refine wpList_append_facts (O := fun i => O i ∨ i = r ∨ i = A) rfl (.tmp 34) (.tmp 39) rfl w.heap.size u7 hs rfl (HJ.out.1.quiet ((Chg.refl _ w5).alloc _)) (fun i hi => ?c0) (some ⟨w5.heap.size, 0, none⟩) 1 [(c.head, x)] rfl (fact_new w5 (c.head, x)) (fun e => by cases e) ?c1 ?c2 ?_)
          case c0 =>
            have := HJ.out.2.1.size
            rcases hi with hi | hi
            · have := HO.out i hi; simp; omega
            · have := HJ.out.2.2.2.2.2.2.1; have := HJ.out.2.2.2.2.2.2.2; have := lt_blk HJ.out.2.2.1; simp; omega
          case c1 => have := HI.out.2.2.2.1; have := HXS.out.2; simp; omega
          case c2 => have := HJ.out.2.1.size; simp; omega
          intro v' w3 hown hc3
          have HY := hid (And.intro hown hc3)
          clear hown hc3 z1 z2 hent
          go_wp2
          go_roundw
          case rel =>
            obtain ⟨hcm5, hch5, hbA5, hrg5, hlt5, hx, hrl, hsz5⟩ := HJ.out
            obtain ⟨_, _, hmem, hlen, _, _, hsub⟩ := HI.out
            have hwa : Chg (fun _ => False) w5 (w5.alloc (.cells #[.string ⟨c.head.1.toArray⟩, .string ⟨c.head.2.toArray⟩, .string ⟨x.toArray⟩] 34)) := (Chg.refl _ w5).alloc _
            have hAw := HA2.out
            have hwr := HRG.out.1
            refine ⟨_, cnt5, _, (hrg5.keep hwa (fun _ _ => id) id).keep HY.out.2 (fun b e h => by have := HXS2.out b e; simp [this] at h) (fun h => by simp at h), HY.out.1, (hch5.trans hwa (fun _ _ h => h)).trans HY.out.2 (fun i hi e => by have := e.1; omega), fun f => ?_, ?_, blk_keep (blk_keep hbA5 hwa id) HY.out.2 (fun e => by simp at e), ?_, fun z hz => hsub z (List.mem_filter.1 hz).1⟩
            · rw [List.mem_append, List.mem_singleton, hmem f]
              obtain ⟨f1, f2⟩ := f
              simp only [Prod.mk.injEq, List.mem_filter, Bool.not_eq_true', decide_eq_false_iff_not, not_and, Classical.not_not]
              constructor
              · rintro (⟨h1, h2, h3⟩ | ⟨h1, h2⟩)
                · exact ⟨h1, h2, fun h => absurd h h3⟩
                · subst h2; exact ⟨h1, hsub _ hx, fun _ => rfl⟩
              · rintro ⟨h1, h2, h3⟩
                by_cases h4 : f2 ∈ rest
                · exact .inr ⟨h1, h3 h4⟩
                · exact .inl ⟨h1, h2, h4⟩
            · have := HLL.out
              simp only [ne_eq, decide_not] at this
              rw [List.length_append, List.length_singleton]
              omega
            · have := hwa.size; have := HY.out.2.size; omega
          case measure =>
            obtain ⟨hcm5, hch5, hbA5, hrg5, hlt5, hx, hrl, hsz5⟩ := HJ.out
            have hwa : Chg (fun _ => False) w5 (w5.alloc (.cells #[.string ⟨c.head.1.toArray⟩, .string ⟨c.head.2.toArray⟩, .string ⟨x.toArray⟩] 34)) := (Chg.refl _ w5).alloc _
            have hnew := (hrg5.keep hwa (fun _ _ => id) id).keep HY.out.2 (fun b e h => by have := HXS2.out b e; simp [this] at h) (fun h => by simp at h)
            rw [hnew.left_eq, HQ.out.left_eq]
            exact hlt5
  · have d2 : (c.kind == 2) = false := by rw [hk]; rfl
    have d3 : (c.kind == 3) = false := by rw [hk]; rfl
    have d4 : (c.kind == 4) = true := by rw [hk]; rfl
    have hsh := isCred_short HM.out.2.1
    unfold credShort at hsh
    have HK := hid hk
    clear hk
    by_cases e1 : (c.b, who) ∈ F
    · have q1 := pin g F c.b who (w.alloc (.cells #[.int .i64 c.kind, .string ⟨c.head.1.toArray⟩, .string ⟨c.head.2.toArray⟩, .string ⟨c.who.toArray⟩, .string ⟨c.b.1.toArray⟩, .string ⟨c.b.2.toArray⟩, .string ⟨c.c.1.toArray⟩, .string ⟨c.c.2.toArray⟩, .string ⟨c.w2.toArray⟩] 32)) HM.out.1 ⟨by omega, by omega⟩ HM.out.2.2.1
      simp only [e1, decide_true] at q1
      have HQ := hid q1
      have HE1 := hid e1
      have HS := hid hsh
      clear q1 e1 hsh
      go_enter Try.func103, Try.ntmps103
      go_wp2_with fail
      refine HQ.out.mono ?_
      rintro e w2 ⟨rfl, hc2⟩
      have hb2 := blk_keep HA1.out.1 hc2 id
      obtain ⟨b0, b1, b2, b3, b4, b5, b6, b7, b8⟩ := cred_at_blk hb2
      simp only [Nat.zero_add] at b0 b1 b2 b3 b4 b5 b6 b7 b8
      by_cases e2 : (c.c, who) ∈ F
      · have q2 := pin g F c.c who w2 (HM.out.1.quiet hc2) ⟨by have := HS.out; omega, by have := HS.out; omega⟩ HM.out.2.2.1
        simp only [e2, decide_true] at q2
        have HQ2 := hid q2
        have HE2 := hid e2
        have HC2 := hid hc2
        have HB2 := hid hb2
        clear q2 e2 hc2 HQ hb2 c0 c1 c2 c3 c4 c5 c6 c7 c8
        go_wp2_with fail
        refine HQ2.out.mono ?_
        rintro e w3 ⟨rfl, hc3⟩
        have hb3 := blk_keep HB2.out hc3 id
        obtain ⟨c0, c1, c2, c3, c4, c5, c6, c7, c8⟩ := cred_at_blk hb3
        simp only [Nat.zero_add] at c0 c1 c2 c3 c4 c5 c6 c7 c8
        have HC3 := hid (HC2.out.trans hc3 (fun _ _ h => h))
        clear hb3 hc3 b0 b1 b2 b3 b4 b5 b6 b7 b8
        go_wp2
        go_ret
        refine ⟨some ⟨w3.heap.size, 0, none⟩, 1, [(c.head, who)], rfl, ?_, (HA1.out.2.trans HC3.out (fun _ _ h => h)).alloc _, fun f => ?_, by simp⟩
        · have hs1 := HA1.out.2.size
          have hs2 := HC3.out.size
          intro i hi
          have : i = 0 := by simp at hi; omega
          subst this
          exact ⟨_, 0, rfl, ⟨by omega, by simp⟩, fact_at_blk (f := (c.head, who)) (heap_alloc_new w3 _)⟩
        · have hk := HK.out
          obtain ⟨f1, f2⟩ := f
          rw [List.mem_singleton, Prod.mk.injEq]
          constructor
          · rintro ⟨h1, h2⟩
            exact ⟨h1, .inr (.inr ⟨hk, h2, HE1.out, HE2.out⟩)⟩
          · rintro ⟨h1, h2⟩
            rcases h2 with ⟨k, _⟩ | ⟨k, _⟩ | ⟨_, h2, _⟩
            · omega
            · omega
            · exact ⟨h1, h2⟩
      · have q2 := pin g F c.c who w2 (HM.out.1.quiet hc2) ⟨by have := HS.out; omega, by have := HS.out; omega⟩ HM.out.2.2.1
        simp only [e2, decide_false] at q2
        have HQ2 := hid q2
        have HE2 := hid e2
        have HC2 := hid hc2
        have HB2 := hid hb2
        clear q2 e2 hc2 HQ hb2 c0 c1 c2 c3 c4 c5 c6 c7 c8
        go_wp2_with fail
        refine HQ2.out.mono ?_
        rintro e w3 ⟨rfl, hc3⟩
        have HC3 := hid (HC2.out.trans hc3 (fun _ _ h => h))
        clear hc3 b0 b1 b2 b3 b4 b5 b6 b7 b8
        go_wp2
        go_ret
        refine ⟨none, 0, [], rfl, FactsAt.nil _ _ _, HA1.out.2.trans HC3.out (fun _ _ h => h), fun f => ⟨fun h => (by cases h), fun h => ?_⟩, by simp⟩
        have hk := HK.out
        rcases h.2 with ⟨k, _⟩ | ⟨k, _⟩ | ⟨_, _, _, h2⟩
        · omega
        · omega
        · exact (HE2.out h2).elim
    · have q1 := pin g F c.b who (w.alloc (.cells #[.int .i64 c.kind, .string ⟨c.head.1.toArray⟩, .string ⟨c.head.2.toArray⟩, .string ⟨c.who.toArray⟩, .string ⟨c.b.1.toArray⟩, .string ⟨c.b.2.toArray⟩, .string ⟨c.c.1.toArray⟩, .string ⟨c.c.2.toArray⟩, .string ⟨c.w2.toArray⟩] 32)) HM.out.1 ⟨by omega, by omega⟩ HM.out.2.2.1
      simp only [e1, decide_false] at q1
      have HQ := hid q1
      have HE1 := hid e1
      clear q1 e1 hsh
      go_enter Try.func103, Try.ntmps103
      go_wp2_with fail
      refine HQ.out.mono ?_
      rintro e w2 ⟨rfl, hc2⟩
      have HC2 := hid hc2
      clear hc2 c0 c1 c2 c3 c4 c5 c6 c7 c8
      go_wp2
      go_ret
      refine ⟨none, 0, [], rfl, FactsAt.nil _ _ _, HA1.out.2.trans HC2.out (fun _ _ h => h), fun f => ⟨fun h => (by cases h), fun h => ?_⟩, by simp⟩
      have hk := HK.out
      rcases h.2 with ⟨k, _⟩ | ⟨k, _⟩ | ⟨_, _, h2, _⟩
      · omega
      · omega
      · exact (HE1.out h2).elim
end Go.Proofs.Ytcdjjengkdbngaa

/- The contract of the program's IsSet. -/
namespace Go.Proofs.Ytcdjjengkdbngaa
open Go.RowKit

theorem Rising.lt : ∀ {ls : List (List UInt8)}, Rising ls → ∀ (i j : Nat) (hj : j < ls.length) (hi : i < j), ltS (ls[i]'(Nat.lt_trans hi hj)) ls[j] = true
  | [], _, _, _, hj, _ => by simp at hj
  | x :: l, h, 0, j + 1, hj, _ => h.1 _ (by simp)
  | x :: l, h, i + 1, j + 1, hj, hi => h.2.lt i j (by simpa using hj) (by omega)

end Go.Proofs.Ytcdjjengkdbngaa

/- Sorted and compacted: the set; what a search in a set comes to. Plain words, nothing of the program's text. -/
namespace Go.Proofs.Ytcdjjengkdbngaa
open Go.RowKit

theorem ltS_eq : ∀ (x y : List UInt8), ltS x y = decide (x < y)
  | [], [] => by simp [ltS_nil]
  | _ :: _, [] => by simp [ltS_nil]
  | [], _ :: _ => by simp [ltS_nil_cons]
  | x :: xs, y :: ys => by
    rw [ltS_cons, ltS_eq xs ys]
    by_cases h : x < y
    · simp [h, List.cons_lt_cons_iff]
    · by_cases e : x = y
      · subst e; simp
      · simp [h, e, List.cons_lt_cons_iff]

theorem le_ltS (x y : List UInt8) : decide (x ≤ y) = !ltS y x := by
  rw [ltS_eq]
  by_cases h : y < x
  · simp [h]
  · simp [h, List.not_lt.1 h]

/-- In order, some more than once. -/
def sortS (l : List (List UInt8)) : List (List UInt8) := l.mergeSort fun x y => decide (x ≤ y)
theorem sortS_length (l : List (List UInt8)) : (sortS l).length = l.length := List.length_mergeSort l
theorem sortS_mem (l : List (List UInt8)) (x : List UInt8) : x ∈ sortS l ↔ x ∈ l := (List.mergeSort_perm l _).mem_iff
theorem sortS_sorted (l : List (List UInt8)) : (sortS l).Pairwise fun x y => ltS y x = false := by
  have h : (sortS l).Pairwise fun x y => decide (x ≤ y) = true := by
    refine List.pairwise_mergeSort (fun a b c h1 h2 => ?_) (fun a b => ?_) l
    · rw [le_ltS] at *
      simp only [Bool.not_eq_true'] at *
      cases hx : ltS c a with
      | false => rfl
      | true =>
        rcases ltS_tri a b with k | k | k
        · have := ltS_trans _ _ _ hx k; rw [h2] at this; cases this
        · subst k; rw [hx] at h2; cases h2
        · rw [k] at h1; cases h1
    · rw [le_ltS, le_ltS]
      cases h1 : ltS b a with
      | false => rfl
      | true =>
        cases h2 : ltS a b with
        | false => rfl
        | true => have := ltS_trans _ _ _ h1 h2; rw [ltS_irrefl] at this; cases this
  exact h.imp fun {a b} k => by rw [le_ltS] at k; simpa using k

end Go.Proofs.Ytcdjjengkdbngaa
