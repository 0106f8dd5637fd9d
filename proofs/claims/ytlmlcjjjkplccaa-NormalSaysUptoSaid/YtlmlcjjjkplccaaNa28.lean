/- The law NormalSays, walked. -/
import Derived.Test.YtlmlcjjjkplccaaNa26
import Derived.Test.YtlmlcjjjkplccaaNa27
import Derived.Test.YtlmlcjjjkplccaaNa5
namespace Go.Proofs.Ytlmlcjjjkplccaa
open Go.RowKit Go.Lib Go.Sort

set_option maxRecDepth 100000 in
theorem ns_ask {D : Nat → Prop} (ls : List RoleB) (ao : Option Addr) (la cp : Nat) (b : Nat) (w : World) (hl : la = ls.length) (hn : ls.length ≤ 9223372036854775807) (hb : w.heap[b]? = some (.cells #[.slice ao la cp] 37 (0, 0))) (h : RolesAt D w ao ls) : AskR 12 #[] #[.pointer (some ⟨b, 0, none⟩)] (fun r => hasR ls r) w := by
  intro r W h1 h2 hW
  have hb2 := blk_keep hb hW id
  have y0 := cell_blk hb2 0
  simp only [List.getElem?_toArray, List.getElem?_cons_zero] at y0
  have hb3 := blk_keep hb2 ((Chg.refl (fun _ => False) W).alloc (.cells #[.string ⟨r.1.toArray⟩, .string ⟨r.2.toArray⟩] 23)) id
  have z0 := cell_blk hb3 0
  simp only [List.getElem?_toArray, List.getElem?_cons_zero] at z0
  subst hl
  have HH := hid (fun W2 (hc : Chg (fun _ => False) W W2) => rhas_ref ao cp ls r W2 hn (h.keep (hW.trans hc (fun _ _ h => h)) (fun _ _ => id)))
  unfold roleV at HH
  show Calls Try.prog 12 #[.agg #[.string ⟨r.1.toArray⟩, .string ⟨r.2.toArray⟩], .pointer (some ⟨b, 0, none⟩)] W _
  clear hb hb2 hb3 hW h hn
  go_enter Try.func12, Try.ntmps12
  go_wp2_with fail
  refine (HH.out _ ((Chg.refl _ _).alloc _)).mono ?_
  rintro e w5 ⟨rfl, hc5⟩
  have HC := hid (((Chg.refl (fun _ => False) W).alloc (.cells #[.string ⟨r.1.toArray⟩, .string ⟨r.2.toArray⟩] 23)).trans hc5 (fun _ _ h => h))
  clear hc5 HH
  go_wp2
  go_ret
  exact ⟨rfl, HC.out⟩
theorem ns_ent (args : Array Value) (w : World) : (callFunc 12 args).run Try.prog w = .ok (.enter 12 args) w := enters_of Try.func12 (by kernel_rfl) rfl args w

/-- What is asked of a formula that lies in the world w. -/
structure FmIn (D : Nat → Prop) (w : World) (n : Nat) (f : FmB) (ao : Option Addr) (cp : Nat) : Prop where
  at_ : FmsAt D w n ao f.kids
  lt : ∀ i, D i → i < w.heap.size
  ok : FmOk f
  z : ao = none → cp = 0
theorem FmIn.keep {D : Nat → Prop} {w w' : World} {n : Nat} {f : FmB} {ao : Option Addr} {cp : Nat} (h : FmIn D w n f ao cp) (hc : Chg (fun _ => False) w w') : FmIn D w' n f ao cp := ⟨h.at_.keep hc (fun _ _ => id), fun i hi => Nat.lt_of_lt_of_le (h.lt i hi) hc.size, h.ok, h.z⟩
theorem FmIn.tr {D : Nat → Prop} {w : World} {n : Nat} {f : FmB} {ao : Option Addr} {cp : Nat} (h : FmIn D w n f ao cp) (hN : nodesF f ≤ 4096) {gf : Nat} {fi cap : Array Value} {T : RoleB → Bool} (eg : ∀ args w, (callFunc gf args).run Try.prog w = .ok (.enter gf args) w) (hask : AskR gf fi cap T w) :
    ∀ W, Chg (fun _ => False) w W → Calls Try.prog 14 #[.agg #[.int .i64 f.op, .int .i64 f.k, .string ⟨f.r.1.toArray⟩, .string ⟨f.r.2.toArray⟩, .slice ao f.kids.length cp], .func (.func gf) fi cap] W fun e w' => e = .returned (.bool (isF f && holdsF T f)) ∧ Chg (fun _ => False) W w' :=
  fun _ hW => fm_true gf fi cap T eg n f ao cp _ (h.keep hW).at_ (h.keep hW).lt h.ok hN (hask.later hW)
theorem own_in {B : Nat} {w : World} {x : AT} (h : OwnA B w x) : ∃ xo xc, FmIn (fun k => B ≤ k ∧ k < w.heap.size) w (deepF (eraseA x)) (eraseA x) xo xc ∧ fmV x = .agg #[.int .i64 (eraseA x).op, .int .i64 (eraseA x).k, .string ⟨(eraseA x).r.1.toArray⟩, .string ⟨(eraseA x).r.2.toArray⟩, .slice xo (eraseA x).kids.length xc] ∧ x.v = .slice xo x.kids.length xc := by
  obtain ⟨xo, xc, x1, x5, x2, x3, x4⟩ := own_val h
  refine ⟨xo, xc, ⟨x3, fun i hi => hi.2, x4, x2⟩, by rw [← x1]; rfl, ?_⟩
  rw [x5, eraseA_eq]
  simp only [FmB.kids, eraseL_len]

set_option maxRecDepth 100000 in
set_option maxHeartbeats 16000000 in
theorem nsays_main {D : Nat → Prop} (n : Nat) (f g : FmB) (ao bo : Option Addr) (cp bp : Nat) (xs : List RoleB) (a1 : Option Addr) (la c1 : Nat) (w : World) (hf : FmIn D w n f ao cp) (hg : FmIn D w n g bo bp) (hra : RolesAt D w a1 xs) (hz1 : a1 = none → c1 = 0) (hG : greatF f + greatF g ≤ 4503599627370496) (hl1 : la = xs.length) (hla : xs.length ≤ 4611686018427387903) :
    Calls Try.prog 4 #[.agg #[.int .i64 f.op, .int .i64 f.k, .string ⟨f.r.1.toArray⟩, .string ⟨f.r.2.toArray⟩, .slice ao f.kids.length cp], .agg #[.int .i64 g.op, .int .i64 g.k, .string ⟨g.r.1.toArray⟩, .string ⟨g.r.2.toArray⟩, .slice bo g.kids.length bp], .slice a1 la c1] w fun e w' => e = .returned (.bool true) ∧ Chg (fun _ => False) w w' := by
  have k1 := (Chg.refl (fun _ => False) w).alloc (.cells #[.int .i64 f.op, .int .i64 f.k, .string ⟨f.r.1.toArray⟩, .string ⟨f.r.2.toArray⟩, .slice ao f.kids.length cp] 26)
  have k2 := k1.alloc (.cells #[.int .i64 g.op, .int .i64 g.k, .string ⟨g.r.1.toArray⟩, .string ⟨g.r.2.toArray⟩, .slice bo g.kids.length bp] 26)
  have k3 := k2.alloc (.cells #[.slice a1 la c1] 37)
  have e1 : (w.alloc (.cells #[.int .i64 f.op, .int .i64 f.k, .string ⟨f.r.1.toArray⟩, .string ⟨f.r.2.toArray⟩, .slice ao f.kids.length cp] 26)).heap.size = w.heap.size + 1 := by simp
  have e2 : ((w.alloc (.cells #[.int .i64 f.op, .int .i64 f.k, .string ⟨f.r.1.toArray⟩, .string ⟨f.r.2.toArray⟩, .slice ao f.kids.length cp] 26)).alloc (.cells #[.int .i64 g.op, .int .i64 g.k, .string ⟨g.r.1.toArray⟩, .string ⟨g.r.2.toArray⟩, .slice bo g.kids.length bp] 26)).heap.size = w.heap.size + 2 := by simp
  have c3 := (Chg.refl (fun _ => False) ((w.alloc (.cells #[.int .i64 f.op, .int .i64 f.k, .string ⟨f.r.1.toArray⟩, .string ⟨f.r.2.toArray⟩, .slice ao f.kids.length cp] 26)).alloc (.cells #[.int .i64 g.op, .int .i64 g.k, .string ⟨g.r.1.toArray⟩, .string ⟨g.r.2.toArray⟩, .slice bo g.kids.length bp] 26))).alloc (.cells #[.slice a1 la c1] 37)
  have hF := blk_keep (blk_keep (heap_alloc_new w (.cells #[.int .i64 f.op, .int .i64 f.k, .string ⟨f.r.1.toArray⟩, .string ⟨f.r.2.toArray⟩, .slice ao f.kids.length cp] 26)) ((Chg.refl (fun _ => False) (w.alloc (.cells #[.int .i64 f.op, .int .i64 f.k, .string ⟨f.r.1.toArray⟩, .string ⟨f.r.2.toArray⟩, .slice ao f.kids.length cp] 26))).alloc (.cells #[.int .i64 g.op, .int .i64 g.k, .string ⟨g.r.1.toArray⟩, .string ⟨g.r.2.toArray⟩, .slice bo g.kids.length bp] 26)) id) c3 id
  have hGb := heap_alloc_new (w.alloc (.cells #[.int .i64 f.op, .int .i64 f.k, .string ⟨f.r.1.toArray⟩, .string ⟨f.r.2.toArray⟩, .slice ao f.kids.length cp] 26)) (.cells #[.int .i64 g.op, .int .i64 g.k, .string ⟨g.r.1.toArray⟩, .string ⟨g.r.2.toArray⟩, .slice bo g.kids.length bp] 26)
  rw [e1] at hGb
  have hGb := blk_keep hGb c3 id
  have hL := heap_alloc_new ((w.alloc (.cells #[.int .i64 f.op, .int .i64 f.k, .string ⟨f.r.1.toArray⟩, .string ⟨f.r.2.toArray⟩, .slice ao f.kids.length cp] 26)).alloc (.cells #[.int .i64 g.op, .int .i64 g.k, .string ⟨g.r.1.toArray⟩, .string ⟨g.r.2.toArray⟩, .slice bo g.kids.length bp] 26)) (.cells #[.slice a1 la c1] 37)
  rw [e2] at hL
  have HFI := hid (nnfirst (((w.alloc (.cells #[.int .i64 f.op, .int .i64 f.k, .string ⟨f.r.1.toArray⟩, .string ⟨f.r.2.toArray⟩, .slice ao f.kids.length cp] 26)).alloc (.cells #[.int .i64 g.op, .int .i64 g.k, .string ⟨g.r.1.toArray⟩, .string ⟨g.r.2.toArray⟩, .slice bo g.kids.length bp] 26)).alloc (.cells #[.slice a1 la c1] 37)))
  have HB := hid (And.intro hF (And.intro hGb (And.intro hL k3)))
  have H := hid (And.intro hf (And.intro hg (And.intro hra (And.intro hz1 (And.intro hG (And.intro hl1 hla))))))
  have hlb : la ≤ 4611686018427387903 := by omega
  clear k1 k2 k3 e1 e2 c3 hF hGb hL hf hg hra hz1 hG hl1 hla
  go_enter Try.func4, Try.ntmps4
  go_wp2_with fail
  refine HFI.out.mono ?_
  clear HFI
  generalize ((w.alloc (.cells #[.int .i64 f.op, .int .i64 f.k, .string ⟨f.r.1.toArray⟩, .string ⟨f.r.2.toArray⟩, .slice ao f.kids.length cp] 26)).alloc (.cells #[.int .i64 g.op, .int .i64 g.k, .string ⟨g.r.1.toArray⟩, .string ⟨g.r.2.toArray⟩, .slice bo g.kids.length bp] 26)).alloc (.cells #[.slice a1 la c1] 37) = w3 at *
  rintro e w4 ⟨rfl, hc4⟩
  have hF4 := blk_keep HB.out.1 hc4 id
  have hG4 := blk_keep HB.out.2.1 hc4 id
  have hcw4 := HB.out.2.2.2.trans hc4 (fun _ _ h => h)
  have f0 := cell_blk hF4 0
  have f1 := cell_blk hF4 1
  have f2 := cell_blk hF4 2
  have f3 := cell_blk hF4 3
  have f4 := cell_blk hF4 4
  simp only [List.getElem?_toArray, List.getElem?_cons_zero, List.getElem?_cons_succ] at f0 f1 f2 f3 f4
  have g0 := cell_blk hG4 0
  have g1 := cell_blk hG4 1
  have g2 := cell_blk hG4 2
  have g3 := cell_blk hG4 3
  have g4 := cell_blk hG4 4
  simp only [List.getElem?_toArray, List.getElem?_cons_zero, List.getElem?_cons_succ] at g0 g1 g2 g3 g4
  have hkb := heap_alloc_new w4 (.cells #[.int .i64 f.op, .int .i64 f.k, .string ⟨f.r.1.toArray⟩, .string ⟨f.r.2.toArray⟩, .slice ao f.kids.length cp, .int .i64 g.op, .int .i64 g.k, .string ⟨g.r.1.toArray⟩, .string ⟨g.r.2.toArray⟩, .slice bo g.kids.length bp] 26)
  have ck := (Chg.refl (fun _ => False) w4).alloc (.cells #[.int .i64 f.op, .int .i64 f.k, .string ⟨f.r.1.toArray⟩, .string ⟨f.r.2.toArray⟩, .slice ao f.kids.length cp, .int .i64 g.op, .int .i64 g.k, .string ⟨g.r.1.toArray⟩, .string ⟨g.r.2.toArray⟩, .slice bo g.kids.length bp] 26)
  have HGR := hid (fm_great (D := fun k => D k ∨ k = w4.heap.size) (n + 1) (some ⟨w4.heap.size, 0, none⟩) 2 [f, g] (w4.alloc (.cells #[.int .i64 f.op, .int .i64 f.k, .string ⟨f.r.1.toArray⟩, .string ⟨f.r.2.toArray⟩, .slice ao f.kids.length cp, .int .i64 g.op, .int .i64 g.k, .string ⟨g.r.1.toArray⟩, .string ⟨g.r.2.toArray⟩, .slice bo g.kids.length bp] 26)) (by simp only [greatL]; have := H.out.2.2.2.2.1; omega) (fun i hi => by
    refine ⟨_, _, rfl, .inr rfl, ?_⟩
    rcases (show i = 0 ∨ i = 1 by simp at hi; omega) with rfl | rfl
    · exact fm_at_cells (f := f) (ao := ao) (cp := cp) ⟨cell_blk hkb 0, cell_blk hkb 1, cell_blk hkb 2, cell_blk hkb 3, cell_blk hkb 4⟩ H.out.1.ok H.out.1.z (((H.out.1.keep hcw4).keep ck).at_.mono (fun i h => .inl h))
    · exact fm_at_cells (f := g) (ao := bo) (cp := bp) ⟨cell_blk hkb 5, cell_blk hkb 6, cell_blk hkb 7, cell_blk hkb 8, cell_blk hkb 9⟩ H.out.2.1.ok H.out.2.1.z (((H.out.2.1.keep hcw4).keep ck).at_.mono (fun i h => .inl h))))
  have HC4 := hid (And.intro (hc4.trans ck (fun _ _ h => h)) (HB.out.2.2.2.trans (hc4.trans ck (fun _ _ h => h)) (fun _ _ h => h)))
  clear hF4 hG4 hcw4 hkb ck hc4
  go_wp2_with fail
  refine HGR.out.mono ?_
  clear HGR
  rintro e w5 ⟨rfl, hc5⟩
  obtain ⟨gr, hgr⟩ : ∃ gr, gr = greatL [f, g] := ⟨_, rfl⟩
  rw [← hgr]
  have HG := hid (show gr = greatF f + greatF g by rw [hgr]; simp [greatL])
  have hgb : gr ≤ 4503599627370496 := by rw [HG.out]; exact H.out.2.2.2.2.1
  have HC5 := hid (And.intro (HC4.out.1.trans hc5 (fun _ _ h => h)) (HC4.out.2.trans hc5 (fun _ _ h => h)))
  have l5 := cell_blk (blk_keep HB.out.2.2.1 HC5.out.1 id) 0
  simp only [List.getElem?_toArray, List.getElem?_cons_zero] at l5
  clear hgr hc5 HC4 f0 f1 f2 f3 f4 g0 g1 g2 g3 g4
  by_cases h250 : 250 < gr
  · have z1 : (250 : Int) < (gr : Int) := by omega
    clear h250
    go_wp2
    go_ret
    exact ⟨rfl, HC5.out.2⟩
  · have z1 : ¬ (250 : Int) < (gr : Int) := by omega
    have HNF := hid (show nodesF f + nodesF g ≤ 250 by have := great_nodes f; have := great_nodes g; have := HG.out; omega)
    clear h250
    by_cases h30 : 30 < la
    · have z2 : (30 : Int) < (la : Int) := by omega
      clear h30
      go_wp2
      go_ret
      exact ⟨rfl, HC5.out.2⟩
    · have z2 : ¬ (30 : Int) < (la : Int) := by omega
      clear h30
      have hF5 := blk_keep HB.out.1 HC5.out.1 id
      have f0 := cell_blk hF5 0
      have f1 := cell_blk hF5 1
      have f2 := cell_blk hF5 2
      have f3 := cell_blk hF5 3
      have f4 := cell_blk hF5 4
      simp only [List.getElem?_toArray, List.getElem?_cons_zero, List.getElem?_cons_succ] at f0 f1 f2 f3 f4
      have HO1 := hid (pnOf f n ao cp w5 (H.out.1.keep HC5.out.2).at_ (H.out.1.keep HC5.out.2).lt H.out.1.ok (by have := HNF.out; omega))
      have HASK := hid (ns_ask xs a1 la c1 (w.heap.size + 2) w5 H.out.2.2.2.2.2.1 (by have := H.out.2.2.2.2.2.2; omega) (blk_keep HB.out.2.2.1 HC5.out.1 id) (H.out.2.2.1.keep HC5.out.2 (fun _ _ => id)))
      clear hF5
      go_wp2_with fail
      refine HO1.out.mono ?_
      clear HO1 f0 f1 f2 f3 f4 l5 z1 z2
      rintro e w6 ⟨x, k, rfl, g1, g2, g3, hcase⟩
      obtain ⟨xo, xc, hxi, hfx, hxv⟩ := own_in g1
      rw [hfx]
      have cX : Chg (fun _ => False) w6 (w6.alloc (.cells #[.int .i64 (eraseA x).op, .int .i64 (eraseA x).k, .string ⟨(eraseA x).r.1.toArray⟩, .string ⟨(eraseA x).r.2.toArray⟩, .slice xo (eraseA x).kids.length xc] 26)) := (Chg.refl _ w6).alloc _
      have hX := heap_alloc_new w6 (.cells #[.int .i64 (eraseA x).op, .int .i64 (eraseA x).k, .string ⟨(eraseA x).r.1.toArray⟩, .string ⟨(eraseA x).r.2.toArray⟩, .slice xo (eraseA x).kids.length xc] 26)
      have c57 := g3.trans cX (fun _ _ h => h)
      have c37 := HC5.out.1.trans c57 (fun _ _ h => h)
      have c07 := HC5.out.2.trans c57 (fun _ _ h => h)
      have hF7 := blk_keep HB.out.1 c37 id
      have hG7 := blk_keep HB.out.2.1 c37 id
      have hox := ownA_keep cX x g1 (fun _ _ => id)
      have hask := HASK.out.later c57
      have htf := (H.out.1.keep c07).tr (by have := HNF.out; omega) ns_ent hask
      have htx := (hxi.keep cX)
      have HW7 := hid (And.intro c37 c07)
      have HASK7 := hid hask
      have HB7 := hid (And.intro hF7 hX)
      have HQ := hid (And.intro hcase (And.intro htf (And.intro htx (And.intro hox (And.intro hxi (And.intro hxv (And.intro g2 (And.intro g3 cX))))))))
      clear hF7 hG7 c57 c37 c07 hX hcase htf htx hox hask hxi hfx hxv g1 g2 g3 cX HASK HC5 HG hgb hlb
      go_wp2
      generalize hw7 : w6.alloc (.cells #[.int .i64 (eraseA x).op, .int .i64 (eraseA x).k, .string ⟨(eraseA x).r.1.toArray⟩, .string ⟨(eraseA x).r.2.toArray⟩, .slice xo (eraseA x).kids.length xc] 26) = w7 at *
      generalize hX8 : w6.heap.size = X8 at *
      clear hX8
      obtain ⟨hcase, htf, htx, hox, hxi, hxv, g2, g3, cX⟩ := HQ.out
      clear HQ
      rcases hcase with ⟨q1, q2, rfl⟩ | ⟨hfF, x', hx', ⟨hxF, hxe, rfl⟩ | ⟨q1, q2, rfl⟩⟩
      · clear htf htx hox hxi hxv g2 g3 cX hw7 q1 q2
        refine wp_region_specs [.any, .any, .any, .eq (.pointer (some ⟨w.heap.size, 0, none⟩)), .any, .any, .any, .eq (.func (.func 12) #[] #[.pointer (some ⟨w.heap.size + 2, 0, none⟩)]), .eq (.pointer (some ⟨X8, 0, none⟩)), .eq (.int .i64 11), .any, .any, .any, .any, .any, .any, .any, .any, .any, .any, .any, .any, .any, .any, .any, .any, .any, .any, .any, .any, .eq (.int .i64 11), .eq (.bool false), .eq (.bool false), .any, .any, .any, .any, .any, .any, .any, .eq (undef), .any, .any, .any, .any, .eq (.bool false), .any, .any, .any, .any, .any, .any, .any, .any, .any, .any, .any, .any, .any, .any, .any, .any, .any, .any, .any, .any, .any, .any] [30, 31, 32, 33, 34, 35, 36, 37, 38, 39, 40, 41, 42, 43, 44, 45] [3, 7, 8, 9] (by kernel_rfl) (by kernel_rfl) (by rfl) (by kernel_rfl) ?startA ?obsA ?finA
        case startA =>
          simp only [List.forall_mem_cons]; exact ⟨⟨_, rfl, rfl⟩, ⟨_, rfl, rfl⟩, ⟨_, rfl, rfl⟩, ⟨_, rfl, rfl⟩, fun _ h => by cases h⟩
        case obsA =>
          clear HNF
          refine Obs.cons none (by kernel_rfl) ?_ ?_
          · refine Ob.plain fun a w9 hR hk K k9 => ?_
            obtain ⟨_, e9, f9⟩ := hk 9 (by decide)
            clear hk
            go_simp
            exact k9 _ _ (Chg.refl _ _) f9
          refine Obs.cons none (by kernel_rfl) ?_ ?_
          · refine Ob.plain fun a w9 hR hk K k9 => ?_
            obtain ⟨_, e30, rfl⟩ := hk 30 (by decide)
            clear hk
            have hz9 : ((11 : Int) == 0) = false := by decide
            go_simp
            exact k9 _ _ (Chg.refl _ _) rfl
          refine Obs.cons none (by kernel_rfl) ?_ ?_
          · refine Ob.plain fun a w9 hR hk K k9 => ?_
            obtain ⟨_, e31, f31⟩ := hk 31 (by decide)
            clear hk
            go_simp
            exact k9 _ _ (Chg.refl _ _) f31
          refine Obs.cons (some (32, true)) (by kernel_rfl) ?_ ?_
          · exact Ob.no (fun _ _ h => h) (Chg.refl _) (fun _ _ => trivial)
          refine Obs.cons (some (32, true)) (by kernel_rfl) ?_ ?_
          · exact Ob.no (fun _ _ h => h) (Chg.refl _) (fun _ _ => trivial)
          refine Obs.cons (some (32, true)) (by kernel_rfl) ?_ ?_
          · exact Ob.no (fun _ _ h => h) (Chg.refl _) (fun _ _ => trivial)
          refine Obs.cons (some (32, true)) (by kernel_rfl) ?_ ?_
          · exact Ob.no (fun _ _ h => h) (Chg.refl _) (fun _ _ => trivial)
          refine Obs.cons (some (32, true)) (by kernel_rfl) ?_ ?_
          · exact Ob.no (fun _ _ h => h) (Chg.refl _) (fun _ _ => trivial)
          refine Obs.cons (some (32, true)) (by kernel_rfl) ?_ ?_
          · exact Ob.no (fun _ _ h => h) (Chg.refl _) (fun _ _ => trivial)
          refine Obs.cons (some (32, true)) (by kernel_rfl) ?_ ?_
          · exact Ob.no (fun _ _ h => h) (Chg.refl _) (fun _ _ => trivial)
          refine Obs.cons (some (32, true)) (by kernel_rfl) ?_ ?_
          · exact Ob.no (fun _ _ h => h) (Chg.refl _) (fun _ _ => rfl)
          refine Obs.cons (some (40, false)) (by kernel_rfl) ?_ ?_
          · exact Ob.und (fun _ _ h => h) (Chg.refl _) (fun _ _ => trivial)
          refine Obs.cons (some (40, false)) (by kernel_rfl) ?_ ?_
          · exact Ob.und (fun _ _ h => h) (Chg.refl _) (fun _ _ => trivial)
          refine Obs.cons (some (40, false)) (by kernel_rfl) ?_ ?_
          · exact Ob.und (fun _ _ h => h) (Chg.refl _) (fun _ _ => trivial)
          refine Obs.cons (some (32, true)) (by kernel_rfl) ?_ ?_
          · exact Ob.no (fun _ _ h => h) (Chg.refl _) (fun _ _ => trivial)
          refine Obs.cons none (by kernel_rfl) ?_ ?_
          · refine Ob.plain fun a w9 hR hk K k9 => ?_
            obtain ⟨_, e32, rfl⟩ := hk 32 (by decide)
            obtain ⟨_, e44, _⟩ := hk 44 (by decide)
            clear hk
            go_simp
            exact k9 _ _ (Chg.refl _ _) rfl
          exact Obs.nil
        case finA =>
          intro vals w9 hc9 hv
          have h45 : vals 45 = .bool false := hv 45 (by decide)
          simp only [putAll, List.setIfInBounds_toArray, List.set_cons_zero, List.set_cons_succ, h45]
          skip
          have c09 := HW7.out.2.trans hc9 (fun _ _ h => h)
          have c39 := HW7.out.1.trans hc9 (fun _ _ h => h)
          have hF9 := blk_keep HB.out.1 c39 id
          have hG9 := blk_keep HB.out.2.1 c39 id
          have f0 := cell_blk hF9 0
          have f1 := cell_blk hF9 1
          have f2 := cell_blk hF9 2
          have f3 := cell_blk hF9 3
          have f4 := cell_blk hF9 4
          simp only [List.getElem?_toArray, List.getElem?_cons_zero, List.getElem?_cons_succ] at f0 f1 f2 f3 f4
          have g0 := cell_blk hG9 0
          have g1 := cell_blk hG9 1
          have g2 := cell_blk hG9 2
          have g3 := cell_blk hG9 3
          have g4 := cell_blk hG9 4
          simp only [List.getElem?_toArray, List.getElem?_cons_zero, List.getElem?_cons_succ] at g0 g1 g2 g3 g4
          have HO2 := hid (pnBoth f n ao cp g n bo bp w9 (H.out.1.keep c09).at_ (H.out.1.keep c09).lt H.out.1.ok H.out.1.z (H.out.2.1.keep c09).at_ (H.out.2.1.keep c09).lt H.out.2.1.ok H.out.2.1.z (by have := HNF.out; omega))
          have HC9 := hid (And.intro c09 c39)
          have HASK9 := hid (HASK7.out.later hc9)
          clear c09 c39 hF9 hG9 hc9 hv h45 HB7
          go_wp2_with fail
          refine HO2.out.mono ?_
          clear HO2 f0 f1 f2 f3 f4 g0 g1 g2 g3 g4
          rintro e w10 ⟨y, k2, rfl, y1, y2, y3, hcase2⟩
          obtain ⟨yo, yc, hyi, hfy, hyv⟩ := own_in y1
          rw [hfy]
          have cY : Chg (fun _ => False) w10 (w10.alloc (.cells #[.int .i64 (eraseA y).op, .int .i64 (eraseA y).k, .string ⟨(eraseA y).r.1.toArray⟩, .string ⟨(eraseA y).r.2.toArray⟩, .slice yo (eraseA y).kids.length yc] 26)) := (Chg.refl _ w10).alloc _
          have hY := heap_alloc_new w10 (.cells #[.int .i64 (eraseA y).op, .int .i64 (eraseA y).k, .string ⟨(eraseA y).r.1.toArray⟩, .string ⟨(eraseA y).r.2.toArray⟩, .slice yo (eraseA y).kids.length yc] 26)
          have c911 := y3.trans cY (fun _ _ h => h)
          have c311 := HC9.out.2.trans c911 (fun _ _ h => h)
          have c011 := HC9.out.1.trans c911 (fun _ _ h => h)
          have hF11 := blk_keep HB.out.1 c311 id
          have hG11 := blk_keep HB.out.2.1 c311 id
          have hask := HASK9.out.later c911
          have HTF2 := hid ((H.out.1.keep c011).tr (by have := HNF.out; omega) ns_ent hask)
          have HTG := hid ((H.out.2.1.keep c011).tr (by have := HNF.out; omega) ns_ent hask)
          have hty := fun hn => (hyi.keep cY).tr hn ns_ent hask
          have HFIN := hid c011
          have HB11 := hid (And.intro hF11 (And.intro hG11 hY))
          have HQ2 := hid (And.intro hcase2 hty)
          clear hF11 hG11 hY c911 c311 c011 hask cY y1 y2 y3 hyi hfy hyv HASK9 HC9 hcase2 hty
          go_wp2
          generalize hw11 : w10.alloc (.cells #[.int .i64 (eraseA y).op, .int .i64 (eraseA y).k, .string ⟨(eraseA y).r.1.toArray⟩, .string ⟨(eraseA y).r.2.toArray⟩, .slice yo (eraseA y).kids.length yc] 26) = w11 at *
          generalize hY10 : w10.heap.size = Y10 at *
          clear hw11 hY10
          obtain ⟨hcase2, hty⟩ := HQ2.out
          clear HQ2
          rcases hcase2 with ⟨q1, q2, rfl⟩ | ⟨hfF, y', hy', ⟨hyF, hye, rfl⟩ | ⟨q1, q2, rfl⟩⟩
          · clear hty HTF2 HTG q1 q2
            refine wp_region_specs [.any, .any, .any, .eq (.pointer (some ⟨w.heap.size, 0, none⟩)), .eq (.pointer (some ⟨w.heap.size + 1, 0, none⟩)), .any, .eq (.bool true), .eq (.func (.func 12) #[] #[.pointer (some ⟨w.heap.size + 2, 0, none⟩)]), .any, .any, .eq (.pointer (some ⟨Y10, 0, none⟩)), .eq (.int .i64 11), .any, .any, .any, .any, .any, .any, .any, .any, .any, .any, .any, .any, .any, .any, .any, .any, .any, .any, .any, .any, .any, .any, .any, .any, .any, .any, .any, .any, .any, .any, .any, .any, .any, .any, .any, .any, .any, .any, .any, .any, .eq (.int .i64 11), .eq (.bool true), .eq (.bool true), .any, .any, .any, .any, .any, .any, .eq (undef), .any, .any, .any, .any, .any, .eq (.bool true)] [52, 53, 54, 55, 56, 57, 58, 59, 60, 61, 62, 63, 64, 65, 66, 67, 6] [3, 4, 7, 10, 11] (by kernel_rfl) (by kernel_rfl) (by rfl) (by kernel_rfl) ?startD ?obsD ?finD
            case startD =>
              simp only [List.forall_mem_cons]; exact ⟨⟨_, rfl, rfl⟩, ⟨_, rfl, rfl⟩, ⟨_, rfl, rfl⟩, ⟨_, rfl, rfl⟩, ⟨_, rfl, rfl⟩, fun _ h => by cases h⟩
            case obsD =>
              clear HFIN
              refine Obs.cons none (by kernel_rfl) ?_ ?_
              · refine Ob.plain fun a w9 hR hk K k9 => ?_
                obtain ⟨_, e11, f11⟩ := hk 11 (by decide)
                clear hk
                go_simp
                exact k9 _ _ (Chg.refl _ _) f11
              refine Obs.cons none (by kernel_rfl) ?_ ?_
              · refine Ob.plain fun a w9 hR hk K k9 => ?_
                obtain ⟨_, e52, rfl⟩ := hk 52 (by decide)
                clear hk
                have hz9 : ((11 : Int) != 0) = true := by decide
                go_simp
                exact k9 _ _ (Chg.refl _ _) rfl
              refine Obs.cons none (by kernel_rfl) ?_ ?_
              · refine Ob.plain fun a w9 hR hk K k9 => ?_
                obtain ⟨_, e53, f53⟩ := hk 53 (by decide)
                clear hk
                go_simp
                exact k9 _ _ (Chg.refl _ _) f53
              refine Obs.cons (some (54, false)) (by kernel_rfl) ?_ ?_
              · exact Ob.no (fun _ _ h => h) (Chg.refl _) (fun _ _ => trivial)
              refine Obs.cons (some (54, false)) (by kernel_rfl) ?_ ?_
              · exact Ob.no (fun _ _ h => h) (Chg.refl _) (fun _ _ => trivial)
              refine Obs.cons (some (54, false)) (by kernel_rfl) ?_ ?_
              · exact Ob.no (fun _ _ h => h) (Chg.refl _) (fun _ _ => trivial)
              refine Obs.cons (some (54, false)) (by kernel_rfl) ?_ ?_
              · exact Ob.no (fun _ _ h => h) (Chg.refl _) (fun _ _ => trivial)
              refine Obs.cons (some (54, false)) (by kernel_rfl) ?_ ?_
              · exact Ob.no (fun _ _ h => h) (Chg.refl _) (fun _ _ => trivial)
              refine Obs.cons (some (54, false)) (by kernel_rfl) ?_ ?_
              · exact Ob.no (fun _ _ h => h) (Chg.refl _) (fun _ _ => trivial)
              refine Obs.cons (some (54, false)) (by kernel_rfl) ?_ ?_
              · exact Ob.no (fun _ _ h => h) (Chg.refl _) (fun _ _ => rfl)
              refine Obs.cons (some (61, true)) (by kernel_rfl) ?_ ?_
              · exact Ob.und (fun _ _ h => h) (Chg.refl _) (fun _ _ => trivial)
              refine Obs.cons (some (61, true)) (by kernel_rfl) ?_ ?_
              · exact Ob.und (fun _ _ h => h) (Chg.refl _) (fun _ _ => trivial)
              refine Obs.cons (some (61, true)) (by kernel_rfl) ?_ ?_
              · exact Ob.und (fun _ _ h => h) (Chg.refl _) (fun _ _ => trivial)
              refine Obs.cons (some (54, false)) (by kernel_rfl) ?_ ?_
              · exact Ob.no (fun _ _ h => h) (Chg.refl _) (fun _ _ => trivial)
              refine Obs.cons (some (54, false)) (by kernel_rfl) ?_ ?_
              · exact Ob.no (fun _ _ h => h) (Chg.refl _) (fun _ _ => trivial)
              refine Obs.cons none (by kernel_rfl) ?_ ?_
              · refine Ob.plain fun a w9 hR hk K k9 => ?_
                obtain ⟨_, e54, rfl⟩ := hk 54 (by decide)
                obtain ⟨_, e66, _⟩ := hk 66 (by decide)
                clear hk
                go_simp
                exact k9 _ _ (Chg.refl _ _) rfl
              refine Obs.cons none (by kernel_rfl) ?_ ?_
              · refine Ob.plain fun a w9 hR hk K k9 => ?_
                obtain ⟨_, e67, f67⟩ := hk 67 (by decide)
                clear hk
                go_simp
                exact k9 _ _ (Chg.refl _ _) f67
              exact Obs.nil
            case finD =>
              intro vals w9 hc9 hv
              have h6 : vals 6 = .bool true := hv 6 (by decide)
              simp only [putAll, List.setIfInBounds_toArray, List.set_cons_zero, List.set_cons_succ, h6]
              have HC9 := hid (HFIN.out.trans hc9 (fun _ _ h => h))
              clear hc9 hv h6
              go_wp2
              go_ret
              exact ⟨rfl, HC9.out⟩
          · have hff : isF f = true := isF_kids hfF f (by simp [FmB.kids])
            have hgg : isF g = true := isF_kids hfF g (by simp [FmB.kids])
            have hny : nodesF (eraseA y) ≤ 4096 := by rw [hye]; have := (isF_parts.1 hyF).1; omega
            have HTY := hid (hty hny)
            have hpq : (isF (eraseA y) && holdsF (fun r => hasR xs r) (eraseA y)) = ((isF f && holdsF (fun r => hasR xs r) f) && (isF g && holdsF (fun r => hasR xs r) g)) := by
              rw [hye, hyF, hff, hgg, shape_holds _ _ (isF_parts.1 hfF).2.2 _ hy', Bool.true_and, Bool.true_and, Bool.true_and, Bool.eq_iff_iff, holds_all, Bool.and_eq_true]
              simp
            rw [hpq] at HTY
            clear hty hfF hy' hyF hye hff hgg hny hpq
            generalize (isF g && holdsF (fun r => hasR xs r) g) = q at *
            generalize (isF f && holdsF (fun r => hasR xs r) f) = p at *
            cases p with
            | true =>
              rw [Bool.true_and] at HTY
              refine wp_region_specs [.any, .any, .any, .eq (.pointer (some ⟨w.heap.size, 0, none⟩)), .eq (.pointer (some ⟨w.heap.size + 1, 0, none⟩)), .any, .eq (.bool true), .eq (.func (.func 12) #[] #[.pointer (some ⟨w.heap.size + 2, 0, none⟩)]), .any, .any, .eq (.pointer (some ⟨Y10, 0, none⟩)), .eq (.int .i64 0), .any, .any, .any, .any, .any, .any, .any, .any, .any, .any, .any, .any, .any, .any, .any, .any, .any, .any, .any, .any, .any, .any, .any, .any, .any, .any, .any, .any, .any, .any, .any, .any, .any, .any, .any, .any, .any, .any, .any, .any, .eq (.int .i64 0), .eq (.bool false), .eq (.bool false), .eq (.agg #[.int .i64 (eraseA y).op, .int .i64 (eraseA y).k, .string ⟨(eraseA y).r.1.toArray⟩, .string ⟨(eraseA y).r.2.toArray⟩, .slice yo (eraseA y).kids.length yc]), .eq (.func (.func 12) #[] #[.pointer (some ⟨w.heap.size + 2, 0, none⟩)]), .eq (.bool q), .eq (.agg #[.int .i64 f.op, .int .i64 f.k, .string ⟨f.r.1.toArray⟩, .string ⟨f.r.2.toArray⟩, .slice ao f.kids.length cp]), .eq (.func (.func 12) #[] #[.pointer (some ⟨w.heap.size + 2, 0, none⟩)]), .eq (.bool true), .eq (.bool true), .eq (.agg #[.int .i64 g.op, .int .i64 g.k, .string ⟨g.r.1.toArray⟩, .string ⟨g.r.2.toArray⟩, .slice bo g.kids.length bp]), .eq (.func (.func 12) #[] #[.pointer (some ⟨w.heap.size + 2, 0, none⟩)]), .eq (.bool q), .eq (.bool q), .eq (.bool true), .eq (.bool true)] [52, 53, 54, 55, 56, 57, 58, 59, 60, 61, 62, 63, 64, 65, 66, 67, 6] [3, 4, 7, 10, 11] (by kernel_rfl) (by kernel_rfl) (by rfl) (by kernel_rfl) ?startD ?obsD ?finD
              case startD =>
                simp only [List.forall_mem_cons]; exact ⟨⟨_, rfl, rfl⟩, ⟨_, rfl, rfl⟩, ⟨_, rfl, rfl⟩, ⟨_, rfl, rfl⟩, ⟨_, rfl, rfl⟩, fun _ h => by cases h⟩
              case obsD =>
                clear HFIN
                refine Obs.cons none (by kernel_rfl) ?_ ?_
                · refine Ob.plain fun a w9 hR hk K k9 => ?_
                  obtain ⟨_, e11, f11⟩ := hk 11 (by decide)
                  clear hk
                  go_simp
                  exact k9 _ _ (Chg.refl _ _) f11
                refine Obs.cons none (by kernel_rfl) ?_ ?_
                · refine Ob.plain fun a w9 hR hk K k9 => ?_
                  obtain ⟨_, e52, rfl⟩ := hk 52 (by decide)
                  clear hk
                  go_simp
                  exact k9 _ _ (Chg.refl _ _) rfl
                refine Obs.cons none (by kernel_rfl) ?_ ?_
                · refine Ob.plain fun a w9 hR hk K k9 => ?_
                  obtain ⟨_, e53, f53⟩ := hk 53 (by decide)
                  clear hk
                  go_simp
                  exact k9 _ _ (Chg.refl _ _) f53
                refine Obs.cons (some (54, false)) (by kernel_rfl) ?_ ?_
                · refine Ob.yes (fun _ _ h => h) fun a w9 hR hk K k9 => ?_
                  obtain ⟨_, e10, rfl⟩ := hk 10 (by decide)
                  clear hk
                  have hb9 := blk_keep HB11.out.2.2 hR id
                  have c0 := cell_blk hb9 0
                  have c1 := cell_blk hb9 1
                  have c2 := cell_blk hb9 2
                  have c3 := cell_blk hb9 3
                  have c4 := cell_blk hb9 4
                  simp only [List.getElem?_toArray, List.getElem?_cons_zero, List.getElem?_cons_succ] at c0 c1 c2 c3 c4
                  clear hb9
                  go_simp
                  exact k9 _ _ (Chg.refl _ _) rfl
                refine Obs.cons (some (54, false)) (by kernel_rfl) ?_ ?_
                · refine Ob.yes (fun _ _ h => h) fun a w9 hR hk K k9 => ?_
                  obtain ⟨_, e7, f7⟩ := hk 7 (by decide)
                  clear hk
                  go_simp
                  exact k9 _ _ (Chg.refl _ _) f7
                refine Obs.cons (some (54, false)) (by kernel_rfl) ?_ ?_
                · refine Ob.yes (fun _ _ h => h) fun a w9 hR hk K k9 => ?_
                  obtain ⟨_, e55, rfl⟩ := hk 55 (by decide)
                  obtain ⟨_, e56, rfl⟩ := hk 56 (by decide)
                  clear hk
                  have hq := HTY.out _ hR
                  go_simp
                  refine hq.mono ?_
                  rintro e w5 ⟨rfl, hcc⟩
                  exact k9 _ _ hcc rfl
                refine Obs.cons (some (54, false)) (by kernel_rfl) ?_ ?_
                · refine Ob.yes (fun _ _ h => h) fun a w9 hR hk K k9 => ?_
                  obtain ⟨_, e3, rfl⟩ := hk 3 (by decide)
                  clear hk
                  have hb9 := blk_keep HB11.out.1 hR id
                  have c0 := cell_blk hb9 0
                  have c1 := cell_blk hb9 1
                  have c2 := cell_blk hb9 2
                  have c3 := cell_blk hb9 3
                  have c4 := cell_blk hb9 4
                  simp only [List.getElem?_toArray, List.getElem?_cons_zero, List.getElem?_cons_succ] at c0 c1 c2 c3 c4
                  clear hb9
                  go_simp
                  exact k9 _ _ (Chg.refl _ _) rfl
                refine Obs.cons (some (54, false)) (by kernel_rfl) ?_ ?_
                · refine Ob.yes (fun _ _ h => h) fun a w9 hR hk K k9 => ?_
                  obtain ⟨_, e7, f7⟩ := hk 7 (by decide)
                  clear hk
                  go_simp
                  exact k9 _ _ (Chg.refl _ _) f7
                refine Obs.cons (some (54, false)) (by kernel_rfl) ?_ ?_
                · refine Ob.yes (fun _ _ h => h) fun a w9 hR hk K k9 => ?_
                  obtain ⟨_, e58, rfl⟩ := hk 58 (by decide)
                  obtain ⟨_, e59, rfl⟩ := hk 59 (by decide)
                  clear hk
                  have hq := HTF2.out _ hR
                  go_simp
                  refine hq.mono ?_
                  rintro e w5 ⟨rfl, hcc⟩
                  exact k9 _ _ hcc rfl
                refine Obs.cons (some (54, false)) (by kernel_rfl) ?_ ?_
                · refine Ob.yes (fun _ _ h => h) fun a w9 hR hk K k9 => ?_
                  obtain ⟨_, e60, f60⟩ := hk 60 (by decide)
                  clear hk
                  go_simp
                  exact k9 _ _ (Chg.refl _ _) f60
                refine Obs.cons (some (61, true)) (by kernel_rfl) ?_ ?_
                · refine Ob.yes (fun _ _ h => h) fun a w9 hR hk K k9 => ?_
                  obtain ⟨_, e4, rfl⟩ := hk 4 (by decide)
                  clear hk
                  have hb9 := blk_keep HB11.out.2.1 hR id
                  have c0 := cell_blk hb9 0
                  have c1 := cell_blk hb9 1
                  have c2 := cell_blk hb9 2
                  have c3 := cell_blk hb9 3
                  have c4 := cell_blk hb9 4
                  simp only [List.getElem?_toArray, List.getElem?_cons_zero, List.getElem?_cons_succ] at c0 c1 c2 c3 c4
                  clear hb9
                  go_simp
                  exact k9 _ _ (Chg.refl _ _) rfl
                refine Obs.cons (some (61, true)) (by kernel_rfl) ?_ ?_
                · refine Ob.yes (fun _ _ h => h) fun a w9 hR hk K k9 => ?_
                  obtain ⟨_, e7, f7⟩ := hk 7 (by decide)
                  clear hk
                  go_simp
                  exact k9 _ _ (Chg.refl _ _) f7
                refine Obs.cons (some (61, true)) (by kernel_rfl) ?_ ?_
                · refine Ob.yes (fun _ _ h => h) fun a w9 hR hk K k9 => ?_
                  obtain ⟨_, e62, rfl⟩ := hk 62 (by decide)
                  obtain ⟨_, e63, rfl⟩ := hk 63 (by decide)
                  clear hk
                  have hq := HTG.out _ hR
                  go_simp
                  refine hq.mono ?_
                  rintro e w5 ⟨rfl, hcc⟩
                  exact k9 _ _ hcc rfl
                refine Obs.cons (some (54, false)) (by kernel_rfl) ?_ ?_
                · refine Ob.yes (fun _ _ h => h) fun a w9 hR hk K k9 => ?_
                  obtain ⟨_, e61, rfl⟩ := hk 61 (by decide)
                  obtain ⟨_, e64, rfl⟩ := hk 64 (by decide)
                  clear hk
                  go_simp
                  exact k9 _ _ (Chg.refl _ _) rfl
                refine Obs.cons (some (54, false)) (by kernel_rfl) ?_ ?_
                · refine Ob.yes (fun _ _ h => h) fun a w9 hR hk K k9 => ?_
                  obtain ⟨_, e57, rfl⟩ := hk 57 (by decide)
                  obtain ⟨_, e65, rfl⟩ := hk 65 (by decide)
                  clear hk
                  have hz9 : (q == q) = true := by simp
                  go_simp
                  exact k9 _ _ (Chg.refl _ _) (by first | rfl | (show Value.bool _ = Value.bool _; simp))
                refine Obs.cons none (by kernel_rfl) ?_ ?_
                · refine Ob.plain fun a w9 hR hk K k9 => ?_
                  obtain ⟨_, e54, rfl⟩ := hk 54 (by decide)
                  obtain ⟨_, e66, rfl⟩ := hk 66 (by decide)
                  clear hk
                  go_simp
                  exact k9 _ _ (Chg.refl _ _) rfl
                refine Obs.cons none (by kernel_rfl) ?_ ?_
                · refine Ob.plain fun a w9 hR hk K k9 => ?_
                  obtain ⟨_, e67, f67⟩ := hk 67 (by decide)
                  clear hk
                  go_simp
                  exact k9 _ _ (Chg.refl _ _) f67
                exact Obs.nil
              case finD =>
                intro vals w9 hc9 hv
                have h6 : vals 6 = .bool true := hv 6 (by decide)
                simp only [putAll, List.setIfInBounds_toArray, List.set_cons_zero, List.set_cons_succ, h6]
                have HC9 := hid (HFIN.out.trans hc9 (fun _ _ h => h))
                clear hc9 hv h6
                go_wp2
                go_ret
                exact ⟨rfl, HC9.out⟩
            | false =>
              rw [Bool.false_and] at HTY
              refine wp_region_specs [.any, .any, .any, .eq (.pointer (some ⟨w.heap.size, 0, none⟩)), .eq (.pointer (some ⟨w.heap.size + 1, 0, none⟩)), .any, .eq (.bool true), .eq (.func (.func 12) #[] #[.pointer (some ⟨w.heap.size + 2, 0, none⟩)]), .any, .any, .eq (.pointer (some ⟨Y10, 0, none⟩)), .eq (.int .i64 0), .any, .any, .any, .any, .any, .any, .any, .any, .any, .any, .any, .any, .any, .any, .any, .any, .any, .any, .any, .any, .any, .any, .any, .any, .any, .any, .any, .any, .any, .any, .any, .any, .any, .any, .any, .any, .any, .any, .any, .any, .eq (.int .i64 0), .eq (.bool false), .eq (.bool false), .eq (.agg #[.int .i64 (eraseA y).op, .int .i64 (eraseA y).k, .string ⟨(eraseA y).r.1.toArray⟩, .string ⟨(eraseA y).r.2.toArray⟩, .slice yo (eraseA y).kids.length yc]), .eq (.func (.func 12) #[] #[.pointer (some ⟨w.heap.size + 2, 0, none⟩)]), .eq (.bool false), .eq (.agg #[.int .i64 f.op, .int .i64 f.k, .string ⟨f.r.1.toArray⟩, .string ⟨f.r.2.toArray⟩, .slice ao f.kids.length cp]), .eq (.func (.func 12) #[] #[.pointer (some ⟨w.heap.size + 2, 0, none⟩)]), .eq (.bool false), .eq (.bool false), .any, .any, .any, .eq (.bool false), .eq (.bool true), .eq (.bool true)] [52, 53, 54, 55, 56, 57, 58, 59, 60, 61, 62, 63, 64, 65, 66, 67, 6] [3, 4, 7, 10, 11] (by kernel_rfl) (by kernel_rfl) (by rfl) (by kernel_rfl) ?startD ?obsD ?finD
              case startD =>
                simp only [List.forall_mem_cons]; exact ⟨⟨_, rfl, rfl⟩, ⟨_, rfl, rfl⟩, ⟨_, rfl, rfl⟩, ⟨_, rfl, rfl⟩, ⟨_, rfl, rfl⟩, fun _ h => by cases h⟩
              case obsD =>
                clear HFIN
                refine Obs.cons none (by kernel_rfl) ?_ ?_
                · refine Ob.plain fun a w9 hR hk K k9 => ?_
                  obtain ⟨_, e11, f11⟩ := hk 11 (by decide)
                  clear hk
                  go_simp
                  exact k9 _ _ (Chg.refl _ _) f11
                refine Obs.cons none (by kernel_rfl) ?_ ?_
                · refine Ob.plain fun a w9 hR hk K k9 => ?_
                  obtain ⟨_, e52, rfl⟩ := hk 52 (by decide)
                  clear hk
                  go_simp
                  exact k9 _ _ (Chg.refl _ _) rfl
                refine Obs.cons none (by kernel_rfl) ?_ ?_
                · refine Ob.plain fun a w9 hR hk K k9 => ?_
                  obtain ⟨_, e53, f53⟩ := hk 53 (by decide)
                  clear hk
                  go_simp
                  exact k9 _ _ (Chg.refl _ _) f53
                refine Obs.cons (some (54, false)) (by kernel_rfl) ?_ ?_
                · refine Ob.yes (fun _ _ h => h) fun a w9 hR hk K k9 => ?_
                  obtain ⟨_, e10, rfl⟩ := hk 10 (by decide)
                  clear hk
                  have hb9 := blk_keep HB11.out.2.2 hR id
                  have c0 := cell_blk hb9 0
                  have c1 := cell_blk hb9 1
                  have c2 := cell_blk hb9 2
                  have c3 := cell_blk hb9 3
                  have c4 := cell_blk hb9 4
                  simp only [List.getElem?_toArray, List.getElem?_cons_zero, List.getElem?_cons_succ] at c0 c1 c2 c3 c4
                  clear hb9
                  go_simp
                  exact k9 _ _ (Chg.refl _ _) rfl
                refine Obs.cons (some (54, false)) (by kernel_rfl) ?_ ?_
                · refine Ob.yes (fun _ _ h => h) fun a w9 hR hk K k9 => ?_
                  obtain ⟨_, e7, f7⟩ := hk 7 (by decide)
                  clear hk
                  go_simp
                  exact k9 _ _ (Chg.refl _ _) f7
                refine Obs.cons (some (54, false)) (by kernel_rfl) ?_ ?_
                · refine Ob.yes (fun _ _ h => h) fun a w9 hR hk K k9 => ?_
                  obtain ⟨_, e55, rfl⟩ := hk 55 (by decide)
                  obtain ⟨_, e56, rfl⟩ := hk 56 (by decide)
                  clear hk
                  have hq := HTY.out _ hR
                  go_simp
                  refine hq.mono ?_
                  rintro e w5 ⟨rfl, hcc⟩
                  exact k9 _ _ hcc rfl
                refine Obs.cons (some (54, false)) (by kernel_rfl) ?_ ?_
                · refine Ob.yes (fun _ _ h => h) fun a w9 hR hk K k9 => ?_
                  obtain ⟨_, e3, rfl⟩ := hk 3 (by decide)
                  clear hk
                  have hb9 := blk_keep HB11.out.1 hR id
                  have c0 := cell_blk hb9 0
                  have c1 := cell_blk hb9 1
                  have c2 := cell_blk hb9 2
                  have c3 := cell_blk hb9 3
                  have c4 := cell_blk hb9 4
                  simp only [List.getElem?_toArray, List.getElem?_cons_zero, List.getElem?_cons_succ] at c0 c1 c2 c3 c4
                  clear hb9
                  go_simp
                  exact k9 _ _ (Chg.refl _ _) rfl
                refine Obs.cons (some (54, false)) (by kernel_rfl) ?_ ?_
                · refine Ob.yes (fun _ _ h => h) fun a w9 hR hk K k9 => ?_
                  obtain ⟨_, e7, f7⟩ := hk 7 (by decide)
                  clear hk
                  go_simp
                  exact k9 _ _ (Chg.refl _ _) f7
                refine Obs.cons (some (54, false)) (by kernel_rfl) ?_ ?_
                · refine Ob.yes (fun _ _ h => h) fun a w9 hR hk K k9 => ?_
                  obtain ⟨_, e58, rfl⟩ := hk 58 (by decide)
                  obtain ⟨_, e59, rfl⟩ := hk 59 (by decide)
                  clear hk
                  have hq := HTF2.out _ hR
                  go_simp
                  refine hq.mono ?_
                  rintro e w5 ⟨rfl, hcc⟩
                  exact k9 _ _ hcc rfl
                refine Obs.cons (some (54, false)) (by kernel_rfl) ?_ ?_
                · refine Ob.yes (fun _ _ h => h) fun a w9 hR hk K k9 => ?_
                  obtain ⟨_, e60, f60⟩ := hk 60 (by decide)
                  clear hk
                  go_simp
                  exact k9 _ _ (Chg.refl _ _) f60
                refine Obs.cons (some (61, true)) (by kernel_rfl) ?_ ?_
                · exact Ob.no (fun _ _ h => h) (Chg.refl _) (fun _ _ => trivial)
                refine Obs.cons (some (61, true)) (by kernel_rfl) ?_ ?_
                · exact Ob.no (fun _ _ h => h) (Chg.refl _) (fun _ _ => trivial)
                refine Obs.cons (some (61, true)) (by kernel_rfl) ?_ ?_
                · exact Ob.no (fun _ _ h => h) (Chg.refl _) (fun _ _ => trivial)
                refine Obs.cons (some (54, false)) (by kernel_rfl) ?_ ?_
                · refine Ob.yes (fun _ _ h => h) fun a w9 hR hk K k9 => ?_
                  obtain ⟨_, e61, rfl⟩ := hk 61 (by decide)
                  obtain ⟨_, e64, _⟩ := hk 64 (by decide)
                  clear hk
                  go_simp
                  exact k9 _ _ (Chg.refl _ _) rfl
                refine Obs.cons (some (54, false)) (by kernel_rfl) ?_ ?_
                · refine Ob.yes (fun _ _ h => h) fun a w9 hR hk K k9 => ?_
                  obtain ⟨_, e57, rfl⟩ := hk 57 (by decide)
                  obtain ⟨_, e65, rfl⟩ := hk 65 (by decide)
                  clear hk
                  go_simp
                  exact k9 _ _ (Chg.refl _ _) rfl
                refine Obs.cons none (by kernel_rfl) ?_ ?_
                · refine Ob.plain fun a w9 hR hk K k9 => ?_
                  obtain ⟨_, e54, rfl⟩ := hk 54 (by decide)
                  obtain ⟨_, e66, rfl⟩ := hk 66 (by decide)
                  clear hk
                  go_simp
                  exact k9 _ _ (Chg.refl _ _) rfl
                refine Obs.cons none (by kernel_rfl) ?_ ?_
                · refine Ob.plain fun a w9 hR hk K k9 => ?_
                  obtain ⟨_, e67, f67⟩ := hk 67 (by decide)
                  clear hk
                  go_simp
                  exact k9 _ _ (Chg.refl _ _) f67
                exact Obs.nil
              case finD =>
                intro vals w9 hc9 hv
                have h6 : vals 6 = .bool true := hv 6 (by decide)
                simp only [putAll, List.setIfInBounds_toArray, List.set_cons_zero, List.set_cons_succ, h6]
                have HC9 := hid (HFIN.out.trans hc9 (fun _ _ h => h))
                clear hc9 hv h6
                go_wp2
                go_ret
                exact ⟨rfl, HC9.out⟩
          · clear hty HTF2 HTG q1 q2 hfF hy'
            refine wp_region_specs [.any, .any, .any, .eq (.pointer (some ⟨w.heap.size, 0, none⟩)), .eq (.pointer (some ⟨w.heap.size + 1, 0, none⟩)), .any, .eq (.bool true), .eq (.func (.func 12) #[] #[.pointer (some ⟨w.heap.size + 2, 0, none⟩)]), .any, .any, .eq (.pointer (some ⟨Y10, 0, none⟩)), .eq (.int .i64 12), .any, .any, .any, .any, .any, .any, .any, .any, .any, .any, .any, .any, .any, .any, .any, .any, .any, .any, .any, .any, .any, .any, .any, .any, .any, .any, .any, .any, .any, .any, .any, .any, .any, .any, .any, .any, .any, .any, .any, .any, .eq (.int .i64 12), .eq (.bool true), .eq (.bool true), .any, .any, .any, .any, .any, .any, .eq (undef), .any, .any, .any, .any, .any, .eq (.bool true)] [52, 53, 54, 55, 56, 57, 58, 59, 60, 61, 62, 63, 64, 65, 66, 67, 6] [3, 4, 7, 10, 11] (by kernel_rfl) (by kernel_rfl) (by rfl) (by kernel_rfl) ?startD ?obsD ?finD
            case startD =>
              simp only [List.forall_mem_cons]; exact ⟨⟨_, rfl, rfl⟩, ⟨_, rfl, rfl⟩, ⟨_, rfl, rfl⟩, ⟨_, rfl, rfl⟩, ⟨_, rfl, rfl⟩, fun _ h => by cases h⟩
            case obsD =>
              clear HFIN
              refine Obs.cons none (by kernel_rfl) ?_ ?_
              · refine Ob.plain fun a w9 hR hk K k9 => ?_
                obtain ⟨_, e11, f11⟩ := hk 11 (by decide)
                clear hk
                go_simp
                exact k9 _ _ (Chg.refl _ _) f11
              refine Obs.cons none (by kernel_rfl) ?_ ?_
              · refine Ob.plain fun a w9 hR hk K k9 => ?_
                obtain ⟨_, e52, rfl⟩ := hk 52 (by decide)
                clear hk
                have hz9 : ((12 : Int) != 0) = true := by decide
                go_simp
                exact k9 _ _ (Chg.refl _ _) rfl
              refine Obs.cons none (by kernel_rfl) ?_ ?_
              · refine Ob.plain fun a w9 hR hk K k9 => ?_
                obtain ⟨_, e53, f53⟩ := hk 53 (by decide)
                clear hk
                go_simp
                exact k9 _ _ (Chg.refl _ _) f53
              refine Obs.cons (some (54, false)) (by kernel_rfl) ?_ ?_
              · exact Ob.no (fun _ _ h => h) (Chg.refl _) (fun _ _ => trivial)
              refine Obs.cons (some (54, false)) (by kernel_rfl) ?_ ?_
              · exact Ob.no (fun _ _ h => h) (Chg.refl _) (fun _ _ => trivial)
              refine Obs.cons (some (54, false)) (by kernel_rfl) ?_ ?_
              · exact Ob.no (fun _ _ h => h) (Chg.refl _) (fun _ _ => trivial)
              refine Obs.cons (some (54, false)) (by kernel_rfl) ?_ ?_
              · exact Ob.no (fun _ _ h => h) (Chg.refl _) (fun _ _ => trivial)
              refine Obs.cons (some (54, false)) (by kernel_rfl) ?_ ?_
              · exact Ob.no (fun _ _ h => h) (Chg.refl _) (fun _ _ => trivial)
              refine Obs.cons (some (54, false)) (by kernel_rfl) ?_ ?_
              · exact Ob.no (fun _ _ h => h) (Chg.refl _) (fun _ _ => trivial)
              refine Obs.cons (some (54, false)) (by kernel_rfl) ?_ ?_
              · exact Ob.no (fun _ _ h => h) (Chg.refl _) (fun _ _ => rfl)
              refine Obs.cons (some (61, true)) (by kernel_rfl) ?_ ?_
              · exact Ob.und (fun _ _ h => h) (Chg.refl _) (fun _ _ => trivial)
              refine Obs.cons (some (61, true)) (by kernel_rfl) ?_ ?_
              · exact Ob.und (fun _ _ h => h) (Chg.refl _) (fun _ _ => trivial)
              refine Obs.cons (some (61, true)) (by kernel_rfl) ?_ ?_
              · exact Ob.und (fun _ _ h => h) (Chg.refl _) (fun _ _ => trivial)
              refine Obs.cons (some (54, false)) (by kernel_rfl) ?_ ?_
              · exact Ob.no (fun _ _ h => h) (Chg.refl _) (fun _ _ => trivial)
              refine Obs.cons (some (54, false)) (by kernel_rfl) ?_ ?_
              · exact Ob.no (fun _ _ h => h) (Chg.refl _) (fun _ _ => trivial)
              refine Obs.cons none (by kernel_rfl) ?_ ?_
              · refine Ob.plain fun a w9 hR hk K k9 => ?_
                obtain ⟨_, e54, rfl⟩ := hk 54 (by decide)
                obtain ⟨_, e66, _⟩ := hk 66 (by decide)
                clear hk
                go_simp
                exact k9 _ _ (Chg.refl _ _) rfl
              refine Obs.cons none (by kernel_rfl) ?_ ?_
              · refine Ob.plain fun a w9 hR hk K k9 => ?_
                obtain ⟨_, e67, f67⟩ := hk 67 (by decide)
                clear hk
                go_simp
                exact k9 _ _ (Chg.refl _ _) f67
              exact Obs.nil
            case finD =>
              intro vals w9 hc9 hv
              have h6 : vals 6 = .bool true := hv 6 (by decide)
              simp only [putAll, List.setIfInBounds_toArray, List.set_cons_zero, List.set_cons_succ, h6]
              have HC9 := hid (HFIN.out.trans hc9 (fun _ _ h => h))
              clear hc9 hv h6
              go_wp2
              go_ret
              exact ⟨rfl, HC9.out⟩
      · have hnx : nodesF (eraseA x) ≤ 4000 := by rw [hxe]; have := (isF_parts.1 hxF).1; omega
        have HTF := hid htf
        have HTX := hid (htx.tr (by omega) ns_ent HASK7.out)
        have hpp : (isF (eraseA x) && holdsF (fun r => hasR xs r) (eraseA x)) = (isF f && holdsF (fun r => hasR xs r) f) := by
          rw [hxe, hxF, hfF, shape_holds _ _ (isF_parts.1 hfF).2.2 _ hx']
        rw [hpp] at HTX
        have hix : ∀ W, Chg (fun _ => False) w7 W → Calls Try.prog 11 #[.agg #[.int .i64 (eraseA x).op, .int .i64 (eraseA x).k, .string ⟨(eraseA x).r.1.toArray⟩, .string ⟨(eraseA x).r.2.toArray⟩, .slice xo (eraseA x).kids.length xc]] W fun e w' => e = .returned (.bool true) ∧ Chg (fun _ => False) W w' := fun W hW => by
          have hxk := htx.keep hW
          have hsw := same_with_own (w := W) (ownA_keep hW x hox (fun _ _ => id)) (by have := g3.size; have := cX.size; have := hW.size; omega) g2 hnx xo xc hxv
          refine (pnIs (eraseA x) _ xo xc W hxk.at_ hxk.lt hxk.ok hnx hsw).mono ?_
          rintro e w' ⟨b, rfl, hc, hb⟩
          refine ⟨?_, hc⟩
          rcases hb with ⟨hb, _⟩ | ⟨_, z, hz, hb⟩
          · rw [hxe, hxF] at hb; cases hb
          · have hNx : NF (eraseA x) := by rw [hxe]; exact shape_NF f (isF_parts.1 hfF).2.2 _ hx'
            have hzx := shape_self _ hNx (by rw [hxe]; exact hxF) z hz
            rw [hb.2 ⟨by rw [hzx, hxe]; exact hxF, hzx.symm⟩]
        have HIX := hid hix
        clear htf htx hix hox hxi hxv g2 g3 cX hw7 hfF hx' hxF hxe hpp hnx
        generalize (isF f && holdsF (fun r => hasR xs r) f) = p at *
        refine wp_region_specs [.any, .any, .any, .eq (.pointer (some ⟨w.heap.size, 0, none⟩)), .any, .any, .any, .eq (.func (.func 12) #[] #[.pointer (some ⟨w.heap.size + 2, 0, none⟩)]), .eq (.pointer (some ⟨X8, 0, none⟩)), .eq (.int .i64 0), .any, .any, .any, .any, .any, .any, .any, .any, .any, .any, .any, .any, .any, .any, .any, .any, .any, .any, .any, .any, .eq (.int .i64 0), .eq (.bool true), .eq (.bool true), .eq (.agg #[.int .i64 (eraseA x).op, .int .i64 (eraseA x).k, .string ⟨(eraseA x).r.1.toArray⟩, .string ⟨(eraseA x).r.2.toArray⟩, .slice xo (eraseA x).kids.length xc]), .eq (.func (.func 12) #[] #[.pointer (some ⟨w.heap.size + 2, 0, none⟩)]), .eq (.bool p), .eq (.agg #[.int .i64 f.op, .int .i64 f.k, .string ⟨f.r.1.toArray⟩, .string ⟨f.r.2.toArray⟩, .slice ao f.kids.length cp]), .eq (.func (.func 12) #[] #[.pointer (some ⟨w.heap.size + 2, 0, none⟩)]), .eq (.bool p), .eq (.bool false), .eq (.bool false), .eq (.agg #[.int .i64 (eraseA x).op, .int .i64 (eraseA x).k, .string ⟨(eraseA x).r.1.toArray⟩, .string ⟨(eraseA x).r.2.toArray⟩, .slice xo (eraseA x).kids.length xc]), .eq (.bool true), .eq (.bool false), .eq (.bool false), .eq (.bool false), .any, .any, .any, .any, .any, .any, .any, .any, .any, .any, .any, .any, .any, .any, .any, .any, .any, .any, .any, .any, .any, .any] [30, 31, 32, 33, 34, 35, 36, 37, 38, 39, 40, 41, 42, 43, 44, 45] [3, 7, 8, 9] (by kernel_rfl) (by kernel_rfl) (by rfl) (by kernel_rfl) ?startA ?obsA ?finA
        case startA =>
          simp only [List.forall_mem_cons]; exact ⟨⟨_, rfl, rfl⟩, ⟨_, rfl, rfl⟩, ⟨_, rfl, rfl⟩, ⟨_, rfl, rfl⟩, fun _ h => by cases h⟩
        case obsA =>
          clear HNF
          refine Obs.cons none (by kernel_rfl) ?_ ?_
          · refine Ob.plain fun a w9 hR hk K k9 => ?_
            obtain ⟨_, e9, f9⟩ := hk 9 (by decide)
            clear hk
            go_simp
            exact k9 _ _ (Chg.refl _ _) f9
          refine Obs.cons none (by kernel_rfl) ?_ ?_
          · refine Ob.plain fun a w9 hR hk K k9 => ?_
            obtain ⟨_, e30, rfl⟩ := hk 30 (by decide)
            clear hk
            go_simp
            exact k9 _ _ (Chg.refl _ _) rfl
          refine Obs.cons none (by kernel_rfl) ?_ ?_
          · refine Ob.plain fun a w9 hR hk K k9 => ?_
            obtain ⟨_, e31, f31⟩ := hk 31 (by decide)
            clear hk
            go_simp
            exact k9 _ _ (Chg.refl _ _) f31
          refine Obs.cons (some (32, true)) (by kernel_rfl) ?_ ?_
          · refine Ob.yes (fun _ _ h => h) fun a w9 hR hk K k9 => ?_
            obtain ⟨_, e8, rfl⟩ := hk 8 (by decide)
            clear hk
            have hb9 := blk_keep HB7.out.2 hR id
            have c0 := cell_blk hb9 0
            have c1 := cell_blk hb9 1
            have c2 := cell_blk hb9 2
            have c3 := cell_blk hb9 3
            have c4 := cell_blk hb9 4
            simp only [List.getElem?_toArray, List.getElem?_cons_zero, List.getElem?_cons_succ] at c0 c1 c2 c3 c4
            clear hb9
            go_simp
            exact k9 _ _ (Chg.refl _ _) rfl
          refine Obs.cons (some (32, true)) (by kernel_rfl) ?_ ?_
          · refine Ob.yes (fun _ _ h => h) fun a w9 hR hk K k9 => ?_
            obtain ⟨_, e7, f7⟩ := hk 7 (by decide)
            clear hk
            go_simp
            exact k9 _ _ (Chg.refl _ _) f7
          refine Obs.cons (some (32, true)) (by kernel_rfl) ?_ ?_
          · refine Ob.yes (fun _ _ h => h) fun a w9 hR hk K k9 => ?_
            obtain ⟨_, e33, rfl⟩ := hk 33 (by decide)
            obtain ⟨_, e34, rfl⟩ := hk 34 (by decide)
            clear hk
            have hq := HTX.out _ hR
            go_simp
            refine hq.mono ?_
            rintro e w5 ⟨rfl, hcc⟩
            exact k9 _ _ hcc rfl
          refine Obs.cons (some (32, true)) (by kernel_rfl) ?_ ?_
          · refine Ob.yes (fun _ _ h => h) fun a w9 hR hk K k9 => ?_
            obtain ⟨_, e3, rfl⟩ := hk 3 (by decide)
            clear hk
            have hb9 := blk_keep HB7.out.1 hR id
            have c0 := cell_blk hb9 0
            have c1 := cell_blk hb9 1
            have c2 := cell_blk hb9 2
            have c3 := cell_blk hb9 3
            have c4 := cell_blk hb9 4
            simp only [List.getElem?_toArray, List.getElem?_cons_zero, List.getElem?_cons_succ] at c0 c1 c2 c3 c4
            clear hb9
            go_simp
            exact k9 _ _ (Chg.refl _ _) rfl
          refine Obs.cons (some (32, true)) (by kernel_rfl) ?_ ?_
          · refine Ob.yes (fun _ _ h => h) fun a w9 hR hk K k9 => ?_
            obtain ⟨_, e7, f7⟩ := hk 7 (by decide)
            clear hk
            go_simp
            exact k9 _ _ (Chg.refl _ _) f7
          refine Obs.cons (some (32, true)) (by kernel_rfl) ?_ ?_
          · refine Ob.yes (fun _ _ h => h) fun a w9 hR hk K k9 => ?_
            obtain ⟨_, e36, rfl⟩ := hk 36 (by decide)
            obtain ⟨_, e37, rfl⟩ := hk 37 (by decide)
            clear hk
            have hq := HTF.out _ hR
            go_simp
            refine hq.mono ?_
            rintro e w5 ⟨rfl, hcc⟩
            exact k9 _ _ hcc rfl
          refine Obs.cons (some (32, true)) (by kernel_rfl) ?_ ?_
          · refine Ob.yes (fun _ _ h => h) fun a w9 hR hk K k9 => ?_
            obtain ⟨_, e35, rfl⟩ := hk 35 (by decide)
            obtain ⟨_, e38, rfl⟩ := hk 38 (by decide)
            clear hk
            have hz9 : (p != p) = false := by simp
            go_simp
            exact k9 _ _ (Chg.refl _ _) (by first | rfl | (show Value.bool _ = Value.bool _; simp))
          refine Obs.cons (some (32, true)) (by kernel_rfl) ?_ ?_
          · refine Ob.yes (fun _ _ h => h) fun a w9 hR hk K k9 => ?_
            obtain ⟨_, e39, f39⟩ := hk 39 (by decide)
            clear hk
            go_simp
            exact k9 _ _ (Chg.refl _ _) f39
          refine Obs.cons (some (40, false)) (by kernel_rfl) ?_ ?_
          · refine Ob.yes (fun _ _ h => h) fun a w9 hR hk K k9 => ?_
            obtain ⟨_, e8, rfl⟩ := hk 8 (by decide)
            clear hk
            have hb9 := blk_keep HB7.out.2 hR id
            have c0 := cell_blk hb9 0
            have c1 := cell_blk hb9 1
            have c2 := cell_blk hb9 2
            have c3 := cell_blk hb9 3
            have c4 := cell_blk hb9 4
            simp only [List.getElem?_toArray, List.getElem?_cons_zero, List.getElem?_cons_succ] at c0 c1 c2 c3 c4
            clear hb9
            go_simp
            exact k9 _ _ (Chg.refl _ _) rfl
          refine Obs.cons (some (40, false)) (by kernel_rfl) ?_ ?_
          · refine Ob.yes (fun _ _ h => h) fun a w9 hR hk K k9 => ?_
            obtain ⟨_, e41, rfl⟩ := hk 41 (by decide)
            clear hk
            have hq := HIX.out _ hR
            go_simp
            refine hq.mono ?_
            rintro e w5 ⟨rfl, hcc⟩
            exact k9 _ _ hcc rfl
          refine Obs.cons (some (40, false)) (by kernel_rfl) ?_ ?_
          · refine Ob.yes (fun _ _ h => h) fun a w9 hR hk K k9 => ?_
            obtain ⟨_, e42, rfl⟩ := hk 42 (by decide)
            clear hk
            go_simp
            exact k9 _ _ (Chg.refl _ _) rfl
          refine Obs.cons (some (32, true)) (by kernel_rfl) ?_ ?_
          · refine Ob.yes (fun _ _ h => h) fun a w9 hR hk K k9 => ?_
            obtain ⟨_, e40, rfl⟩ := hk 40 (by decide)
            obtain ⟨_, e43, rfl⟩ := hk 43 (by decide)
            clear hk
            go_simp
            exact k9 _ _ (Chg.refl _ _) rfl
          refine Obs.cons none (by kernel_rfl) ?_ ?_
          · refine Ob.plain fun a w9 hR hk K k9 => ?_
            obtain ⟨_, e32, rfl⟩ := hk 32 (by decide)
            obtain ⟨_, e44, rfl⟩ := hk 44 (by decide)
            clear hk
            go_simp
            exact k9 _ _ (Chg.refl _ _) rfl
          exact Obs.nil
        case finA =>
          intro vals w9 hc9 hv
          have h45 : vals 45 = .bool false := hv 45 (by decide)
          simp only [putAll, List.setIfInBounds_toArray, List.set_cons_zero, List.set_cons_succ, h45]
          clear HTX HTF HIX
          have c09 := HW7.out.2.trans hc9 (fun _ _ h => h)
          have c39 := HW7.out.1.trans hc9 (fun _ _ h => h)
          have hF9 := blk_keep HB.out.1 c39 id
          have hG9 := blk_keep HB.out.2.1 c39 id
          have f0 := cell_blk hF9 0
          have f1 := cell_blk hF9 1
          have f2 := cell_blk hF9 2
          have f3 := cell_blk hF9 3
          have f4 := cell_blk hF9 4
          simp only [List.getElem?_toArray, List.getElem?_cons_zero, List.getElem?_cons_succ] at f0 f1 f2 f3 f4
          have g0 := cell_blk hG9 0
          have g1 := cell_blk hG9 1
          have g2 := cell_blk hG9 2
          have g3 := cell_blk hG9 3
          have g4 := cell_blk hG9 4
          simp only [List.getElem?_toArray, List.getElem?_cons_zero, List.getElem?_cons_succ] at g0 g1 g2 g3 g4
          have HO2 := hid (pnBoth f n ao cp g n bo bp w9 (H.out.1.keep c09).at_ (H.out.1.keep c09).lt H.out.1.ok H.out.1.z (H.out.2.1.keep c09).at_ (H.out.2.1.keep c09).lt H.out.2.1.ok H.out.2.1.z (by have := HNF.out; omega))
          have HC9 := hid (And.intro c09 c39)
          have HASK9 := hid (HASK7.out.later hc9)
          clear c09 c39 hF9 hG9 hc9 hv h45 HB7
          go_wp2_with fail
          refine HO2.out.mono ?_
          clear HO2 f0 f1 f2 f3 f4 g0 g1 g2 g3 g4
          rintro e w10 ⟨y, k2, rfl, y1, y2, y3, hcase2⟩
          obtain ⟨yo, yc, hyi, hfy, hyv⟩ := own_in y1
          rw [hfy]
          have cY : Chg (fun _ => False) w10 (w10.alloc (.cells #[.int .i64 (eraseA y).op, .int .i64 (eraseA y).k, .string ⟨(eraseA y).r.1.toArray⟩, .string ⟨(eraseA y).r.2.toArray⟩, .slice yo (eraseA y).kids.length yc] 26)) := (Chg.refl _ w10).alloc _
          have hY := heap_alloc_new w10 (.cells #[.int .i64 (eraseA y).op, .int .i64 (eraseA y).k, .string ⟨(eraseA y).r.1.toArray⟩, .string ⟨(eraseA y).r.2.toArray⟩, .slice yo (eraseA y).kids.length yc] 26)
          have c911 := y3.trans cY (fun _ _ h => h)
          have c311 := HC9.out.2.trans c911 (fun _ _ h => h)
          have c011 := HC9.out.1.trans c911 (fun _ _ h => h)
          have hF11 := blk_keep HB.out.1 c311 id
          have hG11 := blk_keep HB.out.2.1 c311 id
          have hask := HASK9.out.later c911
          have HTF2 := hid ((H.out.1.keep c011).tr (by have := HNF.out; omega) ns_ent hask)
          have HTG := hid ((H.out.2.1.keep c011).tr (by have := HNF.out; omega) ns_ent hask)
          have hty := fun hn => (hyi.keep cY).tr hn ns_ent hask
          have HFIN := hid c011
          have HB11 := hid (And.intro hF11 (And.intro hG11 hY))
          have HQ2 := hid (And.intro hcase2 hty)
          clear hF11 hG11 hY c911 c311 c011 hask cY y1 y2 y3 hyi hfy hyv HASK9 HC9 hcase2 hty
          go_wp2
          generalize hw11 : w10.alloc (.cells #[.int .i64 (eraseA y).op, .int .i64 (eraseA y).k, .string ⟨(eraseA y).r.1.toArray⟩, .string ⟨(eraseA y).r.2.toArray⟩, .slice yo (eraseA y).kids.length yc] 26) = w11 at *
          generalize hY10 : w10.heap.size = Y10 at *
          clear hw11 hY10
          obtain ⟨hcase2, hty⟩ := HQ2.out
          clear HQ2
          rcases hcase2 with ⟨q1, q2, rfl⟩ | ⟨hfF, y', hy', ⟨hyF, hye, rfl⟩ | ⟨q1, q2, rfl⟩⟩
          · clear hty HTF2 HTG q1 q2
            refine wp_region_specs [.any, .any, .any, .eq (.pointer (some ⟨w.heap.size, 0, none⟩)), .eq (.pointer (some ⟨w.heap.size + 1, 0, none⟩)), .any, .eq (.bool true), .eq (.func (.func 12) #[] #[.pointer (some ⟨w.heap.size + 2, 0, none⟩)]), .any, .any, .eq (.pointer (some ⟨Y10, 0, none⟩)), .eq (.int .i64 11), .any, .any, .any, .any, .any, .any, .any, .any, .any, .any, .any, .any, .any, .any, .any, .any, .any, .any, .any, .any, .any, .any, .any, .any, .any, .any, .any, .any, .any, .any, .any, .any, .any, .any, .any, .any, .any, .any, .any, .any, .eq (.int .i64 11), .eq (.bool true), .eq (.bool true), .any, .any, .any, .any, .any, .any, .eq (undef), .any, .any, .any, .any, .any, .eq (.bool true)] [52, 53, 54, 55, 56, 57, 58, 59, 60, 61, 62, 63, 64, 65, 66, 67, 6] [3, 4, 7, 10, 11] (by kernel_rfl) (by kernel_rfl) (by rfl) (by kernel_rfl) ?startD ?obsD ?finD
            case startD =>
              simp only [List.forall_mem_cons]; exact ⟨⟨_, rfl, rfl⟩, ⟨_, rfl, rfl⟩, ⟨_, rfl, rfl⟩, ⟨_, rfl, rfl⟩, ⟨_, rfl, rfl⟩, fun _ h => by cases h⟩
            case obsD =>
              clear HFIN
              refine Obs.cons none (by kernel_rfl) ?_ ?_
              · refine Ob.plain fun a w9 hR hk K k9 => ?_
                obtain ⟨_, e11, f11⟩ := hk 11 (by decide)
                clear hk
                go_simp
                exact k9 _ _ (Chg.refl _ _) f11
              refine Obs.cons none (by kernel_rfl) ?_ ?_
              · refine Ob.plain fun a w9 hR hk K k9 => ?_
                obtain ⟨_, e52, rfl⟩ := hk 52 (by decide)
                clear hk
                have hz9 : ((11 : Int) != 0) = true := by decide
                go_simp
                exact k9 _ _ (Chg.refl _ _) rfl
              refine Obs.cons none (by kernel_rfl) ?_ ?_
              · refine Ob.plain fun a w9 hR hk K k9 => ?_
                obtain ⟨_, e53, f53⟩ := hk 53 (by decide)
                clear hk
                go_simp
                exact k9 _ _ (Chg.refl _ _) f53
              refine Obs.cons (some (54, false)) (by kernel_rfl) ?_ ?_
              · exact Ob.no (fun _ _ h => h) (Chg.refl _) (fun _ _ => trivial)
              refine Obs.cons (some (54, false)) (by kernel_rfl) ?_ ?_
              · exact Ob.no (fun _ _ h => h) (Chg.refl _) (fun _ _ => trivial)
              refine Obs.cons (some (54, false)) (by kernel_rfl) ?_ ?_
              · exact Ob.no (fun _ _ h => h) (Chg.refl _) (fun _ _ => trivial)
              refine Obs.cons (some (54, false)) (by kernel_rfl) ?_ ?_
              · exact Ob.no (fun _ _ h => h) (Chg.refl _) (fun _ _ => trivial)
              refine Obs.cons (some (54, false)) (by kernel_rfl) ?_ ?_
              · exact Ob.no (fun _ _ h => h) (Chg.refl _) (fun _ _ => trivial)
              refine Obs.cons (some (54, false)) (by kernel_rfl) ?_ ?_
              · exact Ob.no (fun _ _ h => h) (Chg.refl _) (fun _ _ => trivial)
              refine Obs.cons (some (54, false)) (by kernel_rfl) ?_ ?_
              · exact Ob.no (fun _ _ h => h) (Chg.refl _) (fun _ _ => rfl)
              refine Obs.cons (some (61, true)) (by kernel_rfl) ?_ ?_
              · exact Ob.und (fun _ _ h => h) (Chg.refl _) (fun _ _ => trivial)
              refine Obs.cons (some (61, true)) (by kernel_rfl) ?_ ?_
              · exact Ob.und (fun _ _ h => h) (Chg.refl _) (fun _ _ => trivial)
              refine Obs.cons (some (61, true)) (by kernel_rfl) ?_ ?_
              · exact Ob.und (fun _ _ h => h) (Chg.refl _) (fun _ _ => trivial)
              refine Obs.cons (some (54, false)) (by kernel_rfl) ?_ ?_
              · exact Ob.no (fun _ _ h => h) (Chg.refl _) (fun _ _ => trivial)
              refine Obs.cons (some (54, false)) (by kernel_rfl) ?_ ?_
              · exact Ob.no (fun _ _ h => h) (Chg.refl _) (fun _ _ => trivial)
              refine Obs.cons none (by kernel_rfl) ?_ ?_
              · refine Ob.plain fun a w9 hR hk K k9 => ?_
                obtain ⟨_, e54, rfl⟩ := hk 54 (by decide)
                obtain ⟨_, e66, _⟩ := hk 66 (by decide)
                clear hk
                go_simp
                exact k9 _ _ (Chg.refl _ _) rfl
              refine Obs.cons none (by kernel_rfl) ?_ ?_
              · refine Ob.plain fun a w9 hR hk K k9 => ?_
                obtain ⟨_, e67, f67⟩ := hk 67 (by decide)
                clear hk
                go_simp
                exact k9 _ _ (Chg.refl _ _) f67
              exact Obs.nil
            case finD =>
              intro vals w9 hc9 hv
              have h6 : vals 6 = .bool true := hv 6 (by decide)
              simp only [putAll, List.setIfInBounds_toArray, List.set_cons_zero, List.set_cons_succ, h6]
              have HC9 := hid (HFIN.out.trans hc9 (fun _ _ h => h))
              clear hc9 hv h6
              go_wp2
              go_ret
              exact ⟨rfl, HC9.out⟩
          · have hff : isF f = true := isF_kids hfF f (by simp [FmB.kids])
            have hgg : isF g = true := isF_kids hfF g (by simp [FmB.kids])
            have hny : nodesF (eraseA y) ≤ 4096 := by rw [hye]; have := (isF_parts.1 hyF).1; omega
            have HTY := hid (hty hny)
            have hpq : (isF (eraseA y) && holdsF (fun r => hasR xs r) (eraseA y)) = ((isF f && holdsF (fun r => hasR xs r) f) && (isF g && holdsF (fun r => hasR xs r) g)) := by
              rw [hye, hyF, hff, hgg, shape_holds _ _ (isF_parts.1 hfF).2.2 _ hy', Bool.true_and, Bool.true_and, Bool.true_and, Bool.eq_iff_iff, holds_all, Bool.and_eq_true]
              simp
            rw [hpq] at HTY
            clear hty hfF hy' hyF hye hff hgg hny hpq
            generalize (isF g && holdsF (fun r => hasR xs r) g) = q at *
            generalize (isF f && holdsF (fun r => hasR xs r) f) = p at *
            cases p with
            | true =>
              rw [Bool.true_and] at HTY
              refine wp_region_specs [.any, .any, .any, .eq (.pointer (some ⟨w.heap.size, 0, none⟩)), .eq (.pointer (some ⟨w.heap.size + 1, 0, none⟩)), .any, .eq (.bool true), .eq (.func (.func 12) #[] #[.pointer (some ⟨w.heap.size + 2, 0, none⟩)]), .any, .any, .eq (.pointer (some ⟨Y10, 0, none⟩)), .eq (.int .i64 0), .any, .any, .any, .any, .any, .any, .any, .any, .any, .any, .any, .any, .any, .any, .any, .any, .any, .any, .any, .any, .any, .any, .any, .any, .any, .any, .any, .any, .any, .any, .any, .any, .any, .any, .any, .any, .any, .any, .any, .any, .eq (.int .i64 0), .eq (.bool false), .eq (.bool false), .eq (.agg #[.int .i64 (eraseA y).op, .int .i64 (eraseA y).k, .string ⟨(eraseA y).r.1.toArray⟩, .string ⟨(eraseA y).r.2.toArray⟩, .slice yo (eraseA y).kids.length yc]), .eq (.func (.func 12) #[] #[.pointer (some ⟨w.heap.size + 2, 0, none⟩)]), .eq (.bool q), .eq (.agg #[.int .i64 f.op, .int .i64 f.k, .string ⟨f.r.1.toArray⟩, .string ⟨f.r.2.toArray⟩, .slice ao f.kids.length cp]), .eq (.func (.func 12) #[] #[.pointer (some ⟨w.heap.size + 2, 0, none⟩)]), .eq (.bool true), .eq (.bool true), .eq (.agg #[.int .i64 g.op, .int .i64 g.k, .string ⟨g.r.1.toArray⟩, .string ⟨g.r.2.toArray⟩, .slice bo g.kids.length bp]), .eq (.func (.func 12) #[] #[.pointer (some ⟨w.heap.size + 2, 0, none⟩)]), .eq (.bool q), .eq (.bool q), .eq (.bool true), .eq (.bool true)] [52, 53, 54, 55, 56, 57, 58, 59, 60, 61, 62, 63, 64, 65, 66, 67, 6] [3, 4, 7, 10, 11] (by kernel_rfl) (by kernel_rfl) (by rfl) (by kernel_rfl) ?startD ?obsD ?finD
              case startD =>
                simp only [List.forall_mem_cons]; exact ⟨⟨_, rfl, rfl⟩, ⟨_, rfl, rfl⟩, ⟨_, rfl, rfl⟩, ⟨_, rfl, rfl⟩, ⟨_, rfl, rfl⟩, fun _ h => by cases h⟩
              case obsD =>
                clear HFIN
                refine Obs.cons none (by kernel_rfl) ?_ ?_
                · refine Ob.plain fun a w9 hR hk K k9 => ?_
                  obtain ⟨_, e11, f11⟩ := hk 11 (by decide)
                  clear hk
                  go_simp
                  exact k9 _ _ (Chg.refl _ _) f11
                refine Obs.cons none (by kernel_rfl) ?_ ?_
                · refine Ob.plain fun a w9 hR hk K k9 => ?_
                  obtain ⟨_, e52, rfl⟩ := hk 52 (by decide)
                  clear hk
                  go_simp
                  exact k9 _ _ (Chg.refl _ _) rfl
                refine Obs.cons none (by kernel_rfl) ?_ ?_
                · refine Ob.plain fun a w9 hR hk K k9 => ?_
                  obtain ⟨_, e53, f53⟩ := hk 53 (by decide)
                  clear hk
                  go_simp
                  exact k9 _ _ (Chg.refl _ _) f53
                refine Obs.cons (some (54, false)) (by kernel_rfl) ?_ ?_
                · refine Ob.yes (fun _ _ h => h) fun a w9 hR hk K k9 => ?_
                  obtain ⟨_, e10, rfl⟩ := hk 10 (by decide)
                  clear hk
                  have hb9 := blk_keep HB11.out.2.2 hR id
                  have c0 := cell_blk hb9 0
                  have c1 := cell_blk hb9 1
                  have c2 := cell_blk hb9 2
                  have c3 := cell_blk hb9 3
                  have c4 := cell_blk hb9 4
                  simp only [List.getElem?_toArray, List.getElem?_cons_zero, List.getElem?_cons_succ] at c0 c1 c2 c3 c4
                  clear hb9
                  go_simp
                  exact k9 _ _ (Chg.refl _ _) rfl
                refine Obs.cons (some (54, false)) (by kernel_rfl) ?_ ?_
                · refine Ob.yes (fun _ _ h => h) fun a w9 hR hk K k9 => ?_
                  obtain ⟨_, e7, f7⟩ := hk 7 (by decide)
                  clear hk
                  go_simp
                  exact k9 _ _ (Chg.refl _ _) f7
                refine Obs.cons (some (54, false)) (by kernel_rfl) ?_ ?_
                · refine Ob.yes (fun _ _ h => h) fun a w9 hR hk K k9 => ?_
                  obtain ⟨_, e55, rfl⟩ := hk 55 (by decide)
                  obtain ⟨_, e56, rfl⟩ := hk 56 (by decide)
                  clear hk
                  have hq := HTY.out _ hR
                  go_simp
                  refine hq.mono ?_
                  rintro e w5 ⟨rfl, hcc⟩
                  exact k9 _ _ hcc rfl
                refine Obs.cons (some (54, false)) (by kernel_rfl) ?_ ?_
                · refine Ob.yes (fun _ _ h => h) fun a w9 hR hk K k9 => ?_
                  obtain ⟨_, e3, rfl⟩ := hk 3 (by decide)
                  clear hk
                  have hb9 := blk_keep HB11.out.1 hR id
                  have c0 := cell_blk hb9 0
                  have c1 := cell_blk hb9 1
                  have c2 := cell_blk hb9 2
                  have c3 := cell_blk hb9 3
                  have c4 := cell_blk hb9 4
                  simp only [List.getElem?_toArray, List.getElem?_cons_zero, List.getElem?_cons_succ] at c0 c1 c2 c3 c4
                  clear hb9
                  go_simp
                  exact k9 _ _ (Chg.refl _ _) rfl
                refine Obs.cons (some (54, false)) (by kernel_rfl) ?_ ?_
                · refine Ob.yes (fun _ _ h => h) fun a w9 hR hk K k9 => ?_
                  obtain ⟨_, e7, f7⟩ := hk 7 (by decide)
                  clear hk
                  go_simp
                  exact k9 _ _ (Chg.refl _ _) f7
                refine Obs.cons (some (54, false)) (by kernel_rfl) ?_ ?_
                · refine Ob.yes (fun _ _ h => h) fun a w9 hR hk K k9 => ?_
                  obtain ⟨_, e58, rfl⟩ := hk 58 (by decide)
                  obtain ⟨_, e59, rfl⟩ := hk 59 (by decide)
                  clear hk
                  have hq := HTF2.out _ hR
                  go_simp
                  refine hq.mono ?_
                  rintro e w5 ⟨rfl, hcc⟩
                  exact k9 _ _ hcc rfl
                refine Obs.cons (some (54, false)) (by kernel_rfl) ?_ ?_
                · refine Ob.yes (fun _ _ h => h) fun a w9 hR hk K k9 => ?_
                  obtain ⟨_, e60, f60⟩ := hk 60 (by decide)
                  clear hk
                  go_simp
                  exact k9 _ _ (Chg.refl _ _) f60
                refine Obs.cons (some (61, true)) (by kernel_rfl) ?_ ?_
                · refine Ob.yes (fun _ _ h => h) fun a w9 hR hk K k9 => ?_
                  obtain ⟨_, e4, rfl⟩ := hk 4 (by decide)
                  clear hk
                  have hb9 := blk_keep HB11.out.2.1 hR id
                  have c0 := cell_blk hb9 0
                  have c1 := cell_blk hb9 1
                  have c2 := cell_blk hb9 2
                  have c3 := cell_blk hb9 3
                  have c4 := cell_blk hb9 4
                  simp only [List.getElem?_toArray, List.getElem?_cons_zero, List.getElem?_cons_succ] at c0 c1 c2 c3 c4
                  clear hb9
                  go_simp
                  exact k9 _ _ (Chg.refl _ _) rfl
                refine Obs.cons (some (61, true)) (by kernel_rfl) ?_ ?_
                · refine Ob.yes (fun _ _ h => h) fun a w9 hR hk K k9 => ?_
                  obtain ⟨_, e7, f7⟩ := hk 7 (by decide)
                  clear hk
                  go_simp
                  exact k9 _ _ (Chg.refl _ _) f7
                refine Obs.cons (some (61, true)) (by kernel_rfl) ?_ ?_
                · refine Ob.yes (fun _ _ h => h) fun a w9 hR hk K k9 => ?_
                  obtain ⟨_, e62, rfl⟩ := hk 62 (by decide)
                  obtain ⟨_, e63, rfl⟩ := hk 63 (by decide)
                  clear hk
                  have hq := HTG.out _ hR
                  go_simp
                  refine hq.mono ?_
                  rintro e w5 ⟨rfl, hcc⟩
                  exact k9 _ _ hcc rfl
                refine Obs.cons (some (54, false)) (by kernel_rfl) ?_ ?_
                · refine Ob.yes (fun _ _ h => h) fun a w9 hR hk K k9 => ?_
                  obtain ⟨_, e61, rfl⟩ := hk 61 (by decide)
                  obtain ⟨_, e64, rfl⟩ := hk 64 (by decide)
                  clear hk
                  go_simp
                  exact k9 _ _ (Chg.refl _ _) rfl
                refine Obs.cons (some (54, false)) (by kernel_rfl) ?_ ?_
                · refine Ob.yes (fun _ _ h => h) fun a w9 hR hk K k9 => ?_
                  obtain ⟨_, e57, rfl⟩ := hk 57 (by decide)
                  obtain ⟨_, e65, rfl⟩ := hk 65 (by decide)
                  clear hk
                  have hz9 : (q == q) = true := by simp
                  go_simp
                  exact k9 _ _ (Chg.refl _ _) (by first | rfl | (show Value.bool _ = Value.bool _; simp))
                refine Obs.cons none (by kernel_rfl) ?_ ?_
                · refine Ob.plain fun a w9 hR hk K k9 => ?_
                  obtain ⟨_, e54, rfl⟩ := hk 54 (by decide)
                  obtain ⟨_, e66, rfl⟩ := hk 66 (by decide)
                  clear hk
                  go_simp
                  exact k9 _ _ (Chg.refl _ _) rfl
                refine Obs.cons none (by kernel_rfl) ?_ ?_
                · refine Ob.plain fun a w9 hR hk K k9 => ?_
                  obtain ⟨_, e67, f67⟩ := hk 67 (by decide)
                  clear hk
                  go_simp
                  exact k9 _ _ (Chg.refl _ _) f67
                exact Obs.nil
              case finD =>
                intro vals w9 hc9 hv
                have h6 : vals 6 = .bool true := hv 6 (by decide)
                simp only [putAll, List.setIfInBounds_toArray, List.set_cons_zero, List.set_cons_succ, h6]
                have HC9 := hid (HFIN.out.trans hc9 (fun _ _ h => h))
                clear hc9 hv h6
                go_wp2
                go_ret
                exact ⟨rfl, HC9.out⟩
            | false =>
              rw [Bool.false_and] at HTY
              refine wp_region_specs [.any, .any, .any, .eq (.pointer (some ⟨w.heap.size, 0, none⟩)), .eq (.pointer (some ⟨w.heap.size + 1, 0, none⟩)), .any, .eq (.bool true), .eq (.func (.func 12) #[] #[.pointer (some ⟨w.heap.size + 2, 0, none⟩)]), .any, .any, .eq (.pointer (some ⟨Y10, 0, none⟩)), .eq (.int .i64 0), .any, .any, .any, .any, .any, .any, .any, .any, .any, .any, .any, .any, .any, .any, .any, .any, .any, .any, .any, .any, .any, .any, .any, .any, .any, .any, .any, .any, .any, .any, .any, .any, .any, .any, .any, .any, .any, .any, .any, .any, .eq (.int .i64 0), .eq (.bool false), .eq (.bool false), .eq (.agg #[.int .i64 (eraseA y).op, .int .i64 (eraseA y).k, .string ⟨(eraseA y).r.1.toArray⟩, .string ⟨(eraseA y).r.2.toArray⟩, .slice yo (eraseA y).kids.length yc]), .eq (.func (.func 12) #[] #[.pointer (some ⟨w.heap.size + 2, 0, none⟩)]), .eq (.bool false), .eq (.agg #[.int .i64 f.op, .int .i64 f.k, .string ⟨f.r.1.toArray⟩, .string ⟨f.r.2.toArray⟩, .slice ao f.kids.length cp]), .eq (.func (.func 12) #[] #[.pointer (some ⟨w.heap.size + 2, 0, none⟩)]), .eq (.bool false), .eq (.bool false), .any, .any, .any, .eq (.bool false), .eq (.bool true), .eq (.bool true)] [52, 53, 54, 55, 56, 57, 58, 59, 60, 61, 62, 63, 64, 65, 66, 67, 6] [3, 4, 7, 10, 11] (by kernel_rfl) (by kernel_rfl) (by rfl) (by kernel_rfl) ?startD ?obsD ?finD
              case startD =>
                simp only [List.forall_mem_cons]; exact ⟨⟨_, rfl, rfl⟩, ⟨_, rfl, rfl⟩, ⟨_, rfl, rfl⟩, ⟨_, rfl, rfl⟩, ⟨_, rfl, rfl⟩, fun _ h => by cases h⟩
              case obsD =>
                clear HFIN
                refine Obs.cons none (by kernel_rfl) ?_ ?_
                · refine Ob.plain fun a w9 hR hk K k9 => ?_
                  obtain ⟨_, e11, f11⟩ := hk 11 (by decide)
                  clear hk
                  go_simp
                  exact k9 _ _ (Chg.refl _ _) f11
                refine Obs.cons none (by kernel_rfl) ?_ ?_
                · refine Ob.plain fun a w9 hR hk K k9 => ?_
                  obtain ⟨_, e52, rfl⟩ := hk 52 (by decide)
                  clear hk
                  go_simp
                  exact k9 _ _ (Chg.refl _ _) rfl
                refine Obs.cons none (by kernel_rfl) ?_ ?_
                · refine Ob.plain fun a w9 hR hk K k9 => ?_
                  obtain ⟨_, e53, f53⟩ := hk 53 (by decide)
                  clear hk
                  go_simp
                  exact k9 _ _ (Chg.refl _ _) f53
                refine Obs.cons (some (54, false)) (by kernel_rfl) ?_ ?_
                · refine Ob.yes (fun _ _ h => h) fun a w9 hR hk K k9 => ?_
                  obtain ⟨_, e10, rfl⟩ := hk 10 (by decide)
                  clear hk
                  have hb9 := blk_keep HB11.out.2.2 hR id
                  have c0 := cell_blk hb9 0
                  have c1 := cell_blk hb9 1
                  have c2 := cell_blk hb9 2
                  have c3 := cell_blk hb9 3
                  have c4 := cell_blk hb9 4
                  simp only [List.getElem?_toArray, List.getElem?_cons_zero, List.getElem?_cons_succ] at c0 c1 c2 c3 c4
                  clear hb9
                  go_simp
                  exact k9 _ _ (Chg.refl _ _) rfl
                refine Obs.cons (some (54, false)) (by kernel_rfl) ?_ ?_
                · refine Ob.yes (fun _ _ h => h) fun a w9 hR hk K k9 => ?_
                  obtain ⟨_, e7, f7⟩ := hk 7 (by decide)
                  clear hk
                  go_simp
                  exact k9 _ _ (Chg.refl _ _) f7
                refine Obs.cons (some (54, false)) (by kernel_rfl) ?_ ?_
                · refine Ob.yes (fun _ _ h => h) fun a w9 hR hk K k9 => ?_
                  obtain ⟨_, e55, rfl⟩ := hk 55 (by decide)
                  obtain ⟨_, e56, rfl⟩ := hk 56 (by decide)
                  clear hk
                  have hq := HTY.out _ hR
                  go_simp
                  refine hq.mono ?_
                  rintro e w5 ⟨rfl, hcc⟩
                  exact k9 _ _ hcc rfl
                refine Obs.cons (some (54, false)) (by kernel_rfl) ?_ ?_
                · refine Ob.yes (fun _ _ h => h) fun a w9 hR hk K k9 => ?_
                  obtain ⟨_, e3, rfl⟩ := hk 3 (by decide)
                  clear hk
                  have hb9 := blk_keep HB11.out.1 hR id
                  have c0 := cell_blk hb9 0
                  have c1 := cell_blk hb9 1
                  have c2 := cell_blk hb9 2
                  have c3 := cell_blk hb9 3
                  have c4 := cell_blk hb9 4
                  simp only [List.getElem?_toArray, List.getElem?_cons_zero, List.getElem?_cons_succ] at c0 c1 c2 c3 c4
                  clear hb9
                  go_simp
                  exact k9 _ _ (Chg.refl _ _) rfl
                refine Obs.cons (some (54, false)) (by kernel_rfl) ?_ ?_
                · refine Ob.yes (fun _ _ h => h) fun a w9 hR hk K k9 => ?_
                  obtain ⟨_, e7, f7⟩ := hk 7 (by decide)
                  clear hk
                  go_simp
                  exact k9 _ _ (Chg.refl _ _) f7
                refine Obs.cons (some (54, false)) (by kernel_rfl) ?_ ?_
                · refine Ob.yes (fun _ _ h => h) fun a w9 hR hk K k9 => ?_
                  obtain ⟨_, e58, rfl⟩ := hk 58 (by decide)
                  obtain ⟨_, e59, rfl⟩ := hk 59 (by decide)
                  clear hk
                  have hq := HTF2.out _ hR
                  go_simp
                  refine hq.mono ?_
                  rintro e w5 ⟨rfl, hcc⟩
                  exact k9 _ _ hcc rfl
                refine Obs.cons (some (54, false)) (by kernel_rfl) ?_ ?_
                · refine Ob.yes (fun _ _ h => h) fun a w9 hR hk K k9 => ?_
                  obtain ⟨_, e60, f60⟩ := hk 60 (by decide)
                  clear hk
                  go_simp
                  exact k9 _ _ (Chg.refl _ _) f60
                refine Obs.cons (some (61, true)) (by kernel_rfl) ?_ ?_
                · exact Ob.no (fun _ _ h => h) (Chg.refl _) (fun _ _ => trivial)
                refine Obs.cons (some (61, true)) (by kernel_rfl) ?_ ?_
                · exact Ob.no (fun _ _ h => h) (Chg.refl _) (fun _ _ => trivial)
                refine Obs.cons (some (61, true)) (by kernel_rfl) ?_ ?_
                · exact Ob.no (fun _ _ h => h) (Chg.refl _) (fun _ _ => trivial)
                refine Obs.cons (some (54, false)) (by kernel_rfl) ?_ ?_
                · refine Ob.yes (fun _ _ h => h) fun a w9 hR hk K k9 => ?_
                  obtain ⟨_, e61, rfl⟩ := hk 61 (by decide)
                  obtain ⟨_, e64, _⟩ := hk 64 (by decide)
                  clear hk
                  go_simp
                  exact k9 _ _ (Chg.refl _ _) rfl
                refine Obs.cons (some (54, false)) (by kernel_rfl) ?_ ?_
                · refine Ob.yes (fun _ _ h => h) fun a w9 hR hk K k9 => ?_
                  obtain ⟨_, e57, rfl⟩ := hk 57 (by decide)
                  obtain ⟨_, e65, rfl⟩ := hk 65 (by decide)
                  clear hk
                  go_simp
                  exact k9 _ _ (Chg.refl _ _) rfl
                refine Obs.cons none (by kernel_rfl) ?_ ?_
                · refine Ob.plain fun a w9 hR hk K k9 => ?_
                  obtain ⟨_, e54, rfl⟩ := hk 54 (by decide)
                  obtain ⟨_, e66, rfl⟩ := hk 66 (by decide)
                  clear hk
                  go_simp
                  exact k9 _ _ (Chg.refl _ _) rfl
                refine Obs.cons none (by kernel_rfl) ?_ ?_
                · refine Ob.plain fun a w9 hR hk K k9 => ?_
                  obtain ⟨_, e67, f67⟩ := hk 67 (by decide)
                  clear hk
                  go_simp
                  exact k9 _ _ (Chg.refl _ _) f67
                exact Obs.nil
              case finD =>
                intro vals w9 hc9 hv
                have h6 : vals 6 = .bool true := hv 6 (by decide)
                simp only [putAll, List.setIfInBounds_toArray, List.set_cons_zero, List.set_cons_succ, h6]
                have HC9 := hid (HFIN.out.trans hc9 (fun _ _ h => h))
                clear hc9 hv h6
                go_wp2
                go_ret
                exact ⟨rfl, HC9.out⟩
          · clear hty HTF2 HTG q1 q2 hfF hy'
            refine wp_region_specs [.any, .any, .any, .eq (.pointer (some ⟨w.heap.size, 0, none⟩)), .eq (.pointer (some ⟨w.heap.size + 1, 0, none⟩)), .any, .eq (.bool true), .eq (.func (.func 12) #[] #[.pointer (some ⟨w.heap.size + 2, 0, none⟩)]), .any, .any, .eq (.pointer (some ⟨Y10, 0, none⟩)), .eq (.int .i64 12), .any, .any, .any, .any, .any, .any, .any, .any, .any, .any, .any, .any, .any, .any, .any, .any, .any, .any, .any, .any, .any, .any, .any, .any, .any, .any, .any, .any, .any, .any, .any, .any, .any, .any, .any, .any, .any, .any, .any, .any, .eq (.int .i64 12), .eq (.bool true), .eq (.bool true), .any, .any, .any, .any, .any, .any, .eq (undef), .any, .any, .any, .any, .any, .eq (.bool true)] [52, 53, 54, 55, 56, 57, 58, 59, 60, 61, 62, 63, 64, 65, 66, 67, 6] [3, 4, 7, 10, 11] (by kernel_rfl) (by kernel_rfl) (by rfl) (by kernel_rfl) ?startD ?obsD ?finD
            case startD =>
              simp only [List.forall_mem_cons]; exact ⟨⟨_, rfl, rfl⟩, ⟨_, rfl, rfl⟩, ⟨_, rfl, rfl⟩, ⟨_, rfl, rfl⟩, ⟨_, rfl, rfl⟩, fun _ h => by cases h⟩
            case obsD =>
              clear HFIN
              refine Obs.cons none (by kernel_rfl) ?_ ?_
              · refine Ob.plain fun a w9 hR hk K k9 => ?_
                obtain ⟨_, e11, f11⟩ := hk 11 (by decide)
                clear hk
                go_simp
                exact k9 _ _ (Chg.refl _ _) f11
              refine Obs.cons none (by kernel_rfl) ?_ ?_
              · refine Ob.plain fun a w9 hR hk K k9 => ?_
                obtain ⟨_, e52, rfl⟩ := hk 52 (by decide)
                clear hk
                have hz9 : ((12 : Int) != 0) = true := by decide
                go_simp
                exact k9 _ _ (Chg.refl _ _) rfl
              refine Obs.cons none (by kernel_rfl) ?_ ?_
              · refine Ob.plain fun a w9 hR hk K k9 => ?_
                obtain ⟨_, e53, f53⟩ := hk 53 (by decide)
                clear hk
                go_simp
                exact k9 _ _ (Chg.refl _ _) f53
              refine Obs.cons (some (54, false)) (by kernel_rfl) ?_ ?_
              · exact Ob.no (fun _ _ h => h) (Chg.refl _) (fun _ _ => trivial)
              refine Obs.cons (some (54, false)) (by kernel_rfl) ?_ ?_
              · exact Ob.no (fun _ _ h => h) (Chg.refl _) (fun _ _ => trivial)
              refine Obs.cons (some (54, false)) (by kernel_rfl) ?_ ?_
              · exact Ob.no (fun _ _ h => h) (Chg.refl _) (fun _ _ => trivial)
              refine Obs.cons (some (54, false)) (by kernel_rfl) ?_ ?_
              · exact Ob.no (fun _ _ h => h) (Chg.refl _) (fun _ _ => trivial)
              refine Obs.cons (some (54, false)) (by kernel_rfl) ?_ ?_
              · exact Ob.no (fun _ _ h => h) (Chg.refl _) (fun _ _ => trivial)
              refine Obs.cons (some (54, false)) (by kernel_rfl) ?_ ?_
              · exact Ob.no (fun _ _ h => h) (Chg.refl _) (fun _ _ => trivial)
              refine Obs.cons (some (54, false)) (by kernel_rfl) ?_ ?_
              · exact Ob.no (fun _ _ h => h) (Chg.refl _) (fun _ _ => rfl)
              refine Obs.cons (some (61, true)) (by kernel_rfl) ?_ ?_
              · exact Ob.und (fun _ _ h => h) (Chg.refl _) (fun _ _ => trivial)
              refine Obs.cons (some (61, true)) (by kernel_rfl) ?_ ?_
              · exact Ob.und (fun _ _ h => h) (Chg.refl _) (fun _ _ => trivial)
              refine Obs.cons (some (61, true)) (by kernel_rfl) ?_ ?_
              · exact Ob.und (fun _ _ h => h) (Chg.refl _) (fun _ _ => trivial)
              refine Obs.cons (some (54, false)) (by kernel_rfl) ?_ ?_
              · exact Ob.no (fun _ _ h => h) (Chg.refl _) (fun _ _ => trivial)
              refine Obs.cons (some (54, false)) (by kernel_rfl) ?_ ?_
              · exact Ob.no (fun _ _ h => h) (Chg.refl _) (fun _ _ => trivial)
              refine Obs.cons none (by kernel_rfl) ?_ ?_
              · refine Ob.plain fun a w9 hR hk K k9 => ?_
                obtain ⟨_, e54, rfl⟩ := hk 54 (by decide)
                obtain ⟨_, e66, _⟩ := hk 66 (by decide)
                clear hk
                go_simp
                exact k9 _ _ (Chg.refl _ _) rfl
              refine Obs.cons none (by kernel_rfl) ?_ ?_
              · refine Ob.plain fun a w9 hR hk K k9 => ?_
                obtain ⟨_, e67, f67⟩ := hk 67 (by decide)
                clear hk
                go_simp
                exact k9 _ _ (Chg.refl _ _) f67
              exact Obs.nil
            case finD =>
              intro vals w9 hc9 hv
              have h6 : vals 6 = .bool true := hv 6 (by decide)
              simp only [putAll, List.setIfInBounds_toArray, List.set_cons_zero, List.set_cons_succ, h6]
              have HC9 := hid (HFIN.out.trans hc9 (fun _ _ h => h))
              clear hc9 hv h6
              go_wp2
              go_ret
              exact ⟨rfl, HC9.out⟩
      · clear htf htx hox hxi hxv g2 g3 cX hw7 q1 q2 hfF hx'
        refine wp_region_specs [.any, .any, .any, .eq (.pointer (some ⟨w.heap.size, 0, none⟩)), .any, .any, .any, .eq (.func (.func 12) #[] #[.pointer (some ⟨w.heap.size + 2, 0, none⟩)]), .eq (.pointer (some ⟨X8, 0, none⟩)), .eq (.int .i64 12), .any, .any, .any, .any, .any, .any, .any, .any, .any, .any, .any, .any, .any, .any, .any, .any, .any, .any, .any, .any, .eq (.int .i64 12), .eq (.bool false), .eq (.bool false), .any, .any, .any, .any, .any, .any, .any, .eq (undef), .any, .any, .any, .any, .eq (.bool false), .any, .any, .any, .any, .any, .any, .any, .any, .any, .any, .any, .any, .any, .any, .any, .any, .any, .any, .any, .any, .any, .any] [30, 31, 32, 33, 34, 35, 36, 37, 38, 39, 40, 41, 42, 43, 44, 45] [3, 7, 8, 9] (by kernel_rfl) (by kernel_rfl) (by rfl) (by kernel_rfl) ?startA ?obsA ?finA
        case startA =>
          simp only [List.forall_mem_cons]; exact ⟨⟨_, rfl, rfl⟩, ⟨_, rfl, rfl⟩, ⟨_, rfl, rfl⟩, ⟨_, rfl, rfl⟩, fun _ h => by cases h⟩
        case obsA =>
          clear HNF
          refine Obs.cons none (by kernel_rfl) ?_ ?_
          · refine Ob.plain fun a w9 hR hk K k9 => ?_
            obtain ⟨_, e9, f9⟩ := hk 9 (by decide)
            clear hk
            go_simp
            exact k9 _ _ (Chg.refl _ _) f9
          refine Obs.cons none (by kernel_rfl) ?_ ?_
          · refine Ob.plain fun a w9 hR hk K k9 => ?_
            obtain ⟨_, e30, rfl⟩ := hk 30 (by decide)
            clear hk
            have hz9 : ((12 : Int) == 0) = false := by decide
            go_simp
            exact k9 _ _ (Chg.refl _ _) rfl
          refine Obs.cons none (by kernel_rfl) ?_ ?_
          · refine Ob.plain fun a w9 hR hk K k9 => ?_
            obtain ⟨_, e31, f31⟩ := hk 31 (by decide)
            clear hk
            go_simp
            exact k9 _ _ (Chg.refl _ _) f31
          refine Obs.cons (some (32, true)) (by kernel_rfl) ?_ ?_
          · exact Ob.no (fun _ _ h => h) (Chg.refl _) (fun _ _ => trivial)
          refine Obs.cons (some (32, true)) (by kernel_rfl) ?_ ?_
          · exact Ob.no (fun _ _ h => h) (Chg.refl _) (fun _ _ => trivial)
          refine Obs.cons (some (32, true)) (by kernel_rfl) ?_ ?_
          · exact Ob.no (fun _ _ h => h) (Chg.refl _) (fun _ _ => trivial)
          refine Obs.cons (some (32, true)) (by kernel_rfl) ?_ ?_
          · exact Ob.no (fun _ _ h => h) (Chg.refl _) (fun _ _ => trivial)
          refine Obs.cons (some (32, true)) (by kernel_rfl) ?_ ?_
          · exact Ob.no (fun _ _ h => h) (Chg.refl _) (fun _ _ => trivial)
          refine Obs.cons (some (32, true)) (by kernel_rfl) ?_ ?_
          · exact Ob.no (fun _ _ h => h) (Chg.refl _) (fun _ _ => trivial)
          refine Obs.cons (some (32, true)) (by kernel_rfl) ?_ ?_
          · exact Ob.no (fun _ _ h => h) (Chg.refl _) (fun _ _ => trivial)
          refine Obs.cons (some (32, true)) (by kernel_rfl) ?_ ?_
          · exact Ob.no (fun _ _ h => h) (Chg.refl _) (fun _ _ => rfl)
          refine Obs.cons (some (40, false)) (by kernel_rfl) ?_ ?_
          · exact Ob.und (fun _ _ h => h) (Chg.refl _) (fun _ _ => trivial)
          refine Obs.cons (some (40, false)) (by kernel_rfl) ?_ ?_
          · exact Ob.und (fun _ _ h => h) (Chg.refl _) (fun _ _ => trivial)
          refine Obs.cons (some (40, false)) (by kernel_rfl) ?_ ?_
          · exact Ob.und (fun _ _ h => h) (Chg.refl _) (fun _ _ => trivial)
          refine Obs.cons (some (32, true)) (by kernel_rfl) ?_ ?_
          · exact Ob.no (fun _ _ h => h) (Chg.refl _) (fun _ _ => trivial)
          refine Obs.cons none (by kernel_rfl) ?_ ?_
          · refine Ob.plain fun a w9 hR hk K k9 => ?_
            obtain ⟨_, e32, rfl⟩ := hk 32 (by decide)
            obtain ⟨_, e44, _⟩ := hk 44 (by decide)
            clear hk
            go_simp
            exact k9 _ _ (Chg.refl _ _) rfl
          exact Obs.nil
        case finA =>
          intro vals w9 hc9 hv
          have h45 : vals 45 = .bool false := hv 45 (by decide)
          simp only [putAll, List.setIfInBounds_toArray, List.set_cons_zero, List.set_cons_succ, h45]
          skip
          have c09 := HW7.out.2.trans hc9 (fun _ _ h => h)
          have c39 := HW7.out.1.trans hc9 (fun _ _ h => h)
          have hF9 := blk_keep HB.out.1 c39 id
          have hG9 := blk_keep HB.out.2.1 c39 id
          have f0 := cell_blk hF9 0
          have f1 := cell_blk hF9 1
          have f2 := cell_blk hF9 2
          have f3 := cell_blk hF9 3
          have f4 := cell_blk hF9 4
          simp only [List.getElem?_toArray, List.getElem?_cons_zero, List.getElem?_cons_succ] at f0 f1 f2 f3 f4
          have g0 := cell_blk hG9 0
          have g1 := cell_blk hG9 1
          have g2 := cell_blk hG9 2
          have g3 := cell_blk hG9 3
          have g4 := cell_blk hG9 4
          simp only [List.getElem?_toArray, List.getElem?_cons_zero, List.getElem?_cons_succ] at g0 g1 g2 g3 g4
          have HO2 := hid (pnBoth f n ao cp g n bo bp w9 (H.out.1.keep c09).at_ (H.out.1.keep c09).lt H.out.1.ok H.out.1.z (H.out.2.1.keep c09).at_ (H.out.2.1.keep c09).lt H.out.2.1.ok H.out.2.1.z (by have := HNF.out; omega))
          have HC9 := hid (And.intro c09 c39)
          have HASK9 := hid (HASK7.out.later hc9)
          clear c09 c39 hF9 hG9 hc9 hv h45 HB7
          go_wp2_with fail
          refine HO2.out.mono ?_
          clear HO2 f0 f1 f2 f3 f4 g0 g1 g2 g3 g4
          rintro e w10 ⟨y, k2, rfl, y1, y2, y3, hcase2⟩
          obtain ⟨yo, yc, hyi, hfy, hyv⟩ := own_in y1
          rw [hfy]
          have cY : Chg (fun _ => False) w10 (w10.alloc (.cells #[.int .i64 (eraseA y).op, .int .i64 (eraseA y).k, .string ⟨(eraseA y).r.1.toArray⟩, .string ⟨(eraseA y).r.2.toArray⟩, .slice yo (eraseA y).kids.length yc] 26)) := (Chg.refl _ w10).alloc _
          have hY := heap_alloc_new w10 (.cells #[.int .i64 (eraseA y).op, .int .i64 (eraseA y).k, .string ⟨(eraseA y).r.1.toArray⟩, .string ⟨(eraseA y).r.2.toArray⟩, .slice yo (eraseA y).kids.length yc] 26)
          have c911 := y3.trans cY (fun _ _ h => h)
          have c311 := HC9.out.2.trans c911 (fun _ _ h => h)
          have c011 := HC9.out.1.trans c911 (fun _ _ h => h)
          have hF11 := blk_keep HB.out.1 c311 id
          have hG11 := blk_keep HB.out.2.1 c311 id
          have hask := HASK9.out.later c911
          have HTF2 := hid ((H.out.1.keep c011).tr (by have := HNF.out; omega) ns_ent hask)
          have HTG := hid ((H.out.2.1.keep c011).tr (by have := HNF.out; omega) ns_ent hask)
          have hty := fun hn => (hyi.keep cY).tr hn ns_ent hask
          have HFIN := hid c011
          have HB11 := hid (And.intro hF11 (And.intro hG11 hY))
          have HQ2 := hid (And.intro hcase2 hty)
          clear hF11 hG11 hY c911 c311 c011 hask cY y1 y2 y3 hyi hfy hyv HASK9 HC9 hcase2 hty
          go_wp2
          generalize hw11 : w10.alloc (.cells #[.int .i64 (eraseA y).op, .int .i64 (eraseA y).k, .string ⟨(eraseA y).r.1.toArray⟩, .string ⟨(eraseA y).r.2.toArray⟩, .slice yo (eraseA y).kids.length yc] 26) = w11 at *
          generalize hY10 : w10.heap.size = Y10 at *
          clear hw11 hY10
          obtain ⟨hcase2, hty⟩ := HQ2.out
          clear HQ2
          rcases hcase2 with ⟨q1, q2, rfl⟩ | ⟨hfF, y', hy', ⟨hyF, hye, rfl⟩ | ⟨q1, q2, rfl⟩⟩
          · clear hty HTF2 HTG q1 q2
            refine wp_region_specs [.any, .any, .any, .eq (.pointer (some ⟨w.heap.size, 0, none⟩)), .eq (.pointer (some ⟨w.heap.size + 1, 0, none⟩)), .any, .eq (.bool true), .eq (.func (.func 12) #[] #[.pointer (some ⟨w.heap.size + 2, 0, none⟩)]), .any, .any, .eq (.pointer (some ⟨Y10, 0, none⟩)), .eq (.int .i64 11), .any, .any, .any, .any, .any, .any, .any, .any, .any, .any, .any, .any, .any, .any, .any, .any, .any, .any, .any, .any, .any, .any, .any, .any, .any, .any, .any, .any, .any, .any, .any, .any, .any, .any, .any, .any, .any, .any, .any, .any, .eq (.int .i64 11), .eq (.bool true), .eq (.bool true), .any, .any, .any, .any, .any, .any, .eq (undef), .any, .any, .any, .any, .any, .eq (.bool true)] [52, 53, 54, 55, 56, 57, 58, 59, 60, 61, 62, 63, 64, 65, 66, 67, 6] [3, 4, 7, 10, 11] (by kernel_rfl) (by kernel_rfl) (by rfl) (by kernel_rfl) ?startD ?obsD ?finD
            case startD =>
              simp only [List.forall_mem_cons]; exact ⟨⟨_, rfl, rfl⟩, ⟨_, rfl, rfl⟩, ⟨_, rfl, rfl⟩, ⟨_, rfl, rfl⟩, ⟨_, rfl, rfl⟩, fun _ h => by cases h⟩
            case obsD =>
              clear HFIN
              refine Obs.cons none (by kernel_rfl) ?_ ?_
              · refine Ob.plain fun a w9 hR hk K k9 => ?_
                obtain ⟨_, e11, f11⟩ := hk 11 (by decide)
                clear hk
                go_simp
                exact k9 _ _ (Chg.refl _ _) f11
              refine Obs.cons none (by kernel_rfl) ?_ ?_
              · refine Ob.plain fun a w9 hR hk K k9 => ?_
                obtain ⟨_, e52, rfl⟩ := hk 52 (by decide)
                clear hk
                have hz9 : ((11 : Int) != 0) = true := by decide
                go_simp
                exact k9 _ _ (Chg.refl _ _) rfl
              refine Obs.cons none (by kernel_rfl) ?_ ?_
              · refine Ob.plain fun a w9 hR hk K k9 => ?_
                obtain ⟨_, e53, f53⟩ := hk 53 (by decide)
                clear hk
                go_simp
                exact k9 _ _ (Chg.refl _ _) f53
              refine Obs.cons (some (54, false)) (by kernel_rfl) ?_ ?_
              · exact Ob.no (fun _ _ h => h) (Chg.refl _) (fun _ _ => trivial)
              refine Obs.cons (some (54, false)) (by kernel_rfl) ?_ ?_
              · exact Ob.no (fun _ _ h => h) (Chg.refl _) (fun _ _ => trivial)
              refine Obs.cons (some (54, false)) (by kernel_rfl) ?_ ?_
              · exact Ob.no (fun _ _ h => h) (Chg.refl _) (fun _ _ => trivial)
              refine Obs.cons (some (54, false)) (by kernel_rfl) ?_ ?_
              · exact Ob.no (fun _ _ h => h) (Chg.refl _) (fun _ _ => trivial)
              refine Obs.cons (some (54, false)) (by kernel_rfl) ?_ ?_
              · exact Ob.no (fun _ _ h => h) (Chg.refl _) (fun _ _ => trivial)
              refine Obs.cons (some (54, false)) (by kernel_rfl) ?_ ?_
              · exact Ob.no (fun _ _ h => h) (Chg.refl _) (fun _ _ => trivial)
              refine Obs.cons (some (54, false)) (by kernel_rfl) ?_ ?_
              · exact Ob.no (fun _ _ h => h) (Chg.refl _) (fun _ _ => rfl)
              refine Obs.cons (some (61, true)) (by kernel_rfl) ?_ ?_
              · exact Ob.und (fun _ _ h => h) (Chg.refl _) (fun _ _ => trivial)
              refine Obs.cons (some (61, true)) (by kernel_rfl) ?_ ?_
              · exact Ob.und (fun _ _ h => h) (Chg.refl _) (fun _ _ => trivial)
              refine Obs.cons (some (61, true)) (by kernel_rfl) ?_ ?_
              · exact Ob.und (fun _ _ h => h) (Chg.refl _) (fun _ _ => trivial)
              refine Obs.cons (some (54, false)) (by kernel_rfl) ?_ ?_
              · exact Ob.no (fun _ _ h => h) (Chg.refl _) (fun _ _ => trivial)
              refine Obs.cons (some (54, false)) (by kernel_rfl) ?_ ?_
              · exact Ob.no (fun _ _ h => h) (Chg.refl _) (fun _ _ => trivial)
              refine Obs.cons none (by kernel_rfl) ?_ ?_
              · refine Ob.plain fun a w9 hR hk K k9 => ?_
                obtain ⟨_, e54, rfl⟩ := hk 54 (by decide)
                obtain ⟨_, e66, _⟩ := hk 66 (by decide)
                clear hk
                go_simp
                exact k9 _ _ (Chg.refl _ _) rfl
              refine Obs.cons none (by kernel_rfl) ?_ ?_
              · refine Ob.plain fun a w9 hR hk K k9 => ?_
                obtain ⟨_, e67, f67⟩ := hk 67 (by decide)
                clear hk
                go_simp
                exact k9 _ _ (Chg.refl _ _) f67
              exact Obs.nil
            case finD =>
              intro vals w9 hc9 hv
              have h6 : vals 6 = .bool true := hv 6 (by decide)
              simp only [putAll, List.setIfInBounds_toArray, List.set_cons_zero, List.set_cons_succ, h6]
              have HC9 := hid (HFIN.out.trans hc9 (fun _ _ h => h))
              clear hc9 hv h6
              go_wp2
              go_ret
              exact ⟨rfl, HC9.out⟩
          · have hff : isF f = true := isF_kids hfF f (by simp [FmB.kids])
            have hgg : isF g = true := isF_kids hfF g (by simp [FmB.kids])
            have hny : nodesF (eraseA y) ≤ 4096 := by rw [hye]; have := (isF_parts.1 hyF).1; omega
            have HTY := hid (hty hny)
            have hpq : (isF (eraseA y) && holdsF (fun r => hasR xs r) (eraseA y)) = ((isF f && holdsF (fun r => hasR xs r) f) && (isF g && holdsF (fun r => hasR xs r) g)) := by
              rw [hye, hyF, hff, hgg, shape_holds _ _ (isF_parts.1 hfF).2.2 _ hy', Bool.true_and, Bool.true_and, Bool.true_and, Bool.eq_iff_iff, holds_all, Bool.and_eq_true]
              simp
            rw [hpq] at HTY
            clear hty hfF hy' hyF hye hff hgg hny hpq
            generalize (isF g && holdsF (fun r => hasR xs r) g) = q at *
            generalize (isF f && holdsF (fun r => hasR xs r) f) = p at *
            cases p with
            | true =>
              rw [Bool.true_and] at HTY
              refine wp_region_specs [.any, .any, .any, .eq (.pointer (some ⟨w.heap.size, 0, none⟩)), .eq (.pointer (some ⟨w.heap.size + 1, 0, none⟩)), .any, .eq (.bool true), .eq (.func (.func 12) #[] #[.pointer (some ⟨w.heap.size + 2, 0, none⟩)]), .any, .any, .eq (.pointer (some ⟨Y10, 0, none⟩)), .eq (.int .i64 0), .any, .any, .any, .any, .any, .any, .any, .any, .any, .any, .any, .any, .any, .any, .any, .any, .any, .any, .any, .any, .any, .any, .any, .any, .any, .any, .any, .any, .any, .any, .any, .any, .any, .any, .any, .any, .any, .any, .any, .any, .eq (.int .i64 0), .eq (.bool false), .eq (.bool false), .eq (.agg #[.int .i64 (eraseA y).op, .int .i64 (eraseA y).k, .string ⟨(eraseA y).r.1.toArray⟩, .string ⟨(eraseA y).r.2.toArray⟩, .slice yo (eraseA y).kids.length yc]), .eq (.func (.func 12) #[] #[.pointer (some ⟨w.heap.size + 2, 0, none⟩)]), .eq (.bool q), .eq (.agg #[.int .i64 f.op, .int .i64 f.k, .string ⟨f.r.1.toArray⟩, .string ⟨f.r.2.toArray⟩, .slice ao f.kids.length cp]), .eq (.func (.func 12) #[] #[.pointer (some ⟨w.heap.size + 2, 0, none⟩)]), .eq (.bool true), .eq (.bool true), .eq (.agg #[.int .i64 g.op, .int .i64 g.k, .string ⟨g.r.1.toArray⟩, .string ⟨g.r.2.toArray⟩, .slice bo g.kids.length bp]), .eq (.func (.func 12) #[] #[.pointer (some ⟨w.heap.size + 2, 0, none⟩)]), .eq (.bool q), .eq (.bool q), .eq (.bool true), .eq (.bool true)] [52, 53, 54, 55, 56, 57, 58, 59, 60, 61, 62, 63, 64, 65, 66, 67, 6] [3, 4, 7, 10, 11] (by kernel_rfl) (by kernel_rfl) (by rfl) (by kernel_rfl) ?startD ?obsD ?finD
              case startD =>
                simp only [List.forall_mem_cons]; exact ⟨⟨_, rfl, rfl⟩, ⟨_, rfl, rfl⟩, ⟨_, rfl, rfl⟩, ⟨_, rfl, rfl⟩, ⟨_, rfl, rfl⟩, fun _ h => by cases h⟩
              case obsD =>
                clear HFIN
                refine Obs.cons none (by kernel_rfl) ?_ ?_
                · refine Ob.plain fun a w9 hR hk K k9 => ?_
                  obtain ⟨_, e11, f11⟩ := hk 11 (by decide)
                  clear hk
                  go_simp
                  exact k9 _ _ (Chg.refl _ _) f11
                refine Obs.cons none (by kernel_rfl) ?_ ?_
                · refine Ob.plain fun a w9 hR hk K k9 => ?_
                  obtain ⟨_, e52, rfl⟩ := hk 52 (by decide)
                  clear hk
                  go_simp
                  exact k9 _ _ (Chg.refl _ _) rfl
                refine Obs.cons none (by kernel_rfl) ?_ ?_
                · refine Ob.plain fun a w9 hR hk K k9 => ?_
                  obtain ⟨_, e53, f53⟩ := hk 53 (by decide)
                  clear hk
                  go_simp
                  exact k9 _ _ (Chg.refl _ _) f53
                refine Obs.cons (some (54, false)) (by kernel_rfl) ?_ ?_
                · refine Ob.yes (fun _ _ h => h) fun a w9 hR hk K k9 => ?_
                  obtain ⟨_, e10, rfl⟩ := hk 10 (by decide)
                  clear hk
                  have hb9 := blk_keep HB11.out.2.2 hR id
                  have c0 := cell_blk hb9 0
                  have c1 := cell_blk hb9 1
                  have c2 := cell_blk hb9 2
                  have c3 := cell_blk hb9 3
                  have c4 := cell_blk hb9 4
                  simp only [List.getElem?_toArray, List.getElem?_cons_zero, List.getElem?_cons_succ] at c0 c1 c2 c3 c4
                  clear hb9
                  go_simp
                  exact k9 _ _ (Chg.refl _ _) rfl
                refine Obs.cons (some (54, false)) (by kernel_rfl) ?_ ?_
                · refine Ob.yes (fun _ _ h => h) fun a w9 hR hk K k9 => ?_
                  obtain ⟨_, e7, f7⟩ := hk 7 (by decide)
                  clear hk
                  go_simp
                  exact k9 _ _ (Chg.refl _ _) f7
                refine Obs.cons (some (54, false)) (by kernel_rfl) ?_ ?_
                · refine Ob.yes (fun _ _ h => h) fun a w9 hR hk K k9 => ?_
                  obtain ⟨_, e55, rfl⟩ := hk 55 (by decide)
                  obtain ⟨_, e56, rfl⟩ := hk 56 (by decide)
                  clear hk
                  have hq := HTY.out _ hR
                  go_simp
                  refine hq.mono ?_
                  rintro e w5 ⟨rfl, hcc⟩
                  exact k9 _ _ hcc rfl
                refine Obs.cons (some (54, false)) (by kernel_rfl) ?_ ?_
                · refine Ob.yes (fun _ _ h => h) fun a w9 hR hk K k9 => ?_
                  obtain ⟨_, e3, rfl⟩ := hk 3 (by decide)
                  clear hk
                  have hb9 := blk_keep HB11.out.1 hR id
                  have c0 := cell_blk hb9 0
                  have c1 := cell_blk hb9 1
                  have c2 := cell_blk hb9 2
                  have c3 := cell_blk hb9 3
                  have c4 := cell_blk hb9 4
                  simp only [List.getElem?_toArray, List.getElem?_cons_zero, List.getElem?_cons_succ] at c0 c1 c2 c3 c4
                  clear hb9
                  go_simp
                  exact k9 _ _ (Chg.refl _ _) rfl
                refine Obs.cons (some (54, false)) (by kernel_rfl) ?_ ?_
                · refine Ob.yes (fun _ _ h => h) fun a w9 hR hk K k9 => ?_
                  obtain ⟨_, e7, f7⟩ := hk 7 (by decide)
                  clear hk
                  go_simp
                  exact k9 _ _ (Chg.refl _ _) f7
                refine Obs.cons (some (54, false)) (by kernel_rfl) ?_ ?_
                · refine Ob.yes (fun _ _ h => h) fun a w9 hR hk K k9 => ?_
                  obtain ⟨_, e58, rfl⟩ := hk 58 (by decide)
                  obtain ⟨_, e59, rfl⟩ := hk 59 (by decide)
                  clear hk
                  have hq := HTF2.out _ hR
                  go_simp
                  refine hq.mono ?_
                  rintro e w5 ⟨rfl, hcc⟩
                  exact k9 _ _ hcc rfl
                refine Obs.cons (some (54, false)) (by kernel_rfl) ?_ ?_
                · refine Ob.yes (fun _ _ h => h) fun a w9 hR hk K k9 => ?_
                  obtain ⟨_, e60, f60⟩ := hk 60 (by decide)
                  clear hk
                  go_simp
                  exact k9 _ _ (Chg.refl _ _) f60
                refine Obs.cons (some (61, true)) (by kernel_rfl) ?_ ?_
                · refine Ob.yes (fun _ _ h => h) fun a w9 hR hk K k9 => ?_
                  obtain ⟨_, e4, rfl⟩ := hk 4 (by decide)
                  clear hk
                  have hb9 := blk_keep HB11.out.2.1 hR id
                  have c0 := cell_blk hb9 0
                  have c1 := cell_blk hb9 1
                  have c2 := cell_blk hb9 2
                  have c3 := cell_blk hb9 3
                  have c4 := cell_blk hb9 4
                  simp only [List.getElem?_toArray, List.getElem?_cons_zero, List.getElem?_cons_succ] at c0 c1 c2 c3 c4
                  clear hb9
                  go_simp
                  exact k9 _ _ (Chg.refl _ _) rfl
                refine Obs.cons (some (61, true)) (by kernel_rfl) ?_ ?_
                · refine Ob.yes (fun _ _ h => h) fun a w9 hR hk K k9 => ?_
                  obtain ⟨_, e7, f7⟩ := hk 7 (by decide)
                  clear hk
                  go_simp
                  exact k9 _ _ (Chg.refl _ _) f7
                refine Obs.cons (some (61, true)) (by kernel_rfl) ?_ ?_
                · refine Ob.yes (fun _ _ h => h) fun a w9 hR hk K k9 => ?_
                  obtain ⟨_, e62, rfl⟩ := hk 62 (by decide)
                  obtain ⟨_, e63, rfl⟩ := hk 63 (by decide)
                  clear hk
                  have hq := HTG.out _ hR
                  go_simp
                  refine hq.mono ?_
                  rintro e w5 ⟨rfl, hcc⟩
                  exact k9 _ _ hcc rfl
                refine Obs.cons (some (54, false)) (by kernel_rfl) ?_ ?_
                · refine Ob.yes (fun _ _ h => h) fun a w9 hR hk K k9 => ?_
                  obtain ⟨_, e61, rfl⟩ := hk 61 (by decide)
                  obtain ⟨_, e64, rfl⟩ := hk 64 (by decide)
                  clear hk
                  go_simp
                  exact k9 _ _ (Chg.refl _ _) rfl
                refine Obs.cons (some (54, false)) (by kernel_rfl) ?_ ?_
                · refine Ob.yes (fun _ _ h => h) fun a w9 hR hk K k9 => ?_
                  obtain ⟨_, e57, rfl⟩ := hk 57 (by decide)
                  obtain ⟨_, e65, rfl⟩ := hk 65 (by decide)
                  clear hk
                  have hz9 : (q == q) = true := by simp
                  go_simp
                  exact k9 _ _ (Chg.refl _ _) (by first | rfl | (show Value.bool _ = Value.bool _; simp))
                refine Obs.cons none (by kernel_rfl) ?_ ?_
                · refine Ob.plain fun a w9 hR hk K k9 => ?_
                  obtain ⟨_, e54, rfl⟩ := hk 54 (by decide)
                  obtain ⟨_, e66, rfl⟩ := hk 66 (by decide)
                  clear hk
                  go_simp
                  exact k9 _ _ (Chg.refl _ _) rfl
                refine Obs.cons none (by kernel_rfl) ?_ ?_
                · refine Ob.plain fun a w9 hR hk K k9 => ?_
                  obtain ⟨_, e67, f67⟩ := hk 67 (by decide)
                  clear hk
                  go_simp
                  exact k9 _ _ (Chg.refl _ _) f67
                exact Obs.nil
              case finD =>
                intro vals w9 hc9 hv
                have h6 : vals 6 = .bool true := hv 6 (by decide)
                simp only [putAll, List.setIfInBounds_toArray, List.set_cons_zero, List.set_cons_succ, h6]
                have HC9 := hid (HFIN.out.trans hc9 (fun _ _ h => h))
                clear hc9 hv h6
                go_wp2
                go_ret
                exact ⟨rfl, HC9.out⟩
            | false =>
              rw [Bool.false_and] at HTY
              refine wp_region_specs [.any, .any, .any, .eq (.pointer (some ⟨w.heap.size, 0, none⟩)), .eq (.pointer (some ⟨w.heap.size + 1, 0, none⟩)), .any, .eq (.bool true), .eq (.func (.func 12) #[] #[.pointer (some ⟨w.heap.size + 2, 0, none⟩)]), .any, .any, .eq (.pointer (some ⟨Y10, 0, none⟩)), .eq (.int .i64 0), .any, .any, .any, .any, .any, .any, .any, .any, .any, .any, .any, .any, .any, .any, .any, .any, .any, .any, .any, .any, .any, .any, .any, .any, .any, .any, .any, .any, .any, .any, .any, .any, .any, .any, .any, .any, .any, .any, .any, .any, .eq (.int .i64 0), .eq (.bool false), .eq (.bool false), .eq (.agg #[.int .i64 (eraseA y).op, .int .i64 (eraseA y).k, .string ⟨(eraseA y).r.1.toArray⟩, .string ⟨(eraseA y).r.2.toArray⟩, .slice yo (eraseA y).kids.length yc]), .eq (.func (.func 12) #[] #[.pointer (some ⟨w.heap.size + 2, 0, none⟩)]), .eq (.bool false), .eq (.agg #[.int .i64 f.op, .int .i64 f.k, .string ⟨f.r.1.toArray⟩, .string ⟨f.r.2.toArray⟩, .slice ao f.kids.length cp]), .eq (.func (.func 12) #[] #[.pointer (some ⟨w.heap.size + 2, 0, none⟩)]), .eq (.bool false), .eq (.bool false), .any, .any, .any, .eq (.bool false), .eq (.bool true), .eq (.bool true)] [52, 53, 54, 55, 56, 57, 58, 59, 60, 61, 62, 63, 64, 65, 66, 67, 6] [3, 4, 7, 10, 11] (by kernel_rfl) (by kernel_rfl) (by rfl) (by kernel_rfl) ?startD ?obsD ?finD
              case startD =>
                simp only [List.forall_mem_cons]; exact ⟨⟨_, rfl, rfl⟩, ⟨_, rfl, rfl⟩, ⟨_, rfl, rfl⟩, ⟨_, rfl, rfl⟩, ⟨_, rfl, rfl⟩, fun _ h => by cases h⟩
              case obsD =>
                clear HFIN
                refine Obs.cons none (by kernel_rfl) ?_ ?_
                · refine Ob.plain fun a w9 hR hk K k9 => ?_
                  obtain ⟨_, e11, f11⟩ := hk 11 (by decide)
                  clear hk
                  go_simp
                  exact k9 _ _ (Chg.refl _ _) f11
                refine Obs.cons none (by kernel_rfl) ?_ ?_
                · refine Ob.plain fun a w9 hR hk K k9 => ?_
                  obtain ⟨_, e52, rfl⟩ := hk 52 (by decide)
                  clear hk
                  go_simp
                  exact k9 _ _ (Chg.refl _ _) rfl
                refine Obs.cons none (by kernel_rfl) ?_ ?_
                · refine Ob.plain fun a w9 hR hk K k9 => ?_
                  obtain ⟨_, e53, f53⟩ := hk 53 (by decide)
                  clear hk
                  go_simp
                  exact k9 _ _ (Chg.refl _ _) f53
                refine Obs.cons (some (54, false)) (by kernel_rfl) ?_ ?_
                · refine Ob.yes (fun _ _ h => h) fun a w9 hR hk K k9 => ?_
                  obtain ⟨_, e10, rfl⟩ := hk 10 (by decide)
                  clear hk
                  have hb9 := blk_keep HB11.out.2.2 hR id
                  have c0 := cell_blk hb9 0
                  have c1 := cell_blk hb9 1
                  have c2 := cell_blk hb9 2
                  have c3 := cell_blk hb9 3
                  have c4 := cell_blk hb9 4
                  simp only [List.getElem?_toArray, List.getElem?_cons_zero, List.getElem?_cons_succ] at c0 c1 c2 c3 c4
                  clear hb9
                  go_simp
                  exact k9 _ _ (Chg.refl _ _) rfl
                refine Obs.cons (some (54, false)) (by kernel_rfl) ?_ ?_
                · refine Ob.yes (fun _ _ h => h) fun a w9 hR hk K k9 => ?_
                  obtain ⟨_, e7, f7⟩ := hk 7 (by decide)
                  clear hk
                  go_simp
                  exact k9 _ _ (Chg.refl _ _) f7
                refine Obs.cons (some (54, false)) (by kernel_rfl) ?_ ?_
                · refine Ob.yes (fun _ _ h => h) fun a w9 hR hk K k9 => ?_
                  obtain ⟨_, e55, rfl⟩ := hk 55 (by decide)
                  obtain ⟨_, e56, rfl⟩ := hk 56 (by decide)
                  clear hk
                  have hq := HTY.out _ hR
                  go_simp
                  refine hq.mono ?_
                  rintro e w5 ⟨rfl, hcc⟩
                  exact k9 _ _ hcc rfl
                refine Obs.cons (some (54, false)) (by kernel_rfl) ?_ ?_
                · refine Ob.yes (fun _ _ h => h) fun a w9 hR hk K k9 => ?_
                  obtain ⟨_, e3, rfl⟩ := hk 3 (by decide)
                  clear hk
                  have hb9 := blk_keep HB11.out.1 hR id
                  have c0 := cell_blk hb9 0
                  have c1 := cell_blk hb9 1
                  have c2 := cell_blk hb9 2
                  have c3 := cell_blk hb9 3
                  have c4 := cell_blk hb9 4
                  simp only [List.getElem?_toArray, List.getElem?_cons_zero, List.getElem?_cons_succ] at c0 c1 c2 c3 c4
                  clear hb9
                  go_simp
                  exact k9 _ _ (Chg.refl _ _) rfl
                refine Obs.cons (some (54, false)) (by kernel_rfl) ?_ ?_
                · refine Ob.yes (fun _ _ h => h) fun a w9 hR hk K k9 => ?_
                  obtain ⟨_, e7, f7⟩ := hk 7 (by decide)
                  clear hk
                  go_simp
                  exact k9 _ _ (Chg.refl _ _) f7
                refine Obs.cons (some (54, false)) (by kernel_rfl) ?_ ?_
                · refine Ob.yes (fun _ _ h => h) fun a w9 hR hk K k9 => ?_
                  obtain ⟨_, e58, rfl⟩ := hk 58 (by decide)
                  obtain ⟨_, e59, rfl⟩ := hk 59 (by decide)
                  clear hk
                  have hq := HTF2.out _ hR
                  go_simp
                  refine hq.mono ?_
                  rintro e w5 ⟨rfl, hcc⟩
                  exact k9 _ _ hcc rfl
                refine Obs.cons (some (54, false)) (by kernel_rfl) ?_ ?_
                · refine Ob.yes (fun _ _ h => h) fun a w9 hR hk K k9 => ?_
                  obtain ⟨_, e60, f60⟩ := hk 60 (by decide)
                  clear hk
                  go_simp
                  exact k9 _ _ (Chg.refl _ _) f60
                refine Obs.cons (some (61, true)) (by kernel_rfl) ?_ ?_
                · exact Ob.no (fun _ _ h => h) (Chg.refl _) (fun _ _ => trivial)
                refine Obs.cons (some (61, true)) (by kernel_rfl) ?_ ?_
                · exact Ob.no (fun _ _ h => h) (Chg.refl _) (fun _ _ => trivial)
                refine Obs.cons (some (61, true)) (by kernel_rfl) ?_ ?_
                · exact Ob.no (fun _ _ h => h) (Chg.refl _) (fun _ _ => trivial)
                refine Obs.cons (some (54, false)) (by kernel_rfl) ?_ ?_
                · refine Ob.yes (fun _ _ h => h) fun a w9 hR hk K k9 => ?_
                  obtain ⟨_, e61, rfl⟩ := hk 61 (by decide)
                  obtain ⟨_, e64, _⟩ := hk 64 (by decide)
                  clear hk
                  go_simp
                  exact k9 _ _ (Chg.refl _ _) rfl
                refine Obs.cons (some (54, false)) (by kernel_rfl) ?_ ?_
                · refine Ob.yes (fun _ _ h => h) fun a w9 hR hk K k9 => ?_
                  obtain ⟨_, e57, rfl⟩ := hk 57 (by decide)
                  obtain ⟨_, e65, rfl⟩ := hk 65 (by decide)
                  clear hk
                  go_simp
                  exact k9 _ _ (Chg.refl _ _) rfl
                refine Obs.cons none (by kernel_rfl) ?_ ?_
                · refine Ob.plain fun a w9 hR hk K k9 => ?_
                  obtain ⟨_, e54, rfl⟩ := hk 54 (by decide)
                  obtain ⟨_, e66, rfl⟩ := hk 66 (by decide)
                  clear hk
                  go_simp
                  exact k9 _ _ (Chg.refl _ _) rfl
                refine Obs.cons none (by kernel_rfl) ?_ ?_
                · refine Ob.plain fun a w9 hR hk K k9 => ?_
                  obtain ⟨_, e67, f67⟩ := hk 67 (by decide)
                  clear hk
                  go_simp
                  exact k9 _ _ (Chg.refl _ _) f67
                exact Obs.nil
              case finD =>
                intro vals w9 hc9 hv
                have h6 : vals 6 = .bool true := hv 6 (by decide)
                simp only [putAll, List.setIfInBounds_toArray, List.set_cons_zero, List.set_cons_succ, h6]
                have HC9 := hid (HFIN.out.trans hc9 (fun _ _ h => h))
                clear hc9 hv h6
                go_wp2
                go_ret
                exact ⟨rfl, HC9.out⟩
          · clear hty HTF2 HTG q1 q2 hfF hy'
            refine wp_region_specs [.any, .any, .any, .eq (.pointer (some ⟨w.heap.size, 0, none⟩)), .eq (.pointer (some ⟨w.heap.size + 1, 0, none⟩)), .any, .eq (.bool true), .eq (.func (.func 12) #[] #[.pointer (some ⟨w.heap.size + 2, 0, none⟩)]), .any, .any, .eq (.pointer (some ⟨Y10, 0, none⟩)), .eq (.int .i64 12), .any, .any, .any, .any, .any, .any, .any, .any, .any, .any, .any, .any, .any, .any, .any, .any, .any, .any, .any, .any, .any, .any, .any, .any, .any, .any, .any, .any, .any, .any, .any, .any, .any, .any, .any, .any, .any, .any, .any, .any, .eq (.int .i64 12), .eq (.bool true), .eq (.bool true), .any, .any, .any, .any, .any, .any, .eq (undef), .any, .any, .any, .any, .any, .eq (.bool true)] [52, 53, 54, 55, 56, 57, 58, 59, 60, 61, 62, 63, 64, 65, 66, 67, 6] [3, 4, 7, 10, 11] (by kernel_rfl) (by kernel_rfl) (by rfl) (by kernel_rfl) ?startD ?obsD ?finD
            case startD =>
              simp only [List.forall_mem_cons]; exact ⟨⟨_, rfl, rfl⟩, ⟨_, rfl, rfl⟩, ⟨_, rfl, rfl⟩, ⟨_, rfl, rfl⟩, ⟨_, rfl, rfl⟩, fun _ h => by cases h⟩
            case obsD =>
              clear HFIN
              refine Obs.cons none (by kernel_rfl) ?_ ?_
              · refine Ob.plain fun a w9 hR hk K k9 => ?_
                obtain ⟨_, e11, f11⟩ := hk 11 (by decide)
                clear hk
                go_simp
                exact k9 _ _ (Chg.refl _ _) f11
              refine Obs.cons none (by kernel_rfl) ?_ ?_
              · refine Ob.plain fun a w9 hR hk K k9 => ?_
                obtain ⟨_, e52, rfl⟩ := hk 52 (by decide)
                clear hk
                have hz9 : ((12 : Int) != 0) = true := by decide
                go_simp
                exact k9 _ _ (Chg.refl _ _) rfl
              refine Obs.cons none (by kernel_rfl) ?_ ?_
              · refine Ob.plain fun a w9 hR hk K k9 => ?_
                obtain ⟨_, e53, f53⟩ := hk 53 (by decide)
                clear hk
                go_simp
                exact k9 _ _ (Chg.refl _ _) f53
              refine Obs.cons (some (54, false)) (by kernel_rfl) ?_ ?_
              · exact Ob.no (fun _ _ h => h) (Chg.refl _) (fun _ _ => trivial)
              refine Obs.cons (some (54, false)) (by kernel_rfl) ?_ ?_
              · exact Ob.no (fun _ _ h => h) (Chg.refl _) (fun _ _ => trivial)
              refine Obs.cons (some (54, false)) (by kernel_rfl) ?_ ?_
              · exact Ob.no (fun _ _ h => h) (Chg.refl _) (fun _ _ => trivial)
              refine Obs.cons (some (54, false)) (by kernel_rfl) ?_ ?_
              · exact Ob.no (fun _ _ h => h) (Chg.refl _) (fun _ _ => trivial)
              refine Obs.cons (some (54, false)) (by kernel_rfl) ?_ ?_
              · exact Ob.no (fun _ _ h => h) (Chg.refl _) (fun _ _ => trivial)
              refine Obs.cons (some (54, false)) (by kernel_rfl) ?_ ?_
              · exact Ob.no (fun _ _ h => h) (Chg.refl _) (fun _ _ => trivial)
              refine Obs.cons (some (54, false)) (by kernel_rfl) ?_ ?_
              · exact Ob.no (fun _ _ h => h) (Chg.refl _) (fun _ _ => rfl)
              refine Obs.cons (some (61, true)) (by kernel_rfl) ?_ ?_
              · exact Ob.und (fun _ _ h => h) (Chg.refl _) (fun _ _ => trivial)
              refine Obs.cons (some (61, true)) (by kernel_rfl) ?_ ?_
              · exact Ob.und (fun _ _ h => h) (Chg.refl _) (fun _ _ => trivial)
              refine Obs.cons (some (61, true)) (by kernel_rfl) ?_ ?_
              · exact Ob.und (fun _ _ h => h) (Chg.refl _) (fun _ _ => trivial)
              refine Obs.cons (some (54, false)) (by kernel_rfl) ?_ ?_
              · exact Ob.no (fun _ _ h => h) (Chg.refl _) (fun _ _ => trivial)
              refine Obs.cons (some (54, false)) (by kernel_rfl) ?_ ?_
              · exact Ob.no (fun _ _ h => h) (Chg.refl _) (fun _ _ => trivial)
              refine Obs.cons none (by kernel_rfl) ?_ ?_
              · refine Ob.plain fun a w9 hR hk K k9 => ?_
                obtain ⟨_, e54, rfl⟩ := hk 54 (by decide)
                obtain ⟨_, e66, _⟩ := hk 66 (by decide)
                clear hk
                go_simp
                exact k9 _ _ (Chg.refl _ _) rfl
              refine Obs.cons none (by kernel_rfl) ?_ ?_
              · refine Ob.plain fun a w9 hR hk K k9 => ?_
                obtain ⟨_, e67, f67⟩ := hk 67 (by decide)
                clear hk
                go_simp
                exact k9 _ _ (Chg.refl _ _) f67
              exact Obs.nil
            case finD =>
              intro vals w9 hc9 hv
              have h6 : vals 6 = .bool true := hv 6 (by decide)
              simp only [putAll, List.setIfInBounds_toArray, List.set_cons_zero, List.set_cons_succ, h6]
              have HC9 := hid (HFIN.out.trans hc9 (fun _ _ h => h))
              clear hc9 hv h6
              go_wp2
              go_ret
              exact ⟨rfl, HC9.out⟩
end Go.Proofs.Ytlmlcjjjkplccaa
