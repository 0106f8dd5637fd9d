/- The law NormalTells, walked. -/
import Derived.Test.YtcbfieodjbfjdaaNc28
import Derived.Test.YtcbfieodjbfjdaaNc34
import Derived.Test.YtcbfieodjbfjdaaNc30
namespace Go.Proofs.Ytcbfieodjbfjdaa
open Go.RowKit

/-- What Of tells of a formula. -/
def OfCase (f x : FmB) (k : Int) : Prop := (isF f = false ∧ x = zFm ∧ k = 11) ∨ (isF f = true ∧ ∃ y, ShapeR f y ∧ ((isF y = true ∧ x = y ∧ k = 0) ∨ (isF y = false ∧ x = zFm ∧ k = 12)))
theorem of_agree {f x y : FmB} {k j : Int} (h1 : OfCase f x k) (h2 : OfCase f y j) : x = y ∧ k = j := by
  rcases h1 with ⟨a1, a2, a3⟩ | ⟨a1, a, a2, a3⟩ <;> rcases h2 with ⟨b1, b2, b3⟩ | ⟨b1, b, b2, b3⟩
  · exact ⟨a2.trans b2.symm, a3.trans b3.symm⟩
  · rw [a1] at b1; cases b1
  · rw [a1] at b1; cases b1
  · rcases a3 with ⟨c1, c2, c3⟩ | ⟨c1, c2, c3⟩ <;> rcases b3 with ⟨d1, d2, d3⟩ | ⟨d1, d2, d3⟩
    · exact ⟨by rw [c2, d2, shape_is a1 a2 c1 b2], c3.trans d3.symm⟩
    · have := shape_is a1 a2 c1 b2; rw [this, c1] at d1; cases d1
    · have := shape_is a1 b2 d1 a2; rw [this, d1] at c1; cases c1
    · exact ⟨c2.trans d2.symm, c3.trans d3.symm⟩
theorem is_agree {f x : FmB} {k : Int} {b s : Bool} (h1 : OfCase f x k) (h2 : (isF f = false ∧ b = false) ∨ (isF f = true ∧ ∃ y, ShapeR f y ∧ (b = true ↔ isF y = true ∧ f = y))) (hs : s = true ↔ x = f) : (k = 0 → b = s) ∧ (k ≠ 0 → b = false) := by
  rcases h1 with ⟨a1, a2, a3⟩ | ⟨a1, a, a2, a3⟩ <;> rcases h2 with ⟨b1, b2⟩ | ⟨b1, b9, b2, b3⟩
  · exact ⟨fun h => by rw [a3] at h; exact absurd h (by decide), fun _ => b2⟩
  · rw [a1] at b1; cases b1
  · rw [a1] at b1; cases b1
  · rcases a3 with ⟨c1, c2, c3⟩ | ⟨c1, c2, c3⟩
    · have he := shape_is a1 a2 c1 b2
      subst he
      refine ⟨fun _ => ?_, fun h => absurd c3 h⟩
      rw [Bool.eq_iff_iff, b3, hs, c2]
      exact ⟨fun h => h.2.symm, fun h => ⟨c1, h.symm⟩⟩
    · refine ⟨fun h => by rw [c3] at h; exact absurd h (by decide), fun _ => ?_⟩
      rw [Bool.eq_false_iff]
      intro h
      obtain ⟨d1, _⟩ := b3.1 h
      have := shape_is a1 b2 d1 a2
      rw [this, d1] at c1
      cases c1
/-- It can be read. -/
def RD (w : World) (f : FmB) (ao : Option Addr) : Prop := ∃ n, FmsAt (fun i => i < w.heap.size) w n ao f.kids
theorem RD.keep {w w' : World} {f : FmB} {ao : Option Addr} (h : RD w f ao) (hc : Chg (fun _ => False) w w') : RD w' f ao := by
  obtain ⟨n, h⟩ := h
  exact ⟨n, (h.keep hc (fun _ _ => id)).mono (fun i hi => Nat.lt_of_lt_of_le hi hc.size)⟩
theorem RD.same {w : World} {f g : FmB} {ao bo : Option Addr} (h : RD w f ao) (h2 : RD w g bo) (n1 : nodesF f ≤ 1048576) (n2 : nodesF g ≤ 1048576) (cp bp : Nat) : Calls Try.prog 11 #[.agg #[.int .i64 f.op, .int .i64 f.k, .string ⟨f.r.1.toArray⟩, .string ⟨f.r.2.toArray⟩, .slice ao f.kids.length cp], .agg #[.int .i64 g.op, .int .i64 g.k, .string ⟨g.r.1.toArray⟩, .string ⟨g.r.2.toArray⟩, .slice bo g.kids.length bp]] w (SameR f g w) := by
  obtain ⟨n, h⟩ := h
  obtain ⟨m, h2⟩ := h2
  exact rn_same n f ao cp m g bo bp w h h2 n1 n2
theorem FmIn.rd {D : Nat → Prop} {w : World} {n : Nat} {f : FmB} {ao : Option Addr} {cp : Nat} (h : FmIn D w n f ao cp) : RD w f ao := ⟨n, h.at_.mono h.lt⟩
theorem DOk.rd {D : Nat → Prop} {w : World} {e : DE} (h : DOk D w e) (hD : ∀ i, D i → i < w.heap.size) : RD w e.f e.ao := by
  obtain ⟨n, h⟩ := h.at_
  exact ⟨n, h.mono hD⟩
theorem SameWith.later {f : FmB} {ao : Option Addr} {cp : Nat} {w w' : World} (h : SameWith f ao cp w) (hc : Chg (fun _ => False) w w') : SameWith f ao cp w' := fun W x B h1 h2 => h W x B (hc.trans h1 (fun _ _ h => h)) (Nat.le_trans hc.size h2)

theorem run_eql_boolb (b : Bool) (w : World) : Sem.run Try.prog (binOp BinOp.eql 4 (.bool b) (.bool b)) w = .ok (.bool true) w := by cases b <;> kernel_rfl
set_option maxRecDepth 100000 in
set_option maxHeartbeats 16000000 in
theorem ntells_main {D : Nat → Prop} (n : Nat) (f g : FmB) (ao bo : Option Addr) (cp bp : Nat) (w : World) (hf : FmIn D w n f ao cp) (hg : FmIn D w n g bo bp) (hG : greatF f + greatF g ≤ 4503599627370496) (hS : nodesF f ≤ 250 → SameWith f ao cp w) :
    Calls Try.prog 3 #[.agg #[.int .i64 f.op, .int .i64 f.k, .string ⟨f.r.1.toArray⟩, .string ⟨f.r.2.toArray⟩, .slice ao f.kids.length cp], .agg #[.int .i64 g.op, .int .i64 g.k, .string ⟨g.r.1.toArray⟩, .string ⟨g.r.2.toArray⟩, .slice bo g.kids.length bp]] w fun e w' => e = .returned (.bool true) ∧ Chg (fun _ => False) w w' := by
  have k1 := (Chg.refl (fun _ => False) w).alloc (.cells #[.int .i64 f.op, .int .i64 f.k, .string ⟨f.r.1.toArray⟩, .string ⟨f.r.2.toArray⟩, .slice ao f.kids.length cp] 26)
  have k2 := k1.alloc (.cells #[.int .i64 g.op, .int .i64 g.k, .string ⟨g.r.1.toArray⟩, .string ⟨g.r.2.toArray⟩, .slice bo g.kids.length bp] 26)
  have e1 : (w.alloc (.cells #[.int .i64 f.op, .int .i64 f.k, .string ⟨f.r.1.toArray⟩, .string ⟨f.r.2.toArray⟩, .slice ao f.kids.length cp] 26)).heap.size = w.heap.size + 1 := by simp
  have c2 := (Chg.refl (fun _ => False) (w.alloc (.cells #[.int .i64 f.op, .int .i64 f.k, .string ⟨f.r.1.toArray⟩, .string ⟨f.r.2.toArray⟩, .slice ao f.kids.length cp] 26))).alloc (.cells #[.int .i64 g.op, .int .i64 g.k, .string ⟨g.r.1.toArray⟩, .string ⟨g.r.2.toArray⟩, .slice bo g.kids.length bp] 26)
  have hF := blk_keep (heap_alloc_new w (.cells #[.int .i64 f.op, .int .i64 f.k, .string ⟨f.r.1.toArray⟩, .string ⟨f.r.2.toArray⟩, .slice ao f.kids.length cp] 26)) c2 id
  have hGb := heap_alloc_new (w.alloc (.cells #[.int .i64 f.op, .int .i64 f.k, .string ⟨f.r.1.toArray⟩, .string ⟨f.r.2.toArray⟩, .slice ao f.kids.length cp] 26)) (.cells #[.int .i64 g.op, .int .i64 g.k, .string ⟨g.r.1.toArray⟩, .string ⟨g.r.2.toArray⟩, .slice bo g.kids.length bp] 26)
  rw [e1] at hGb
  have HFI := hid (nnfirst ((w.alloc (.cells #[.int .i64 f.op, .int .i64 f.k, .string ⟨f.r.1.toArray⟩, .string ⟨f.r.2.toArray⟩, .slice ao f.kids.length cp] 26)).alloc (.cells #[.int .i64 g.op, .int .i64 g.k, .string ⟨g.r.1.toArray⟩, .string ⟨g.r.2.toArray⟩, .slice bo g.kids.length bp] 26)))
  have HB := hid (And.intro hF (And.intro hGb k2))
  have H := hid (And.intro hf (And.intro hg (And.intro hG hS)))
  clear k1 k2 e1 c2 hF hGb hf hg hG hS
  have qB := run_eql_boolb
  go_enter Try.func3, Try.ntmps3
  go_wp2_with fail
  refine HFI.out.mono ?_
  clear HFI
  generalize ((w.alloc (.cells #[.int .i64 f.op, .int .i64 f.k, .string ⟨f.r.1.toArray⟩, .string ⟨f.r.2.toArray⟩, .slice ao f.kids.length cp] 26)).alloc (.cells #[.int .i64 g.op, .int .i64 g.k, .string ⟨g.r.1.toArray⟩, .string ⟨g.r.2.toArray⟩, .slice bo g.kids.length bp] 26)) = w3 at *
  rintro e w4 ⟨rfl, hc4⟩
  have hF4 := blk_keep HB.out.1 hc4 id
  have hG4 := blk_keep HB.out.2.1 hc4 id
  have hcw4 := HB.out.2.2.trans hc4 (fun _ _ h => h)
  have f0 := cell_blk hF4 0
  have f1 := cell_blk hF4 1
  have f2 := cell_blk hF4 2
  have f3 := cell_blk hF4 3
  have f4 := cell_blk hF4 4
  simp only [List.getElem?_toArray, List.getElem?_cons_zero, List.getElem?_cons_succ] at f0 f1 f2 f3 f4
  have g0 := cell_blk hG4 0
  have g1 := cell_blk hG4 1
  have g2 := cell_blk hG4 2
  have g3 := cell_blk hG4 3
  have g4 := cell_blk hG4 4
  simp only [List.getElem?_toArray, List.getElem?_cons_zero, List.getElem?_cons_succ] at g0 g1 g2 g3 g4
  have hkb := heap_alloc_new w4 (.cells #[.int .i64 f.op, .int .i64 f.k, .string ⟨f.r.1.toArray⟩, .string ⟨f.r.2.toArray⟩, .slice ao f.kids.length cp, .int .i64 g.op, .int .i64 g.k, .string ⟨g.r.1.toArray⟩, .string ⟨g.r.2.toArray⟩, .slice bo g.kids.length bp] 26)
  have ck := (Chg.refl (fun _ => False) w4).alloc (.cells #[.int .i64 f.op, .int .i64 f.k, .string ⟨f.r.1.toArray⟩, .string ⟨f.r.2.toArray⟩, .slice ao f.kids.length cp, .int .i64 g.op, .int .i64 g.k, .string ⟨g.r.1.toArray⟩, .string ⟨g.r.2.toArray⟩, .slice bo g.kids.length bp] 26)
  have HGR := hid (fm_great (D := fun k => D k ∨ k = w4.heap.size) (n + 1) (some ⟨w4.heap.size, 0, none⟩) 2 [f, g] (w4.alloc (.cells #[.int .i64 f.op, .int .i64 f.k, .string ⟨f.r.1.toArray⟩, .string ⟨f.r.2.toArray⟩, .slice ao f.kids.length cp, .int .i64 g.op, .int .i64 g.k, .string ⟨g.r.1.toArray⟩, .string ⟨g.r.2.toArray⟩, .slice bo g.kids.length bp] 26)) (by simp only [greatL]; have := H.out.2.2.1; omega) (fun i hi => by
    refine ⟨_, _, rfl, .inr rfl, ?_⟩
    rcases (show i = 0 ∨ i = 1 by have h9 : i < 2 := hi; omega) with rfl | rfl
    · exact fm_at_cells (f := f) (ao := ao) (cp := cp) ⟨cell_blk hkb 0, cell_blk hkb 1, cell_blk hkb 2, cell_blk hkb 3, cell_blk hkb 4⟩ H.out.1.ok H.out.1.z (((H.out.1.keep hcw4).keep ck).at_.mono (fun i h => .inl h))
    · exact fm_at_cells (f := g) (ao := bo) (cp := bp) ⟨cell_blk hkb 5, cell_blk hkb 6, cell_blk hkb 7, cell_blk hkb 8, cell_blk hkb 9⟩ H.out.2.1.ok H.out.2.1.z (((H.out.2.1.keep hcw4).keep ck).at_.mono (fun i h => .inl h))))
  have HC4 := hid (And.intro (hc4.trans ck (fun _ _ h => h)) (HB.out.2.2.trans (hc4.trans ck (fun _ _ h => h)) (fun _ _ h => h)))
  clear hF4 hG4 hcw4 hkb ck hc4
  go_wp2_with fail
  refine HGR.out.mono ?_
  clear HGR
  rintro e w5 ⟨rfl, hc5⟩
  obtain ⟨gr, hgr⟩ : ∃ gr, gr = greatL [f, g] := ⟨_, rfl⟩
  rw [← hgr]
  have HG := hid (show gr = greatF f + greatF g by rw [hgr]; simp [greatL])
  have hgb : gr ≤ 4503599627370496 := by rw [HG.out]; exact H.out.2.2.1
  have HC5 := hid (And.intro (HC4.out.1.trans hc5 (fun _ _ h => h)) (HC4.out.2.trans hc5 (fun _ _ h => h)))
  clear hgr hc5 HC4 f0 f1 f2 f3 f4 g0 g1 g2 g3 g4
  by_cases h250 : 250 < gr
  · have z1 : (250 : Int) < (gr : Int) := by omega
    clear h250
    go_wp2
    go_ret
    exact ⟨rfl, HC5.out.2⟩
  · have z1 : ¬ (250 : Int) < (gr : Int) := by omega
    have HNF := hid (show nodesF f + nodesF g ≤ 250 by have := great_nodes f; have := great_nodes g; have := HG.out; omega)
    clear h250
    have hF5 := blk_keep HB.out.1 HC5.out.1 id
    have f0 := cell_blk hF5 0
    have f1 := cell_blk hF5 1
    have f2 := cell_blk hF5 2
    have f3 := cell_blk hF5 3
    have f4 := cell_blk hF5 4
    simp only [List.getElem?_toArray, List.getElem?_cons_zero, List.getElem?_cons_succ] at f0 f1 f2 f3 f4
    have HO1 := hid (pnOf f n ao cp w5 (H.out.1.keep HC5.out.2).at_ (H.out.1.keep HC5.out.2).lt H.out.1.ok (by have := HNF.out; omega))
    clear hF5
    go_wp2_with fail
    refine HO1.out.mono ?_
    clear HO1 f0 f1 f2 f3 f4 z1 HG hgb
    rintro e w6 ⟨x, k, rfl, g1, g2, g3, hcase⟩
    obtain ⟨xo, xc, hxi, hfx, hxv⟩ := own_in g1
    rw [hfx]
    have cX : Chg (fun _ => False) w6 (w6.alloc (.cells #[.int .i64 (eraseA x).op, .int .i64 (eraseA x).k, .string ⟨(eraseA x).r.1.toArray⟩, .string ⟨(eraseA x).r.2.toArray⟩, .slice xo (eraseA x).kids.length xc] 26)) := (Chg.refl _ w6).alloc _
    have hX := heap_alloc_new w6 (.cells #[.int .i64 (eraseA x).op, .int .i64 (eraseA x).k, .string ⟨(eraseA x).r.1.toArray⟩, .string ⟨(eraseA x).r.2.toArray⟩, .slice xo (eraseA x).kids.length xc] 26)
    have c37 := HC5.out.1.trans (g3.trans cX (fun _ _ h => h)) (fun _ _ h => h)
    have c07 := HC5.out.2.trans (g3.trans cX (fun _ _ h => h)) (fun _ _ h => h)
    have HX := hid (And.intro hX (And.intro c37 (And.intro c07 (And.intro (hxi.rd.keep cX) (show OfCase f (eraseA x) k from hcase)))))
    have hF7 := blk_keep HB.out.1 c37 id
    have f0 := cell_blk hF7 0
    have f1 := cell_blk hF7 1
    have f2 := cell_blk hF7 2
    have f3 := cell_blk hF7 3
    have f4 := cell_blk hF7 4
    simp only [List.getElem?_toArray, List.getElem?_cons_zero, List.getElem?_cons_succ] at f0 f1 f2 f3 f4
    have HO2 := hid (rnof f n ao cp (w6.alloc (.cells #[.int .i64 (eraseA x).op, .int .i64 (eraseA x).k, .string ⟨(eraseA x).r.1.toArray⟩, .string ⟨(eraseA x).r.2.toArray⟩, .slice xo (eraseA x).kids.length xc] 26)) (H.out.1.keep c07).at_ (H.out.1.keep c07).lt H.out.1.ok H.out.1.z (by have := HNF.out; omega))
    clear hF7 cX hX c37 c07 g1 g2 g3 hcase hxi hfx hxv HC5
    go_wp2_with fail
    refine HO2.out.mono ?_
    clear HO2 f0 f1 f2 f3 f4
    generalize w6.alloc (.cells #[.int .i64 (eraseA x).op, .int .i64 (eraseA x).k, .string ⟨(eraseA x).r.1.toArray⟩, .string ⟨(eraseA x).r.2.toArray⟩, .slice xo (eraseA x).kids.length xc] 26) = w7 at *
    generalize w6.heap.size = X5 at *
    rintro e w8 ⟨y, k2, rfl, d1, d2, d3⟩
    unfold valD
    have cY : Chg (fun _ => False) w8 (w8.alloc (.cells #[.int .i64 y.f.op, .int .i64 y.f.k, .string ⟨y.f.r.1.toArray⟩, .string ⟨y.f.r.2.toArray⟩, .slice y.ao y.f.kids.length y.cp] 26)) := (Chg.refl _ w8).alloc _
    have hY := heap_alloc_new w8 (.cells #[.int .i64 y.f.op, .int .i64 y.f.k, .string ⟨y.f.r.1.toArray⟩, .string ⟨y.f.r.2.toArray⟩, .slice y.ao y.f.kids.length y.cp] 26)
    have c79 := d2.trans cY (fun _ _ h => h)
    have c39 := HX.out.2.1.trans c79 (fun _ _ h => h)
    have c09 := HX.out.2.2.1.trans c79 (fun _ _ h => h)
    have hyr := (d1.rd (fun i hi => hi.elim (fun h => by have := (H.out.1.keep HX.out.2.2.1).lt i h; have := d2.size; omega) (fun h => h.2))).keep cY
    have hag := of_agree HX.out.2.2.2.2 (show OfCase f y.f k2 from d3)
    have HY := hid (And.intro hY (And.intro c39 (And.intro c09 (And.intro hyr (And.intro hag (And.intro d1.n (And.intro (blk_keep HX.out.1 c79 id) (HX.out.2.2.2.1.keep c79))))))))
    have hF9 := blk_keep HB.out.1 c39 id
    have hG9 := blk_keep HB.out.2.1 c39 id
    have f0 := cell_blk hF9 0
    have f1 := cell_blk hF9 1
    have f2 := cell_blk hF9 2
    have f3 := cell_blk hF9 3
    have f4 := cell_blk hF9 4
    simp only [List.getElem?_toArray, List.getElem?_cons_zero, List.getElem?_cons_succ] at f0 f1 f2 f3 f4
    have g0 := cell_blk hG9 0
    have g1 := cell_blk hG9 1
    have g2 := cell_blk hG9 2
    have g3 := cell_blk hG9 3
    have g4 := cell_blk hG9 4
    simp only [List.getElem?_toArray, List.getElem?_cons_zero, List.getElem?_cons_succ] at g0 g1 g2 g3 g4
    have HO3 := hid (pnBoth f n ao cp g n bo bp (w8.alloc (.cells #[.int .i64 y.f.op, .int .i64 y.f.k, .string ⟨y.f.r.1.toArray⟩, .string ⟨y.f.r.2.toArray⟩, .slice y.ao y.f.kids.length y.cp] 26)) (H.out.1.keep c09).at_ (H.out.1.keep c09).lt H.out.1.ok H.out.1.z (H.out.2.1.keep c09).at_ (H.out.2.1.keep c09).lt H.out.2.1.ok H.out.2.1.z (by have := HNF.out; omega))
    clear cY hY c79 c39 c09 hyr hag d1 d2 d3 hF9 hG9
    go_wp2_with fail
    refine HO3.out.mono ?_
    clear HO3 f0 f1 f2 f3 f4 g0 g1 g2 g3 g4
    generalize w8.alloc (.cells #[.int .i64 y.f.op, .int .i64 y.f.k, .string ⟨y.f.r.1.toArray⟩, .string ⟨y.f.r.2.toArray⟩, .slice y.ao y.f.kids.length y.cp] 26) = w9 at *
    generalize w8.heap.size = X7 at *
    rintro e w10 ⟨z, k3, rfl, p1, p2, p3, hcase⟩
    obtain ⟨zo, zc, hzi, hfz, hzv⟩ := own_in p1
    rw [hfz]
    have cZ : Chg (fun _ => False) w10 (w10.alloc (.cells #[.int .i64 (eraseA z).op, .int .i64 (eraseA z).k, .string ⟨(eraseA z).r.1.toArray⟩, .string ⟨(eraseA z).r.2.toArray⟩, .slice zo (eraseA z).kids.length zc] 26)) := (Chg.refl _ w10).alloc _
    have hZ := heap_alloc_new w10 (.cells #[.int .i64 (eraseA z).op, .int .i64 (eraseA z).k, .string ⟨(eraseA z).r.1.toArray⟩, .string ⟨(eraseA z).r.2.toArray⟩, .slice zo (eraseA z).kids.length zc] 26)
    have c911 := p3.trans cZ (fun _ _ h => h)
    have c311 := HY.out.2.1.trans c911 (fun _ _ h => h)
    have c011 := HY.out.2.2.1.trans c911 (fun _ _ h => h)
    have HZ := hid (And.intro hZ (And.intro c311 (And.intro c011 (And.intro (hzi.rd.keep cZ) (And.intro (show OfCase (.mk 2 0 ([], []) [f, g]) (eraseA z) k3 from hcase) (And.intro (blk_keep HY.out.1 c911 id) (And.intro (HY.out.2.2.2.1.keep c911) (And.intro (blk_keep HY.out.2.2.2.2.2.2.1 c911 id) (HY.out.2.2.2.2.2.2.2.keep c911)))))))))
    have hF11 := blk_keep HB.out.1 c311 id
    have hG11 := blk_keep HB.out.2.1 c311 id
    have f0 := cell_blk hF11 0
    have f1 := cell_blk hF11 1
    have f2 := cell_blk hF11 2
    have f3 := cell_blk hF11 3
    have f4 := cell_blk hF11 4
    simp only [List.getElem?_toArray, List.getElem?_cons_zero, List.getElem?_cons_succ] at f0 f1 f2 f3 f4
    have g0 := cell_blk hG11 0
    have g1 := cell_blk hG11 1
    have g2 := cell_blk hG11 2
    have g3 := cell_blk hG11 3
    have g4 := cell_blk hG11 4
    simp only [List.getElem?_toArray, List.getElem?_cons_zero, List.getElem?_cons_succ] at g0 g1 g2 g3 g4
    clear cZ hZ c911 p1 p2 p3 hcase hzi hfz hzv hF11 hG11
    have e11 : (w10.alloc (.cells #[.int .i64 (eraseA z).op, .int .i64 (eraseA z).k, .string ⟨(eraseA z).r.1.toArray⟩, .string ⟨(eraseA z).r.2.toArray⟩, .slice zo (eraseA z).kids.length zc] 26)).heap.size = w10.heap.size + 1 := by simp
    generalize hw11 : w10.alloc (.cells #[.int .i64 (eraseA z).op, .int .i64 (eraseA z).k, .string ⟨(eraseA z).r.1.toArray⟩, .string ⟨(eraseA z).r.2.toArray⟩, .slice zo (eraseA z).kids.length zc] 26) = w11 at *
    have hkb := heap_alloc_new w11 (.cells #[.int .i64 f.op, .int .i64 f.k, .string ⟨f.r.1.toArray⟩, .string ⟨f.r.2.toArray⟩, .slice ao f.kids.length cp, .int .i64 g.op, .int .i64 g.k, .string ⟨g.r.1.toArray⟩, .string ⟨g.r.2.toArray⟩, .slice bo g.kids.length bp] 26)
    rw [e11] at hkb
    have ck := (Chg.refl (fun _ => False) w11).alloc (.cells #[.int .i64 f.op, .int .i64 f.k, .string ⟨f.r.1.toArray⟩, .string ⟨f.r.2.toArray⟩, .slice ao f.kids.length cp, .int .i64 g.op, .int .i64 g.k, .string ⟨g.r.1.toArray⟩, .string ⟨g.r.2.toArray⟩, .slice bo g.kids.length bp] 26)
    have hD2 : ∀ i, (D i ∨ i = w10.heap.size + 1) → i < (w11.alloc (.cells #[.int .i64 f.op, .int .i64 f.k, .string ⟨f.r.1.toArray⟩, .string ⟨f.r.2.toArray⟩, .slice ao f.kids.length cp, .int .i64 g.op, .int .i64 g.k, .string ⟨g.r.1.toArray⟩, .string ⟨g.r.2.toArray⟩, .slice bo g.kids.length bp] 26)).heap.size := fun i hi => hi.elim (fun h => ((H.out.1.keep c011).keep ck).lt i h) (fun h => by rw [h]; exact lt_blk hkb)
    have HO4 := hid (rnof (D := fun k => D k ∨ k = w10.heap.size + 1) (.mk 2 0 ([], []) [f, g]) (n + 1) (some ⟨w10.heap.size + 1, 0, none⟩) 2 (w11.alloc (.cells #[.int .i64 f.op, .int .i64 f.k, .string ⟨f.r.1.toArray⟩, .string ⟨f.r.2.toArray⟩, .slice ao f.kids.length cp, .int .i64 g.op, .int .i64 g.k, .string ⟨g.r.1.toArray⟩, .string ⟨g.r.2.toArray⟩, .slice bo g.kids.length bp] 26)) (fun i hi => by
    refine ⟨_, _, rfl, .inr rfl, ?_⟩
    rcases (show i = 0 ∨ i = 1 by have h9 : i < 2 := hi; omega) with rfl | rfl
    · exact fm_at_cells (f := f) (ao := ao) (cp := cp) ⟨cell_blk hkb 0, cell_blk hkb 1, cell_blk hkb 2, cell_blk hkb 3, cell_blk hkb 4⟩ H.out.1.ok H.out.1.z (((H.out.1.keep c011).keep ck).at_.mono (fun i h => .inl h))
    · exact fm_at_cells (f := g) (ao := bo) (cp := bp) ⟨cell_blk hkb 5, cell_blk hkb 6, cell_blk hkb 7, cell_blk hkb 8, cell_blk hkb 9⟩ H.out.2.1.ok H.out.2.1.z (((H.out.2.1.keep c011).keep ck).at_.mono (fun i h => .inl h))) hD2 ⟨by simp [FmB.r], by simp [FmB.r]⟩ (fun e => by cases e) (by have := HNF.out; simp [nodesF, nodesL]; omega))
    have HCK := hid (And.intro ck hD2)
    clear hkb ck hD2 c311 c011 e11
    subst hw11
    go_wp2_with fail
    refine HO4.out.mono ?_
    clear HO4 f0 f1 f2 f3 f4 g0 g1 g2 g3 g4
    generalize w10.alloc (.cells #[.int .i64 (eraseA z).op, .int .i64 (eraseA z).k, .string ⟨(eraseA z).r.1.toArray⟩, .string ⟨(eraseA z).r.2.toArray⟩, .slice zo (eraseA z).kids.length zc] 26) = w11 at *
    generalize w10.heap.size = X9 at *
    rintro e w12 ⟨u, k4, rfl, d1, d2, d3⟩
    unfold valD
    have cU : Chg (fun _ => False) w12 (w12.alloc (.cells #[.int .i64 u.f.op, .int .i64 u.f.k, .string ⟨u.f.r.1.toArray⟩, .string ⟨u.f.r.2.toArray⟩, .slice u.ao u.f.kids.length u.cp] 26)) := (Chg.refl _ w12).alloc _
    have hU := heap_alloc_new w12 (.cells #[.int .i64 u.f.op, .int .i64 u.f.k, .string ⟨u.f.r.1.toArray⟩, .string ⟨u.f.r.2.toArray⟩, .slice u.ao u.f.kids.length u.cp] 26)
    have cA := (HCK.out.1.trans d2 (fun _ _ h => h)).trans cU (fun _ _ h => h)
    have hur := (d1.rd (fun i hi => hi.elim (fun h => Nat.lt_of_lt_of_le (HCK.out.2 i h) d2.size) (fun h => h.2))).keep cU
    have hag2 := of_agree HZ.out.2.2.2.2.1 (show OfCase (.mk 2 0 ([], []) [f, g]) u.f k4 from d3)
    obtain ⟨hag1, hag1'⟩ := HY.out.2.2.2.2.1
    obtain ⟨hag2, hag2'⟩ := hag2
    subst hag1' hag2'
    have hNx : nodesF (eraseA x) ≤ 1048576 := by rw [hag1]; have := HY.out.2.2.2.2.2.1; omega
    have hNz : nodesF (eraseA z) ≤ 1048576 := by rw [hag2]; have := d1.n; omega
    have HE := hid (And.intro hag1 (And.intro hag2 (And.intro hNx (And.intro hNz (And.intro HY.out.2.2.2.2.2.1 d1.n)))))
    have HK := hid HX.out.2.2.2.2
    -- what lies there now
    have HU := hid (And.intro hU (And.intro (HZ.out.2.1.trans cA (fun _ _ h => h)) (And.intro (HZ.out.2.2.1.trans cA (fun _ _ h => h)) (And.intro hur (And.intro (blk_keep HZ.out.1 cA id) (And.intro (HZ.out.2.2.2.1.keep cA) (And.intro (blk_keep HZ.out.2.2.2.2.2.1 cA id) (And.intro (HZ.out.2.2.2.2.2.2.1.keep cA) (And.intro (blk_keep HZ.out.2.2.2.2.2.2.2.1 cA id) (HZ.out.2.2.2.2.2.2.2.2.keep cA))))))))))
    have hxb := blk_keep HZ.out.2.2.2.2.2.2.2.1 cA id
    have hyb := blk_keep HZ.out.2.2.2.2.2.1 cA id
    have a0 := cell_blk hxb 0
    have a1 := cell_blk hxb 1
    have a2 := cell_blk hxb 2
    have a3 := cell_blk hxb 3
    have a4 := cell_blk hxb 4
    simp only [List.getElem?_toArray, List.getElem?_cons_zero, List.getElem?_cons_succ] at a0 a1 a2 a3 a4
    have b0 := cell_blk hyb 0
    have b1 := cell_blk hyb 1
    have b2 := cell_blk hyb 2
    have b3 := cell_blk hyb 3
    have b4 := cell_blk hyb 4
    simp only [List.getElem?_toArray, List.getElem?_cons_zero, List.getElem?_cons_succ] at b0 b1 b2 b3 b4
    have HS1 := hid ((HZ.out.2.2.2.2.2.2.2.2.keep cA).same (HZ.out.2.2.2.2.2.2.1.keep cA) hNx (by have := HY.out.2.2.2.2.2.1; omega) xc y.cp)
    clear cU hU cA hur hag1 hag2 hNx hNz d1 d2 d3 hxb hyb HX HY HZ HCK
    go_wp2_with fail
    refine HS1.out.mono ?_
    clear HS1 a0 a1 a2 a3 a4 b0 b1 b2 b3 b4
    generalize w12.alloc (.cells #[.int .i64 u.f.op, .int .i64 u.f.k, .string ⟨u.f.r.1.toArray⟩, .string ⟨u.f.r.2.toArray⟩, .slice u.ao u.f.kids.length u.cp] 26) = w13 at *
    generalize w12.heap.size = X11 at *
    rintro e w14 ⟨b1, rfl, hb1, hc14⟩
    have hb1 := hb1.2 HE.out.1
    subst hb1
    have hF14 := blk_keep HB.out.1 (HU.out.2.1.trans hc14 (fun _ _ h => h)) id
    have f0 := cell_blk hF14 0
    have f1 := cell_blk hF14 1
    have f2 := cell_blk hF14 2
    have f3 := cell_blk hF14 3
    have f4 := cell_blk hF14 4
    simp only [List.getElem?_toArray, List.getElem?_cons_zero, List.getElem?_cons_succ] at f0 f1 f2 f3 f4
    have c14 := HU.out.2.2.1.trans hc14 (fun _ _ h => h)
    have HIS := hid (pnIs f n ao cp w14 (H.out.1.keep c14).at_ (H.out.1.keep c14).lt H.out.1.ok (by have := HNF.out; omega) ((H.out.2.2.2 (by have := HNF.out; omega)).later c14))
    have HC14 := hid (And.intro hc14 c14)
    clear hF14 c14 hc14
    go_wp2_with fail
    refine HIS.out.mono ?_
    clear HIS f0 f1 f2 f3 f4
    rintro e w15 ⟨b, rfl, hc15, hcase⟩
    have HC15 := hid (And.intro (HC14.out.1.trans hc15 (fun _ _ h => h)) (HC14.out.2.trans hc15 (fun _ _ h => h)))
    have hyb := blk_keep HU.out.2.2.2.2.2.2.1 HC15.out.1 id
    have hFb := blk_keep HB.out.1 (HU.out.2.1.trans HC15.out.1 (fun _ _ h => h)) id
    have hzb := blk_keep HU.out.2.2.2.2.1 HC15.out.1 id
    have hub := blk_keep HU.out.1 HC15.out.1 id
    have HIC := hid hcase
    clear hc15 hcase HC14
    by_cases hk0 : k = 0
    · subst hk0
      have b0 := cell_blk hyb 0
      have b1 := cell_blk hyb 1
      have b2 := cell_blk hyb 2
      have b3 := cell_blk hyb 3
      have b4 := cell_blk hyb 4
      simp only [List.getElem?_toArray, List.getElem?_cons_zero, List.getElem?_cons_succ] at b0 b1 b2 b3 b4
      have f0 := cell_blk hFb 0
      have f1 := cell_blk hFb 1
      have f2 := cell_blk hFb 2
      have f3 := cell_blk hFb 3
      have f4 := cell_blk hFb 4
      simp only [List.getElem?_toArray, List.getElem?_cons_zero, List.getElem?_cons_succ] at f0 f1 f2 f3 f4
      have HS2 := hid ((HU.out.2.2.2.2.2.2.2.1.keep HC15.out.1).same (H.out.1.keep HC15.out.2).rd (by have := HE.out.2.2.2.2.1; omega) (by have := HNF.out; omega) y.cp cp)
      clear hyb hFb hzb hub
      go_wp2_with fail
      refine HS2.out.mono ?_
      clear HS2 b0 b1 b2 b3 b4 f0 f1 f2 f3 f4
      rintro e w16 ⟨s, rfl, hs, hc16⟩
      have hbs := (is_agree HK.out HIC.out (s := s) (by rw [HE.out.1]; exact hs)).1 rfl
      subst hbs
      have HC16 := hid (HC15.out.1.trans hc16 (fun _ _ h => h))
      have hzb := blk_keep HU.out.2.2.2.2.1 HC16.out id
      have hub := blk_keep HU.out.1 HC16.out id
      have a0 := cell_blk hzb 0
      have a1 := cell_blk hzb 1
      have a2 := cell_blk hzb 2
      have a3 := cell_blk hzb 3
      have a4 := cell_blk hzb 4
      simp only [List.getElem?_toArray, List.getElem?_cons_zero, List.getElem?_cons_succ] at a0 a1 a2 a3 a4
      have f0 := cell_blk hub 0
      have f1 := cell_blk hub 1
      have f2 := cell_blk hub 2
      have f3 := cell_blk hub 3
      have f4 := cell_blk hub 4
      simp only [List.getElem?_toArray, List.getElem?_cons_zero, List.getElem?_cons_succ] at f0 f1 f2 f3 f4
      have HS3 := hid ((HU.out.2.2.2.2.2.1.keep HC16.out).same (HU.out.2.2.2.1.keep HC16.out) HE.out.2.2.2.1 (by have := HE.out.2.2.2.2.2; omega) zc u.cp)
      have hbb : (b == b) = true := by simp
      clear hzb hub hs hc16 HIC
      go_wp2_with fail
      refine HS3.out.mono ?_
      clear HS3 a0 a1 a2 a3 a4 f0 f1 f2 f3 f4
      rintro e w17 ⟨b3, rfl, hb3, hc17⟩
      have hb3 := hb3.2 HE.out.2.1
      subst hb3
      have HEND := hid (HU.out.2.2.1.trans (HC16.out.trans hc17 (fun _ _ h => h)) (fun _ _ h => h))
      clear hc17
      go_wp2
      go_ret
      exact ⟨rfl, HEND.out⟩
    · have zk : (k == 0) = false := by simpa using hk0
      have hbf : b = false := (by
        obtain ⟨s9, hs9⟩ : ∃ s9 : Bool, s9 = true ↔ eraseA x = f := by
          by_cases h : eraseA x = f
          · exact ⟨true, by simp [h]⟩
          · exact ⟨false, by simp [h]⟩
        exact (is_agree HK.out HIC.out hs9).2 hk0)
      subst hbf
      have a0 := cell_blk hzb 0
      have a1 := cell_blk hzb 1
      have a2 := cell_blk hzb 2
      have a3 := cell_blk hzb 3
      have a4 := cell_blk hzb 4
      simp only [List.getElem?_toArray, List.getElem?_cons_zero, List.getElem?_cons_succ] at a0 a1 a2 a3 a4
      have f0 := cell_blk hub 0
      have f1 := cell_blk hub 1
      have f2 := cell_blk hub 2
      have f3 := cell_blk hub 3
      have f4 := cell_blk hub 4
      simp only [List.getElem?_toArray, List.getElem?_cons_zero, List.getElem?_cons_succ] at f0 f1 f2 f3 f4
      have HS3 := hid ((HU.out.2.2.2.2.2.1.keep HC15.out.1).same (HU.out.2.2.2.1.keep HC15.out.1) HE.out.2.2.2.1 (by have := HE.out.2.2.2.2.2; omega) zc u.cp)
      clear hyb hFb hzb hub HIC hk0
      go_wp2_with fail
      refine HS3.out.mono ?_
      clear HS3 a0 a1 a2 a3 a4 f0 f1 f2 f3 f4
      rintro e w17 ⟨b3, rfl, hb3, hc17⟩
      have hb3 := hb3.2 HE.out.2.1
      subst hb3
      have HEND := hid (HU.out.2.2.1.trans (HC15.out.1.trans hc17 (fun _ _ h => h)) (fun _ _ h => h))
      clear hc17
      go_wp2
      go_ret
      exact ⟨rfl, HEND.out⟩
end Go.Proofs.Ytcbfieodjbfjdaa
