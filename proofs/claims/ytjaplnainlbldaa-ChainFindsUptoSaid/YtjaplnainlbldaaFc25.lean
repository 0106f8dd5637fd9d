/- Texts that the proof leans on, in one: CredParse, ChWays. -/
import Derived.Test.YtjaplnainlbldaaFc5
import Derived.Test.YtjaplnainlbldaaFc24
/- Which credential a text is: plain words; a credential stored in its nine cells. -/
namespace Go.Proofs.Ytjaplnainlbldaa
open Go.RowKit

/-- The nine cells of the block b, stored one by one. -/
def setCred (w : World) (b : Nat) (c : CredB) : World :=
 ((((((((w.setCell ⟨b, 0, none⟩ (.int .i64 c.kind)).setCell ⟨b, 1, none⟩ (.string ⟨c.head.1.toArray⟩)).setCell ⟨b, 2, none⟩ (.string ⟨c.head.2.toArray⟩)).setCell ⟨b, 3, none⟩ (.string ⟨c.who.toArray⟩)).setCell ⟨b, 4, none⟩ (.string ⟨c.b.1.toArray⟩)).setCell ⟨b, 5, none⟩ (.string ⟨c.b.2.toArray⟩)).setCell ⟨b, 6, none⟩ (.string ⟨c.c.1.toArray⟩)).setCell ⟨b, 7, none⟩ (.string ⟨c.c.2.toArray⟩)).setCell ⟨b, 8, none⟩ (.string ⟨c.w2.toArray⟩)

theorem setCred_chg (w : World) (b : Nat) (c : CredB) : Chg (· = b) w (setCred w b c) := by
 unfold setCred
 exact ((((((((setCell_chg _ b 0 _).trans (setCell_chg _ b 1 _) (fun _ _ h => h)).trans (setCell_chg _ b 2 _) (fun _ _ h => h)).trans (setCell_chg _ b 3 _) (fun _ _ h => h)).trans (setCell_chg _ b 4 _) (fun _ _ h => h)).trans (setCell_chg _ b 5 _) (fun _ _ h => h)).trans (setCell_chg _ b 6 _) (fun _ _ h => h)).trans (setCell_chg _ b 7 _) (fun _ _ h => h)).trans (setCell_chg _ b 8 _) (fun _ _ h => h)

theorem credBox_set (c0 c : CredB) : ((((((((((credBox c0).setIfInBounds 0 (.int .i64 c.kind)).setIfInBounds 1 (.string ⟨c.head.1.toArray⟩)).setIfInBounds 2 (.string ⟨c.head.2.toArray⟩)).setIfInBounds 3 (.string ⟨c.who.toArray⟩)).setIfInBounds 4 (.string ⟨c.b.1.toArray⟩)).setIfInBounds 5 (.string ⟨c.b.2.toArray⟩)).setIfInBounds 6 (.string ⟨c.c.1.toArray⟩)).setIfInBounds 7 (.string ⟨c.c.2.toArray⟩)).setIfInBounds 8 (.string ⟨c.w2.toArray⟩)) = credBox c := by
 simp [credBox]

theorem setCred_blk {w : World} {b : Nat} {c0 : CredB} (c : CredB) {ty : TypeId} {f : Nat × Nat} (h : w.heap[b]? = some (.cells (credBox c0) ty f)) : (setCred w b c).heap[b]? = some (.cells (credBox c) ty f) := by
 have h0 := set_blk h 0 (.int .i64 c.kind)
 have h1 := set_blk h0 1 (.string ⟨c.head.1.toArray⟩)
 have h2 := set_blk h1 2 (.string ⟨c.head.2.toArray⟩)
 have h3 := set_blk h2 3 (.string ⟨c.who.toArray⟩)
 have h4 := set_blk h3 4 (.string ⟨c.b.1.toArray⟩)
 have h5 := set_blk h4 5 (.string ⟨c.b.2.toArray⟩)
 have h6 := set_blk h5 6 (.string ⟨c.c.1.toArray⟩)
 have h7 := set_blk h6 7 (.string ⟨c.c.2.toArray⟩)
 have h8 := set_blk h7 8 (.string ⟨c.w2.toArray⟩)
 rw [credBox_set] at h8
 exact h8

end Go.Proofs.Ytjaplnainlbldaa

/- The ways to a step. -/
namespace Go.Proofs.Ytjaplnainlbldaa
open Go.RowKit

theorem ownW_new (w : World) (x : WayB) {B : Nat} (hB : B ≤ w.heap.size) : OwnWy B (w.alloc (.cells #[.int .i64 (x.1 : Nat), .int .i64 (x.2 : Nat)] 175)) (.slice (some ⟨w.heap.size, 0, none⟩) 1 1) [x] :=
 ⟨rfl, .inr ⟨w.heap.size, 1, _, rfl, hB, heap_alloc_new w _, Nat.le_refl _, by unfold maxLen; omega, rfl, rfl⟩⟩
def Spec.ownW (B : Nat) (x : WayB) : Spec := ⟨fun v w => ∃ b, v = .slice (some ⟨b, 0, none⟩) 1 1 ∧ OwnWy B w (.slice (some ⟨b, 0, none⟩) 1 1) [x], fun _ _ _ hc ⟨b, h1, h2⟩ => ⟨b, h1, h2.keep hc (fun _ _ => id)⟩⟩

def kw1 (g B off nn cap2 i : Nat) (c : CredB) (who : List UInt8) {n : Nat} : List (SpecR (Chg (fun b => n ≤ b))) := [.eq (.pointer (some ⟨g, 0, none⟩)), .eq (.int .i64 (i : Nat)), .any, .any, .any, .any, .eq (.string ⟨who.toArray⟩), .any, .eq (.pointer (some ⟨g, 0, none⟩)), .eq (.pointer (some ⟨g, 0, none⟩)), .eq (.pointer (some ⟨g, 0, none⟩)), .eq (.slice (some ⟨B, off, none⟩) nn cap2), .eq (.int .i64 (i : Nat)), .eq (.pointer (some ⟨B, off + i * 12, none⟩)), .eq (.pointer (some ⟨B, off + i * 12, none⟩)), .eq (.agg #[.int .i64 c.kind, .string ⟨c.head.1.toArray⟩, .string ⟨c.head.2.toArray⟩, .string ⟨c.who.toArray⟩, .string ⟨c.b.1.toArray⟩, .string ⟨c.b.2.toArray⟩, .string ⟨c.c.1.toArray⟩, .string ⟨c.c.2.toArray⟩, .string ⟨c.w2.toArray⟩]), .eq (.pointer (some ⟨g, 0, none⟩)), .eq (.pointer (some ⟨g, 0, none⟩)), .eq (.pointer (some ⟨g, 0, none⟩)), .eq (.slice (some ⟨B, off, none⟩) nn cap2), .eq (.int .i64 (i : Nat)), .eq (.pointer (some ⟨B, off + i * 12, none⟩)), .eq (.pointer (some ⟨B, off + i * 12 + 9, none⟩)), .eq (.pointer (some ⟨B, off + i * 12 + 11, none⟩)), .eq (.string ⟨who.toArray⟩), .any, .any, .any, .any, .any, .any, .any, .any, .any, .any, .any, .any, .any, .any, .any, .any, .any, .any, .any, .any, .any, .any, .any, .any, .any, .any, .any, .any, .any, .any, .any, .any, .any, .any, .any, .any, .any, .any, .any, .any, .any, .any, .any, .any, .any, .any]

set_option maxRecDepth 100000 in
set_option maxHeartbeats 8000000 in
theorem ch_ways {T : Nat → Option KTag} {ls : List CredB} (g m3 m4 : Nat) (S : List StepB) (i : Nat) (w0 : World) (h : GS T w0 g m3 m4 S) (hg : Good ls S) (hi : i < S.length) (hS : S.length ≤ 33554432) :
  Calls Try.prog 81 #[.pointer (some ⟨g, 0, none⟩), .int .i64 (i : Nat)] w0 fun e w' => ∃ v, e = .returned v ∧ OwnWy w0.heap.size w' v (waysG S S[i] i) ∧ Chg (fun _ => False) w0 w' := by
 obtain ⟨ao2, cap2, z1, z2, z3⟩ := h.steps
 obtain ⟨B, off, hao2, hDD, ⟨hcc, ⟨hf0, hf1, hf2⟩⟩, hss⟩ := z2 i hi
 obtain ⟨c, hc⟩ : ∃ c, c = (S[i]'hi).c := ⟨_, rfl⟩
 obtain ⟨rr, hrr⟩ : ∃ rr, rr = (S[i]'hi).f.1 := ⟨_, rfl⟩
 obtain ⟨who, hwho⟩ : ∃ who, who = (S[i]'hi).f.2 := ⟨_, rfl⟩
 have hst := hg.st i hi
 have hsh := h.sh _ (List.getElem_mem hi)
 have HI := hid hi
 have HSE : Hid (S[i]'hi = ⟨c, (rr, who)⟩) := hid (by rw [hc, hrr, hwho])
 have HCC : Hid (c = (S[i]'hi).c ∧ who = (S[i]'hi).f.2) := hid ⟨hc, hwho⟩
 have HKIND : Hid (c.kind = 1 ∨ c.kind = 2 ∨ c.kind = 3 ∨ c.kind = 4) := hid (by rw [hc]; exact isCred_kind hst.1)
 have HIN : Hid ((c.kind = 2 → (c.b, who) ∈ factsK S) ∧ (c.kind = 4 → (c.b, who) ∈ factsK S ∧ (c.c, who) ∈ factsK S)) := hid (by
  obtain ⟨_, _, hb⟩ := hst
  rw [← hc, ← hwho] at hb
  refine ⟨fun k => ?_, fun k => ?_⟩
  ·rcases hb with ⟨q, _⟩ | ⟨_, q⟩ | ⟨q, _⟩ | ⟨q, _⟩
   ·omega
   ·exact (idx_take hg.nd q).2
   ·omega
   ·omega
  ·rcases hb with ⟨q, _⟩ | ⟨q, _⟩ | ⟨q, _⟩ | ⟨_, q, q2⟩
   ·omega
   ·omega
   ·omega
   ·exact ⟨(idx_take hg.nd q).2, (idx_take hg.nd q2).2⟩)
 have HSH : Hid (factShort (c.b, who) 9223372036854775807 ∧ factShort (c.c, who) 9223372036854775807 ∧ credShort c 9223372036854775807 ∧ who.length ≤ 9223372036854775807) := hid (by
  have h1 := hsh.1
  have h2 := hsh.2.2.2
  rw [← hc] at h1
  rw [← hwho] at h2
  exact ⟨⟨h1.2.2.2.1, h1.2.2.2.2.1, h2⟩, ⟨h1.2.2.2.2.2.1, h1.2.2.2.2.2.2.1, h2⟩, h1, h2⟩)
 have HSL := hid hS
 rw [← hc] at hcc
 rw [← hwho] at hf2
 obtain ⟨nn, hnn⟩ : ∃ nn, nn = S.length := ⟨_, rfl⟩
 have hsz2 : ∀ {a : Addr} {v : Value}, w0.cell? a = some v → ∀ w, Chg (fun b => w0.heap.size ≤ b) w0 w → w.cell? a = some v := fun {a v} ha w hw => hw.cell ha (fun h => by have := World.block_lt_of_cell? w0 a ha; omega)
 have HB : Hid (∀ w, Chg (fun b => w0.heap.size ≤ b) w0 w → w.cell? ⟨g, 0, none⟩ = some (.slice (some ⟨B, off, none⟩) nn cap2) ∧ CredAt w B (off + i * 12) c ∧ w.cell? ⟨B, off + i * 12 + 11, none⟩ = some (.string ⟨who.toArray⟩)) := hid (fun w hw => ⟨hsz2 (by rw [z1, hao2, hnn]) w hw, ⟨hsz2 hcc.k0 w hw, hsz2 hcc.k1 w hw, hsz2 hcc.k2 w hw, hsz2 hcc.k3 w hw, hsz2 hcc.k4 w hw, hsz2 hcc.k5 w hw, hsz2 hcc.k6 w hw, hsz2 hcc.k7 w hw, hsz2 hcc.k8 w hw⟩, hsz2 hf2 w hw⟩)
 have HY : Hid (i < nn ∧ nn ≤ 33554432) := hid ⟨by rw [hnn]; exact hi, by rw [hnn]; exact hS⟩
 have HGS := hid h
 clear h hg hS z1 z2 z3 hao2 hDD hcc hf0 hf1 hf2 hss hc hrr hwho hst hsh hnn hsz2
 go_enter Try.func81, Try.ntmps81
 go_wp2_with fail
 refine wp_region_stateAD (Chg (fun b => w0.heap.size ≤ b)) (AlS 17 18 5 (fun w => Chg (fun b => w0.heap.size ≤ b) w0 w) (fun v w => ∃ b, v = .pointer (some ⟨b, 0, none⟩) ∧ w.heap[b]? = some (.cells #[.int .i64 0, .string ⟨#[]⟩, .string ⟨#[]⟩, .string ⟨#[]⟩, .string ⟨#[]⟩, .string ⟨#[]⟩, .string ⟨#[]⟩, .string ⟨#[]⟩, .string ⟨#[]⟩] 36 (0, 0)) ∧ w0.heap.size ≤ b ∧ Chg (fun b => w0.heap.size ≤ b) w0 w) (fun v w => ∃ b, v = .pointer (some ⟨b, 0, none⟩) ∧ w.heap[b]? = some (.cells #[.int .i64 c.kind, .string ⟨c.head.1.toArray⟩, .string ⟨c.head.2.toArray⟩, .string ⟨c.who.toArray⟩, .string ⟨c.b.1.toArray⟩, .string ⟨c.b.2.toArray⟩, .string ⟨c.c.1.toArray⟩, .string ⟨c.c.2.toArray⟩, .string ⟨c.w2.toArray⟩] 36 (0, 0)) ∧ w0.heap.size ≤ b ∧ Chg (fun b => w0.heap.size ≤ b) w0 w)) (specAtR (kw1 g B off nn cap2 i c who)) [8, 9, 10, 11, 12, 13, 14, 15, 16, 17, 18, 19, 20, 21, 22, 23, 24, 5, 6] [0, 1] (by kernel_rfl) (by kernel_rfl) (AlS.start (show (5 : Nat) < 71 by decide) ((Chg.refl _ _).drew)) (fun t v w w' hc h => specAtR_st _ t v w w' hc h) (by rfl) (by kernel_rfl) ?start1 ?obs1 ?fin1
 case start1 =>
  simp only [List.forall_mem_cons]; exact ⟨⟨_, rfl, rfl⟩, ⟨_, rfl, rfl⟩, fun _ h => by cases h⟩
 case obs1 =>
  clear HIN HSE HCC HKIND
  refine ObsAD.cons none (by kernel_rfl) ?_ ?_
  ·refine ObAD.plain fun L a w hi he hD hW hk K k => ?_
   obtain ⟨_, e0, rfl⟩ := hk 0 (by decide)
   clear hk
   have hS := hid (hW.step (j := 0) (d := (some 8)) · (by decide) (Chg.refl (fun _ => False) w) (fun _ _ h c => h.trans c (fun _ _ h => h.elim)) (fun _ _ _ h c => alQ h c) (fun _ _ _ h c => alQ h c))
   clear hi he hW hD
   go_simp
   exact k _ _ (Chg.refl _ _) (hS.out _) rfl
  refine ObsAD.cons none (by kernel_rfl) ?_ ?_
  ·refine ObAD.plain fun L a w hi he hD hW hk K k => ?_
   obtain ⟨_, e8, rfl⟩ := hk 8 (by decide)
   clear hk
   have hS := hid (hW.step (j := 1) (d := (some 9)) · (by decide) (Chg.refl (fun _ => False) w) (fun _ _ h c => h.trans c (fun _ _ h => h.elim)) (fun _ _ _ h c => alQ h c) (fun _ _ _ h c => alQ h c))
   clear hi he hW hD
   go_simp
   exact k _ _ (Chg.refl _ _) (hS.out _) rfl
  refine ObsAD.cons none (by kernel_rfl) ?_ ?_
  ·refine ObAD.plain fun L a w hi he hD hW hk K k => ?_
   obtain ⟨_, e9, rfl⟩ := hk 9 (by decide)
   clear hk
   have hS := hid (hW.step (j := 2) (d := (some 10)) · (by decide) (Chg.refl (fun _ => False) w) (fun _ _ h c => h.trans c (fun _ _ h => h.elim)) (fun _ _ _ h c => alQ h c) (fun _ _ _ h c => alQ h c))
   clear hi he hW hD
   go_simp
   exact k _ _ (Chg.refl _ _) (hS.out _) rfl
  refine ObsAD.cons none (by kernel_rfl) ?_ ?_
  ·refine ObAD.plain fun L a w hi he hD hW hk K k => ?_
   obtain ⟨_, e10, rfl⟩ := hk 10 (by decide)
   clear hk
   have hB := hW.ever (fun w h => HB.out w h) (fun v w h => HB.out w h.choose_spec.2.2.2) (fun v w h => HB.out w (h.choose_spec.2.2.2))
   have zz := hB.1
   have hS := hid (hW.step (j := 3) (d := (some 11)) · (by decide) (Chg.refl (fun _ => False) w) (fun _ _ h c => h.trans c (fun _ _ h => h.elim)) (fun _ _ _ h c => alQ h c) (fun _ _ _ h c => alQ h c))
   clear hi he hW hD
   go_simp
   exact k _ _ (Chg.refl _ _) (hS.out _) rfl
  refine ObsAD.cons none (by kernel_rfl) ?_ ?_
  ·refine ObAD.plain fun L a w hi he hD hW hk K k => ?_
   obtain ⟨_, e1, rfl⟩ := hk 1 (by decide)
   clear hk
   have hS := hid (hW.step (j := 4) (d := (some 12)) · (by decide) (Chg.refl (fun _ => False) w) (fun _ _ h c => h.trans c (fun _ _ h => h.elim)) (fun _ _ _ h c => alQ h c) (fun _ _ _ h c => alQ h c))
   clear hi he hW hD
   go_simp
   exact k _ _ (Chg.refl _ _) (hS.out _) rfl
  refine ObsAD.cons none (by kernel_rfl) ?_ ?_
  ·refine ObAD.plain fun L a w hi he hD hW hk K k => ?_
   obtain ⟨_, e11, rfl⟩ := hk 11 (by decide)
   obtain ⟨_, e12, rfl⟩ := hk 12 (by decide)
   clear hk
   have hB := hW.ever (fun w h => HB.out w h) (fun v w h => HB.out w h.choose_spec.2.2.2) (fun v w h => HB.out w (h.choose_spec.2.2.2))
   have hlt := HY.out.1
   have hS := hid (hW.step (j := 5) (d := (some 13)) · (by decide) (Chg.refl (fun _ => False) w) (fun _ _ h c => h.trans c (fun _ _ h => h.elim)) (fun _ _ _ h c => alQ h c) (fun _ _ _ h c => alQ h c))
   clear hi he hW hD
   go_simp
   exact k _ _ (Chg.refl _ _) (hS.out _) rfl
  refine ObsAD.cons none (by kernel_rfl) ?_ ?_
  ·refine ObAD.plain fun L a w hi he hD hW hk K k => ?_
   obtain ⟨_, e13, rfl⟩ := hk 13 (by decide)
   clear hk
   have hS := hid (hW.step (j := 6) (d := (some 14)) · (by decide) (Chg.refl (fun _ => False) w) (fun _ _ h c => h.trans c (fun _ _ h => h.elim)) (fun _ _ _ h c => alQ h c) (fun _ _ _ h c => alQ h c))
   clear hi he hW hD
   go_simp
   exact k _ _ (Chg.refl _ _) (hS.out _) rfl
  refine ObsAD.cons none (by kernel_rfl) ?_ ?_
  ·refine ObAD.plain fun L a w hi he hD hW hk K k => ?_
   obtain ⟨_, e14, rfl⟩ := hk 14 (by decide)
   clear hk
   have hB := hW.ever (fun w h => HB.out w h) (fun v w h => HB.out w h.choose_spec.2.2.2) (fun v w h => HB.out w (h.choose_spec.2.2.2))
   obtain ⟨_, ⟨y0, y1, y2, y3, y4, y5, y6, y7, y8⟩, _⟩ := hB
   have hS := hid (hW.step (j := 7) (d := (some 15)) · (by decide) (Chg.refl (fun _ => False) w) (fun _ _ h c => h.trans c (fun _ _ h => h.elim)) (fun _ _ _ h c => alQ h c) (fun _ _ _ h c => alQ h c))
   clear hi he hW hD
   go_simp
   exact k _ _ (Chg.refl _ _) (hS.out _) rfl
  refine ObsAD.cons none (by kernel_rfl) ?_ ?_
  ·refine ObAD.plain fun L a w hi he hD hW hk K k => ?_
   obtain ⟨_, e0, rfl⟩ := hk 0 (by decide)
   clear hk
   have hS := hid (hW.step (j := 8) (d := (some 16)) · (by decide) (Chg.refl (fun _ => False) w) (fun _ _ h c => h.trans c (fun _ _ h => h.elim)) (fun _ _ _ h c => alQ h c) (fun _ _ _ h c => alQ h c))
   clear hi he hW hD
   go_simp
   exact k _ _ (Chg.refl _ _) (hS.out _) rfl
  refine ObsAD.cons none (by kernel_rfl) ?_ ?_
  ·refine ObAD.plain fun L a w hi he hD hW hk K k => ?_
   obtain ⟨_, e16, rfl⟩ := hk 16 (by decide)
   clear hk
   have hS := hid (hW.step (j := 9) (d := (some 17)) · (by decide) (Chg.refl (fun _ => False) w) (fun _ _ h c => h.trans c (fun _ _ h => h.elim)) (fun _ _ _ h c => alQ h c) (fun _ _ _ h c => alQ h c))
   clear hi he hW hD
   go_simp
   exact k _ _ (Chg.refl _ _) (hS.out _) rfl
  refine ObsAD.cons none (by kernel_rfl) ?_ ?_
  ·refine ObAD.plain fun L a w hi he hD hW hk K k => ?_
   obtain ⟨_, e17, rfl⟩ := hk 17 (by decide)
   clear hk
   have hS := hid (hW.step (j := 10) (d := (some 18)) · (by decide) (Chg.refl (fun _ => False) w) (fun _ _ h c => h.trans c (fun _ _ h => h.elim)) (fun _ _ _ h c => alQ h c) (fun _ _ _ h c => alQ h c))
   clear hi he hW hD
   go_simp
   exact k _ _ (Chg.refl _ _) (hS.out _) rfl
  refine ObsAD.cons none (by kernel_rfl) ?_ ?_
  ·refine ObAD.plain fun L a w hi he hD hW hk K k => ?_
   obtain ⟨_, e18, rfl⟩ := hk 18 (by decide)
   clear hk
   have hB := hW.ever (fun w h => HB.out w h) (fun v w h => HB.out w h.choose_spec.2.2.2) (fun v w h => HB.out w (h.choose_spec.2.2.2))
   have zz := hB.1
   have hS := hid (hW.step (j := 11) (d := (some 19)) · (by decide) (Chg.refl (fun _ => False) w) (fun _ _ h c => h.trans c (fun _ _ h => h.elim)) (fun _ _ _ h c => alQ h c) (fun _ _ _ h c => alQ h c))
   clear hi he hW hD
   go_simp
   exact k _ _ (Chg.refl _ _) (hS.out _) rfl
  refine ObsAD.cons none (by kernel_rfl) ?_ ?_
  ·refine ObAD.plain fun L a w hi he hD hW hk K k => ?_
   obtain ⟨_, e1, rfl⟩ := hk 1 (by decide)
   clear hk
   have hS := hid (hW.step (j := 12) (d := (some 20)) · (by decide) (Chg.refl (fun _ => False) w) (fun _ _ h c => h.trans c (fun _ _ h => h.elim)) (fun _ _ _ h c => alQ h c) (fun _ _ _ h c => alQ h c))
   clear hi he hW hD
   go_simp
   exact k _ _ (Chg.refl _ _) (hS.out _) rfl
  refine ObsAD.cons none (by kernel_rfl) ?_ ?_
  ·refine ObAD.plain fun L a w hi he hD hW hk K k => ?_
   obtain ⟨_, e19, rfl⟩ := hk 19 (by decide)
   obtain ⟨_, e20, rfl⟩ := hk 20 (by decide)
   clear hk
   have hB := hW.ever (fun w h => HB.out w h) (fun v w h => HB.out w h.choose_spec.2.2.2) (fun v w h => HB.out w (h.choose_spec.2.2.2))
   have hlt := HY.out.1
   have hS := hid (hW.step (j := 13) (d := (some 21)) · (by decide) (Chg.refl (fun _ => False) w) (fun _ _ h c => h.trans c (fun _ _ h => h.elim)) (fun _ _ _ h c => alQ h c) (fun _ _ _ h c => alQ h c))
   clear hi he hW hD
   go_simp
   exact k _ _ (Chg.refl _ _) (hS.out _) rfl
  refine ObsAD.cons none (by kernel_rfl) ?_ ?_
  ·refine ObAD.plain fun L a w hi he hD hW hk K k => ?_
   obtain ⟨_, e21, rfl⟩ := hk 21 (by decide)
   clear hk
   have hS := hid (hW.step (j := 14) (d := (some 22)) · (by decide) (Chg.refl (fun _ => False) w) (fun _ _ h c => h.trans c (fun _ _ h => h.elim)) (fun _ _ _ h c => alQ h c) (fun _ _ _ h c => alQ h c))
   clear hi he hW hD
   go_simp
   exact k _ _ (Chg.refl _ _) (hS.out _) rfl
  refine ObsAD.cons none (by kernel_rfl) ?_ ?_
  ·refine ObAD.plain fun L a w hi he hD hW hk K k => ?_
   obtain ⟨_, e22, rfl⟩ := hk 22 (by decide)
   clear hk
   have hS := hid (hW.step (j := 15) (d := (some 23)) · (by decide) (Chg.refl (fun _ => False) w) (fun _ _ h c => h.trans c (fun _ _ h => h.elim)) (fun _ _ _ h c => alQ h c) (fun _ _ _ h c => alQ h c))
   clear hi he hW hD
   go_simp
   exact k _ _ (Chg.refl _ _) (hS.out _) rfl
  refine ObsAD.cons none (by kernel_rfl) ?_ ?_
  ·refine ObAD.plain fun L a w hi he hD hW hk K k => ?_
   obtain ⟨_, e23, rfl⟩ := hk 23 (by decide)
   clear hk
   have hB := hW.ever (fun w h => HB.out w h) (fun v w h => HB.out w h.choose_spec.2.2.2) (fun v w h => HB.out w (h.choose_spec.2.2.2))
   have zz := hB.2.2
   have hS := hid (hW.step (j := 16) (d := (some 24)) · (by decide) (Chg.refl (fun _ => False) w) (fun _ _ h c => h.trans c (fun _ _ h => h.elim)) (fun _ _ _ h c => alQ h c) (fun _ _ _ h c => alQ h c))
   clear hi he hW hD
   go_simp
   exact k _ _ (Chg.refl _ _) (hS.out _) rfl
  refine ObsAD.cons none (by kernel_rfl) ?_ ?_
  ·refine ObAD.plain fun L a w hi he hD hW hk K k => ?_
   clear hk
   have h0 := hW.p0 hi
   have hsz := h0.size
   have HS := hid (And.intro hW hi)
   clear hi he hW hD
   go_simp
   exact k _ _ ((Chg.refl _ _).alloc _) (HS.out.1.first (by decide) HS.out.2 ⟨w.heap.size, rfl, heap_alloc_new w _, hsz, h0.alloc _⟩) trivial
  refine ObsAD.cons none (by kernel_rfl) ?_ ?_
  ·refine ObAD.plain fun L a w hi he hD hW hk K k => ?_
   obtain ⟨_, e15, rfl⟩ := hk 15 (by decide)
   clear hk
   have hall : L 17 = true := he ⟨17, Ground.data⟩ (by simp) (by decide)
   obtain ⟨v2, e5, b, rfl, hb, hle, hc⟩ := hW.p1 hall hi
   obtain ⟨z0, z1, z2, z3, z4, z5, z6, z7, z8⟩ := cred_at_blk (c := noCred) hb
   simp only [Nat.zero_add] at z0 z1 z2 z3 z4 z5 z6 z7 z8
   have f0 := froz_blk hb 0
   have f1 := froz_blk hb 1
   have f2 := froz_blk hb 2
   have f3 := froz_blk hb 3
   have f4 := froz_blk hb 4
   have f5 := froz_blk hb 5
   have f6 := froz_blk hb 6
   have f7 := froz_blk hb 7
   have f8 := froz_blk hb 8
   have HS := hid (And.intro hW (And.intro hall (And.intro (setCred_blk (c0 := noCred) c hb) (And.intro hle (And.intro (hc.trans (setCred_chg w b c) (fun j _ hj => by rw [hj]; exact hle)) (show Chg (fun b => w0.heap.size ≤ b) w (setCred w b c) from (setCred_chg w b c).mono (fun j _ hj => by rw [hj]; exact hle)))))))
   have H5 := hid e5
   clear hW hall hb hle hc hi he hD
   go_simp
   exact k undef _ HS.out.2.2.2.2.2 (HS.out.1.second (by decide) HS.out.2.1 H5.out ⟨b, rfl, HS.out.2.2.1, HS.out.2.2.2.1, HS.out.2.2.2.2.1⟩) trivial
  refine ObsAD.cons none (by kernel_rfl) ?_ ?_
  ·refine ObAD.plain fun L a w hi he hD hW hk K k => ?_
   obtain ⟨_, e24, rfl⟩ := hk 24 (by decide)
   clear hk
   have hS := hid (hW.step (j := 19) (d := (some 6)) · (by decide) (Chg.refl (fun _ => False) w) (fun _ _ h c => h.trans c (fun _ _ h => h.elim)) (fun _ _ _ h c => alQ h c) (fun _ _ _ h c => alQ h c))
   clear hi he hW hD
   go_simp
   exact k _ _ (Chg.refl _ _) (hS.out _) rfl
  exact ObsAD.nil
 case fin1 =>
  intro L vals w9 hL hWL hv
  obtain ⟨vv, hvv, b1, rfl, hb1, hle1, hc1⟩ := hWL.p2 (hL 18 (by decide))
  simp only [putAll, List.setIfInBounds_toArray, List.set_cons_zero, List.set_cons_succ, List.getElem?_toArray, List.getElem?_cons_zero, List.getElem?_cons_succ, Option.some.injEq] at hvv
  have hv5 := hvv
  clear hL hWL hvv
  have h6 : vals 6 = .string ⟨who.toArray⟩ := hv 6 (by decide)
  simp only [putAll, List.setIfInBounds_toArray, List.set_cons_zero, List.set_cons_succ, h6, hv5]
  obtain ⟨w6, hw6⟩ : ∃ w6, w6 = w9 := ⟨_, rfl⟩
  rw [← hw6] at hb1 hc1 ⊢
  have hcN : Chg (fun _ => False) w0 w6 := hc1.mono (fun i hi h => by omega)
  have HC6 := hid hcN
  have HW6 := hid hb1
  obtain ⟨y0, y1, y2, y3, y4, y5, y6, y7, y8⟩ := cred_at_blk hb1
  simp only [Nat.zero_add] at y0 y1 y2 y3 y4 y5 y6 y7 y8
  have HGS6 := hid (HGS.out.quiet hcN)
  clear hv h6 hv5 hw6 hb1 hc1 hcN hle1 HB HGS
  rcases HKIND.out with hk | hk | hk | hk
  ·have HEQ : Hid (waysG S (S[i]'HI.out) i = []) := hid (waysG_none (by rw [← HCC.out.1]; exact hk))
   have HRES := hid HC6.out
   clear HGS6 HW6
   go_wp2
   go_ret
   exact ⟨_, rfl, by rw [HEQ.out]; exact OwnWy.nil _ _, HRES.out⟩
  ·obtain ⟨z, hz⟩ : ∃ z, z = (factsK S).idxOf (c.b, who) := ⟨_, rfl⟩
   have HEQ : Hid (waysG S (S[i]'HI.out) i = [(z, z)]) := hid (by unfold waysG; rw [← HCC.out.1, ← HCC.out.2, if_pos hk, ← hz])
   have hin := HIN.out.1 hk
   have hat : (atF (factsK S) (c.b, who)).getD (.int .i64 0) = .int .i64 (z : Nat) := by unfold atF; rw [if_pos hin, ← hz]; rfl
   obtain ⟨m1, k1, k2⟩ := HGS6.out.place (f := (c.b, who)) HSH.out.1
   have HL : Hid (∀ w', Chg (fun _ => False) w6 w' → (Instr.lookup 82 (.map (some m1)) (.agg #[.string ⟨c.b.1.toArray⟩, .string ⟨c.b.2.toArray⟩, .string ⟨who.toArray⟩]) false).run Try.prog w' = .ok (.int .i64 (z : Nat)) w') := hid (fun w' hc => by have := (k2 w' hc).1; rw [hat] at this; exact this)
   have HX := hid (And.intro k1 (And.intro y4 y5))
   clear hin hat k1 k2 hz HGS6
   go_wp2_with fail
   clear y0 y1 y2 y3 y4 y5 y6 y7 y8 hk
   refine wp_region_specs [.eq (.pointer (some ⟨g, 0, none⟩)), .any, .any, .any, .any, .eq (.pointer (some ⟨b1, 0, none⟩)), .eq (.string ⟨who.toArray⟩), .eq (.int .i64 (z : Nat)), .any, .any, .any, .any, .any, .any, .any, .any, .any, .any, .any, .any, .any, .any, .any, .any, .any, .any, .any, .any, .any, .eq (.pointer (some ⟨g, 0, none⟩)), .eq (.pointer (some ⟨g, 0, none⟩)), .eq (.pointer (some ⟨g, 1, none⟩)), .eq (.map (some m1)), .eq (.pointer (some ⟨b1, 4, none⟩)), .eq (.agg #[.string ⟨c.b.1.toArray⟩, .string ⟨c.b.2.toArray⟩]), .eq (.string ⟨who.toArray⟩), .eq (.agg #[.string ⟨c.b.1.toArray⟩, .string ⟨c.b.2.toArray⟩, .string ⟨who.toArray⟩]), .eq (.int .i64 (z : Nat)), .any, .any, .any, .any, .any, .any, .any, .any, .any, .any, .any, .any, .any, .any, .any, .any, .any, .any, .any, .any, .any, .any, .any, .any, .any, .any, .any, .any, .any, .any, .any, .any, .any] [29, 30, 31, 32, 33, 34, 35, 36, 37, 7] [0, 5, 6] (by kernel_rfl) (by kernel_rfl) (by rfl) (by kernel_rfl) ?start4 ?obs4 ?fin4
   case start4 =>
    simp only [List.forall_mem_cons]; exact ⟨⟨_, rfl, rfl⟩, ⟨_, rfl, rfl⟩, ⟨_, rfl, rfl⟩, fun _ h => by cases h⟩
   case obs4 =>
    clear HC6 HEQ HW6
    refine Obs.cons none (by kernel_rfl) ?_ ?_
    ·refine Ob.plain fun a w hR hk K k => ?_
     obtain ⟨_, e0, f0⟩ := hk 0 (by decide)
     clear hk
     go_simp
     exact k _ _ (Chg.refl _ _) f0
    refine Obs.cons none (by kernel_rfl) ?_ ?_
    ·refine Ob.plain fun a w hR hk K k => ?_
     obtain ⟨_, e29, rfl⟩ := hk 29 (by decide)
     clear hk
     go_simp
     exact k _ _ (Chg.refl _ _) rfl
    refine Obs.cons none (by kernel_rfl) ?_ ?_
    ·refine Ob.plain fun a w hR hk K k => ?_
     obtain ⟨_, e30, rfl⟩ := hk 30 (by decide)
     clear hk
     go_simp
     exact k _ _ (Chg.refl _ _) rfl
    refine Obs.cons none (by kernel_rfl) ?_ ?_
    ·refine Ob.plain fun a w hR hk K k => ?_
     obtain ⟨_, e31, rfl⟩ := hk 31 (by decide)
     clear hk
     have zz := hR.cell HX.out.1 id
     go_simp
     exact k _ _ (Chg.refl _ _) rfl
    refine Obs.cons none (by kernel_rfl) ?_ ?_
    ·refine Ob.plain fun a w hR hk K k => ?_
     obtain ⟨_, e5, rfl⟩ := hk 5 (by decide)
     clear hk
     go_simp
     exact k _ _ (Chg.refl _ _) rfl
    refine Obs.cons none (by kernel_rfl) ?_ ?_
    ·refine Ob.plain fun a w hR hk K k => ?_
     obtain ⟨_, e33, rfl⟩ := hk 33 (by decide)
     clear hk
     have y4 := hR.cell HX.out.2.1 id
     have y5 := hR.cell HX.out.2.2 id
     go_simp
     exact k _ _ (Chg.refl _ _) rfl
    refine Obs.cons none (by kernel_rfl) ?_ ?_
    ·refine Ob.plain fun a w hR hk K k => ?_
     obtain ⟨_, e6, f6⟩ := hk 6 (by decide)
     clear hk
     go_simp
     exact k _ _ (Chg.refl _ _) f6
    refine Obs.cons none (by kernel_rfl) ?_ ?_
    ·refine Ob.plain fun a w hR hk K k => ?_
     obtain ⟨_, e34, rfl⟩ := hk 34 (by decide)
     obtain ⟨_, e35, rfl⟩ := hk 35 (by decide)
     clear hk
     go_simp
     exact k _ _ (Chg.refl _ _) rfl
    refine Obs.cons none (by kernel_rfl) ?_ ?_
    ·refine Ob.plain fun a w hR hk K k => ?_
     obtain ⟨_, e32, rfl⟩ := hk 32 (by decide)
     obtain ⟨_, e36, rfl⟩ := hk 36 (by decide)
     clear hk
     have q := HL.out w hR
     go_simp
     exact k _ _ (Chg.refl _ _) rfl
    refine Obs.cons none (by kernel_rfl) ?_ ?_
    ·refine Ob.plain fun a w hR hk K k => ?_
     obtain ⟨_, e37, f37⟩ := hk 37 (by decide)
     clear hk
     go_simp
     exact k _ _ (Chg.refl _ _) f37
    exact Obs.nil
   case fin4 =>
    intro vals w9 hc9 hv
    have h7 : vals 7 = .int .i64 (z : Nat) := hv 7 (by decide)
    simp only [putAll, List.setIfInBounds_toArray, List.set_cons_zero, List.set_cons_succ, h7]
    have HRES : Hid (OwnWy w0.heap.size (w9.alloc (.cells #[.int .i64 (z : Nat), .int .i64 (z : Nat)] 175)) (.slice (some ⟨w9.heap.size, 0, none⟩) 1 1) [(z, z)] ∧ Chg (fun _ => False) w0 (w9.alloc (.cells #[.int .i64 (z : Nat), .int .i64 (z : Nat)] 175))) := hid ⟨ownW_new w9 (z, z) (Nat.le_trans HC6.out.size hc9.size), (HC6.out.trans hc9 (fun _ _ h => h)).alloc _⟩
    clear hc9 hv h7 HX HL HC6 HW6
    go_wp2
    go_ret
    exact ⟨_, rfl, by rw [HEQ.out]; exact HRES.out.1, HRES.out.2⟩
  ·have hq := ch_linked g m3 m4 S c rr who i w6 HGS6.out HSH.out.2.2.1 HSH.out.2.2.2 HSL.out (by have := HSL.out; have := HI.out; omega)
   have HEQ : Hid (waysG S (S[i]'HI.out) i = (placesK (factsK S) c.b).filterMap (linkW S ⟨c, (rr, who)⟩ i)) := hid (by
    have e : S[i]'HI.out = ⟨c, (rr, who)⟩ := HSE.out
    unfold waysG
    rw [e]
    rw [if_neg (show ¬ c.kind = 2 by omega), if_pos (show c.kind = 3 from hk)])
   simp only [hk] at hq
   have HQ := hid hq
   have HSZ := hid HC6.out
   clear hq HGS6 HW6
   go_wp2_with fail
   refine HQ.out.mono ?_
   rintro e w7 ⟨v, rfl, h1, h2⟩
   have HRES := hid (And.intro (ownsRow_lowK h1 HSZ.out.size) (HSZ.out.trans h2 (fun _ _ h => h)))
   clear h1 h2 HQ y0 y1 y2 y3 y4 y5 y6 y7 y8
   go_wp2
   go_ret
   exact ⟨_, rfl, by rw [HEQ.out]; exact HRES.out.1, HRES.out.2⟩
  ·obtain ⟨z, hz⟩ : ∃ z, z = (factsK S).idxOf (c.b, who) := ⟨_, rfl⟩
   obtain ⟨x, hx⟩ : ∃ x, x = (factsK S).idxOf (c.c, who) := ⟨_, rfl⟩
   have HEQ : Hid (waysG S (S[i]'HI.out) i = [(z, x)]) := hid (by unfold waysG; rw [← HCC.out.1, ← HCC.out.2, if_neg (by omega), if_neg (by omega), if_pos hk, ← hz, ← hx])
   have hin := HIN.out.2 hk
   have hat : (atF (factsK S) (c.b, who)).getD (.int .i64 0) = .int .i64 (z : Nat) := by unfold atF; rw [if_pos hin.1, ← hz]; rfl
   have hat2 : (atF (factsK S) (c.c, who)).getD (.int .i64 0) = .int .i64 (x : Nat) := by unfold atF; rw [if_pos hin.2, ← hx]; rfl
   obtain ⟨m1, k1, k2⟩ := HGS6.out.place (f := (c.b, who)) HSH.out.1
   obtain ⟨m1b, k1b, k2b⟩ := HGS6.out.place (f := (c.c, who)) HSH.out.2.1
   rw [k1] at k1b
   cases k1b
   have HL : Hid ((∀ w', Chg (fun _ => False) w6 w' → (Instr.lookup 82 (.map (some m1)) (.agg #[.string ⟨c.b.1.toArray⟩, .string ⟨c.b.2.toArray⟩, .string ⟨who.toArray⟩]) false).run Try.prog w' = .ok (.int .i64 (z : Nat)) w') ∧ (∀ w', Chg (fun _ => False) w6 w' → (Instr.lookup 82 (.map (some m1)) (.agg #[.string ⟨c.c.1.toArray⟩, .string ⟨c.c.2.toArray⟩, .string ⟨who.toArray⟩]) false).run Try.prog w' = .ok (.int .i64 (x : Nat)) w')) := hid ⟨fun w' hc => by have := (k2 w' hc).1; rw [hat] at this; exact this, fun w' hc => by have := (k2b w' hc).1; rw [hat2] at this; exact this⟩
   have HX := hid (And.intro k1 (And.intro y4 (And.intro y5 (And.intro y6 y7))))
   clear hin hat hat2 k1 k2 k2b hz hx HGS6
   go_wp2_with fail
   clear y0 y1 y2 y3 y4 y5 y6 y7 y8 hk
   refine wp_region_specs [.eq (.pointer (some ⟨g, 0, none⟩)), .any, .any, .any, .ownW w0.heap.size (z, x), .eq (.pointer (some ⟨b1, 0, none⟩)), .eq (.string ⟨who.toArray⟩), .any, .any, .any, .any, .any, .any, .any, .any, .any, .any, .any, .any, .any, .any, .any, .any, .any, .any, .any, .any, .any, .any, .any, .any, .any, .any, .any, .any, .any, .any, .any, .any, .any, .any, .any, .any, .any, .any, .any, .any, .any, .any, .any, .any, .eq (.pointer (some ⟨g, 0, none⟩)), .eq (.pointer (some ⟨g, 0, none⟩)), .eq (.pointer (some ⟨g, 1, none⟩)), .eq (.map (some m1)), .eq (.pointer (some ⟨b1, 4, none⟩)), .eq (.agg #[.string ⟨c.b.1.toArray⟩, .string ⟨c.b.2.toArray⟩]), .eq (.string ⟨who.toArray⟩), .eq (.agg #[.string ⟨c.b.1.toArray⟩, .string ⟨c.b.2.toArray⟩, .string ⟨who.toArray⟩]), .eq (.int .i64 (z : Nat)), .eq (.pointer (some ⟨g, 0, none⟩)), .eq (.pointer (some ⟨g, 0, none⟩)), .eq (.pointer (some ⟨g, 1, none⟩)), .eq (.map (some m1)), .eq (.pointer (some ⟨b1, 6, none⟩)), .eq (.agg #[.string ⟨c.c.1.toArray⟩, .string ⟨c.c.2.toArray⟩]), .eq (.string ⟨who.toArray⟩), .eq (.agg #[.string ⟨c.c.1.toArray⟩, .string ⟨c.c.2.toArray⟩, .string ⟨who.toArray⟩]), .eq (.int .i64 (x : Nat)), .eq (.agg #[.int .i64 (z : Nat), .int .i64 (x : Nat)]), .ownW w0.heap.size (z, x)] [51, 52, 53, 54, 55, 56, 57, 58, 59, 60, 61, 62, 63, 64, 65, 66, 67, 68, 69, 70, 4] [0, 5, 6] (by kernel_rfl) (by kernel_rfl) (by rfl) (by kernel_rfl) ?start9 ?obs9 ?fin9
   case start9 =>
    simp only [List.forall_mem_cons]; exact ⟨⟨_, rfl, rfl⟩, ⟨_, rfl, rfl⟩, ⟨_, rfl, rfl⟩, fun _ h => by cases h⟩
   case obs9 =>
    clear HEQ HW6
    refine Obs.cons none (by kernel_rfl) ?_ ?_
    ·refine Ob.plain fun a w hR hk K k => ?_
     obtain ⟨_, e0, f0⟩ := hk 0 (by decide)
     clear hk
     go_simp
     exact k _ _ (Chg.refl _ _) f0
    refine Obs.cons none (by kernel_rfl) ?_ ?_
    ·refine Ob.plain fun a w hR hk K k => ?_
     obtain ⟨_, e51, rfl⟩ := hk 51 (by decide)
     clear hk
     go_simp
     exact k _ _ (Chg.refl _ _) rfl
    refine Obs.cons none (by kernel_rfl) ?_ ?_
    ·refine Ob.plain fun a w hR hk K k => ?_
     obtain ⟨_, e52, rfl⟩ := hk 52 (by decide)
     clear hk
     go_simp
     exact k _ _ (Chg.refl _ _) rfl
    refine Obs.cons none (by kernel_rfl) ?_ ?_
    ·refine Ob.plain fun a w hR hk K k => ?_
     obtain ⟨_, e53, rfl⟩ := hk 53 (by decide)
     clear hk
     have zz := hR.cell HX.out.1 id
     go_simp
     exact k _ _ (Chg.refl _ _) rfl
    refine Obs.cons none (by kernel_rfl) ?_ ?_
    ·refine Ob.plain fun a w hR hk K k => ?_
     obtain ⟨_, e5, rfl⟩ := hk 5 (by decide)
     clear hk
     go_simp
     exact k _ _ (Chg.refl _ _) rfl
    refine Obs.cons none (by kernel_rfl) ?_ ?_
    ·refine Ob.plain fun a w hR hk K k => ?_
     obtain ⟨_, e55, rfl⟩ := hk 55 (by decide)
     clear hk
     have y4 := hR.cell HX.out.2.1 id
     have y5 := hR.cell HX.out.2.2.1 id
     go_simp
     exact k _ _ (Chg.refl _ _) rfl
    refine Obs.cons none (by kernel_rfl) ?_ ?_
    ·refine Ob.plain fun a w hR hk K k => ?_
     obtain ⟨_, e6, f6⟩ := hk 6 (by decide)
     clear hk
     go_simp
     exact k _ _ (Chg.refl _ _) f6
    refine Obs.cons none (by kernel_rfl) ?_ ?_
    ·refine Ob.plain fun a w hR hk K k => ?_
     obtain ⟨_, e56, rfl⟩ := hk 56 (by decide)
     obtain ⟨_, e57, rfl⟩ := hk 57 (by decide)
     clear hk
     go_simp
     exact k _ _ (Chg.refl _ _) rfl
    refine Obs.cons none (by kernel_rfl) ?_ ?_
    ·refine Ob.plain fun a w hR hk K k => ?_
     obtain ⟨_, e54, rfl⟩ := hk 54 (by decide)
     obtain ⟨_, e58, rfl⟩ := hk 58 (by decide)
     clear hk
     have q := HL.out.1 w hR
     go_simp
     exact k _ _ (Chg.refl _ _) rfl
    refine Obs.cons none (by kernel_rfl) ?_ ?_
    ·refine Ob.plain fun a w hR hk K k => ?_
     obtain ⟨_, e0, f0⟩ := hk 0 (by decide)
     clear hk
     go_simp
     exact k _ _ (Chg.refl _ _) f0
    refine Obs.cons none (by kernel_rfl) ?_ ?_
    ·refine Ob.plain fun a w hR hk K k => ?_
     obtain ⟨_, e60, rfl⟩ := hk 60 (by decide)
     clear hk
     go_simp
     exact k _ _ (Chg.refl _ _) rfl
    refine Obs.cons none (by kernel_rfl) ?_ ?_
    ·refine Ob.plain fun a w hR hk K k => ?_
     obtain ⟨_, e61, rfl⟩ := hk 61 (by decide)
     clear hk
     go_simp
     exact k _ _ (Chg.refl _ _) rfl
    refine Obs.cons none (by kernel_rfl) ?_ ?_
    ·refine Ob.plain fun a w hR hk K k => ?_
     obtain ⟨_, e62, rfl⟩ := hk 62 (by decide)
     clear hk
     have zz := hR.cell HX.out.1 id
     go_simp
     exact k _ _ (Chg.refl _ _) rfl
    refine Obs.cons none (by kernel_rfl) ?_ ?_
    ·refine Ob.plain fun a w hR hk K k => ?_
     obtain ⟨_, e5, rfl⟩ := hk 5 (by decide)
     clear hk
     go_simp
     exact k _ _ (Chg.refl _ _) rfl
    refine Obs.cons none (by kernel_rfl) ?_ ?_
    ·refine Ob.plain fun a w hR hk K k => ?_
     obtain ⟨_, e64, rfl⟩ := hk 64 (by decide)
     clear hk
     have y6 := hR.cell HX.out.2.2.2.1 id
     have y7 := hR.cell HX.out.2.2.2.2 id
     go_simp
     exact k _ _ (Chg.refl _ _) rfl
    refine Obs.cons none (by kernel_rfl) ?_ ?_
    ·refine Ob.plain fun a w hR hk K k => ?_
     obtain ⟨_, e6, f6⟩ := hk 6 (by decide)
     clear hk
     go_simp
     exact k _ _ (Chg.refl _ _) f6
    refine Obs.cons none (by kernel_rfl) ?_ ?_
    ·refine Ob.plain fun a w hR hk K k => ?_
     obtain ⟨_, e65, rfl⟩ := hk 65 (by decide)
     obtain ⟨_, e66, rfl⟩ := hk 66 (by decide)
     clear hk
     go_simp
     exact k _ _ (Chg.refl _ _) rfl
    refine Obs.cons none (by kernel_rfl) ?_ ?_
    ·refine Ob.plain fun a w hR hk K k => ?_
     obtain ⟨_, e63, rfl⟩ := hk 63 (by decide)
     obtain ⟨_, e67, rfl⟩ := hk 67 (by decide)
     clear hk
     have q := HL.out.2 w hR
     go_simp
     exact k _ _ (Chg.refl _ _) rfl
    refine Obs.cons none (by kernel_rfl) ?_ ?_
    ·refine Ob.plain fun a w hR hk K k => ?_
     obtain ⟨_, e59, rfl⟩ := hk 59 (by decide)
     obtain ⟨_, e68, rfl⟩ := hk 68 (by decide)
     clear hk
     go_simp
     exact k _ _ (Chg.refl _ _) rfl
    refine Obs.cons none (by kernel_rfl) ?_ ?_
    ·refine Ob.plain fun a w hR hk K k => ?_
     obtain ⟨_, e69, rfl⟩ := hk 69 (by decide)
     clear hk
     have hsz := Nat.le_trans HC6.out.size hR.size
     go_simp
     exact k _ _ ((Chg.refl _ _).alloc _) ⟨_, rfl, ownW_new w (z, x) hsz⟩
    refine Obs.cons none (by kernel_rfl) ?_ ?_
    ·refine Ob.plain fun a w hR hk K k => ?_
     obtain ⟨_, e70, f70⟩ := hk 70 (by decide)
     clear hk
     go_simp
     exact k _ _ (Chg.refl _ _) f70
    exact Obs.nil
   case fin9 =>
    intro vals w9 hc9 hv
    obtain ⟨b9, h4, h70⟩ := hv 4 (by decide)
    simp only [putAll, List.setIfInBounds_toArray, List.set_cons_zero, List.set_cons_succ, h4]
    have HRES : Hid (OwnWy w0.heap.size w9 (.slice (some ⟨b9, 0, none⟩) 1 1) [(z, x)] ∧ Chg (fun _ => False) w0 w9) := hid ⟨h70, HC6.out.trans hc9 (fun _ _ h => h)⟩
    clear hc9 hv h4 h70 HX HL HC6 HW6
    go_wp2
    go_ret
    exact ⟨_, rfl, by rw [HEQ.out]; exact HRES.out.1, HRES.out.2⟩
end Go.Proofs.Ytjaplnainlbldaa
