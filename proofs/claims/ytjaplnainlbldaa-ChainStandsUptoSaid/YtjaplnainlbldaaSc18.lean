/- Texts that the proof leans on, in one: ChGro, ChLean. -/
import Derived.Test.YtjaplnainlbldaaSc17
import Derived.Test.YtjaplnainlbldaaSc11
/- A growth that grows: what a call of its methods does. -/
namespace Go.Proofs.Ytjaplnainlbldaa
open Go.RowKit Go.Maps

/-- From the steps S at the world w it has come to S' at w'. -/
structure Gro (T : Nat → Option KTag) (w : World) (g m3 m4 : Nat) (S : List StepB) (T' : Nat → Option KTag) (w' : World) (S' : List StepB) : Prop where
  gs : GS T' w' g m3 m4 S'
  ext : ExtT T T' w w'
  chg : Chg (fun b => T b ≠ none) w w'
  stay : Stay T (factsK S) w w'
  ahead : Ahead S S'

def GroP (T : Nat → Option KTag) (g m3 m4 : Nat) (S S' : List StepB) (w : World) (e : Ending) (w' : World) : Prop := e = .returned (.tuple #[]) ∧ ∃ T', Gro T w g m3 m4 S T' w' S'

section
variable {T T1 T2 : Nat → Option KTag} {w w1 w2 : World} {g m3 m4 : Nat} {S S1 S2 : List StepB}
theorem GS.gro (h : GS T w g m3 m4 S) : Gro T w g m3 m4 S T w S := ⟨h, ExtT.refl h.lo (Nat.le_refl _), Chg.refl _ _, Stay.of_chg (Chg.refl (fun _ => False) _) (fun _ _ _ => id), Ahead.refl _⟩
theorem Gro.quiet (h : Gro T w g m3 m4 S T1 w1 S1) (hc : Chg (fun _ => False) w1 w2) : Gro T w g m3 m4 S T1 w2 S1 := ⟨h.gs.quiet hc, h.ext.up hc.size, h.chg.trans hc (fun _ _ h => h.elim), h.stay.quiet hc, h.ahead⟩
theorem Gro.early (h : Gro T w1 g m3 m4 S T1 w2 S1) (hc : Chg (fun _ => False) w w1) : Gro T w g m3 m4 S T1 w2 S1 := ⟨h.gs, h.ext.down hc.size, hc.none9.trans h.chg (fun _ _ h => h), (Stay.of_chg (T := T) (F := factsK S) hc (fun _ _ _ => id)).trans h.stay (fun _ _ => rfl) (fun _ => Nat.le_refl _), h.ahead⟩
theorem ahead_places (h : Ahead S S1) (r : RoleB) : (placesK (factsK S) r).length ≤ (placesK (factsK S1) r).length := by
  obtain ⟨R, rfl⟩ := h
  have e : factsK (S ++ R) = factsK S ++ factsK R := by simp [factsK]
  rw [e]
  exact placesK_grow _ _ _
theorem Gro.trans (h : Gro T w g m3 m4 S T1 w1 S1) (k : Gro T1 w1 g m3 m4 S1 T2 w2 S2) : Gro T w g m3 m4 S T2 w2 S2 :=
  ⟨k.gs, h.ext.trans k.ext h.chg.size, h.chg.trans k.chg (fun i hi hn => (h.ext.new i hn).elim id (fun e => by omega)), h.stay.trans k.stay h.ext.old (ahead_places h.ahead), h.ahead.trans k.ahead⟩
theorem BringPost.gro {c : CredB} {wo : List UInt8} {e : Ending} {w' : World} (h : BringPost T g m3 m4 S c wo w e w') : GroP T g m3 m4 S (bringG S c wo) w e w' := by
  obtain ⟨h1, T', h2, h3, h4, h5⟩ := h
  exact ⟨h1, T', h2, h3, h4, h5, bring_ahead S c wo⟩
/-- A block that isn't the growth's own stays so. -/
theorem Gro.not (h : Gro T w g m3 m4 S T1 w1 S1) {b : Nat} (hb : T b = none) (hlt : b < w.heap.size) : T1 b = none := by
  cases e : T1 b with
  | none => rfl
  | some x =>
    rcases h.ext.new b (by rw [e]; simp) with h | h
    · exact absurd hb h
    · omega
theorem Gro.blk (h : Gro T w g m3 m4 S T1 w1 S1) {b : Nat} {o : Obj} (hb : w.heap[b]? = some o) (hn : T b = none) : w1.heap[b]? = some o := blk_keep hb h.chg (fun e => e hn)

theorem ch_bring2 (g m3 m4 : Nat) (S : List StepB) (c : CredB) (wo : List UInt8) (w0 : World) (h : GS T w0 g m3 m4 S) (hn : (bringG S c wo).length ≤ 33554432) (hf : credShort c 9223372036854775807) (hw : wo.length ≤ 9223372036854775807) :
    Calls Try.prog 102 #[.pointer (some ⟨g, 0, none⟩), .agg #[.int .i64 c.kind, .string ⟨c.head.1.toArray⟩, .string ⟨c.head.2.toArray⟩, .string ⟨c.who.toArray⟩, .string ⟨c.b.1.toArray⟩, .string ⟨c.b.2.toArray⟩, .string ⟨c.c.1.toArray⟩, .string ⟨c.c.2.toArray⟩, .string ⟨c.w2.toArray⟩], .string ⟨wo.toArray⟩] w0 (GroP T g m3 m4 S (bringG S c wo) w0) := by
  by_cases hh : (c.head, wo) ∈ factsK S
  · exact (ch_bring_yes g m3 m4 S c wo w0 h hh).mono (fun _ _ h => h.gro)
  · have e : bringG S c wo = S ++ [⟨c, (c.head, wo)⟩] := if_neg hh
    rw [e] at hn
    simp at hn
    exact (ch_bring_no g m3 m4 S c wo w0 h (by omega) ⟨hf, hf.1, hf.2.1, hw⟩ hh).mono (fun _ _ h => h.gro)

/-- The row of a role's places. -/
theorem GS.look (h : GS T w g m3 m4 S) {r : RoleB} (hr : ktR.ok r) : ∃ (m2 : Nat) (u : Value), w.cell? ⟨g, 2, none⟩ = some (.map (some m2)) ∧ OwnI 0 w u (placesK (factsK S) r) ∧ (∀ b, u.ownBlock = some b → T b = some (.role r)) ∧
    ∀ w', Chg (fun _ => False) w w' → (Instr.lookup 83 (.map (some m2)) (.agg #[.string ⟨r.1.toArray⟩, .string ⟨r.2.toArray⟩]) false).run Try.prog w' = .ok u w' := by
  obtain ⟨⟨v, m1, m2, Sl, hp⟩, _⟩ := h
  refine ⟨m2, (Sl r).getD (.slice none 0 0), cell_blk hp.blk 2, ?_, ?_, fun w' hc => ?_⟩
  · cases hs : Sl r with
    | none => rw [hp.noS r hr hs]; exact OwnI.nil _ _
    | some x => exact (hp.isS r x hr hs).1
  · cases hs : Sl r with
    | none => intro b hb; cases hb
    | some x => exact (hp.isS r x hr hs).2
  · exact (hp.kof.keep hc id).look (t := 83) (e := 156) Try.underlying83 (mZeroOf w') (a := r) hr

/-- The place of a fact, if there is one. -/
theorem GS.place (h : GS T w g m3 m4 S) {f : FactB} (hf : factShort f 9223372036854775807) : ∃ m1 : Nat, w.cell? ⟨g, 1, none⟩ = some (.map (some m1)) ∧
    ∀ w', Chg (fun _ => False) w w' → (Instr.lookup 82 (.map (some m1)) (.agg #[.string ⟨f.1.1.toArray⟩, .string ⟨f.1.2.toArray⟩, .string ⟨f.2.toArray⟩]) false).run Try.prog w' = .ok ((atF (factsK S) f).getD (.int .i64 0)) w' ∧
      (Instr.lookup 82 (.map (some m1)) (.agg #[.string ⟨f.1.1.toArray⟩, .string ⟨f.1.2.toArray⟩, .string ⟨f.2.toArray⟩]) true).run Try.prog w' = .ok (.tuple #[(atF (factsK S) f).getD (.int .i64 0), .bool (decide (f ∈ factsK S))]) w' := by
  obtain ⟨⟨v, m1, m2, Sl, hp⟩, _⟩ := h
  refine ⟨m1, cell_blk hp.blk 1, fun w' hc => ⟨?_, ?_⟩⟩
  · exact (hp.kat.keep hc id).look (t := 82) (e := 3) Try.underlying82 (mZeroAt w') (a := f) hf
  · have := (hp.kat.keep hc id).look_ok (t := 82) (e := 3) Try.underlying82 (mZeroAt w') (a := f) hf
    rw [atF_some] at this
    exact this

/-- The row of steps. -/
theorem GS.steps (h : GS T w g m3 m4 S) : ∃ ao cap, w.cell? ⟨g, 0, none⟩ = some (.slice ao S.length cap) ∧ StepsAt (fun k => k < w.heap.size) w ao S ∧ S.length ≤ cap := by
  obtain ⟨⟨v, m1, m2, Sl, hp⟩, _, _, h4⟩ := h
  obtain ⟨ao, cap, rfl, h1, _⟩ := hp.row.steps h4
  refine ⟨ao, cap, cell_blk hp.blk 0, h1.mono (fun i hi => hi.2), ?_⟩
  rcases hp.row.2 with ⟨e, h0⟩ | ⟨_, _, _, e, _, _, h2, _⟩
  · rw [h0]; exact Nat.zero_le _
  · cases e; exact h2
end
end Go.Proofs.Ytjaplnainlbldaa

/- A credential is leant on somebody's being in its B or C. -/
namespace Go.Proofs.Ytjaplnainlbldaa
open Go.RowKit Go.Maps

set_option maxRecDepth 100000 in
set_option maxHeartbeats 2000000 in
theorem ch_lean2 {T : Nat → Option KTag} (g m3 m4 : Nat) (S : List StepB) (c : CredB) (wo : List UInt8) (w0 : World) (h : GS T w0 g m3 m4 S) (hk : c.kind = 2) (hn : (leanG S c wo).length ≤ 33554432) (hf : credShort c 9223372036854775807) (hw : wo.length ≤ 9223372036854775807) :
    Calls Try.prog 103 #[.pointer (some ⟨g, 0, none⟩), .agg #[.int .i64 c.kind, .string ⟨c.head.1.toArray⟩, .string ⟨c.head.2.toArray⟩, .string ⟨c.who.toArray⟩, .string ⟨c.b.1.toArray⟩, .string ⟨c.b.2.toArray⟩, .string ⟨c.c.1.toArray⟩, .string ⟨c.c.2.toArray⟩, .string ⟨c.w2.toArray⟩], .string ⟨wo.toArray⟩] w0 (GroP T g m3 m4 S (leanG S c wo) w0) := by
  have hc1 : Chg (fun _ => False) w0 (w0.alloc (.cells #[.int .i64 c.kind, .string ⟨c.head.1.toArray⟩, .string ⟨c.head.2.toArray⟩, .string ⟨c.who.toArray⟩, .string ⟨c.b.1.toArray⟩, .string ⟨c.b.2.toArray⟩, .string ⟨c.c.1.toArray⟩, .string ⟨c.c.2.toArray⟩, .string ⟨c.w2.toArray⟩] 36)) := (Chg.refl _ w0).alloc _
  have hb0 : (w0.alloc (.cells #[.int .i64 c.kind, .string ⟨c.head.1.toArray⟩, .string ⟨c.head.2.toArray⟩, .string ⟨c.who.toArray⟩, .string ⟨c.b.1.toArray⟩, .string ⟨c.b.2.toArray⟩, .string ⟨c.c.1.toArray⟩, .string ⟨c.c.2.toArray⟩, .string ⟨c.w2.toArray⟩] 36)).heap[w0.heap.size]? = some (.cells #[.int .i64 c.kind, .string ⟨c.head.1.toArray⟩, .string ⟨c.head.2.toArray⟩, .string ⟨c.who.toArray⟩, .string ⟨c.b.1.toArray⟩, .string ⟨c.b.2.toArray⟩, .string ⟨c.c.1.toArray⟩, .string ⟨c.c.2.toArray⟩, .string ⟨c.w2.toArray⟩] 36 (0, 0)) := heap_alloc_new w0 _
  have e : leanG S c wo = bringG S c wo := by unfold leanG; rw [if_pos hk]
  rw [e] at hn ⊢
  have hq := ch_bring2 g m3 m4 S c wo _ (h.quiet hc1) hn hf hw
  have y0 := cell_blk hb0 0
  have y1 := cell_blk hb0 1
  have y2 := cell_blk hb0 2
  have y3 := cell_blk hb0 3
  have y4 := cell_blk hb0 4
  have y5 := cell_blk hb0 5
  have y6 := cell_blk hb0 6
  have y7 := cell_blk hb0 7
  have y8 := cell_blk hb0 8
  simp only [List.getElem?_toArray, List.getElem?_cons_zero, List.getElem?_cons_succ] at y0 y1 y2 y3 y4 y5 y6 y7 y8
  rw [hk] at hq y0
  have HQ := hid hq
  have HC1 := hid hc1
  clear h hn hf hw hc1 hb0 hq e
  go_enter Try.func103, Try.ntmps103
  go_wp2_with fail
  simp only [hk] at HQ HC1 ⊢
  refine HQ.out.mono ?_
  rintro e w' ⟨rfl, T2, hg⟩
  have HR : Hid (GroP T g m3 m4 S (bringG S c wo) w0 (.returned (.tuple #[])) w') := hid ⟨rfl, T2, hg.early HC1.out⟩
  clear hg HQ HC1 y0 y1 y2 y3 y4 y5 y6 y7 y8
  go_wp2
  go_end0
  exact HR.out

set_option maxRecDepth 100000 in
set_option maxHeartbeats 2000000 in
theorem ch_lean4 {T : Nat → Option KTag} (g m3 m4 : Nat) (S : List StepB) (c : CredB) (wo : List UInt8) (w0 : World) (h : GS T w0 g m3 m4 S) (hk : c.kind = 4) (hn : (leanG S c wo).length ≤ 33554432) (hf : credShort c 9223372036854775807) (hw : wo.length ≤ 9223372036854775807) :
    Calls Try.prog 103 #[.pointer (some ⟨g, 0, none⟩), .agg #[.int .i64 c.kind, .string ⟨c.head.1.toArray⟩, .string ⟨c.head.2.toArray⟩, .string ⟨c.who.toArray⟩, .string ⟨c.b.1.toArray⟩, .string ⟨c.b.2.toArray⟩, .string ⟨c.c.1.toArray⟩, .string ⟨c.c.2.toArray⟩, .string ⟨c.w2.toArray⟩], .string ⟨wo.toArray⟩] w0 (GroP T g m3 m4 S (leanG S c wo) w0) := by
  have hc1 : Chg (fun _ => False) w0 (w0.alloc (.cells #[.int .i64 c.kind, .string ⟨c.head.1.toArray⟩, .string ⟨c.head.2.toArray⟩, .string ⟨c.who.toArray⟩, .string ⟨c.b.1.toArray⟩, .string ⟨c.b.2.toArray⟩, .string ⟨c.c.1.toArray⟩, .string ⟨c.c.2.toArray⟩, .string ⟨c.w2.toArray⟩] 36)) := (Chg.refl _ w0).alloc _
  have hb0 : (w0.alloc (.cells #[.int .i64 c.kind, .string ⟨c.head.1.toArray⟩, .string ⟨c.head.2.toArray⟩, .string ⟨c.who.toArray⟩, .string ⟨c.b.1.toArray⟩, .string ⟨c.b.2.toArray⟩, .string ⟨c.c.1.toArray⟩, .string ⟨c.c.2.toArray⟩, .string ⟨c.w2.toArray⟩] 36)).heap[w0.heap.size]? = some (.cells #[.int .i64 c.kind, .string ⟨c.head.1.toArray⟩, .string ⟨c.head.2.toArray⟩, .string ⟨c.who.toArray⟩, .string ⟨c.b.1.toArray⟩, .string ⟨c.b.2.toArray⟩, .string ⟨c.c.1.toArray⟩, .string ⟨c.c.2.toArray⟩, .string ⟨c.w2.toArray⟩] 36 (0, 0)) := heap_alloc_new w0 _
  have e : leanG S c wo = if (c.b, wo) ∈ factsK S ∧ (c.c, wo) ∈ factsK S then bringG S c wo else S := by unfold leanG; rw [if_neg (by omega), if_neg (by omega), if_pos hk]
  rw [e] at hn ⊢
  have hfc := hf
  unfold credShort at hfc
  have hb1 : factShort (c.b, wo) 9223372036854775807 := ⟨hfc.2.2.2.1, hfc.2.2.2.2.1, hw⟩
  have hb2 : factShort (c.c, wo) 9223372036854775807 := ⟨hfc.2.2.2.2.2.1, hfc.2.2.2.2.2.2.1, hw⟩
  have hq1 := ch_has g m3 m4 S (c.b, wo) _ (h.quiet hc1) hb1
  have HQ1 := hid hq1
  have y0 := cell_blk hb0 0
  have y1 := cell_blk hb0 1
  have y2 := cell_blk hb0 2
  have y3 := cell_blk hb0 3
  have y4 := cell_blk hb0 4
  have y5 := cell_blk hb0 5
  have y6 := cell_blk hb0 6
  have y7 := cell_blk hb0 7
  have y8 := cell_blk hb0 8
  simp only [List.getElem?_toArray, List.getElem?_cons_zero, List.getElem?_cons_succ] at y0 y1 y2 y3 y4 y5 y6 y7 y8
  rw [hk] at y0
  have HG := hid (h.quiet hc1)
  have HC1 := hid hc1
  have HBX := hid hb0
  have HSH := hid (And.intro hf (And.intro hw hb2))
  have HN := hid hn
  clear h hn hf hw hc1 hb0 hq1 e hb1 hb2 hfc
  by_cases q1 : (c.b, wo) ∈ factsK S
  · by_cases q2 : (c.c, wo) ∈ factsK S
    · have hd1 : decide ((c.b, wo) ∈ factsK S) = true := decide_eq_true q1
      rw [if_pos ⟨q1, q2⟩] at HN ⊢
      have HD2 : Hid (decide ((c.c, wo) ∈ factsK S) = true) := hid (decide_eq_true q2)
      simp only [hd1] at HQ1
      clear q1 q2 hd1
      go_enter Try.func103, Try.ntmps103
      go_wp2_with fail
      simp only [hk] at HQ1 HC1 HG HBX ⊢
      generalize (w0.alloc (.cells #[.int .i64 4, .string ⟨c.head.1.toArray⟩, .string ⟨c.head.2.toArray⟩, .string ⟨c.who.toArray⟩, .string ⟨c.b.1.toArray⟩, .string ⟨c.b.2.toArray⟩, .string ⟨c.c.1.toArray⟩, .string ⟨c.c.2.toArray⟩, .string ⟨c.w2.toArray⟩] 36)) = w1 at *
      refine HQ1.out.mono ?_
      rintro e w2 ⟨rfl, hc2⟩
      have hq2 := ch_has g m3 m4 S (c.c, wo) w2 (HG.out.quiet hc2) HSH.out.2.2
      rw [HD2.out] at hq2
      have HQ2 := hid hq2
      have hbb := blk_keep HBX.out hc2 id
      have HG2 := hid (HG.out.quiet hc2)
      have HC2 := hid (HC1.out.trans hc2 (fun _ _ h => h))
      clear y0 y1 y2 y3 y4 y5 y6 y7 y8 HQ1 HG HC1 HBX hc2 hq2
      have y0 := cell_blk hbb 0
      have y1 := cell_blk hbb 1
      have y2 := cell_blk hbb 2
      have y3 := cell_blk hbb 3
      have y4 := cell_blk hbb 4
      have y5 := cell_blk hbb 5
      have y6 := cell_blk hbb 6
      have y7 := cell_blk hbb 7
      have y8 := cell_blk hbb 8
      simp only [List.getElem?_toArray, List.getElem?_cons_zero, List.getElem?_cons_succ] at y0 y1 y2 y3 y4 y5 y6 y7 y8
      have HBX := hid hbb
      clear hbb
      go_wp2_with fail
      refine HQ2.out.mono ?_
      rintro e w3 ⟨rfl, hc3⟩
      have hq3 := ch_bring2 g m3 m4 S c wo w3 (HG2.out.quiet hc3) HN.out HSH.out.1 HSH.out.2.1
      simp only [hk] at hq3
      have HQ3 := hid hq3
      have hbb := blk_keep HBX.out hc3 id
      have HC3 := hid (HC2.out.trans hc3 (fun _ _ h => h))
      clear y0 y1 y2 y3 y4 y5 y6 y7 y8 HQ2 HG2 HC2 HBX hc3 hq3
      have y0 := cell_blk hbb 0
      have y1 := cell_blk hbb 1
      have y2 := cell_blk hbb 2
      have y3 := cell_blk hbb 3
      have y4 := cell_blk hbb 4
      have y5 := cell_blk hbb 5
      have y6 := cell_blk hbb 6
      have y7 := cell_blk hbb 7
      have y8 := cell_blk hbb 8
      simp only [List.getElem?_toArray, List.getElem?_cons_zero, List.getElem?_cons_succ] at y0 y1 y2 y3 y4 y5 y6 y7 y8
      clear hbb
      go_wp2_with fail
      refine HQ3.out.mono ?_
      rintro e w' ⟨rfl, T2, hg⟩
      have HR : Hid (GroP T g m3 m4 S (bringG S c wo) w0 (.returned (.tuple #[])) w') := hid ⟨rfl, T2, hg.early HC3.out⟩
      clear hg HQ3 HC3 y0 y1 y2 y3 y4 y5 y6 y7 y8
      go_wp2
      go_end0
      exact HR.out
    · have hd1 : decide ((c.b, wo) ∈ factsK S) = true := decide_eq_true q1
      rw [if_neg (fun e => q2 e.2)] at HN ⊢
      have HD2 : Hid (decide ((c.c, wo) ∈ factsK S) = false) := hid (decide_eq_false q2)
      simp only [hd1] at HQ1
      clear q1 q2 hd1
      go_enter Try.func103, Try.ntmps103
      go_wp2_with fail
      simp only [hk] at HQ1 HC1 HG HBX ⊢
      generalize (w0.alloc (.cells #[.int .i64 4, .string ⟨c.head.1.toArray⟩, .string ⟨c.head.2.toArray⟩, .string ⟨c.who.toArray⟩, .string ⟨c.b.1.toArray⟩, .string ⟨c.b.2.toArray⟩, .string ⟨c.c.1.toArray⟩, .string ⟨c.c.2.toArray⟩, .string ⟨c.w2.toArray⟩] 36)) = w1 at *
      refine HQ1.out.mono ?_
      rintro e w2 ⟨rfl, hc2⟩
      have hq2 := ch_has g m3 m4 S (c.c, wo) w2 (HG.out.quiet hc2) HSH.out.2.2
      rw [HD2.out] at hq2
      have HQ2 := hid hq2
      have hbb := blk_keep HBX.out hc2 id
      have HG2 := hid (HG.out.quiet hc2)
      have HC2 := hid (HC1.out.trans hc2 (fun _ _ h => h))
      clear y0 y1 y2 y3 y4 y5 y6 y7 y8 HQ1 HG HC1 HBX hc2 hq2
      have y0 := cell_blk hbb 0
      have y1 := cell_blk hbb 1
      have y2 := cell_blk hbb 2
      have y3 := cell_blk hbb 3
      have y4 := cell_blk hbb 4
      have y5 := cell_blk hbb 5
      have y6 := cell_blk hbb 6
      have y7 := cell_blk hbb 7
      have y8 := cell_blk hbb 8
      simp only [List.getElem?_toArray, List.getElem?_cons_zero, List.getElem?_cons_succ] at y0 y1 y2 y3 y4 y5 y6 y7 y8
      clear hbb
      go_wp2_with fail
      refine HQ2.out.mono ?_
      rintro e w3 ⟨rfl, hc3⟩
      have HR : Hid (GroP T g m3 m4 S S w0 (.returned (.tuple #[])) w3) := hid ⟨rfl, T, ((HG2.out.quiet hc3).gro).early (HC2.out.trans hc3 (fun _ _ h => h))⟩
      clear y0 y1 y2 y3 y4 y5 y6 y7 y8 HQ2 HG2 HC2 hc3
      go_wp2
      go_end0
      exact HR.out
  · have hd1 : decide ((c.b, wo) ∈ factsK S) = false := decide_eq_false q1
    rw [if_neg (fun e => q1 e.1)] at HN ⊢
    simp only [hd1] at HQ1
    clear q1 hd1
    go_enter Try.func103, Try.ntmps103
    go_wp2_with fail
    simp only [hk] at HQ1 HC1 HG HBX ⊢
    generalize (w0.alloc (.cells #[.int .i64 4, .string ⟨c.head.1.toArray⟩, .string ⟨c.head.2.toArray⟩, .string ⟨c.who.toArray⟩, .string ⟨c.b.1.toArray⟩, .string ⟨c.b.2.toArray⟩, .string ⟨c.c.1.toArray⟩, .string ⟨c.c.2.toArray⟩, .string ⟨c.w2.toArray⟩] 36)) = w1 at *
    refine HQ1.out.mono ?_
    rintro e w2 ⟨rfl, hc2⟩
    have HR : Hid (GroP T g m3 m4 S S w0 (.returned (.tuple #[])) w2) := hid ⟨rfl, T, ((HG.out.quiet hc2).gro).early (HC1.out.trans hc2 (fun _ _ h => h))⟩
    clear y0 y1 y2 y3 y4 y5 y6 y7 y8 HQ1 HG HC1 HBX hc2
    go_wp2
    go_end0
    exact HR.out
end Go.Proofs.Ytjaplnainlbldaa
