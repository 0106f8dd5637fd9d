/- Texts that the proof leans on, in one: ChGro, ChLean, ChLean3. -/
import Derived.Test.YtjaplnainlbldaaFc15
import Derived.Test.YtjaplnainlbldaaFc12
/- A growth that grows: what a call of its methods does. -/
namespace Go.Proofs.Ytjaplnainlbldaa
open Go.RowKit Go.Maps

/-- From the steps S at the world w it has come to S' at w'. -/
structure Gro (T : Nat → Option KTag) (w : World) (g m3 m4 : Nat) (S : List StepB) (T' : Nat → Option KTag) (w' : World) (S' : List StepB) : Prop where
 gs : GS T' w' g m3 m4 S'
 ext : ExtT T T' w w'
 chg : Chg (fun b => T b ≠ none) w w'
 stay : Stay T (factsK S) w w'
 ahead : Ahead S S'

def GroP (T : Nat → Option KTag) (g m3 m4 : Nat) (S S' : List StepB) (w : World) (e : Ending) (w' : World) : Prop := e = .returned (.tuple #[]) ∧ ∃ T', Gro T w g m3 m4 S T' w' S'

section
variable {T T1 T2 : Nat → Option KTag} {w w1 w2 : World} {g m3 m4 : Nat} {S S1 S2 : List StepB}
theorem GS.gro (h : GS T w g m3 m4 S) : Gro T w g m3 m4 S T w S := ⟨h, ExtT.refl h.lo (Nat.le_refl _), Chg.refl _ _, Stay.of_chg (Chg.refl (fun _ => False) _) (fun _ _ _ => id), Ahead.refl _⟩
theorem Gro.quiet (h : Gro T w g m3 m4 S T1 w1 S1) (hc : Chg (fun _ => False) w1 w2) : Gro T w g m3 m4 S T1 w2 S1 := ⟨h.gs.quiet hc, h.ext.up hc.size, h.chg.trans hc (fun _ _ h => h.elim), h.stay.quiet hc, h.ahead⟩
theorem Gro.early (h : Gro T w1 g m3 m4 S T1 w2 S1) (hc : Chg (fun _ => False) w w1) : Gro T w g m3 m4 S T1 w2 S1 := ⟨h.gs, h.ext.down hc.size, hc.none9.trans h.chg (fun _ _ h => h), (Stay.of_chg (T := T) (F := factsK S) hc (fun _ _ _ => id)).trans h.stay (fun _ _ => rfl) (fun _ => Nat.le_refl _), h.ahead⟩
theorem ahead_places (h : Ahead S S1) (r : RoleB) : (placesK (factsK S) r).length ≤ (placesK (factsK S1) r).length := by
 obtain ⟨R, rfl⟩ := h
 have e : factsK (S ++ R) = factsK S ++ factsK R := by simp [factsK]
 rw [e]
 exact placesK_grow _ _ _
theorem Gro.trans (h : Gro T w g m3 m4 S T1 w1 S1) (k : Gro T1 w1 g m3 m4 S1 T2 w2 S2) : Gro T w g m3 m4 S T2 w2 S2 :=
 ⟨k.gs, h.ext.trans k.ext h.chg.size, h.chg.trans k.chg (fun i hi hn => (h.ext.new i hn).elim id (fun e => by omega)), h.stay.trans k.stay h.ext.old (ahead_places h.ahead), h.ahead.trans k.ahead⟩
theorem BringPost.gro {c : CredB} {wo : List UInt8} {e : Ending} {w' : World} (h : BringPost T g m3 m4 S c wo w e w') : GroP T g m3 m4 S (bringG S c wo) w e w' := by
 obtain ⟨h1, T', h2, h3, h4, h5⟩ := h
 exact ⟨h1, T', h2, h3, h4, h5, bring_ahead S c wo⟩
/-- A block that isn't the growth's own stays so. -/
theorem Gro.not (h : Gro T w g m3 m4 S T1 w1 S1) {b : Nat} (hb : T b = none) (hlt : b < w.heap.size) : T1 b = none := by
 cases e : T1 b with
 | none => rfl
 | some x =>
  rcases h.ext.new b (by rw [e]; simp) with h | h
  ·exact absurd hb h
  ·omega
theorem Gro.blk (h : Gro T w g m3 m4 S T1 w1 S1) {b : Nat} {o : Obj} (hb : w.heap[b]? = some o) (hn : T b = none) : w1.heap[b]? = some o := blk_keep hb h.chg (fun e => e hn)

theorem ch_bring2 (g m3 m4 : Nat) (S : List StepB) (c : CredB) (wo : List UInt8) (w0 : World) (h : GS T w0 g m3 m4 S) (hn : (bringG S c wo).length ≤ 33554432) (hf : credShort c 9223372036854775807) (hw : wo.length ≤ 9223372036854775807) :
  Calls Try.prog 102 #[.pointer (some ⟨g, 0, none⟩), .agg #[.int .i64 c.kind, .string ⟨c.head.1.toArray⟩, .string ⟨c.head.2.toArray⟩, .string ⟨c.who.toArray⟩, .string ⟨c.b.1.toArray⟩, .string ⟨c.b.2.toArray⟩, .string ⟨c.c.1.toArray⟩, .string ⟨c.c.2.toArray⟩, .string ⟨c.w2.toArray⟩], .string ⟨wo.toArray⟩] w0 (GroP T g m3 m4 S (bringG S c wo) w0) := by
 by_cases hh : (c.head, wo) ∈ factsK S
 ·exact (ch_bring_yes g m3 m4 S c wo w0 h hh).mono (fun _ _ h => h.gro)
 ·have e : bringG S c wo = S ++ [⟨c, (c.head, wo)⟩] := if_neg hh
  rw [e] at hn
  simp at hn
  exact (ch_bring_no g m3 m4 S c wo w0 h (by omega) ⟨hf, hf.1, hf.2.1, hw⟩ hh).mono (fun _ _ h => h.gro)

/-- The row of a role's places. -/
theorem GS.look (h : GS T w g m3 m4 S) {r : RoleB} (hr : ktR.ok r) : ∃ (m2 : Nat) (u : Value), w.cell? ⟨g, 2, none⟩ = some (.map (some m2)) ∧ OwnI 0 w u (placesK (factsK S) r) ∧ (∀ b, u.ownBlock = some b → T b = some (.role r)) ∧
  ∀ w', Chg (fun _ => False) w w' → (Instr.lookup 83 (.map (some m2)) (.agg #[.string ⟨r.1.toArray⟩, .string ⟨r.2.toArray⟩]) false).run Try.prog w' = .ok u w' := by
 obtain ⟨⟨v, m1, m2, Sl, hp⟩, _⟩ := h
 refine ⟨m2, (Sl r).getD (.slice none 0 0), cell_blk hp.blk 2, ?_, ?_, fun w' hc => ?_⟩
 ·cases hs : Sl r with
  | none => rw [hp.noS r hr hs]; exact OwnI.nil _ _
  | some x => exact (hp.isS r x hr hs).1
 ·cases hs : Sl r with
  | none => intro b hb; cases hb
  | some x => exact (hp.isS r x hr hs).2
 ·exact (hp.kof.keep hc id).look (t := 83) (e := 156) Try.underlying83 (mZeroOf w') (a := r) hr

/-- The place of a fact, if there is one. -/
theorem GS.place (h : GS T w g m3 m4 S) {f : FactB} (hf : factShort f 9223372036854775807) : ∃ m1 : Nat, w.cell? ⟨g, 1, none⟩ = some (.map (some m1)) ∧
  ∀ w', Chg (fun _ => False) w w' → (Instr.lookup 82 (.map (some m1)) (.agg #[.string ⟨f.1.1.toArray⟩, .string ⟨f.1.2.toArray⟩, .string ⟨f.2.toArray⟩]) false).run Try.prog w' = .ok ((atF (factsK S) f).getD (.int .i64 0)) w' ∧
   (Instr.lookup 82 (.map (some m1)) (.agg #[.string ⟨f.1.1.toArray⟩, .string ⟨f.1.2.toArray⟩, .string ⟨f.2.toArray⟩]) true).run Try.prog w' = .ok (.tuple #[(atF (factsK S) f).getD (.int .i64 0), .bool (decide (f ∈ factsK S))]) w' := by
 obtain ⟨⟨v, m1, m2, Sl, hp⟩, _⟩ := h
 refine ⟨m1, cell_blk hp.blk 1, fun w' hc => ⟨?_, ?_⟩⟩
 ·exact (hp.kat.keep hc id).look (t := 82) (e := 3) Try.underlying82 (mZeroAt w') (a := f) hf
 ·have := (hp.kat.keep hc id).look_ok (t := 82) (e := 3) Try.underlying82 (mZeroAt w') (a := f) hf
  rw [atF_some] at this
  exact this

/-- The row of steps. -/
theorem GS.steps (h : GS T w g m3 m4 S) : ∃ ao cap, w.cell? ⟨g, 0, none⟩ = some (.slice ao S.length cap) ∧ StepsAt (fun k => k < w.heap.size) w ao S ∧ S.length ≤ cap := by
 obtain ⟨⟨v, m1, m2, Sl, hp⟩, _, _, h4⟩ := h
 obtain ⟨ao, cap, rfl, h1, _⟩ := hp.row.steps h4
 refine ⟨ao, cap, cell_blk hp.blk 0, h1.mono (fun i hi => hi.2), ?_⟩
 rcases hp.row.2 with ⟨e, h0⟩ | ⟨_, _, _, e, _, _, h2, _⟩
 ·rw [h0]; exact Nat.zero_le _
 ·cases e; exact h2
end
end Go.Proofs.Ytjaplnainlbldaa

/- A credential is leant on somebody's being in its B or C. -/
namespace Go.Proofs.Ytjaplnainlbldaa
open Go.RowKit Go.Maps

set_option maxRecDepth 100000 in
set_option maxHeartbeats 2000000 in
theorem ch_lean2 {T : Nat → Option KTag} (g m3 m4 : Nat) (S : List StepB) (c : CredB) (wo : List UInt8) (w0 : World) (h : GS T w0 g m3 m4 S) (hk : c.kind = 2) (hn : (leanG S c wo).length ≤ 33554432) (hf : credShort c 9223372036854775807) (hw : wo.length ≤ 9223372036854775807) :
  Calls Try.prog 103 #[.pointer (some ⟨g, 0, none⟩), .agg #[.int .i64 c.kind, .string ⟨c.head.1.toArray⟩, .string ⟨c.head.2.toArray⟩, .string ⟨c.who.toArray⟩, .string ⟨c.b.1.toArray⟩, .string ⟨c.b.2.toArray⟩, .string ⟨c.c.1.toArray⟩, .string ⟨c.c.2.toArray⟩, .string ⟨c.w2.toArray⟩], .string ⟨wo.toArray⟩] w0 (GroP T g m3 m4 S (leanG S c wo) w0) := by
 have hc1 : Chg (fun _ => False) w0 (w0.alloc (.cells #[.int .i64 c.kind, .string ⟨c.head.1.toArray⟩, .string ⟨c.head.2.toArray⟩, .string ⟨c.who.toArray⟩, .string ⟨c.b.1.toArray⟩, .string ⟨c.b.2.toArray⟩, .string ⟨c.c.1.toArray⟩, .string ⟨c.c.2.toArray⟩, .string ⟨c.w2.toArray⟩] 36)) := (Chg.refl _ w0).alloc _
 have hb0 : (w0.alloc (.cells #[.int .i64 c.kind, .string ⟨c.head.1.toArray⟩, .string ⟨c.head.2.toArray⟩, .string ⟨c.who.toArray⟩, .string ⟨c.b.1.toArray⟩, .string ⟨c.b.2.toArray⟩, .string ⟨c.c.1.toArray⟩, .string ⟨c.c.2.toArray⟩, .string ⟨c.w2.toArray⟩] 36)).heap[w0.heap.size]? = some (.cells #[.int .i64 c.kind, .string ⟨c.head.1.toArray⟩, .string ⟨c.head.2.toArray⟩, .string ⟨c.who.toArray⟩, .string ⟨c.b.1.toArray⟩, .string ⟨c.b.2.toArray⟩, .string ⟨c.c.1.toArray⟩, .string ⟨c.c.2.toArray⟩, .string ⟨c.w2.toArray⟩] 36 (0, 0)) := heap_alloc_new w0 _
 have e : leanG S c wo = bringG S c wo := by unfold leanG; rw [if_pos hk]
 rw [e] at hn ⊢
 have hq := ch_bring2 g m3 m4 S c wo _ (h.quiet hc1) hn hf hw
 have y0 := cell_blk hb0 0
 have y1 := cell_blk hb0 1
 have y2 := cell_blk hb0 2
 have y3 := cell_blk hb0 3
 have y4 := cell_blk hb0 4
 have y5 := cell_blk hb0 5
 have y6 := cell_blk hb0 6
 have y7 := cell_blk hb0 7
 have y8 := cell_blk hb0 8
 simp only [List.getElem?_toArray, List.getElem?_cons_zero, List.getElem?_cons_succ] at y0 y1 y2 y3 y4 y5 y6 y7 y8
 rw [hk] at hq y0
 have HQ := hid hq
 have HC1 := hid hc1
 clear h hn hf hw hc1 hb0 hq e
 go_enter Try.func103, Try.ntmps103
 go_wp2_with fail
 simp only [hk] at HQ HC1 ⊢
 refine HQ.out.mono ?_
 rintro e w' ⟨rfl, T2, hg⟩
 have HR : Hid (GroP T g m3 m4 S (bringG S c wo) w0 (.returned (.tuple #[])) w') := hid ⟨rfl, T2, hg.early HC1.out⟩
 clear hg HQ HC1 y0 y1 y2 y3 y4 y5 y6 y7 y8
 go_wp2
 go_end0
 exact HR.out

set_option maxRecDepth 100000 in
set_option maxHeartbeats 2000000 in
theorem ch_lean4 {T : Nat → Option KTag} (g m3 m4 : Nat) (S : List StepB) (c : CredB) (wo : List UInt8) (w0 : World) (h : GS T w0 g m3 m4 S) (hk : c.kind = 4) (hn : (leanG S c wo).length ≤ 33554432) (hf : credShort c 9223372036854775807) (hw : wo.length ≤ 9223372036854775807) :
  Calls Try.prog 103 #[.pointer (some ⟨g, 0, none⟩), .agg #[.int .i64 c.kind, .string ⟨c.head.1.toArray⟩, .string ⟨c.head.2.toArray⟩, .string ⟨c.who.toArray⟩, .string ⟨c.b.1.toArray⟩, .string ⟨c.b.2.toArray⟩, .string ⟨c.c.1.toArray⟩, .string ⟨c.c.2.toArray⟩, .string ⟨c.w2.toArray⟩], .string ⟨wo.toArray⟩] w0 (GroP T g m3 m4 S (leanG S c wo) w0) := by
 have hc1 : Chg (fun _ => False) w0 (w0.alloc (.cells #[.int .i64 c.kind, .string ⟨c.head.1.toArray⟩, .string ⟨c.head.2.toArray⟩, .string ⟨c.who.toArray⟩, .string ⟨c.b.1.toArray⟩, .string ⟨c.b.2.toArray⟩, .string ⟨c.c.1.toArray⟩, .string ⟨c.c.2.toArray⟩, .string ⟨c.w2.toArray⟩] 36)) := (Chg.refl _ w0).alloc _
 have hb0 : (w0.alloc (.cells #[.int .i64 c.kind, .string ⟨c.head.1.toArray⟩, .string ⟨c.head.2.toArray⟩, .string ⟨c.who.toArray⟩, .string ⟨c.b.1.toArray⟩, .string ⟨c.b.2.toArray⟩, .string ⟨c.c.1.toArray⟩, .string ⟨c.c.2.toArray⟩, .string ⟨c.w2.toArray⟩] 36)).heap[w0.heap.size]? = some (.cells #[.int .i64 c.kind, .string ⟨c.head.1.toArray⟩, .string ⟨c.head.2.toArray⟩, .string ⟨c.who.toArray⟩, .string ⟨c.b.1.toArray⟩, .string ⟨c.b.2.toArray⟩, .string ⟨c.c.1.toArray⟩, .string ⟨c.c.2.toArray⟩, .string ⟨c.w2.toArray⟩] 36 (0, 0)) := heap_alloc_new w0 _
 have e : leanG S c wo = if (c.b, wo) ∈ factsK S ∧ (c.c, wo) ∈ factsK S then bringG S c wo else S := by unfold leanG; rw [if_neg (by omega), if_neg (by omega), if_pos hk]
 rw [e] at hn ⊢
 have hfc := hf
 unfold credShort at hfc
 have hb1 : factShort (c.b, wo) 9223372036854775807 := ⟨hfc.2.2.2.1, hfc.2.2.2.2.1, hw⟩
 have hb2 : factShort (c.c, wo) 9223372036854775807 := ⟨hfc.2.2.2.2.2.1, hfc.2.2.2.2.2.2.1, hw⟩
 have hq1 := ch_has g m3 m4 S (c.b, wo) _ (h.quiet hc1) hb1
 have HQ1 := hid hq1
 have y0 := cell_blk hb0 0
 have y1 := cell_blk hb0 1
 have y2 := cell_blk hb0 2
 have y3 := cell_blk hb0 3
 have y4 := cell_blk hb0 4
 have y5 := cell_blk hb0 5
 have y6 := cell_blk hb0 6
 have y7 := cell_blk hb0 7
 have y8 := cell_blk hb0 8
 simp only [List.getElem?_toArray, List.getElem?_cons_zero, List.getElem?_cons_succ] at y0 y1 y2 y3 y4 y5 y6 y7 y8
 rw [hk] at y0
 have HG := hid (h.quiet hc1)
 have HC1 := hid hc1
 have HBX := hid hb0
 have HSH := hid (And.intro hf (And.intro hw hb2))
 have HN := hid hn
 clear h hn hf hw hc1 hb0 hq1 e hb1 hb2 hfc
 by_cases q1 : (c.b, wo) ∈ factsK S
 ·by_cases q2 : (c.c, wo) ∈ factsK S
  ·have hd1 : decide ((c.b, wo) ∈ factsK S) = true := decide_eq_true q1
   rw [if_pos ⟨q1, q2⟩] at HN ⊢
   have HD2 : Hid (decide ((c.c, wo) ∈ factsK S) = true) := hid (decide_eq_true q2)
   simp only [hd1] at HQ1
   clear q1 q2 hd1
   go_enter Try.func103, Try.ntmps103
   go_wp2_with fail
   simp only [hk] at HQ1 HC1 HG HBX ⊢
   generalize (w0.alloc (.cells #[.int .i64 4, .string ⟨c.head.1.toArray⟩, .string ⟨c.head.2.toArray⟩, .string ⟨c.who.toArray⟩, .string ⟨c.b.1.toArray⟩, .string ⟨c.b.2.toArray⟩, .string ⟨c.c.1.toArray⟩, .string ⟨c.c.2.toArray⟩, .string ⟨c.w2.toArray⟩] 36)) = w1 at *
   refine HQ1.out.mono ?_
   rintro e w2 ⟨rfl, hc2⟩
   have hq2 := ch_has g m3 m4 S (c.c, wo) w2 (HG.out.quiet hc2) HSH.out.2.2
   rw [HD2.out] at hq2
   have HQ2 := hid hq2
   have hbb := blk_keep HBX.out hc2 id
   have HG2 := hid (HG.out.quiet hc2)
   have HC2 := hid (HC1.out.trans hc2 (fun _ _ h => h))
   clear y0 y1 y2 y3 y4 y5 y6 y7 y8 HQ1 HG HC1 HBX hc2 hq2
   have y0 := cell_blk hbb 0
   have y1 := cell_blk hbb 1
   have y2 := cell_blk hbb 2
   have y3 := cell_blk hbb 3
   have y4 := cell_blk hbb 4
   have y5 := cell_blk hbb 5
   have y6 := cell_blk hbb 6
   have y7 := cell_blk hbb 7
   have y8 := cell_blk hbb 8
   simp only [List.getElem?_toArray, List.getElem?_cons_zero, List.getElem?_cons_succ] at y0 y1 y2 y3 y4 y5 y6 y7 y8
   have HBX := hid hbb
   clear hbb
   go_wp2_with fail
   refine HQ2.out.mono ?_
   rintro e w3 ⟨rfl, hc3⟩
   have hq3 := ch_bring2 g m3 m4 S c wo w3 (HG2.out.quiet hc3) HN.out HSH.out.1 HSH.out.2.1
   simp only [hk] at hq3
   have HQ3 := hid hq3
   have hbb := blk_keep HBX.out hc3 id
   have HC3 := hid (HC2.out.trans hc3 (fun _ _ h => h))
   clear y0 y1 y2 y3 y4 y5 y6 y7 y8 HQ2 HG2 HC2 HBX hc3 hq3
   have y0 := cell_blk hbb 0
   have y1 := cell_blk hbb 1
   have y2 := cell_blk hbb 2
   have y3 := cell_blk hbb 3
   have y4 := cell_blk hbb 4
   have y5 := cell_blk hbb 5
   have y6 := cell_blk hbb 6
   have y7 := cell_blk hbb 7
   have y8 := cell_blk hbb 8
   simp only [List.getElem?_toArray, List.getElem?_cons_zero, List.getElem?_cons_succ] at y0 y1 y2 y3 y4 y5 y6 y7 y8
   clear hbb
   go_wp2_with fail
   refine HQ3.out.mono ?_
   rintro e w' ⟨rfl, T2, hg⟩
   have HR : Hid (GroP T g m3 m4 S (bringG S c wo) w0 (.returned (.tuple #[])) w') := hid ⟨rfl, T2, hg.early HC3.out⟩
   clear hg HQ3 HC3 y0 y1 y2 y3 y4 y5 y6 y7 y8
   go_wp2
   go_end0
   exact HR.out
  ·have hd1 : decide ((c.b, wo) ∈ factsK S) = true := decide_eq_true q1
   rw [if_neg (fun e => q2 e.2)] at HN ⊢
   have HD2 : Hid (decide ((c.c, wo) ∈ factsK S) = false) := hid (decide_eq_false q2)
   simp only [hd1] at HQ1
   clear q1 q2 hd1
   go_enter Try.func103, Try.ntmps103
   go_wp2_with fail
   simp only [hk] at HQ1 HC1 HG HBX ⊢
   generalize (w0.alloc (.cells #[.int .i64 4, .string ⟨c.head.1.toArray⟩, .string ⟨c.head.2.toArray⟩, .string ⟨c.who.toArray⟩, .string ⟨c.b.1.toArray⟩, .string ⟨c.b.2.toArray⟩, .string ⟨c.c.1.toArray⟩, .string ⟨c.c.2.toArray⟩, .string ⟨c.w2.toArray⟩] 36)) = w1 at *
   refine HQ1.out.mono ?_
   rintro e w2 ⟨rfl, hc2⟩
   have hq2 := ch_has g m3 m4 S (c.c, wo) w2 (HG.out.quiet hc2) HSH.out.2.2
   rw [HD2.out] at hq2
   have HQ2 := hid hq2
   have hbb := blk_keep HBX.out hc2 id
   have HG2 := hid (HG.out.quiet hc2)
   have HC2 := hid (HC1.out.trans hc2 (fun _ _ h => h))
   clear y0 y1 y2 y3 y4 y5 y6 y7 y8 HQ1 HG HC1 HBX hc2 hq2
   have y0 := cell_blk hbb 0
   have y1 := cell_blk hbb 1
   have y2 := cell_blk hbb 2
   have y3 := cell_blk hbb 3
   have y4 := cell_blk hbb 4
   have y5 := cell_blk hbb 5
   have y6 := cell_blk hbb 6
   have y7 := cell_blk hbb 7
   have y8 := cell_blk hbb 8
   simp only [List.getElem?_toArray, List.getElem?_cons_zero, List.getElem?_cons_succ] at y0 y1 y2 y3 y4 y5 y6 y7 y8
   clear hbb
   go_wp2_with fail
   refine HQ2.out.mono ?_
   rintro e w3 ⟨rfl, hc3⟩
   have HR : Hid (GroP T g m3 m4 S S w0 (.returned (.tuple #[])) w3) := hid ⟨rfl, T, ((HG2.out.quiet hc3).gro).early (HC2.out.trans hc3 (fun _ _ h => h))⟩
   clear y0 y1 y2 y3 y4 y5 y6 y7 y8 HQ2 HG2 HC2 hc3
   go_wp2
   go_end0
   exact HR.out
 ·have hd1 : decide ((c.b, wo) ∈ factsK S) = false := decide_eq_false q1
  rw [if_neg (fun e => q1 e.1)] at HN ⊢
  simp only [hd1] at HQ1
  clear q1 hd1
  go_enter Try.func103, Try.ntmps103
  go_wp2_with fail
  simp only [hk] at HQ1 HC1 HG HBX ⊢
  generalize (w0.alloc (.cells #[.int .i64 4, .string ⟨c.head.1.toArray⟩, .string ⟨c.head.2.toArray⟩, .string ⟨c.who.toArray⟩, .string ⟨c.b.1.toArray⟩, .string ⟨c.b.2.toArray⟩, .string ⟨c.c.1.toArray⟩, .string ⟨c.c.2.toArray⟩, .string ⟨c.w2.toArray⟩] 36)) = w1 at *
  refine HQ1.out.mono ?_
  rintro e w2 ⟨rfl, hc2⟩
  have HR : Hid (GroP T g m3 m4 S S w0 (.returned (.tuple #[])) w2) := hid ⟨rfl, T, ((HG.out.quiet hc2).gro).early (HC1.out.trans hc2 (fun _ _ h => h))⟩
  clear y0 y1 y2 y3 y4 y5 y6 y7 y8 HQ1 HG HC1 HBX hc2
  go_wp2
  go_end0
  exact HR.out
end Go.Proofs.Ytjaplnainlbldaa

/- A linked credential is leant on somebody's being in its B. -/
namespace Go.Proofs.Ytjaplnainlbldaa
open Go.RowKit Go.Maps

set_option maxRecDepth 100000 in
set_option maxHeartbeats 4000000 in
theorem ch_lean3 {T : Nat → Option KTag} (g m3 m4 : Nat) (S : List StepB) (c : CredB) (wo : List UInt8) (w0 : World) (h : GS T w0 g m3 m4 S) (hk : c.kind = 3) (hn : (leanG S c wo).length ≤ 33554432) (hf : credShort c 9223372036854775807) (hw : wo.length ≤ 9223372036854775807) :
  Calls Try.prog 103 #[.pointer (some ⟨g, 0, none⟩), .agg #[.int .i64 c.kind, .string ⟨c.head.1.toArray⟩, .string ⟨c.head.2.toArray⟩, .string ⟨c.who.toArray⟩, .string ⟨c.b.1.toArray⟩, .string ⟨c.b.2.toArray⟩, .string ⟨c.c.1.toArray⟩, .string ⟨c.c.2.toArray⟩, .string ⟨c.w2.toArray⟩], .string ⟨wo.toArray⟩] w0 (GroP T g m3 m4 S (leanG S c wo) w0) := by
 have hc1 : Chg (fun _ => False) w0 (w0.alloc (.cells #[.int .i64 c.kind, .string ⟨c.head.1.toArray⟩, .string ⟨c.head.2.toArray⟩, .string ⟨c.who.toArray⟩, .string ⟨c.b.1.toArray⟩, .string ⟨c.b.2.toArray⟩, .string ⟨c.c.1.toArray⟩, .string ⟨c.c.2.toArray⟩, .string ⟨c.w2.toArray⟩] 36)) := (Chg.refl _ w0).alloc _
 have hb0 : (w0.alloc (.cells #[.int .i64 c.kind, .string ⟨c.head.1.toArray⟩, .string ⟨c.head.2.toArray⟩, .string ⟨c.who.toArray⟩, .string ⟨c.b.1.toArray⟩, .string ⟨c.b.2.toArray⟩, .string ⟨c.c.1.toArray⟩, .string ⟨c.c.2.toArray⟩, .string ⟨c.w2.toArray⟩] 36)).heap[w0.heap.size]? = some (.cells #[.int .i64 c.kind, .string ⟨c.head.1.toArray⟩, .string ⟨c.head.2.toArray⟩, .string ⟨c.who.toArray⟩, .string ⟨c.b.1.toArray⟩, .string ⟨c.b.2.toArray⟩, .string ⟨c.c.1.toArray⟩, .string ⟨c.c.2.toArray⟩, .string ⟨c.w2.toArray⟩] 36 (0, 0)) := heap_alloc_new w0 _
 have HE : Hid (leanG S c wo = (placesK (factsK S) (wo, c.w2)).foldl (fun S' i => bringG S' c (whoAt S' i)) S) := hid (by unfold leanG; rw [if_neg (by omega), if_pos hk])
 have HN0 := hid hn
 have hfc := hf
 unfold credShort at hfc
 have hgs := h.quiet hc1
 obtain ⟨m2, u, l1, l2, l3, l4⟩ := hgs.look (r := (wo, c.w2)) ⟨hw, hfc.2.2.2.2.2.2.2⟩
 obtain ⟨ps, hps⟩ : ∃ ps, ps = placesK (factsK S) (wo, c.w2) := ⟨_, rfl⟩
 rw [← hps] at l2
 obtain ⟨ao, cap, hu⟩ := l2.shape
 obtain ⟨n, hnn⟩ : ∃ n, n = ps.length := ⟨_, rfl⟩
 rw [← hnn] at hu
 subst hu
 have HPS := hid (And.intro hnn.symm hps)
 have HTG := hid l3
 have HO := hid l2
 have HL := hid (And.intro l1 l4)
 have HGS := hid hgs
 have HSH := hid (And.intro hf hw)
 have HTC : Hid (T w0.heap.size = none) := hid (tag_new h.lo (Nat.le_refl _))
 have HK := hid hk
 have HC1 := hid hc1
 have HBC0 := hid hb0
 have y0 := cell_blk hb0 0
 have y8 := cell_blk hb0 8
 simp only [List.getElem?_toArray, List.getElem?_cons_zero, List.getElem?_cons_succ] at y0 y8
 have HY := hid y8
 rw [hk] at y0
 clear h hn hf hw hc1 hb0 hfc hgs l1 l2 l3 l4 hps hnn y8
 go_enter Try.func103, Try.ntmps103
 go_wp2_with fail
 simp only [hk] at HC1 HGS HO HL HBC0 HY ⊢
 generalize (w0.alloc (.cells #[.int .i64 3, .string ⟨c.head.1.toArray⟩, .string ⟨c.head.2.toArray⟩, .string ⟨c.who.toArray⟩, .string ⟨c.b.1.toArray⟩, .string ⟨c.b.2.toArray⟩, .string ⟨c.c.1.toArray⟩, .string ⟨c.c.2.toArray⟩, .string ⟨c.w2.toArray⟩] 36)) = w1 at *
 generalize w0.heap.size = C at *
 clear y0 hk
 refine wp_region_specs [.eq (.pointer (some ⟨g, 0, none⟩)), .any, .eq (.string ⟨wo.toArray⟩), .any, .eq (.pointer (some ⟨C, 0, none⟩)), .any, .any, .any, .any, .any, .any, .any, .any, .any, .any, .any, .any, .any, .eq (.pointer (some ⟨g, 0, none⟩)), .eq (.pointer (some ⟨g, 0, none⟩)), .eq (.pointer (some ⟨g, 2, none⟩)), .eq (.map (some m2)), .eq (.string ⟨wo.toArray⟩), .eq (.pointer (some ⟨C, 8, none⟩)), .eq (.string ⟨c.w2.toArray⟩), .eq (.agg #[.string ⟨wo.toArray⟩, .string ⟨c.w2.toArray⟩]), .eq (.slice ao n cap), .eq (.int .i64 n), .eq (.int .i64 0), .any, .any, .any, .any, .any, .any, .any, .any, .any, .any, .any, .any, .any, .any, .any, .any, .any, .any, .any, .any, .any, .any, .any, .any, .any, .any, .any, .any, .any, .any, .any, .any, .any, .any, .any, .any] [18, 19, 20, 21, 22, 23, 24, 25, 26, 27, 28] [0, 2, 4] (by kernel_rfl) (by kernel_rfl) (by rfl) (by kernel_rfl) ?start5 ?obs5 ?fin5
 case start5 =>
  simp only [List.forall_mem_cons]; exact ⟨⟨_, rfl, rfl⟩, ⟨_, rfl, rfl⟩, ⟨_, rfl, rfl⟩, fun _ h => by cases h⟩
 case obs5 =>
  clear HGS HBC0 HO HTG HTC HPS HE HC1
  refine Obs.cons none (by kernel_rfl) ?_ ?_
  ·refine Ob.plain fun a w hR hk K k => ?_
   obtain ⟨_, e0, f0⟩ := hk 0 (by decide)
   clear hk
   go_simp
   exact k _ _ (Chg.refl _ _) f0
  refine Obs.cons none (by kernel_rfl) ?_ ?_
  ·refine Ob.plain fun a w hR hk K k => ?_
   obtain ⟨_, e18, rfl⟩ := hk 18 (by decide)
   clear hk
   go_simp
   exact k _ _ (Chg.refl _ _) rfl
  refine Obs.cons none (by kernel_rfl) ?_ ?_
  ·refine Ob.plain fun a w hR hk K k => ?_
   obtain ⟨_, e19, rfl⟩ := hk 19 (by decide)
   clear hk
   go_simp
   exact k _ _ (Chg.refl _ _) rfl
  refine Obs.cons none (by kernel_rfl) ?_ ?_
  ·refine Ob.plain fun a w hR hk K k => ?_
   obtain ⟨_, e20, rfl⟩ := hk 20 (by decide)
   clear hk
   have zz := hR.cell HL.out.1 id
   go_simp
   exact k _ _ (Chg.refl _ _) rfl
  refine Obs.cons none (by kernel_rfl) ?_ ?_
  ·refine Ob.plain fun a w hR hk K k => ?_
   obtain ⟨_, e2, f2⟩ := hk 2 (by decide)
   clear hk
   go_simp
   exact k _ _ (Chg.refl _ _) f2
  refine Obs.cons none (by kernel_rfl) ?_ ?_
  ·refine Ob.plain fun a w hR hk K k => ?_
   obtain ⟨_, e4, rfl⟩ := hk 4 (by decide)
   clear hk
   go_simp
   exact k _ _ (Chg.refl _ _) rfl
  refine Obs.cons none (by kernel_rfl) ?_ ?_
  ·refine Ob.plain fun a w hR hk K k => ?_
   obtain ⟨_, e23, rfl⟩ := hk 23 (by decide)
   clear hk
   have z8 := hR.cell HY.out id
   go_simp
   exact k _ _ (Chg.refl _ _) rfl
  refine Obs.cons none (by kernel_rfl) ?_ ?_
  ·refine Ob.plain fun a w hR hk K k => ?_
   obtain ⟨_, e22, rfl⟩ := hk 22 (by decide)
   obtain ⟨_, e24, rfl⟩ := hk 24 (by decide)
   clear hk
   go_simp
   exact k _ _ (Chg.refl _ _) rfl
  refine Obs.cons none (by kernel_rfl) ?_ ?_
  ·refine Ob.plain fun a w hR hk K k => ?_
   obtain ⟨_, e21, rfl⟩ := hk 21 (by decide)
   obtain ⟨_, e25, rfl⟩ := hk 25 (by decide)
   clear hk
   have q := HL.out.2 w hR
   go_simp
   exact k _ _ (Chg.refl _ _) rfl
  refine Obs.cons none (by kernel_rfl) ?_ ?_
  ·refine Ob.plain fun a w hR hk K k => ?_
   obtain ⟨_, e26, rfl⟩ := hk 26 (by decide)
   clear hk
   go_simp
   exact k _ _ (Chg.refl _ _) rfl
  refine Obs.cons none (by kernel_rfl) ?_ ?_
  ·refine Ob.plain fun a w hR hk K k => ?_
   clear hk
   go_simp
   exact k _ _ (Chg.refl _ _) rfl
  exact Obs.nil
 case fin5 =>
  intro vals w9 hc9 hv
  have h26 : vals 26 = .slice ao n cap := hv 26 (by decide)
  have h27 : vals 27 = .int .i64 n := hv 27 (by decide)
  have h28 : vals 28 = .int .i64 0 := hv 28 (by decide)
  simp only [putAll, List.setIfInBounds_toArray, List.set_cons_zero, List.set_cons_succ, h26, h27, h28]
  have hgs9 := HGS.out.quiet hc9
  have HBC := hid (blk_keep HBC0.out hc9 id)
  have HGS9 := hid hgs9
  have HO9 := hid (HO.out.keep hc9 (fun _ _ => id))
  have HFIN : Hid (∀ w2 T2, Gro T w9 g m3 m4 S T2 w2 (leanG S c wo) → GroP T g m3 m4 S (leanG S c wo) w0 (.returned (.tuple #[])) w2) := hid (fun w2 T2 h => ⟨rfl, T2, h.early (HC1.out.trans hc9 (fun _ _ h => h))⟩)
  clear hc9 hv h26 h27 h28 HL HY HGS hgs9 HC1 HBC0 HO
  have hnb : n ≤ 33554432 := by
   have h1 := placesK_len (factsK S) (wo, c.w2)
   have h2 := (lean_ahead S c wo).len
   have h3 := HN0.out
   rw [factsK_len, ← HPS.out.2, HPS.out.1] at h1
   omega
  go_wp2
  go_loopw [28] (fun i wr => ∃ k : Nat, k ≤ n ∧ i = .int .i64 k ∧ Hid (∃ T1, Gro T w9 g m3 m4 S T1 wr ((ps.take k).foldl (fun S i => bringG S c (whoAt S i)) S))) (fun i _ => n - (intOf i).toNat)
  case atStart => exact ⟨0, Nat.zero_le _, rfl, hid ⟨T, HGS9.out.gro⟩⟩
  case round =>
   obtain ⟨kk, hkk, rfl, hrel⟩ := hrel
   obtain ⟨T1, hg1⟩ := hrel.out
   by_cases hlt : kk < n
   ·have hkp : kk < ps.length := by rw [HPS.out.1]; exact hlt
    have hor : OwnI 0 wr (.slice ao n cap) ps := hg1.stay _ _ _ HTG.out (Nat.le_of_eq (by rw [HPS.out.2])) HO9.out
    obtain ⟨Bp, hao, p1, p2⟩ := hor.cells hkp
    have hmem : ps[kk] ∈ placesK (factsK S) (wo, c.w2) := by rw [← HPS.out.2]; exact List.getElem_mem hkp
    have hatS := placesK_lt hmem
    rw [factsK_len] at hatS
    have htk : ps.take (kk + 1) = ps.take kk ++ [ps[kk]] := List.take_succ_eq_append_getElem hkp
    obtain ⟨S1, hS1⟩ : ∃ S1, S1 = (ps.take kk).foldl (fun S i => bringG S c (whoAt S i)) S := ⟨_, rfl⟩
    rw [← hS1] at hg1
    have hat1 := Nat.lt_of_lt_of_le hatS hg1.ahead.len
    have hfold : (ps.take (kk + 1)).foldl (fun S i => bringG S c (whoAt S i)) S = bringG S1 c (whoAt S1 ps[kk]) := by rw [htk, List.foldl_append, ← hS1]; rfl
    have hlen : (bringG S1 c (whoAt S1 ps[kk])).length ≤ 33554432 := by
     rw [← hfold]
     refine Nat.le_trans (Ahead.len ?_) HN0.out
     have e : leanG S c wo = ps.foldl (fun S i => bringG S c (whoAt S i)) S := by rw [HE.out, HPS.out.2]
     rw [e]
     conv => rhs; rw [← List.take_append_drop (kk + 1) ps, List.foldl_append]
     exact fold_ahead (fun S i => bring_ahead S c _) _ _
    have hwho : whoAt S1 ps[kk] = (S1[ps[kk]]'hat1).f.2 := by
     unfold whoAt factsK
     rw [List.getD_eq_getElem?_getD, List.getElem?_map, List.getElem?_eq_getElem hat1]
     rfl
    have hws : (S1[ps[kk]]'hat1).f.2.length ≤ 9223372036854775807 := (hg1.gs.sh _ (List.getElem_mem hat1)).2.2.2
    obtain ⟨ao2, cap2, z1, z2, z3⟩ := hg1.gs.steps
    obtain ⟨B, off, hao2, _, ⟨_, ⟨_, _, f2⟩⟩, _⟩ := z2 _ hat1
    have hbc := hg1.blk HBC.out HTC.out
    obtain ⟨at_, hat_⟩ : ∃ at_, at_ = ps[kk] := ⟨_, rfl⟩
    rw [hwho] at hlen hfold
    simp only [← hat_] at p1 hat1 hfold hlen hwho hws f2
    generalize (S1[at_]'hat1).f.2 = who at *
    have HC8 : Hid (∀ w', Chg (fun _ => False) wr w' → Calls Try.prog 102 #[.pointer (some ⟨g, 0, none⟩), .agg #[.int .i64 3, .string ⟨c.head.1.toArray⟩, .string ⟨c.head.2.toArray⟩, .string ⟨c.who.toArray⟩, .string ⟨c.b.1.toArray⟩, .string ⟨c.b.2.toArray⟩, .string ⟨c.c.1.toArray⟩, .string ⟨c.c.2.toArray⟩, .string ⟨c.w2.toArray⟩], .string ⟨who.toArray⟩] w' (fun e w9 => e = .returned (.tuple #[]) ∧ ∃ T2, Chg (fun b => T1 b ≠ none) w' w9 ∧ Gro T1 wr g m3 m4 S1 T2 w9 (bringG S1 c who))) := hid (fun w' hc => by
     have := ch_bring2 g m3 m4 S1 c who w' (hg1.gs.quiet hc) hlen HSH.out.1 hws
     rw [HK.out] at this
     refine this.mono ?_
     rintro e w9 ⟨rfl, T2, hg2⟩
     exact ⟨rfl, T2, hg2.chg, hg2.early hc⟩)
    have HNEXT : Hid (∀ T2 w2, Gro T1 wr g m3 m4 S1 T2 w2 (bringG S1 c who) → Hid (∃ T1, Gro T w9 g m3 m4 S T1 w2 ((ps.take (kk + 1)).foldl (fun S i => bringG S c (whoAt S i)) S))) := hid (fun T2 w2 h => hid ⟨T2, by rw [hfold]; exact hg1.trans h⟩)
    have HQ := hid (And.intro (show wr.heap[C]? = some (.cells #[.int .i64 3, .string ⟨c.head.1.toArray⟩, .string ⟨c.head.2.toArray⟩, .string ⟨c.who.toArray⟩, .string ⟨c.b.1.toArray⟩, .string ⟨c.b.2.toArray⟩, .string ⟨c.c.1.toArray⟩, .string ⟨c.c.2.toArray⟩, .string ⟨c.w2.toArray⟩] 36 (0, 0)) from hbc) (And.intro (show wr.cell? ⟨g, 0, none⟩ = some (.slice (some ⟨B, off, none⟩) S1.length cap2) by rw [← hao2]; exact z1) (And.intro (show wr.cell? ⟨B, off + at_ * 12 + 11, none⟩ = some (.string ⟨who.toArray⟩) from f2) (And.intro (show at_ < S1.length from hat1) z3))))
    have hnn : ∃ nn, nn = S1.length := ⟨_, rfl⟩
    obtain ⟨nn, hnn⟩ := hnn
    simp only [← hnn] at HQ
    clear hnn
    subst hao
    clear hor hmem hatS htk hS1 hg1 hfold hlen hwho hws z1 z2 z3 f2 hbc hat_ hrel hao2 p2
    go_wp2_with fail
    clear p1
    refine wp_region_stateD (Chg (fun b => T1 b ≠ none)) (LastW 11 11 wr (fun w9 => ∃ T2, Gro T1 wr g m3 m4 S1 T2 w9 (bringG S1 c who))) (specAtR [.eq (.pointer (some ⟨g, 0, none⟩)), .any, .any, .any, .eq (.pointer (some ⟨C, 0, none⟩)), .any, .any, .eq (.int .i64 (at_ : Nat)), .any, .any, .any, .any, .any, .any, .any, .any, .any, .any, .any, .any, .any, .any, .any, .any, .any, .any, .any, .any, .any, .any, .any, .any, .eq (.pointer (some ⟨g, 0, none⟩)), .eq (.agg #[.int .i64 3, .string ⟨c.head.1.toArray⟩, .string ⟨c.head.2.toArray⟩, .string ⟨c.who.toArray⟩, .string ⟨c.b.1.toArray⟩, .string ⟨c.b.2.toArray⟩, .string ⟨c.c.1.toArray⟩, .string ⟨c.c.2.toArray⟩, .string ⟨c.w2.toArray⟩]), .eq (.pointer (some ⟨g, 0, none⟩)), .eq (.pointer (some ⟨g, 0, none⟩)), .eq (.pointer (some ⟨g, 0, none⟩)), .eq (.slice (some ⟨B, off, none⟩) nn cap2), .eq (.int .i64 (at_ : Nat)), .eq (.pointer (some ⟨B, off + at_ * 12, none⟩)), .eq (.pointer (some ⟨B, off + at_ * 12 + 9, none⟩)), .eq (.pointer (some ⟨B, off + at_ * 12 + 11, none⟩)), .eq (.string ⟨who.toArray⟩), .any, .any, .any, .any, .any, .any, .any, .any, .any, .any, .any, .any, .any, .any, .any, .any, .any, .any, .any, .any, .any, .any]) [32, 33, 34, 35, 36, 37, 38, 39, 40, 41, 42, 43] [0, 4, 7] (by kernel_rfl) (by kernel_rfl) (LastW.start _ _ _ _ (Chg.refl _ _).drew) (fun t v w w' hc h => specAtR_st _ t v w w' hc h) (by rfl) (by kernel_rfl) ?start8 ?obs8 ?fin8
    case start8 =>
     simp only [List.forall_mem_cons]; exact ⟨⟨_, rfl, rfl⟩, ⟨_, rfl, rfl⟩, ⟨_, rfl, rfl⟩, fun _ h => by cases h⟩
    case obs8 =>
     clear HNEXT
     refine ObsD.cons none (by kernel_rfl) ?_ ?_
     ·refine ObD.plain fun L a w hi he hD hW hk K k => ?_
      obtain ⟨_, e0, rfl⟩ := hk 0 (by decide)
      clear hk
      have hR := hW.early (by decide) hi
      have hS := hW.step (by decide) hi (Chg.refl _ _)
      clear hi he hW hD
      go_simp
      exact k _ _ (Chg.refl _ _) hS rfl
     refine ObsD.cons none (by kernel_rfl) ?_ ?_
     ·refine ObD.plain fun L a w hi he hD hW hk K k => ?_
      obtain ⟨_, e4, rfl⟩ := hk 4 (by decide)
      clear hk
      have hR := hW.early (by decide) hi
      have hS := hW.step (by decide) hi (Chg.refl _ _)
      have yy := blk_keep HQ.out.1 hR id
      have y0 := cell_blk yy 0
      have y1 := cell_blk yy 1
      have y2 := cell_blk yy 2
      have y3 := cell_blk yy 3
      have y4 := cell_blk yy 4
      have y5 := cell_blk yy 5
      have y6 := cell_blk yy 6
      have y7 := cell_blk yy 7
      have y8 := cell_blk yy 8
      simp only [List.getElem?_toArray, List.getElem?_cons_zero, List.getElem?_cons_succ] at y0 y1 y2 y3 y4 y5 y6 y7 y8
      clear yy
      clear hi he hW hD
      go_simp
      exact k _ _ (Chg.refl _ _) hS rfl
     refine ObsD.cons none (by kernel_rfl) ?_ ?_
     ·refine ObD.plain fun L a w hi he hD hW hk K k => ?_
      obtain ⟨_, e0, rfl⟩ := hk 0 (by decide)
      clear hk
      have hR := hW.early (by decide) hi
      have hS := hW.step (by decide) hi (Chg.refl _ _)
      clear hi he hW hD
      go_simp
      exact k _ _ (Chg.refl _ _) hS rfl
     refine ObsD.cons none (by kernel_rfl) ?_ ?_
     ·refine ObD.plain fun L a w hi he hD hW hk K k => ?_
      obtain ⟨_, e34, rfl⟩ := hk 34 (by decide)
      clear hk
      have hR := hW.early (by decide) hi
      have hS := hW.step (by decide) hi (Chg.refl _ _)
      clear hi he hW hD
      go_simp
      exact k _ _ (Chg.refl _ _) hS rfl
     refine ObsD.cons none (by kernel_rfl) ?_ ?_
     ·refine ObD.plain fun L a w hi he hD hW hk K k => ?_
      obtain ⟨_, e35, rfl⟩ := hk 35 (by decide)
      clear hk
      have hR := hW.early (by decide) hi
      have hS := hW.step (by decide) hi (Chg.refl _ _)
      clear hi he hW hD
      go_simp
      exact k _ _ (Chg.refl _ _) hS rfl
     refine ObsD.cons none (by kernel_rfl) ?_ ?_
     ·refine ObD.plain fun L a w hi he hD hW hk K k => ?_
      obtain ⟨_, e36, rfl⟩ := hk 36 (by decide)
      clear hk
      have hR := hW.early (by decide) hi
      have hS := hW.step (by decide) hi (Chg.refl _ _)
      have zz := hR.cell HQ.out.2.1 id
      clear hi he hW hD
      go_simp
      exact k _ _ (Chg.refl _ _) hS rfl
     refine ObsD.cons none (by kernel_rfl) ?_ ?_
     ·refine ObD.plain fun L a w hi he hD hW hk K k => ?_
      obtain ⟨_, e7, rfl⟩ := hk 7 (by decide)
      clear hk
      have hR := hW.early (by decide) hi
      have hS := hW.step (by decide) hi (Chg.refl _ _)
      clear hi he hW hD
      go_simp
      exact k _ _ (Chg.refl _ _) hS rfl
     refine ObsD.cons none (by kernel_rfl) ?_ ?_
     ·refine ObD.plain fun L a w hi he hD hW hk K k => ?_
      obtain ⟨_, e37, rfl⟩ := hk 37 (by decide)
      obtain ⟨_, e38, rfl⟩ := hk 38 (by decide)
      clear hk
      have hR := hW.early (by decide) hi
      have hS := hW.step (by decide) hi (Chg.refl _ _)
      have hlt := HQ.out.2.2.2.1
      clear hi he hW hD
      go_simp
      exact k _ _ (Chg.refl _ _) hS rfl
     refine ObsD.cons none (by kernel_rfl) ?_ ?_
     ·refine ObD.plain fun L a w hi he hD hW hk K k => ?_
      obtain ⟨_, e39, rfl⟩ := hk 39 (by decide)
      clear hk
      have hR := hW.early (by decide) hi
      have hS := hW.step (by decide) hi (Chg.refl _ _)
      clear hi he hW hD
      go_simp
      exact k _ _ (Chg.refl _ _) hS rfl
     refine ObsD.cons none (by kernel_rfl) ?_ ?_
     ·refine ObD.plain fun L a w hi he hD hW hk K k => ?_
      obtain ⟨_, e40, rfl⟩ := hk 40 (by decide)
      clear hk
      have hR := hW.early (by decide) hi
      have hS := hW.step (by decide) hi (Chg.refl _ _)
      clear hi he hW hD
      go_simp
      exact k _ _ (Chg.refl _ _) hS rfl
     refine ObsD.cons none (by kernel_rfl) ?_ ?_
     ·refine ObD.plain fun L a w hi he hD hW hk K k => ?_
      obtain ⟨_, e41, rfl⟩ := hk 41 (by decide)
      clear hk
      have hR := hW.early (by decide) hi
      have hS := hW.step (by decide) hi (Chg.refl _ _)
      have zz := hR.cell HQ.out.2.2.1 id
      clear hi he hW hD
      go_simp
      exact k _ _ (Chg.refl _ _) hS rfl
     refine ObsD.cons none (by kernel_rfl) ?_ ?_
     ·refine ObD.plain fun L a w hi he hD hW hk K k => ?_
      obtain ⟨_, e32, rfl⟩ := hk 32 (by decide)
      obtain ⟨_, e33, rfl⟩ := hk 33 (by decide)
      obtain ⟨_, e42, rfl⟩ := hk 42 (by decide)
      clear hk
      have hR := hW.pre hi
      have hall := behind_all (n := 11) hD rfl he (by kernel_rfl)
      clear he hD
      have hq := HC8.out w hR
      have HS := hid (And.intro hW hall)
      clear hi hW hall hR
      go_simp
      refine hq.mono ?_
      rintro e w5 ⟨rfl, T2, hg2⟩
      exact k _ _ hg2.1 (HS.out.1.last (w' := w5) HS.out.2 ⟨T2, hg2.2⟩) trivial
     exact ObsD.nil
    case fin8 =>
     intro L vals w9 hL hWL hv
     have HEND := hid (hWL.post (hL 11 (by decide)))
     clear hL hWL
     simp only [putAll, List.setIfInBounds_toArray, List.set_cons_zero, List.set_cons_succ]
     obtain ⟨T2, hg2⟩ := HEND.out
     have HN := hid (HNEXT.out T2 w9 hg2)
     clear hg2 HEND HQ HC8 HNEXT
     go_wp2
     go_roundw
     case rel => exact ⟨kk + 1, by omega, by go_num, HN.out⟩
     case measure => simp [intOf]; omega
   ·have hk2 : kk = n := by omega
    have HE2 := hid (HFIN.out wr T1 (by
     have e : leanG S c wo = (ps.take kk).foldl (fun S i => bringG S c (whoAt S i)) S := by rw [HE.out, hk2, ← HPS.out.1, List.take_length, HPS.out.2]
     rw [e]
     exact hg1))
    clear hk2 hg1 hrel
    go_wp2
    go_end0
    exact HE2.out
end Go.Proofs.Ytjaplnainlbldaa
