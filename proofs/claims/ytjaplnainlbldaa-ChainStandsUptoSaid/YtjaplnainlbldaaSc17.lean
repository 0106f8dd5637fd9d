/- Somebody is brought into a credential's head. -/
import Derived.Test.YtjaplnainlbldaaSc16
namespace Go.Proofs.Ytjaplnainlbldaa
open Go.RowKit Go.Maps

def BringPost (T : Nat → Option KTag) (g m3 m4 : Nat) (S : List StepB) (c : CredB) (wo : List UInt8) (w : World) (e : Ending) (w' : World) : Prop :=
  e = .returned (.tuple #[]) ∧ ∃ T', GS T' w' g m3 m4 (bringG S c wo) ∧ ExtT T T' w w' ∧ Chg (fun b => T b ≠ none) w w' ∧ Stay T (factsK S) w w'

theorem bringPost_done {T T3 : Nat → Option KTag} {g m3 m4 : Nat} {S : List StepB} {c : CredB} {wo : List UInt8} {w1 w3 w4 w' : World} {v3 : Value} {m1 m2 : Nat} {Sl : RoleB → Option Value} (hn : (factsK S).Nodup ∧ (∀ x ∈ S, stepShort x 9223372036854775807) ∧ (c.head, wo) ∉ factsK S ∧ stepShort ⟨c, (c.head, wo)⟩ 9223372036854775807) (hx : ExtT T T3 w1 w3) (hc : Chg (fun b => T b ≠ none) w1 w3) (hst : Stay T (factsK S) w1 w3) (ha : RowGA T3 w3 g m3 m4 (S ++ [⟨c, (c.head, wo)⟩]) (factsK S) (c.head, wo) v3 m1 m2 Sl w4) (he : EntG3 T3 (factsK S) w4 g m3 m4 (S ++ [⟨c, (c.head, wo)⟩]) (factsK S ++ [(c.head, wo)]) w') : BringPost T g m3 m4 S c wo w1 (.returned (.tuple #[])) w' := by
  obtain ⟨n1, n2, n3, n4⟩ := hn
  obtain ⟨_, h1, hs1⟩ := ha
  obtain ⟨T', v, m1', m2', Sl', h2, h3, h4, h5⟩ := he
  have hs3 := hc.size
  have hs4 := h1.size
  have e : bringG S c wo = S ++ [⟨c, (c.head, wo)⟩] := if_neg n3
  have ef : factsK (S ++ [⟨c, (c.head, wo)⟩]) = factsK S ++ [(c.head, wo)] := factsK_snoc S ⟨c, (c.head, wo)⟩
  refine ⟨rfl, T', ⟨⟨v, m1', m2', Sl', by rw [e, ef]; exact h2⟩, h3.lo, ?_, fun x hx => ?_⟩, hx.trans (h3.down hs4) hs3, ?_, ?_⟩
  · rw [e, ef, List.nodup_append]
    refine ⟨n1, by simp, fun x hx y hy e => ?_⟩
    simp at hy
    subst hy
    subst e
    exact n3 hx
  · rw [e] at hx
    rcases List.mem_append.1 hx with h | h
    · exact n2 x h
    · rw [List.mem_singleton] at h; rw [h]; exact n4
  · refine (hc.trans h1 (fun i hi h => ?_)).trans h4 (fun i hi h => ?_)
    · rcases hx.new i h with h | h
      · exact h
      · omega
    · rcases hx.new i h with h | h
      · exact h
      · omega
  · exact (hst.trans hs1 hx.old (fun _ => Nat.le_refl _)).trans h5 hx.old (fun _ => Nat.le_refl _)

def kb3 (T : Nat → Option KTag) (g A C : Nat) (c : CredB) (wo : List UInt8) (v : Value) : List (SpecR (Chg (fun b => T b ≠ none))) := [.eq (.pointer (some ⟨g, 0, none⟩)), .any, .any, .any, .eq (.pointer (some ⟨C, 0, none⟩)), .any, .eq (.pointer (some ⟨A, 0, none⟩)), .any, .any, .any, .any, .any, .any, .any, .any, .any, .any, .any, .any, .any, .eq (.pointer (some ⟨g, 0, none⟩)), .eq (.pointer (some ⟨g, 0, none⟩)), .eq (.pointer (some ⟨g, 0, none⟩)), .eq (.pointer (some ⟨g, 0, none⟩)), .eq (v), .eq (.agg #[.int .i64 c.kind, .string ⟨c.head.1.toArray⟩, .string ⟨c.head.2.toArray⟩, .string ⟨c.who.toArray⟩, .string ⟨c.b.1.toArray⟩, .string ⟨c.b.2.toArray⟩, .string ⟨c.c.1.toArray⟩, .string ⟨c.c.2.toArray⟩, .string ⟨c.w2.toArray⟩]), .eq (.agg #[.string ⟨c.head.1.toArray⟩, .string ⟨c.head.2.toArray⟩, .string ⟨wo.toArray⟩]), .eq (.agg #[.int .i64 c.kind, .string ⟨c.head.1.toArray⟩, .string ⟨c.head.2.toArray⟩, .string ⟨c.who.toArray⟩, .string ⟨c.b.1.toArray⟩, .string ⟨c.b.2.toArray⟩, .string ⟨c.c.1.toArray⟩, .string ⟨c.c.2.toArray⟩, .string ⟨c.w2.toArray⟩, .string ⟨c.head.1.toArray⟩, .string ⟨c.head.2.toArray⟩, .string ⟨wo.toArray⟩]), .exS T ⟨c, (c.head, wo)⟩, .any, .eq (.pointer (some ⟨g, 0, none⟩)), .eq (.pointer (some ⟨g, 0, none⟩)), .any, .any, .any, .any, .any, .any, .any, .any, .any, .any, .any, .any, .any, .any, .any, .any, .any, .any]
def kb5 (T3 : Nat → Option KTag) (g A : Nat) (c : CredB) (n m2 : Nat) (u : Value) (st : Nat) : List (SpecR (Chg (fun b => T3 b ≠ none))) := [.eq (.pointer (some ⟨g, 0, none⟩)), .any, .any, .any, .any, .any, .eq (.pointer (some ⟨A, 0, none⟩)), .eq (.int .i64 (n : Nat)), .any, .any, .any, .any, .any, .any, .any, .any, .any, .any, .any, .any, .any, .any, .any, .any, .any, .any, .any, .any, .any, .any, .any, .any, .any, .any, .any, .any, .any, .any, .eq (.pointer (some ⟨g, 0, none⟩)), .eq (.pointer (some ⟨g, 0, none⟩)), .eq (.pointer (some ⟨g, 2, none⟩)), .eq (.map (some m2)), .eq (.pointer (some ⟨A, 0, none⟩)), .eq (.agg #[.string ⟨c.head.1.toArray⟩, .string ⟨c.head.2.toArray⟩]), .eq (u), .eq (.int .i64 (n : Nat)), .exI T3 (n : Nat), .eq (.tuple #[u, goInt st]), .any, .eq (goInt st)]

set_option maxRecDepth 100000 in
set_option maxHeartbeats 2000000 in
theorem ch_bring_yes {T : Nat → Option KTag} (g m3 m4 : Nat) (S : List StepB) (c : CredB) (wo : List UInt8) (w0 : World) (h : GS T w0 g m3 m4 S) (hf : (c.head, wo) ∈ factsK S) : Calls Try.prog 102 #[.pointer (some ⟨g, 0, none⟩), .agg #[.int .i64 c.kind, .string ⟨c.head.1.toArray⟩, .string ⟨c.head.2.toArray⟩, .string ⟨c.who.toArray⟩, .string ⟨c.b.1.toArray⟩, .string ⟨c.b.2.toArray⟩, .string ⟨c.c.1.toArray⟩, .string ⟨c.c.2.toArray⟩, .string ⟨c.w2.toArray⟩], .string ⟨wo.toArray⟩] w0 (BringPost T g m3 m4 S c wo w0) := by
  have hc1 : Chg (fun _ => False) w0 ((w0.alloc (.cells #[.int .i64 c.kind, .string ⟨c.head.1.toArray⟩, .string ⟨c.head.2.toArray⟩, .string ⟨c.who.toArray⟩, .string ⟨c.b.1.toArray⟩, .string ⟨c.b.2.toArray⟩, .string ⟨c.c.1.toArray⟩, .string ⟨c.c.2.toArray⟩, .string ⟨c.w2.toArray⟩] 36)).alloc (.cells #[.string ⟨c.head.1.toArray⟩, .string ⟨c.head.2.toArray⟩, .string ⟨wo.toArray⟩] 26)) := ((Chg.refl _ w0).alloc _).alloc _
  have hb1 : ((w0.alloc (.cells #[.int .i64 c.kind, .string ⟨c.head.1.toArray⟩, .string ⟨c.head.2.toArray⟩, .string ⟨c.who.toArray⟩, .string ⟨c.b.1.toArray⟩, .string ⟨c.b.2.toArray⟩, .string ⟨c.c.1.toArray⟩, .string ⟨c.c.2.toArray⟩, .string ⟨c.w2.toArray⟩] 36)).alloc (.cells #[.string ⟨c.head.1.toArray⟩, .string ⟨c.head.2.toArray⟩, .string ⟨wo.toArray⟩] 26)).heap[w0.heap.size + 1]? = some (.cells #[.string ⟨c.head.1.toArray⟩, .string ⟨c.head.2.toArray⟩, .string ⟨wo.toArray⟩] 26 (0, 0)) := by
    have := heap_alloc_new (w0.alloc (.cells #[.int .i64 c.kind, .string ⟨c.head.1.toArray⟩, .string ⟨c.head.2.toArray⟩, .string ⟨c.who.toArray⟩, .string ⟨c.b.1.toArray⟩, .string ⟨c.b.2.toArray⟩, .string ⟨c.c.1.toArray⟩, .string ⟨c.c.2.toArray⟩, .string ⟨c.w2.toArray⟩] 36)) (.cells #[.string ⟨c.head.1.toArray⟩, .string ⟨c.head.2.toArray⟩, .string ⟨wo.toArray⟩] 26)
    rw [World.size_alloc] at this
    exact this
  have hb0 : (w0.alloc (.cells #[.int .i64 c.kind, .string ⟨c.head.1.toArray⟩, .string ⟨c.head.2.toArray⟩, .string ⟨c.who.toArray⟩, .string ⟨c.b.1.toArray⟩, .string ⟨c.b.2.toArray⟩, .string ⟨c.c.1.toArray⟩, .string ⟨c.c.2.toArray⟩, .string ⟨c.w2.toArray⟩] 36)).heap[w0.heap.size]? = some (.cells #[.int .i64 c.kind, .string ⟨c.head.1.toArray⟩, .string ⟨c.head.2.toArray⟩, .string ⟨c.who.toArray⟩, .string ⟨c.b.1.toArray⟩, .string ⟨c.b.2.toArray⟩, .string ⟨c.c.1.toArray⟩, .string ⟨c.c.2.toArray⟩, .string ⟨c.w2.toArray⟩] 36 (0, 0)) := heap_alloc_new w0 _
  have hb2 : ((w0.alloc (.cells #[.int .i64 c.kind, .string ⟨c.head.1.toArray⟩, .string ⟨c.head.2.toArray⟩, .string ⟨c.who.toArray⟩, .string ⟨c.b.1.toArray⟩, .string ⟨c.b.2.toArray⟩, .string ⟨c.c.1.toArray⟩, .string ⟨c.c.2.toArray⟩, .string ⟨c.w2.toArray⟩] 36)).alloc (.cells #[.string ⟨c.head.1.toArray⟩, .string ⟨c.head.2.toArray⟩, .string ⟨wo.toArray⟩] 26)).heap[w0.heap.size]? = some (.cells #[.int .i64 c.kind, .string ⟨c.head.1.toArray⟩, .string ⟨c.head.2.toArray⟩, .string ⟨c.who.toArray⟩, .string ⟨c.b.1.toArray⟩, .string ⟨c.b.2.toArray⟩, .string ⟨c.c.1.toArray⟩, .string ⟨c.c.2.toArray⟩, .string ⟨c.w2.toArray⟩] 36 (0, 0)) := blk_keep hb0 ((Chg.refl (fun _ => False) _).alloc _) id
  have x1 := cell_blk hb1 0
  have x2 := cell_blk hb1 1
  have x3 := cell_blk hb1 2
  have y1 := cell_blk hb0 1
  have y2 := cell_blk hb0 2
  simp only [List.getElem?_toArray, List.getElem?_cons_zero, List.getElem?_cons_succ] at x1 x2 x3 y1 y2
  have hh := ch_has g m3 m4 S (c.head, wo) _ (h.quiet hc1) (h.fsh _ hf)
  rw [decide_eq_true hf] at hh
  have HH := hid hh
  have HP : Hid (∀ w', Chg (fun _ => False) ((w0.alloc (.cells #[.int .i64 c.kind, .string ⟨c.head.1.toArray⟩, .string ⟨c.head.2.toArray⟩, .string ⟨c.who.toArray⟩, .string ⟨c.b.1.toArray⟩, .string ⟨c.b.2.toArray⟩, .string ⟨c.c.1.toArray⟩, .string ⟨c.c.2.toArray⟩, .string ⟨c.w2.toArray⟩] 36)).alloc (.cells #[.string ⟨c.head.1.toArray⟩, .string ⟨c.head.2.toArray⟩, .string ⟨wo.toArray⟩] 26)) w' → BringPost T g m3 m4 S c wo w0 (.returned (.tuple #[])) w') := hid (fun w' hc => by
    have hcc := hc1.trans hc (fun _ _ h => h)
    exact ⟨rfl, T, by rw [bringG, if_pos hf]; exact h.quiet hcc, ExtT.refl h.lo hcc.size, hcc.none9, Stay.of_chg hcc (fun _ _ _ => id)⟩)
  clear h hf hc1 hb1 hb0 hb2 hh
  go_enter Try.func102, Try.ntmps102
  go_wp2_with fail
  refine HH.out.mono ?_
  rintro e w' ⟨rfl, hc⟩
  have HQ := hid (HP.out w' hc)
  clear HH HP hc x1 x2 x3 y1 y2
  go_wp2
  go_end0
  exact HQ.out

set_option maxRecDepth 100000 in
set_option maxHeartbeats 4000000 in
theorem ch_bring_no {T : Nat → Option KTag} (g m3 m4 : Nat) (S : List StepB) (c : CredB) (wo : List UInt8) (w0 : World) (h : GS T w0 g m3 m4 S) (hn : S.length < 33554432) (hf : stepShort ⟨c, (c.head, wo)⟩ 9223372036854775807) (hno : (c.head, wo) ∉ factsK S) : Calls Try.prog 102 #[.pointer (some ⟨g, 0, none⟩), .agg #[.int .i64 c.kind, .string ⟨c.head.1.toArray⟩, .string ⟨c.head.2.toArray⟩, .string ⟨c.who.toArray⟩, .string ⟨c.b.1.toArray⟩, .string ⟨c.b.2.toArray⟩, .string ⟨c.c.1.toArray⟩, .string ⟨c.c.2.toArray⟩, .string ⟨c.w2.toArray⟩], .string ⟨wo.toArray⟩] w0 (BringPost T g m3 m4 S c wo w0) := by
  have hc1 : Chg (fun _ => False) w0 ((w0.alloc (.cells #[.int .i64 c.kind, .string ⟨c.head.1.toArray⟩, .string ⟨c.head.2.toArray⟩, .string ⟨c.who.toArray⟩, .string ⟨c.b.1.toArray⟩, .string ⟨c.b.2.toArray⟩, .string ⟨c.c.1.toArray⟩, .string ⟨c.c.2.toArray⟩, .string ⟨c.w2.toArray⟩] 36)).alloc (.cells #[.string ⟨c.head.1.toArray⟩, .string ⟨c.head.2.toArray⟩, .string ⟨wo.toArray⟩] 26)) := ((Chg.refl _ w0).alloc _).alloc _
  have hb1 : ((w0.alloc (.cells #[.int .i64 c.kind, .string ⟨c.head.1.toArray⟩, .string ⟨c.head.2.toArray⟩, .string ⟨c.who.toArray⟩, .string ⟨c.b.1.toArray⟩, .string ⟨c.b.2.toArray⟩, .string ⟨c.c.1.toArray⟩, .string ⟨c.c.2.toArray⟩, .string ⟨c.w2.toArray⟩] 36)).alloc (.cells #[.string ⟨c.head.1.toArray⟩, .string ⟨c.head.2.toArray⟩, .string ⟨wo.toArray⟩] 26)).heap[w0.heap.size + 1]? = some (.cells #[.string ⟨c.head.1.toArray⟩, .string ⟨c.head.2.toArray⟩, .string ⟨wo.toArray⟩] 26 (0, 0)) := by
    have := heap_alloc_new (w0.alloc (.cells #[.int .i64 c.kind, .string ⟨c.head.1.toArray⟩, .string ⟨c.head.2.toArray⟩, .string ⟨c.who.toArray⟩, .string ⟨c.b.1.toArray⟩, .string ⟨c.b.2.toArray⟩, .string ⟨c.c.1.toArray⟩, .string ⟨c.c.2.toArray⟩, .string ⟨c.w2.toArray⟩] 36)) (.cells #[.string ⟨c.head.1.toArray⟩, .string ⟨c.head.2.toArray⟩, .string ⟨wo.toArray⟩] 26)
    rw [World.size_alloc] at this
    exact this
  have hb0 : (w0.alloc (.cells #[.int .i64 c.kind, .string ⟨c.head.1.toArray⟩, .string ⟨c.head.2.toArray⟩, .string ⟨c.who.toArray⟩, .string ⟨c.b.1.toArray⟩, .string ⟨c.b.2.toArray⟩, .string ⟨c.c.1.toArray⟩, .string ⟨c.c.2.toArray⟩, .string ⟨c.w2.toArray⟩] 36)).heap[w0.heap.size]? = some (.cells #[.int .i64 c.kind, .string ⟨c.head.1.toArray⟩, .string ⟨c.head.2.toArray⟩, .string ⟨c.who.toArray⟩, .string ⟨c.b.1.toArray⟩, .string ⟨c.b.2.toArray⟩, .string ⟨c.c.1.toArray⟩, .string ⟨c.c.2.toArray⟩, .string ⟨c.w2.toArray⟩] 36 (0, 0)) := heap_alloc_new w0 _
  have hb2 : ((w0.alloc (.cells #[.int .i64 c.kind, .string ⟨c.head.1.toArray⟩, .string ⟨c.head.2.toArray⟩, .string ⟨c.who.toArray⟩, .string ⟨c.b.1.toArray⟩, .string ⟨c.b.2.toArray⟩, .string ⟨c.c.1.toArray⟩, .string ⟨c.c.2.toArray⟩, .string ⟨c.w2.toArray⟩] 36)).alloc (.cells #[.string ⟨c.head.1.toArray⟩, .string ⟨c.head.2.toArray⟩, .string ⟨wo.toArray⟩] 26)).heap[w0.heap.size]? = some (.cells #[.int .i64 c.kind, .string ⟨c.head.1.toArray⟩, .string ⟨c.head.2.toArray⟩, .string ⟨c.who.toArray⟩, .string ⟨c.b.1.toArray⟩, .string ⟨c.b.2.toArray⟩, .string ⟨c.c.1.toArray⟩, .string ⟨c.c.2.toArray⟩, .string ⟨c.w2.toArray⟩] 36 (0, 0)) := blk_keep hb0 ((Chg.refl (fun _ => False) _).alloc _) id
  have x1 := cell_blk hb1 0
  have x2 := cell_blk hb1 1
  have x3 := cell_blk hb1 2
  have y1 := cell_blk hb0 1
  have y2 := cell_blk hb0 2
  simp only [List.getElem?_toArray, List.getElem?_cons_zero, List.getElem?_cons_succ] at x1 x2 x3 y1 y2
  have h1 := h.quiet hc1
  have hh := ch_has g m3 m4 S (c.head, wo) _ h1 hf.2
  rw [decide_eq_false hno] at hh
  have HTA0 : Hid (T (w0.heap.size + 1) = none ∧ T w0.heap.size = none) := hid ⟨by
    cases e : T (w0.heap.size + 1) with
    | none => rfl
    | some x => have := h.lo _ (by rw [e]; simp); omega, tag_new h.lo (Nat.le_refl _)⟩
  have HND := hid (And.intro h.nd (And.intro h.sh (And.intro hno hf)))
  have HLEN := hid hn
  have HLENF : Hid ((factsK S).length < 33554432) := hid (by rw [factsK_len]; exact hn)
  have HSH := hid hf.2
  have HNO := hid hno
  have HH := hid hh
  have HK := hid h1
  have HC := hid hc1
  have HBX := hid (And.intro hb1 hb2)
  have HFIN : Hid (∀ w1 e w', Chg (fun _ => False) w0 w1 → BringPost T g m3 m4 S c wo w1 e w' → BringPost T g m3 m4 S c wo w0 e w') := hid (fun w1 e w' hc h => by
    obtain ⟨h1, T', h2, h3, h4, h5⟩ := h
    exact ⟨h1, T', h2, h3.down hc.size, hc.none9.trans h4 (fun _ _ h => h), (Stay.of_chg (T := T) (F := factsK S) hc (fun _ _ _ => id)).trans h5 (fun _ _ => rfl) (fun _ => Nat.le_refl _)⟩)
  clear h hno hf hc1 hb1 hb0 hb2 h1 hh hn
  go_enter Try.func102, Try.ntmps102
  go_wp2_with fail
  refine HH.out.mono ?_
  rintro e w1 ⟨rfl, hc⟩
  have hk := HK.out.quiet hc
  have hbx := blk_keep HBX.out.1 hc id
  have hbc := blk_keep HBX.out.2 hc id
  have HC1 := hid (HC.out.trans hc (fun _ _ h => h))
  clear HH HK HBX HC hc x1 x2 x3 y1 y2
  generalize hA : w0.heap.size + 1 = A at *
  generalize hC : w0.heap.size = C at *
  have HTA := HTA0
  clear HTA0 hA hC
  obtain ⟨v, m1, m2, Sl, hp⟩ := hk.ex
  obtain ⟨ao, cap, rfl⟩ := hp.row.shape
  obtain ⟨c0, _, _⟩ := (show BaseG g A C c wo (.slice ao S.length cap) m1 m2 m3 m4 w1 from ⟨hp.blk, hbx, hbc⟩).parts
  have HB := hid (show BaseG g A C c wo (.slice ao S.length cap) m1 m2 m3 m4 w1 from ⟨hp.blk, hbx, hbc⟩)
  have HLO := hid hk.lo
  have HN : Hid (¬ (Value.slice ao S.length cap).ownBlock = some g ∧ ¬ (Value.slice ao S.length cap).ownBlock = some A ∧ ¬ (Value.slice ao S.length cap).ownBlock = some C) := hid ⟨(fun e => by have := hp.trow _ e; rw [hp.tg] at this; cases this), (fun e => by have := hp.trow _ e; rw [HTA.out.1] at this; cases this), (fun e => by have := hp.trow _ e; rw [HTA.out.2] at this; cases this)⟩
  have HP := hid hp
  have HDN : Hid (∀ w', BringPost T g m3 m4 S c wo w1 (.returned (.tuple #[])) w' → BringPost T g m3 m4 S c wo w0 (.returned (.tuple #[])) w') := hid (fun w' h => HFIN.out w1 _ w' HC1.out h)
  clear hk hbx hbc hp HFIN HC1
  go_wp2_with fail
  obtain ⟨n, hn⟩ : ∃ n, S.length = n := ⟨_, rfl⟩
  have HNN : Hid ((factsK S).length = n) := hid (by rw [factsK_len]; exact hn)
  obtain ⟨v, hv⟩ : ∃ v, Value.slice ao S.length cap = v := ⟨_, rfl⟩
  rw [hv] at HB HN HP
  simp only [hn]
  clear hn hv c0
  refine wp_region_stateAD (Chg (fun b => T b ≠ none)) (Duo 9 12 29 (fun w => Chg (fun _ => False) w1 w) (RowG1 w1 v S ⟨c, (c.head, wo)⟩) (RowG2 T w1 g m3 m4 S ⟨c, (c.head, wo)⟩ m1 m2 Sl)) (specAtR (kb3 T g A C c wo v)) [20, 21, 22, 23, 24, 25, 26, 27, 28, 29, 30, 31] [0, 4, 6] (by kernel_rfl) (by kernel_rfl) (Duo.start (show (29 : Nat) < 50 by decide) ((Chg.refl _ _).drew)) (fun t v w w' hc h => specAtR_st _ t v w w' hc h) (by rfl) (by kernel_rfl) ?start3 ?obs3 ?fin3
  case start3 =>
    simp only [List.forall_mem_cons]; exact ⟨⟨_, rfl, rfl⟩, ⟨_, rfl, rfl⟩, ⟨_, rfl, rfl⟩, fun _ h => by cases h⟩
  case obs3 =>
    clear HND
    refine ObsAD.cons none (by kernel_rfl) ?_ ?_
    · refine ObAD.plain fun L a w hi he hD hW hk K k => ?_
      obtain ⟨_, e0, rfl⟩ := hk 0 (by decide)
      clear hk
      have hS := hid (fun (v : Value) (w2 : World) (hc : Chg (fun _ => False) w w2) => hW.step (j := 0) (d := (some 20)) v (by decide) hc (fun _ _ h c => h.trans c (fun _ _ h => h)) (fun _ _ _ h c => h.quiet c) (fun _ _ h c => h.quiet c))
      clear hi he hW hD
      go_simp
      exact k _ _ (Chg.refl _ _) (hS.out _ _ (Chg.refl _ _)) rfl
    refine ObsAD.cons none (by kernel_rfl) ?_ ?_
    · refine ObAD.plain fun L a w hi he hD hW hk K k => ?_
      obtain ⟨_, e0, rfl⟩ := hk 0 (by decide)
      clear hk
      have hS := hid (fun (v : Value) (w2 : World) (hc : Chg (fun _ => False) w w2) => hW.step (j := 1) (d := (some 21)) v (by decide) hc (fun _ _ h c => h.trans c (fun _ _ h => h)) (fun _ _ _ h c => h.quiet c) (fun _ _ h c => h.quiet c))
      clear hi he hW hD
      go_simp
      exact k _ _ (Chg.refl _ _) (hS.out _ _ (Chg.refl _ _)) rfl
    refine ObsAD.cons none (by kernel_rfl) ?_ ?_
    · refine ObAD.plain fun L a w hi he hD hW hk K k => ?_
      obtain ⟨_, e21, rfl⟩ := hk 21 (by decide)
      clear hk
      have hS := hid (fun (v : Value) (w2 : World) (hc : Chg (fun _ => False) w w2) => hW.step (j := 2) (d := (some 22)) v (by decide) hc (fun _ _ h c => h.trans c (fun _ _ h => h)) (fun _ _ _ h c => h.quiet c) (fun _ _ h c => h.quiet c))
      clear hi he hW hD
      go_simp
      exact k _ _ (Chg.refl _ _) (hS.out _ _ (Chg.refl _ _)) rfl
    refine ObsAD.cons none (by kernel_rfl) ?_ ?_
    · refine ObAD.plain fun L a w hi he hD hW hk K k => ?_
      obtain ⟨_, e22, rfl⟩ := hk 22 (by decide)
      clear hk
      have hS := hid (fun (v : Value) (w2 : World) (hc : Chg (fun _ => False) w w2) => hW.step (j := 3) (d := (some 23)) v (by decide) hc (fun _ _ h c => h.trans c (fun _ _ h => h)) (fun _ _ _ h c => h.quiet c) (fun _ _ h c => h.quiet c))
      clear hi he hW hD
      go_simp
      exact k _ _ (Chg.refl _ _) (hS.out _ _ (Chg.refl _ _)) rfl
    refine ObsAD.cons none (by kernel_rfl) ?_ ?_
    · refine ObAD.plain fun L a w hi he hD hW hk K k => ?_
      obtain ⟨_, e23, rfl⟩ := hk 23 (by decide)
      clear hk
      have hB := hW.early (by decide) hi (B := BaseG g A C c wo v m1 m2 m3 m4) (fun w h => HB.out.keep h id id id) (fun u w h => HB.out.keep h.2.1 HN.out.1 HN.out.2.1 HN.out.2.2)
      obtain ⟨z0, _, _⟩ := hB.parts
      have hS := hid (fun (v : Value) (w2 : World) (hc : Chg (fun _ => False) w w2) => hW.step (j := 4) (d := (some 24)) v (by decide) hc (fun _ _ h c => h.trans c (fun _ _ h => h)) (fun _ _ _ h c => h.quiet c) (fun _ _ h c => h.quiet c))
      clear hi he hW hD
      go_simp
      exact k _ _ (Chg.refl _ _) (hS.out _ _ (Chg.refl _ _)) rfl
    refine ObsAD.cons none (by kernel_rfl) ?_ ?_
    · refine ObAD.plain fun L a w hi he hD hW hk K k => ?_
      obtain ⟨_, e4, rfl⟩ := hk 4 (by decide)
      clear hk
      have hB := hW.early (by decide) hi (B := BaseG g A C c wo v m1 m2 m3 m4) (fun w h => HB.out.keep h id id id) (fun u w h => HB.out.keep h.2.1 HN.out.1 HN.out.2.1 HN.out.2.2)
      obtain ⟨z0, z1, z2, z3, z4, z5, z6, z7, z8⟩ := hB.cred
      have hS := hid (fun (v : Value) (w2 : World) (hc : Chg (fun _ => False) w w2) => hW.step (j := 5) (d := (some 25)) v (by decide) hc (fun _ _ h c => h.trans c (fun _ _ h => h)) (fun _ _ _ h c => h.quiet c) (fun _ _ h c => h.quiet c))
      clear hi he hW hD
      go_simp
      exact k _ _ (Chg.refl _ _) (hS.out _ _ (Chg.refl _ _)) rfl
    refine ObsAD.cons none (by kernel_rfl) ?_ ?_
    · refine ObAD.plain fun L a w hi he hD hW hk K k => ?_
      obtain ⟨_, e6, rfl⟩ := hk 6 (by decide)
      clear hk
      have hB := hW.early (by decide) hi (B := BaseG g A C c wo v m1 m2 m3 m4) (fun w h => HB.out.keep h id id id) (fun u w h => HB.out.keep h.2.1 HN.out.1 HN.out.2.1 HN.out.2.2)
      obtain ⟨z0, z1, z2⟩ := hB.fact
      have hS := hid (fun (v : Value) (w2 : World) (hc : Chg (fun _ => False) w w2) => hW.step (j := 6) (d := (some 26)) v (by decide) hc (fun _ _ h c => h.trans c (fun _ _ h => h)) (fun _ _ _ h c => h.quiet c) (fun _ _ h c => h.quiet c))
      clear hi he hW hD
      go_simp
      exact k _ _ (Chg.refl _ _) (hS.out _ _ (Chg.refl _ _)) rfl
    refine ObsAD.cons none (by kernel_rfl) ?_ ?_
    · refine ObAD.plain fun L a w hi he hD hW hk K k => ?_
      obtain ⟨_, e25, rfl⟩ := hk 25 (by decide)
      obtain ⟨_, e26, rfl⟩ := hk 26 (by decide)
      clear hk
      have hS := hid (fun (v : Value) (w2 : World) (hc : Chg (fun _ => False) w w2) => hW.step (j := 7) (d := (some 27)) v (by decide) hc (fun _ _ h c => h.trans c (fun _ _ h => h)) (fun _ _ _ h c => h.quiet c) (fun _ _ h c => h.quiet c))
      clear hi he hW hD
      go_simp
      exact k _ _ (Chg.refl _ _) (hS.out _ _ (Chg.refl _ _)) rfl
    refine ObsAD.cons none (by kernel_rfl) ?_ ?_
    · refine ObAD.plain fun L a w hi he hD hW hk K k => ?_
      obtain ⟨_, e27, rfl⟩ := hk 27 (by decide)
      clear hk
      have hsz := hW.early (by decide) hi (B := fun w => w1.heap.size ≤ w.heap.size) (fun w h => h.size) (fun u w h => h.2.1.size)
      have hS := hid (fun (v : Value) (w2 : World) (hc : Chg (fun _ => False) w w2) => hW.step (j := 8) (d := (some 28)) v (by decide) hc (fun _ _ h c => h.trans c (fun _ _ h => h)) (fun _ _ _ h c => h.quiet c) (fun _ _ h c => h.quiet c))
      clear hi he hW hD
      go_simp
      exact k _ _ (Chg.none9 ((Chg.refl _ _).alloc _)) (hS.out _ _ ((Chg.refl _ _).alloc _)) ⟨_, rfl, heap_alloc_new _ _, tag_new HLO.out hsz⟩
    refine ObsAD.cons none (by kernel_rfl) ?_ ?_
    · refine ObAD.plain fun L a w hi he hD hW hk K k => ?_
      obtain ⟨_, e24, rfl⟩ := hk 24 (by decide)
      obtain ⟨_, e28, f28⟩ := hk 28 (by decide)
      clear hk
      obtain ⟨b, rfl, hb, hb2⟩ := f28
      have h0 := hW.p0 hi
      obtain ⟨v2, w2, hr, hF, hS⟩ := RowG1.of HP.out (Nat.le_of_lt HLEN.out) h0 hb 29
      clear he hD
      refine ob_appendK 29 rfl e24 e28 hr ?_
      exact k _ _ hS (hW.first (by decide) hi hF) trivial
    refine ObsAD.cons none (by kernel_rfl) ?_ ?_
    · refine ObAD.plain fun L a w hi he hD hW hk K k => ?_
      obtain ⟨_, e20, rfl⟩ := hk 20 (by decide)
      clear hk
      have hS := hid (fun (v : Value) (w2 : World) (hc : Chg (fun _ => False) w w2) => hW.step (j := 10) (d := (some 30)) v (by decide) hc (fun _ _ h c => h.trans c (fun _ _ h => h)) (fun _ _ _ h c => h.quiet c) (fun _ _ h c => h.quiet c))
      clear hi he hW hD
      go_simp
      exact k _ _ (Chg.refl _ _) (hS.out _ _ (Chg.refl _ _)) rfl
    refine ObsAD.cons none (by kernel_rfl) ?_ ?_
    · refine ObAD.plain fun L a w hi he hD hW hk K k => ?_
      obtain ⟨_, e30, rfl⟩ := hk 30 (by decide)
      clear hk
      have hS := hid (fun (v : Value) (w2 : World) (hc : Chg (fun _ => False) w w2) => hW.step (j := 11) (d := (some 31)) v (by decide) hc (fun _ _ h c => h.trans c (fun _ _ h => h)) (fun _ _ _ h c => h.quiet c) (fun _ _ h c => h.quiet c))
      clear hi he hW hD
      go_simp
      exact k _ _ (Chg.refl _ _) (hS.out _ _ (Chg.refl _ _)) rfl
    refine ObsAD.cons none (by kernel_rfl) ?_ ?_
    · refine ObAD.plain fun L a w hi he hD hW hk K k => ?_
      obtain ⟨_, e31, rfl⟩ := hk 31 (by decide)
      clear hk
      have hall := behind_all (n := 12) hD rfl he (by kernel_rfl)
      obtain ⟨v2, e29, hF⟩ := hW.p1 (hall 9 (by decide)) hi
      obtain ⟨ao2, cap2, hv2⟩ := hF.1.shape
      obtain ⟨q, hq⟩ : ∃ q : Nat, q = (S ++ [(⟨c, (c.head, wo)⟩ : StepB)]).length := ⟨_, rfl⟩
      rw [← hq] at hv2
      clear hq
      subst hv2
      obtain ⟨hb, hF2, hS⟩ := hF.store HP.out HLO.out
      have zz := cell_blk hb 0
      have zf := froz_blk hb 0
      simp only [List.getElem?_toArray, List.getElem?_cons_zero] at zz
      have HS := hid (And.intro hW (And.intro hall (And.intro hF2 hS)))
      clear hb hF hF2 hS hall he hD hW hi
      go_simp
      exact k undef _ HS.out.2.2.2 (HS.out.1.second (by decide) HS.out.2.1 HS.out.2.2.1) trivial
    exact ObsAD.nil
  case fin3 =>
    intro L vals w3 hL hWL hv
    obtain ⟨T3, v3, hp3, hx3, hc3, hst3⟩ := hWL.p2 (hL 12 (by decide))
    clear hL hWL hv
    simp only [putAll, List.setIfInBounds_toArray, List.set_cons_zero, List.set_cons_succ]
    have HDONE4 : Hid (∀ w4 w', RowGA T3 w3 g m3 m4 (S ++ [⟨c, (c.head, wo)⟩]) (factsK S) (c.head, wo) v3 m1 m2 Sl w4 → EntG3 T3 (factsK S) w4 g m3 m4 (S ++ [⟨c, (c.head, wo)⟩]) (factsK S ++ [(c.head, wo)]) w' → BringPost T g m3 m4 S c wo w1 (.returned (.tuple #[])) w') := hid (fun w4 w' ha he => bringPost_done HND.out hx3 hc3 hst3 ha he)
    have tag3 : ∀ X, T X = none → X < w1.heap.size → T3 X = none := fun X hX hlt => by
      cases e : T3 X with
      | none => rfl
      | some x =>
        rcases hx3.new X (by rw [e]; simp) with h | h
        · exact absurd hX h
        · omega
    have HTA3 : Hid (T3 A = none ∧ T3 C = none) := hid ⟨tag3 A HTA.out.1 (lt_blk HB.out.2.1), tag3 C HTA.out.2 (lt_blk HB.out.2.2)⟩
    have hba := blk_keep HB.out.2.1 hc3 (fun h => h HTA.out.1)
    have hbc := blk_keep HB.out.2.2 hc3 (fun h => h HTA.out.2)
    clear HB HLO HN HP HTA tag3
    have HB := hid (show BaseG g A C c wo v3 m1 m2 m3 m4 w3 from ⟨hp3.blk, hba, hbc⟩)
    have HLO := hid hx3.lo
    have HP := hid hp3
    clear hp3 hx3 hc3 hst3 hba hbc
    go_wp2_with fail
    refine wp_region_stateD (Chg (fun b => T3 b ≠ none)) (LastW 6 6 w3 (RowGA T3 w3 g m3 m4 (S ++ [⟨c, (c.head, wo)⟩]) (factsK S) (c.head, wo) v3 m1 m2 Sl)) (specAtR [.eq (.pointer (some ⟨g, 0, none⟩)), .any, .any, .any, .any, .any, .eq (.pointer (some ⟨A, 0, none⟩)), .eq (.int .i64 (n : Nat)), .any, .any, .any, .any, .any, .any, .any, .any, .any, .any, .any, .any, .any, .any, .any, .any, .any, .any, .any, .any, .any, .any, .any, .any, .eq (.pointer (some ⟨g, 0, none⟩)), .eq (.pointer (some ⟨g, 0, none⟩)), .eq (.pointer (some ⟨g, 1, none⟩)), .eq (.map (some m1)), .eq (.agg #[.string ⟨c.head.1.toArray⟩, .string ⟨c.head.2.toArray⟩, .string ⟨wo.toArray⟩]), .eq (.int .i64 (n : Nat)), .any, .any, .any, .any, .any, .any, .any, .any, .any, .any, .any, .any]) [32, 33, 34, 35, 36, 37] [0, 6, 7] (by kernel_rfl) (by kernel_rfl) (LastW.start _ _ _ _ (Chg.refl _ _).drew) (fun t v w w' hc h => specAtR_st _ t v w w' hc h) (by rfl) (by kernel_rfl) ?start4 ?obs4 ?fin4
    case start4 =>
      simp only [List.forall_mem_cons]; exact ⟨⟨_, rfl, rfl⟩, ⟨_, rfl, rfl⟩, ⟨_, rfl, rfl⟩, fun _ h => by cases h⟩
    case obs4 =>
      clear HDONE4
      refine ObsD.cons none (by kernel_rfl) ?_ ?_
      · refine ObD.plain fun L a w hi he hD hW hk K k => ?_
        obtain ⟨_, e0, rfl⟩ := hk 0 (by decide)
        clear hk
        have hR := hW.early (by decide) hi
        have hS := hW.step (by decide) hi (Chg.refl _ _)
        clear hi he hW hD
        go_simp
        exact k _ _ (Chg.refl _ _) hS rfl
      refine ObsD.cons none (by kernel_rfl) ?_ ?_
      · refine ObD.plain fun L a w hi he hD hW hk K k => ?_
        obtain ⟨_, e32, rfl⟩ := hk 32 (by decide)
        clear hk
        have hR := hW.early (by decide) hi
        have hS := hW.step (by decide) hi (Chg.refl _ _)
        clear hi he hW hD
        go_simp
        exact k _ _ (Chg.refl _ _) hS rfl
      refine ObsD.cons none (by kernel_rfl) ?_ ?_
      · refine ObD.plain fun L a w hi he hD hW hk K k => ?_
        obtain ⟨_, e33, rfl⟩ := hk 33 (by decide)
        clear hk
        have hR := hW.early (by decide) hi
        have hS := hW.step (by decide) hi (Chg.refl _ _)
        clear hi he hW hD
        go_simp
        exact k _ _ (Chg.refl _ _) hS rfl
      refine ObsD.cons none (by kernel_rfl) ?_ ?_
      · refine ObD.plain fun L a w hi he hD hW hk K k => ?_
        obtain ⟨_, e34, rfl⟩ := hk 34 (by decide)
        clear hk
        have hR := hW.early (by decide) hi
        have hS := hW.step (by decide) hi (Chg.refl _ _)
        have hB := HB.out.keep hR id id id
        obtain ⟨_, z1, _⟩ := hB.parts
        clear hi he hW hD
        go_simp
        exact k _ _ (Chg.refl _ _) hS rfl
      refine ObsD.cons none (by kernel_rfl) ?_ ?_
      · refine ObD.plain fun L a w hi he hD hW hk K k => ?_
        obtain ⟨_, e6, rfl⟩ := hk 6 (by decide)
        clear hk
        have hR := hW.early (by decide) hi
        have hS := hW.step (by decide) hi (Chg.refl _ _)
        have hB := HB.out.keep hR id id id
        obtain ⟨z0, z1, z2⟩ := hB.fact
        clear hi he hW hD
        go_simp
        exact k _ _ (Chg.refl _ _) hS rfl
      refine ObsD.cons none (by kernel_rfl) ?_ ?_
      · refine ObD.plain fun L a w hi he hD hW hk K k => ?_
        obtain ⟨_, e7, rfl⟩ := hk 7 (by decide)
        clear hk
        have hR := hW.early (by decide) hi
        have hS := hW.step (by decide) hi (Chg.refl _ _)
        clear hi he hW hD
        go_simp
        exact k _ _ (Chg.refl _ _) hS rfl
      refine ObsD.cons none (by kernel_rfl) ?_ ?_
      · refine ObD.plain fun L a w hi he hD hW hk K k => ?_
        obtain ⟨_, e35, rfl⟩ := hk 35 (by decide)
        obtain ⟨_, e36, rfl⟩ := hk 36 (by decide)
        obtain ⟨_, e37, rfl⟩ := hk 37 (by decide)
        clear hk
        have hR := hW.pre hi
        have hall := behind_all (n := 6) hD rfl he (by kernel_rfl)
        clear he hD
        obtain ⟨w2, hr0, hk2, hc2, hS, hst⟩ := HP.out.setAt HLENF.out HSH.out HNO.out hR
        have hr : (Instr.mapUpdate 82 (.map (some m1)) (.agg #[.string ⟨c.head.1.toArray⟩, .string ⟨c.head.2.toArray⟩, .string ⟨wo.toArray⟩]) (.int .i64 (n : Nat))).run Try.prog w = .ok () w2 := by have h := hr0; rw [HNN.out] at h; exact h
        clear hr0
        have HS := hid (And.intro (hW.last hall (show RowGA T3 w3 g m3 m4 (S ++ [⟨c, (c.head, wo)⟩]) (factsK S) (c.head, wo) v3 m1 m2 Sl w2 from ⟨hk2, hc2, hst⟩)) hS)
        clear hi hW hall hR hk2 hc2 hS hst
        go_simp
        exact k undef _ HS.out.2 HS.out.1 trivial
      exact ObsD.nil
    case fin4 =>
      intro L vals w4 hL hWL hv
      have HEND := hid (hWL.post (hL 6 (by decide)))
      clear hL hWL
      simp only [putAll, List.setIfInBounds_toArray, List.set_cons_zero, List.set_cons_succ]
      obtain ⟨hp, hc, hst⟩ := HEND.out
      have HDONE := hid (fun w' h => HDONE4.out w4 w' ⟨hp, hc, hst⟩ h)
      have HTA := HTA3
      have hba := blk_keep HB.out.2.1 hc (fun h => h HTA.out.1)
      have hbc := blk_keep HB.out.2.2 hc (fun h => h HTA.out.2)
      have hlo4 : ∀ b, T3 b ≠ none → b < w4.heap.size := fun b hb => Nat.lt_of_lt_of_le (HLO.out b hb) hc.size
      clear hv HB HP HLO HEND HDONE4
      obtain ⟨u, st, o1, q1, q2, q3, q4, q5⟩ := hp.entry hlo4 HLENF.out ⟨HSH.out.1, HSH.out.2.1⟩
      have HB := hid (show BaseG g A C c wo v3 m1 m2 m3 m4 w4 from ⟨hp.blk, hba, hbc⟩)
      have HN : Hid (g ≠ m2 ∧ A ≠ m2 ∧ C ≠ m2 ∧ ¬ (g = m2 ∨ u.ownBlock = some g) ∧ ¬ (A = m2 ∨ u.ownBlock = some A) ∧ ¬ (C = m2 ∨ u.ownBlock = some C)) := hid (by
        have g1 : g ≠ m2 := fun e => by have := hp.tg; rw [e, hp.t2] at this; cases this
        have g2 : ¬ u.ownBlock = some g := fun e => by have := q2 _ e; rw [hp.tg] at this; cases this
        have a1 : A ≠ m2 := fun e => by have := HTA.out.1; rw [e, hp.t2] at this; cases this
        have a2 : ¬ u.ownBlock = some A := fun e => by have := q2 _ e; rw [HTA.out.1] at this; cases this
        have b1 : C ≠ m2 := fun e => by have := HTA.out.2; rw [e, hp.t2] at this; cases this
        have b2 : ¬ u.ownBlock = some C := fun e => by have := q2 _ e; rw [HTA.out.2] at this; cases this
        exact ⟨g1, a1, b1, fun e => e.elim g1 g2, fun e => e.elim a1 a2, fun e => e.elim b1 b2⟩)
      have HLO := hid hlo4
      have HP := hid hp
      have HE1 := hid q3
      have HE2 := hid q4
      have HE3 := hid q5
      clear hp hc hst q1 q2 q3 q4 q5 hba hbc hlo4
      go_wp2_with fail
      refine wp_region_stateAD (Chg (fun b => T3 b ≠ none)) (Trio 8 10 12 48 (fun w => Chg (fun _ => False) w4 w) (EntF1 w4 m2 o1) (EntG2 T3 (factsK S) w4 m2 o1 u (placesK (factsK S) c.head ++ [(factsK S).length])) (EntG3 T3 (factsK S) w4 g m3 m4 (S ++ [⟨c, (c.head, wo)⟩]) (factsK S ++ [(c.head, wo)]))) (specAtR (kb5 T3 g A c n m2 u st)) [38, 39, 40, 41, 42, 43, 45, 46, 47, 44, 48, 49] [0, 6, 7] (by kernel_rfl) (by kernel_rfl) (Trio.start (show (48 : Nat) < 50 by decide) ((Chg.refl _ _).drew)) (fun t v w w' hc h => specAtR_st _ t v w w' hc h) (by rfl) (by kernel_rfl) ?start5 ?obs5 ?fin5
      case start5 =>
        simp only [List.forall_mem_cons]; exact ⟨⟨_, rfl, rfl⟩, ⟨_, rfl, rfl⟩, ⟨_, rfl, rfl⟩, fun _ h => by cases h⟩
      case obs5 =>
        clear HDONE
        refine ObsAD.cons none (by kernel_rfl) ?_ ?_
        · refine ObAD.plain fun L a w hi he hD hW hk K k => ?_
          obtain ⟨_, e0, rfl⟩ := hk 0 (by decide)
          clear hk
          have hS := hid (fun (v : Value) (w2 : World) (hc : Chg (fun _ => False) w w2) => hW.step (j := 0) (d := (some 38)) v (by decide) hc (fun _ _ h c => h.trans c (fun _ _ h => h)) (fun _ _ h c => h.quiet c) (fun _ _ _ h c => h.quiet c) (fun _ _ h c => h.quiet c))
          clear hi he hW hD
          go_simp
          exact k _ _ (Chg.refl _ _) (hS.out _ _ (Chg.refl _ _)) rfl
        refine ObsAD.cons none (by kernel_rfl) ?_ ?_
        · refine ObAD.plain fun L a w hi he hD hW hk K k => ?_
          obtain ⟨_, e38, rfl⟩ := hk 38 (by decide)
          clear hk
          have hS := hid (fun (v : Value) (w2 : World) (hc : Chg (fun _ => False) w w2) => hW.step (j := 1) (d := (some 39)) v (by decide) hc (fun _ _ h c => h.trans c (fun _ _ h => h)) (fun _ _ h c => h.quiet c) (fun _ _ _ h c => h.quiet c) (fun _ _ h c => h.quiet c))
          clear hi he hW hD
          go_simp
          exact k _ _ (Chg.refl _ _) (hS.out _ _ (Chg.refl _ _)) rfl
        refine ObsAD.cons none (by kernel_rfl) ?_ ?_
        · refine ObAD.plain fun L a w hi he hD hW hk K k => ?_
          obtain ⟨_, e39, rfl⟩ := hk 39 (by decide)
          clear hk
          have hS := hid (fun (v : Value) (w2 : World) (hc : Chg (fun _ => False) w w2) => hW.step (j := 2) (d := (some 40)) v (by decide) hc (fun _ _ h c => h.trans c (fun _ _ h => h)) (fun _ _ h c => h.quiet c) (fun _ _ _ h c => h.quiet c) (fun _ _ h c => h.quiet c))
          clear hi he hW hD
          go_simp
          exact k _ _ (Chg.refl _ _) (hS.out _ _ (Chg.refl _ _)) rfl
        refine ObsAD.cons none (by kernel_rfl) ?_ ?_
        · refine ObAD.plain fun L a w hi he hD hW hk K k => ?_
          obtain ⟨_, e40, rfl⟩ := hk 40 (by decide)
          clear hk
          have hB := hW.early (by decide) hi (B := BaseG g A C c wo v3 m1 m2 m3 m4) (fun w h => HB.out.keep h id id id) (fun w h => HB.out.keep h.1 HN.out.1 HN.out.2.1 HN.out.2.2.1) (fun x w h => HB.out.keep h.1.2.2.1 HN.out.2.2.2.1 HN.out.2.2.2.2.1 HN.out.2.2.2.2.2)
          obtain ⟨_, _, z2⟩ := hB.parts
          have hS := hid (fun (v : Value) (w2 : World) (hc : Chg (fun _ => False) w w2) => hW.step (j := 3) (d := (some 41)) v (by decide) hc (fun _ _ h c => h.trans c (fun _ _ h => h)) (fun _ _ h c => h.quiet c) (fun _ _ _ h c => h.quiet c) (fun _ _ h c => h.quiet c))
          clear hi he hW hD
          go_simp
          exact k _ _ (Chg.refl _ _) (hS.out _ _ (Chg.refl _ _)) rfl
        refine ObsAD.cons none (by kernel_rfl) ?_ ?_
        · refine ObAD.plain fun L a w hi he hD hW hk K k => ?_
          obtain ⟨_, e6, rfl⟩ := hk 6 (by decide)
          clear hk
          have hS := hid (fun (v : Value) (w2 : World) (hc : Chg (fun _ => False) w w2) => hW.step (j := 4) (d := (some 42)) v (by decide) hc (fun _ _ h c => h.trans c (fun _ _ h => h)) (fun _ _ h c => h.quiet c) (fun _ _ _ h c => h.quiet c) (fun _ _ h c => h.quiet c))
          clear hi he hW hD
          go_simp
          exact k _ _ (Chg.refl _ _) (hS.out _ _ (Chg.refl _ _)) rfl
        refine ObsAD.cons none (by kernel_rfl) ?_ ?_
        · refine ObAD.plain fun L a w hi he hD hW hk K k => ?_
          obtain ⟨_, e42, rfl⟩ := hk 42 (by decide)
          clear hk
          have hB := hW.early (by decide) hi (B := BaseG g A C c wo v3 m1 m2 m3 m4) (fun w h => HB.out.keep h id id id) (fun w h => HB.out.keep h.1 HN.out.1 HN.out.2.1 HN.out.2.2.1) (fun x w h => HB.out.keep h.1.2.2.1 HN.out.2.2.2.1 HN.out.2.2.2.2.1 HN.out.2.2.2.2.2)
          obtain ⟨z0, z1, z2⟩ := hB.fact
          have hS := hid (fun (v : Value) (w2 : World) (hc : Chg (fun _ => False) w w2) => hW.step (j := 5) (d := (some 43)) v (by decide) hc (fun _ _ h c => h.trans c (fun _ _ h => h)) (fun _ _ h c => h.quiet c) (fun _ _ _ h c => h.quiet c) (fun _ _ h c => h.quiet c))
          clear hi he hW hD
          go_simp
          exact k _ _ (Chg.refl _ _) (hS.out _ _ (Chg.refl _ _)) rfl
        refine ObsAD.cons none (by kernel_rfl) ?_ ?_
        · refine ObAD.plain fun L a w hi he hD hW hk K k => ?_
          obtain ⟨_, e7, rfl⟩ := hk 7 (by decide)
          clear hk
          have hS := hid (fun (v : Value) (w2 : World) (hc : Chg (fun _ => False) w w2) => hW.step (j := 6) (d := (some 45)) v (by decide) hc (fun _ _ h c => h.trans c (fun _ _ h => h)) (fun _ _ h c => h.quiet c) (fun _ _ _ h c => h.quiet c) (fun _ _ h c => h.quiet c))
          clear hi he hW hD
          go_simp
          exact k _ _ (Chg.refl _ _) (hS.out _ _ (Chg.refl _ _)) rfl
        refine ObsAD.cons none (by kernel_rfl) ?_ ?_
        · refine ObAD.plain fun L a w hi he hD hW hk K k => ?_
          obtain ⟨_, e45, rfl⟩ := hk 45 (by decide)
          clear hk
          have hsz := hW.early (by decide) hi (B := fun w => w4.heap.size ≤ w.heap.size) (fun w h => h.size) (fun w h => h.1.size) (fun x w h => h.1.2.2.1.size)
          have hS := hid (fun (v : Value) (w2 : World) (hc : Chg (fun _ => False) w w2) => hW.step (j := 7) (d := (some 46)) v (by decide) hc (fun _ _ h c => h.trans c (fun _ _ h => h)) (fun _ _ h c => h.quiet c) (fun _ _ _ h c => h.quiet c) (fun _ _ h c => h.quiet c))
          clear hi he hW hD
          go_simp
          exact k _ _ (Chg.none9 ((Chg.refl _ _).alloc _)) (hS.out _ _ ((Chg.refl _ _).alloc _)) ⟨_, rfl, heap_alloc_new _ _, tag_new HLO.out hsz⟩
        refine ObsAD.cons none (by kernel_rfl) ?_ ?_
        · refine ObAD.plain fun L a w hi he hD hW hk K k => ?_
          obtain ⟨_, e41, rfl⟩ := hk 41 (by decide)
          obtain ⟨_, e43, rfl⟩ := hk 43 (by decide)
          clear hk
          obtain ⟨w2, hr0, hF, hS⟩ := HE1.out w (hW.p0 hi)
          have hr : (Instr.mapEntry 83 (.map (some m2)) (.agg #[.string ⟨c.head.1.toArray⟩, .string ⟨c.head.2.toArray⟩])).run Try.prog w = .ok (.tuple #[u, goInt st]) w2 := hr0
          clear hr0
          have HS := hid (And.intro (hW.zeroth (d := some 47) (v := .tuple #[u, goInt st]) (by decide) (by decide) hi hF) hS)
          clear hi he hD hW hF hS
          go_simp
          exact k _ _ HS.out.2 HS.out.1 rfl
        refine ObsAD.cons none (by kernel_rfl) ?_ ?_
        · refine ObAD.plain fun L a w hi he hD hW hk K k => ?_
          obtain ⟨_, e47, rfl⟩ := hk 47 (by decide)
          clear hk
          have hS := hid (fun (v : Value) (w2 : World) (hc : Chg (fun _ => False) w w2) => hW.step (j := 9) (d := (some 44)) v (by decide) hc (fun _ _ h c => h.trans c (fun _ _ h => h)) (fun _ _ h c => h.quiet c) (fun _ _ _ h c => h.quiet c) (fun _ _ h c => h.quiet c))
          clear hi he hW hD
          go_simp
          exact k _ _ (Chg.refl _ _) (hS.out _ _ (Chg.refl _ _)) rfl
        refine ObsAD.cons none (by kernel_rfl) ?_ ?_
        · refine ObAD.plain fun L a w hi he hD hW hk K k => ?_
          obtain ⟨_, e44, rfl⟩ := hk 44 (by decide)
          obtain ⟨_, e46, f46⟩ := hk 46 (by decide)
          clear hk
          have hall := behind_all (n := 10) hD rfl he (by kernel_rfl)
          obtain ⟨b, rfl, hb, hb2⟩ := f46
          obtain ⟨v2, w2, hr, hF, hS⟩ := HE2.out w b 156 (hW.p1 (hall 8 (by decide)) hi) (by rw [HNN.out]; exact hb)
          clear he hD
          refine ob_appendK 156 rfl e44 e46 hr ?_
          exact k _ _ hS (hW.first (by decide) (by decide) (hall 8 (by decide)) hi hF) trivial
        refine ObsAD.cons none (by kernel_rfl) ?_ ?_
        · refine ObAD.plain fun L a w hi he hD hW hk K k => ?_
          obtain ⟨_, e47, rfl⟩ := hk 47 (by decide)
          clear hk
          have hS := hid (fun (v : Value) (w2 : World) (hc : Chg (fun _ => False) w w2) => hW.step (j := 11) (d := (some 49)) v (by decide) hc (fun _ _ h c => h.trans c (fun _ _ h => h)) (fun _ _ h c => h.quiet c) (fun _ _ _ h c => h.quiet c) (fun _ _ h c => h.quiet c))
          clear hi he hW hD
          go_simp
          exact k _ _ (Chg.refl _ _) (hS.out _ _ (Chg.refl _ _)) rfl
        refine ObsAD.cons none (by kernel_rfl) ?_ ?_
        · refine ObAD.plain fun L a w hi he hD hW hk K k => ?_
          obtain ⟨_, e41, rfl⟩ := hk 41 (by decide)
          obtain ⟨_, e49, rfl⟩ := hk 49 (by decide)
          clear hk
          have hall := behind_all (n := 12) hD rfl he (by kernel_rfl)
          obtain ⟨v2, e48, hF⟩ := hW.p2 (hall 10 (by decide)) hi
          obtain ⟨ao2, cap2, hv2⟩ := hF.1.1.shape
          obtain ⟨q, hq⟩ : ∃ q : Nat, q = (placesK (factsK S) c.head ++ [(factsK S).length]).length := ⟨_, rfl⟩
          rw [← hq] at hv2
          clear hq
          subst hv2
          obtain ⟨w2, hr0, hF2, hS⟩ := HE3.out w _ hF
          have hr : (Instr.entryStore 83 (.map (some m2)) (.int .i64 st) (.slice ao2 q cap2)).run Try.prog w = .ok () w2 := hr0
          clear hr0
          have HS := hid (And.intro hW (And.intro hall (And.intro hF2 hS)))
          clear hF hF2 hS hall he hD hW hi
          go_simp
          exact k undef _ HS.out.2.2.2 (HS.out.1.second (by decide) (by decide) HS.out.2.1 HS.out.2.2.1) trivial
        exact ObsAD.nil
      case fin5 =>
        intro L vals w5 hL hWL hv
        have HEND := hid (hWL.p3 (hL 12 (by decide)))
        clear hL hWL hv HE1 HE2 HE3
        simp only [putAll, List.setIfInBounds_toArray, List.set_cons_zero, List.set_cons_succ]
        have HRES := hid (HDN.out w5 (HDONE.out w5 HEND.out))
        clear HEND HDONE HB HLO HN HP
        go_wp2
        go_end0
        exact HRES.out

end Go.Proofs.Ytjaplnainlbldaa
