/- A credential is taken. -/
import Derived.Test.YtjaplnainlbldaaSc21
import Derived.Test.YtjaplnainlbldaaSc25
namespace Go.Proofs.Ytjaplnainlbldaa
open Go.RowKit Go.Maps

/-- A new row of one credential. -/
def SpecR.exC (P : Nat → Prop) (c : CredB) : SpecR (Chg P) :=
  ⟨fun v w => ∃ b, v = .slice (some ⟨b, 0, none⟩) 1 1 ∧ w.heap[b]? = some (.cells (credBox c) 36 (0, 0)) ∧ ¬ P b, fun _ _ _ hc ⟨b, h1, h2, h3⟩ => ⟨b, h1, blk_keep h2 hc h3, h3⟩⟩

def BaseT (g C Rb : Nat) (c : CredB) (r : RoleB) (m3 : Nat) (w : World) : Prop :=
  w.cell? ⟨g, 3, none⟩ = some (.map (some m3)) ∧ w.heap[C]? = some (.cells (credBox c) 36 (0, 0)) ∧ w.heap[Rb]? = some (.cells #[.string ⟨r.1.toArray⟩, .string ⟨r.2.toArray⟩] 24 (0, 0))
theorem BaseT.keep {P : Nat → Prop} {g C Rb : Nat} {c : CredB} {r : RoleB} {m3 : Nat} {w w' : World} (h : BaseT g C Rb c r m3 w) (hc : Chg P w w') (hg : ¬ P g) (hC : ¬ P C) (hR : ¬ P Rb) : BaseT g C Rb c r m3 w' := ⟨hc.cell h.1 hg, blk_keep h.2.1 hc hC, blk_keep h.2.2 hc hR⟩
theorem BaseT.role {g C Rb : Nat} {c : CredB} {r : RoleB} {m3 : Nat} {w : World} (h : BaseT g C Rb c r m3 w) : w.cell? ⟨Rb, 0, none⟩ = some (.string ⟨r.1.toArray⟩) ∧ w.cell? ⟨Rb, 1, none⟩ = some (.string ⟨r.2.toArray⟩) := ⟨cell_blk h.2.2 0, cell_blk h.2.2 1⟩
theorem BaseT.cred {g C Rb : Nat} {c : CredB} {r : RoleB} {m3 : Nat} {w : World} (h : BaseT g C Rb c r m3 w) : w.cell? ⟨C, 0, none⟩ = some (.int .i64 c.kind) ∧ w.cell? ⟨C, 1, none⟩ = some (.string ⟨c.head.1.toArray⟩) ∧ w.cell? ⟨C, 2, none⟩ = some (.string ⟨c.head.2.toArray⟩) ∧ w.cell? ⟨C, 3, none⟩ = some (.string ⟨c.who.toArray⟩) ∧ w.cell? ⟨C, 4, none⟩ = some (.string ⟨c.b.1.toArray⟩) ∧ w.cell? ⟨C, 5, none⟩ = some (.string ⟨c.b.2.toArray⟩) ∧ w.cell? ⟨C, 6, none⟩ = some (.string ⟨c.c.1.toArray⟩) ∧ w.cell? ⟨C, 7, none⟩ = some (.string ⟨c.c.2.toArray⟩) ∧ w.cell? ⟨C, 8, none⟩ = some (.string ⟨c.w2.toArray⟩) :=
  ⟨cell_blk h.2.1 0, cell_blk h.2.1 1, cell_blk h.2.1 2, cell_blk h.2.1 3, cell_blk h.2.1 4, cell_blk h.2.1 5, cell_blk h.2.1 6, cell_blk h.2.1 7, cell_blk h.2.1 8⟩
def BaseU (g C : Nat) (c : CredB) (m4 : Nat) (w : World) : Prop := w.cell? ⟨g, 4, none⟩ = some (.map (some m4)) ∧ w.heap[C]? = some (.cells (credBox c) 36 (0, 0))
theorem BaseU.keep {P : Nat → Prop} {g C : Nat} {c : CredB} {m4 : Nat} {w w' : World} (h : BaseU g C c m4 w) (hc : Chg P w w') (hg : ¬ P g) (hC : ¬ P C) : BaseU g C c m4 w' := ⟨hc.cell h.1 hg, blk_keep h.2 hc hC⟩
theorem BaseU.word {g C : Nat} {c : CredB} {m4 : Nat} {w : World} (h : BaseU g C c m4 w) : w.cell? ⟨C, 8, none⟩ = some (.string ⟨c.w2.toArray⟩) := cell_blk h.2 8
theorem BaseU.cred {g C : Nat} {c : CredB} {m4 : Nat} {w : World} (h : BaseU g C c m4 w) (hk : c.kind = 3) : w.cell? ⟨C, 0, none⟩ = some (.int .i64 3) ∧ w.cell? ⟨C, 1, none⟩ = some (.string ⟨c.head.1.toArray⟩) ∧ w.cell? ⟨C, 2, none⟩ = some (.string ⟨c.head.2.toArray⟩) ∧ w.cell? ⟨C, 3, none⟩ = some (.string ⟨c.who.toArray⟩) ∧ w.cell? ⟨C, 4, none⟩ = some (.string ⟨c.b.1.toArray⟩) ∧ w.cell? ⟨C, 5, none⟩ = some (.string ⟨c.b.2.toArray⟩) ∧ w.cell? ⟨C, 6, none⟩ = some (.string ⟨c.c.1.toArray⟩) ∧ w.cell? ⟨C, 7, none⟩ = some (.string ⟨c.c.2.toArray⟩) ∧ w.cell? ⟨C, 8, none⟩ = some (.string ⟨c.w2.toArray⟩) :=
  ⟨hk ▸ cell_blk h.2 0, cell_blk h.2 1, cell_blk h.2 2, cell_blk h.2 3, cell_blk h.2 4, cell_blk h.2 5, cell_blk h.2 6, cell_blk h.2 7, cell_blk h.2 8⟩

theorem cred_new3 {c : CredB} (hk : c.kind = 3) (w : World) : (w.alloc (.cells #[.int .i64 3, .string ⟨c.head.1.toArray⟩, .string ⟨c.head.2.toArray⟩, .string ⟨c.who.toArray⟩, .string ⟨c.b.1.toArray⟩, .string ⟨c.b.2.toArray⟩, .string ⟨c.c.1.toArray⟩, .string ⟨c.c.2.toArray⟩, .string ⟨c.w2.toArray⟩] 36)).heap[w.heap.size]? = some (.cells (credBox c) 36 (0, 0)) := by
  have h := heap_alloc_new w (.cells (credBox c) 36)
  unfold credBox at h ⊢
  rw [hk] at h ⊢
  exact h

def kt4 (P : Nat → Prop) (g C Rb : Nat) (c : CredB) (r : RoleB) (m3 : Nat) (u : Value) (st : Nat) : List (SpecR (Chg P)) := [.eq (.pointer (some ⟨g, 0, none⟩)), .any, .any, .eq (.pointer (some ⟨C, 0, none⟩)), .any, .eq (.pointer (some ⟨Rb, 0, none⟩)), .any, .any, .any, .any, .any, .any, .any, .any, .eq (.pointer (some ⟨g, 0, none⟩)), .eq (.pointer (some ⟨g, 0, none⟩)), .eq (.pointer (some ⟨g, 3, none⟩)), .eq (.map (some m3)), .eq (.agg #[.string ⟨r.1.toArray⟩, .string ⟨r.2.toArray⟩]), .eq (u), .eq (.agg #[.int .i64 c.kind, .string ⟨c.head.1.toArray⟩, .string ⟨c.head.2.toArray⟩, .string ⟨c.who.toArray⟩, .string ⟨c.b.1.toArray⟩, .string ⟨c.b.2.toArray⟩, .string ⟨c.c.1.toArray⟩, .string ⟨c.c.2.toArray⟩, .string ⟨c.w2.toArray⟩]), .exC P c, .eq (.tuple #[u, goInt st]), .any, .eq (goInt st), .any, .any, .any, .any, .any, .any, .any, .any, .any, .any, .any, .any, .any, .any, .any, .any, .any, .any, .any, .any, .any, .any, .any, .any, .any, .any, .any, .any]
def kt10 (P : Nat → Prop) (g C : Nat) (c : CredB) (m4 : Nat) (u : Value) : List (SpecR (Chg P)) := [.eq (.pointer (some ⟨g, 0, none⟩)), .any, .any, .eq (.pointer (some ⟨C, 0, none⟩)), .any, .any, .any, .any, .any, .any, .any, .any, .any, .any, .any, .any, .any, .any, .any, .any, .any, .any, .any, .any, .any, .any, .any, .any, .any, .any, .any, .any, .any, .any, .any, .any, .any, .eq (.pointer (some ⟨g, 0, none⟩)), .eq (.pointer (some ⟨g, 0, none⟩)), .eq (.pointer (some ⟨g, 4, none⟩)), .eq (.map (some m4)), .eq (.pointer (some ⟨C, 8, none⟩)), .eq (.string ⟨c.w2.toArray⟩), .eq (.pointer (some ⟨g, 0, none⟩)), .eq (.pointer (some ⟨g, 0, none⟩)), .eq (.pointer (some ⟨g, 4, none⟩)), .eq (.map (some m4)), .eq (.pointer (some ⟨C, 8, none⟩)), .eq (.string ⟨c.w2.toArray⟩), .eq (u), .eq (.agg #[.int .i64 3, .string ⟨c.head.1.toArray⟩, .string ⟨c.head.2.toArray⟩, .string ⟨c.who.toArray⟩, .string ⟨c.b.1.toArray⟩, .string ⟨c.b.2.toArray⟩, .string ⟨c.c.1.toArray⟩, .string ⟨c.c.2.toArray⟩, .string ⟨c.w2.toArray⟩]), .exC P c, .any]

/-- What taking leaves. -/
def TakePostG (T : Nat → Option KTag) (T2 : Nat → Option LTag) (g m3 m4 : Nat) (S : List StepB) (cs : List CredB) (c : CredB) (w : World) (e : Ending) (w' : World) : Prop :=
  e = .returned (.tuple #[]) ∧ ∃ T' T2', GS T' w' g m3 m4 (takeG S c) ∧ LS T2' w' m3 m4 (cs ++ [c]) ∧ Apart T' T2' ∧ (∀ b, T' b ≠ none → T b ≠ none ∨ w.heap.size ≤ b) ∧ (∀ b, T2' b ≠ none → T2 b ≠ none ∨ w.heap.size ≤ b) ∧ Chg (fun b => T b ≠ none ∨ T2 b ≠ none) w w'

theorem CM.cong {α : Type} {k : KT α} {T : Nat → Option LTag} {t : α → LTag} {w : World} {m n n' : Nat} {L L' : α → List CredB} (h : CM k T t w m n L) (hn : n ≤ n') (hL : ∀ a, L a = L' a) : CM k T t w m n' L' := by
  obtain ⟨E, h1, h2, h3⟩ := h
  exact ⟨E, h1.le hn, fun a ha he => (hL a) ▸ h2 a ha he, fun a u ha hu => (hL a) ▸ h3 a u ha hu⟩

theorem ofMap_some {α : Type} {T : Nat → Option LTag} {tm : LTag} {t : α → LTag} {b : Nat} (h : OfMap T tm t b) : T b ≠ none := by
  rcases h with h | ⟨a, h⟩ <;> rw [h] <;> simp

/-- The leaning rows are whole: what is so then. -/
theorem taken_ls {T : Nat → Option KTag} {T20 : Nat → Option LTag} {g m3 m4 : Nat} {S : List StepB} {cs : List CredB} {c : CredB} {w0 w1 wr : World} (hg : GS T w0 g m3 m4 S) (hl : LS T20 w0 m3 m4 cs) (ha : Apart T T20) (hc1 : Chg (fun _ => False) w0 w1) {rs : List RoleB} (hrs : rs = (credRoles c).drop 1)
    (h : ∃ T2, CM ktR T2 .leanR wr m3 (cs.length * 2 + rs.length) (fun x => leanL cs x ++ ((rs.take rs.length).filter (fun y => decide (y = x))).map (fun _ => c)) ∧ CM ktS T2 .linkR wr m4 cs.length (linkL cs) ∧ ExtL T20 T2 w1 wr ∧ Chg (OfMap T20 .leanM .leanR) w1 wr) : ∃ T2, CM ktR T2 .leanR wr m3 ((cs ++ [c]).length * 2) (leanL (cs ++ [c])) ∧ CM ktS T2 .linkR wr m4 cs.length (linkL cs) ∧ T2 m3 = some .leanM ∧ T2 m4 = some .linkM ∧ (∀ b, T2 b ≠ none → b < wr.heap.size) ∧ GS T wr g m3 m4 S ∧ Apart T T2 ∧ (∀ b, T2 b ≠ none → T20 b ≠ none ∨ w1.heap.size ≤ b) ∧ Chg (fun b => T20 b ≠ none) w0 wr := by
  obtain ⟨T2, h1, h2, h3, h4⟩ := h
  have hall : Chg (fun b => T20 b ≠ none) w0 wr := hc1.none9.trans (h4.mono (fun i _ h => ofMap_some h)) (fun _ _ h => h)
  have hlen : rs.length ≤ 2 := by
    rw [hrs]
    unfold credRoles
    split
    · split
      · simp
      · split <;> simp
    · simp
  refine ⟨T2, h1.cong (by rw [List.length_append, List.length_singleton]; omega) (fun a => ?_), h2, by rw [h3.old _ (by rw [hl.t3]; simp)]; exact hl.t3, by rw [h3.old _ (by rw [hl.t4]; simp)]; exact hl.t4, h3.lo, hg.keep hall (fun b hb h => hb (ha b h)), fun b hb => ?_, h3.new, hall⟩
  · rw [leanL_snoc, List.take_length, hrs]
  · rcases h3.new b hb with h | h
    · exact ha b h
    · cases e : T b with
      | none => rfl
      | some x => have := hg.lo b (by rw [e]; simp); have := hc1.size; omega

theorem linkL_not {cs : List CredB} {c : CredB} (h : c.kind ≠ 3) (v : List UInt8) : linkL cs v = linkL (cs ++ [c]) v := by
  rw [linkL_snoc, if_neg (fun e => h e.2.1), List.append_nil]

theorem taken_quiet {T : Nat → Option KTag} {T20 : Nat → Option LTag} {g m3 m4 : Nat} {S : List StepB} {cs : List CredB} {c : CredB} {w0 w1 wr : World} (hg : GS T w0 g m3 m4 S) (hl : LS T20 w0 m3 m4 cs) (ha : Apart T T20) (hc1 : Chg (fun _ => False) w0 w1) {rs : List RoleB} (hrs : rs = (credRoles c).drop 1) (hk1 : c.kind ≠ 1) (hk3 : c.kind ≠ 3)
    (h : ∃ T2, CM ktR T2 .leanR wr m3 (cs.length * 2 + rs.length) (fun x => leanL cs x ++ ((rs.take rs.length).filter (fun y => decide (y = x))).map (fun _ => c)) ∧ CM ktS T2 .linkR wr m4 cs.length (linkL cs) ∧ ExtL T20 T2 w1 wr ∧ Chg (OfMap T20 .leanM .leanR) w1 wr) : TakePostG T T20 g m3 m4 S cs c w0 (.returned (.tuple #[])) wr := by
  obtain ⟨T2, h1, h2, h3, h4, h5, h6, h7, h8, h9⟩ := taken_ls hg hl ha hc1 hrs h
  refine ⟨rfl, T, T2, ?_, ⟨h3, h4, h1, h2.cong (by simp) (linkL_not hk3), h5⟩, h7, fun b hb => .inl hb, fun b hb => (h8 b hb).imp id (Nat.le_trans hc1.size), h9.mono (fun _ _ h => .inr h)⟩
  unfold takeG
  rw [if_neg hk1]
  exact h6

set_option maxRecDepth 100000 in
set_option maxHeartbeats 4000000 in
theorem ch_take {T : Nat → Option KTag} {T20 : Nat → Option LTag} (g m3 m4 : Nat) (S : List StepB) (cs : List CredB) (c : CredB) (w0 : World) (hg : GS T w0 g m3 m4 S) (hl : LS T20 w0 m3 m4 cs) (ha : Apart T T20) (hr : isCred c = true) (hcl : cs.length ≤ 100000) (hn : (takeG S c).length ≤ 33554432) :
    Calls Try.prog 71 #[.pointer (some ⟨g, 0, none⟩), .agg #[.int .i64 c.kind, .string ⟨c.head.1.toArray⟩, .string ⟨c.head.2.toArray⟩, .string ⟨c.who.toArray⟩, .string ⟨c.b.1.toArray⟩, .string ⟨c.b.2.toArray⟩, .string ⟨c.c.1.toArray⟩, .string ⟨c.c.2.toArray⟩, .string ⟨c.w2.toArray⟩]] w0 (TakePostG T T20 g m3 m4 S cs c w0) := by
  have hc1 : Chg (fun _ => False) w0 (w0.alloc (.cells #[.int .i64 c.kind, .string ⟨c.head.1.toArray⟩, .string ⟨c.head.2.toArray⟩, .string ⟨c.who.toArray⟩, .string ⟨c.b.1.toArray⟩, .string ⟨c.b.2.toArray⟩, .string ⟨c.c.1.toArray⟩, .string ⟨c.c.2.toArray⟩, .string ⟨c.w2.toArray⟩] 36)) := (Chg.refl _ w0).alloc _
  have hbC : (w0.alloc (.cells #[.int .i64 c.kind, .string ⟨c.head.1.toArray⟩, .string ⟨c.head.2.toArray⟩, .string ⟨c.who.toArray⟩, .string ⟨c.b.1.toArray⟩, .string ⟨c.b.2.toArray⟩, .string ⟨c.c.1.toArray⟩, .string ⟨c.c.2.toArray⟩, .string ⟨c.w2.toArray⟩] 36)).heap[w0.heap.size]? = some (.cells #[.int .i64 c.kind, .string ⟨c.head.1.toArray⟩, .string ⟨c.head.2.toArray⟩, .string ⟨c.who.toArray⟩, .string ⟨c.b.1.toArray⟩, .string ⟨c.b.2.toArray⟩, .string ⟨c.c.1.toArray⟩, .string ⟨c.c.2.toArray⟩, .string ⟨c.w2.toArray⟩] 36 (0, 0)) := heap_alloc_new w0 _
  have hq := chroles c (w0.alloc (.cells #[.int .i64 c.kind, .string ⟨c.head.1.toArray⟩, .string ⟨c.head.2.toArray⟩, .string ⟨c.who.toArray⟩, .string ⟨c.b.1.toArray⟩, .string ⟨c.b.2.toArray⟩, .string ⟨c.c.1.toArray⟩, .string ⟨c.c.2.toArray⟩, .string ⟨c.w2.toArray⟩] 36)) hr
  have hq2 : Calls Try.prog 101 #[.agg #[.int .i64 c.kind, .string ⟨c.head.1.toArray⟩, .string ⟨c.head.2.toArray⟩, .string ⟨c.who.toArray⟩, .string ⟨c.b.1.toArray⟩, .string ⟨c.b.2.toArray⟩, .string ⟨c.c.1.toArray⟩, .string ⟨c.c.2.toArray⟩, .string ⟨c.w2.toArray⟩]] (w0.alloc (.cells #[.int .i64 c.kind, .string ⟨c.head.1.toArray⟩, .string ⟨c.head.2.toArray⟩, .string ⟨c.who.toArray⟩, .string ⟨c.b.1.toArray⟩, .string ⟨c.b.2.toArray⟩, .string ⟨c.c.1.toArray⟩, .string ⟨c.c.2.toArray⟩, .string ⟨c.w2.toArray⟩] 36)) (RolesPost2 (credRoles c) (w0.alloc (.cells #[.int .i64 c.kind, .string ⟨c.head.1.toArray⟩, .string ⟨c.head.2.toArray⟩, .string ⟨c.who.toArray⟩, .string ⟨c.b.1.toArray⟩, .string ⟨c.b.2.toArray⟩, .string ⟨c.c.1.toArray⟩, .string ⟨c.c.2.toArray⟩, .string ⟨c.w2.toArray⟩] 36))) := hq
  have HQ := hid hq2
  have HG := hid (And.intro hg (And.intro hl (And.intro ha (And.intro hr (And.intro hcl hn)))))
  have HC := hid (And.intro hc1 hbC)
  obtain ⟨c0, c1, c2, c3, c4, c5, c6, c7, c8⟩ := cred_at_blk hbC
  simp only [Nat.zero_add] at c0 c1 c2 c3 c4 c5 c6 c7 c8
  clear hg hl ha hr hcl hn hc1 hbC hq hq2
  go_enter Try.func71, Try.ntmps71
  go_wp2_with fail
  generalize hW1 : (w0.alloc (.cells #[.int .i64 c.kind, .string ⟨c.head.1.toArray⟩, .string ⟨c.head.2.toArray⟩, .string ⟨c.who.toArray⟩, .string ⟨c.b.1.toArray⟩, .string ⟨c.b.2.toArray⟩, .string ⟨c.c.1.toArray⟩, .string ⟨c.c.2.toArray⟩, .string ⟨c.w2.toArray⟩] 36)) = wA at *
  generalize hC : w0.heap.size = C at *
  have HCe := hid hC
  clear hC hW1
  refine HQ.out.mono ?_
  rintro e w1 ⟨ao, cap, rfl, hst, hc2, hcap, hcap2⟩
  clear c0 c1 c2 c3 c4 c5 c6 c7 c8 HQ
  have HC1 := hid (HC.out.1.trans hc2 (fun _ _ h => h))
  have HBC := hid (blk_keep HC.out.2 hc2 id)
  have h1l : 1 ≤ (credRoles c).length := by
    unfold credRoles
    rw [if_pos HG.out.2.2.2.1]
    split
    · simp
    · split <;> simp
  obtain ⟨rs, hrs⟩ : ∃ rs, rs = (credRoles c).drop 1 := ⟨_, rfl⟩
  have HRS := hid hrs
  have hrl : (credRoles c).length - 1 = rs.length := by rw [hrs, List.length_drop]
  have hrl2 : rs.length ≤ 2 := by
    rw [hrs]
    unfold credRoles
    split
    · split
      · simp
      · split <;> simp
    · simp
  obtain ⟨ln, hln⟩ : ∃ ln, ln = (credRoles c).length := ⟨_, rfl⟩
  have HROW : Hid (∀ i (h : i < rs.length), cap ≠ 1 ∧ ∃ b off, ao = some ⟨b, off, none⟩ ∧ RoleAt w1 b (off + 2 + i * 2) rs[i] ∧ wA.heap.size ≤ b) := hid (fun i hi => by
    have hi2 : i + 1 < (credRoles c).length := by omega
    obtain ⟨b, off, e, hD, hR⟩ := hst (i + 1) hi2
    refine ⟨by omega, b, off, e, ?_, hD⟩
    have e2 : rs[i] = (credRoles c)[i + 1] := by
      simp only [hrs, List.getElem_drop]
      congr 1
      omega
    rw [e2, show off + 2 + i * 2 = off + (i + 1) * 2 by omega]
    exact hR)
  have HSZA : Hid (w0.heap.size ≤ wA.heap.size) := hid HC.out.1.size
  have HTC0 : Hid (T20 C = none ∧ T C = none) := hid ⟨by
    cases e : T20 C with
    | none => rfl
    | some x => have := HG.out.2.1.lo _ (by rw [e]; simp); have := HCe.out; omega, by
    cases e : T C with
    | none => rfl
    | some x => have := HG.out.1.lo _ (by rw [e]; simp); have := HCe.out; omega⟩
  rw [← hln] at h1l hrl hcap ⊢
  have hcap1 : 1 ≤ cap := by omega
  have hcapT : (1 ≤ cap) = True := eq_true hcap1
  clear hst hc2 hrs hln HC
  go_wp2
  case inl =>
    go_loopw [10] (fun i wr => ∃ k : Nat, k ≤ rs.length ∧ i = .int .i64 k ∧ Hid (∃ T2, CM ktR T2 .leanR wr m3 (cs.length * 2 + k) (fun x => leanL cs x ++ ((rs.take k).filter (fun y => decide (y = x))).map (fun _ => c)) ∧ CM ktS T2 .linkR wr m4 cs.length (linkL cs) ∧ ExtL T20 T2 w1 wr ∧ Chg (OfMap T20 .leanM .leanR) w1 wr)) (fun i _ => rs.length - (intOf i).toNat)
    case atStart => exact ⟨0, Nat.zero_le _, rfl, hid ⟨T20, (HG.out.2.1.lean.keep id HC1.out (fun _ _ _ => id)).cong (by omega) (fun a => by simp), HG.out.2.1.link.keep id HC1.out (fun _ _ _ => id), ExtL.refl (fun b hb => Nat.lt_of_lt_of_le (HG.out.2.1.lo b hb) HC1.out.size) (Nat.le_refl _), Chg.refl _ _⟩⟩
    case round =>
      obtain ⟨kk, hkk, rfl, hrel⟩ := hrel
      by_cases hlt : kk < rs.length
      · exact absurd (by assumption) (HROW.out kk hlt).1
      · have hk2 : kk = rs.length := by omega
        subst hk2
        obtain ⟨T2x, _, _, _, hch⟩ := hrel.out
        have hbC := blk_keep HBC.out hch (fun h => ofMap_some h HTC0.out.1)
        have HREL := hid hrel.out
        have HBW := hid hbC
        obtain ⟨c0, c1, c2, c3, c4, c5, c6, c7, c8⟩ := cred_at_blk hbC
        simp only [Nat.zero_add] at c0 c1 c2 c3 c4 c5 c6 c7 c8
        clear hrel hch hbC hlt
        have HKIND := hid (isCred_kind HG.out.2.2.2.1)
        rcases HKIND.out with hk | hk | hk | hk
        · obtain ⟨T2, h1, h2, h3, h4, h5, h6, h7, h8, h9⟩ := taken_ls HG.out.1 HG.out.2.1 HG.out.2.2.1 HC1.out HRS.out HREL.out
          have e : takeG S c = bringG S c c.who := by unfold takeG; rw [if_pos hk]
          have hf : credShort c 9223372036854775807 := by
            obtain ⟨h1, h2, h3, h4, h5, h6, h7, h8⟩ := isCred_short HG.out.2.2.2.1
            exact ⟨by omega, by omega, by omega, by omega, by omega, by omega, by omega, by omega⟩
          have hq := ch_bring2 g m3 m4 S c c.who wr h6 (by rw [← e]; exact HG.out.2.2.2.2.2) hf hf.2.2.1
          rw [hk] at hq
          have HQ := hid hq
          have HDONE : Hid (∀ T' w', Gro T wr g m3 m4 S T' w' (bringG S c c.who) → TakePostG T T20 g m3 m4 S cs c w0 (.returned (.tuple #[])) w') := hid (fun T' w' hgr => by
            have hls : LS T2 wr m3 m4 (cs ++ [c]) := ⟨h3, h4, h1, h2.cong (by simp) (linkL_not (by omega)), h5⟩
            obtain ⟨q1, q2⟩ := hls.gro h7 hgr
            refine ⟨rfl, T', T2, by rw [e]; exact hgr.gs, q1, q2, fun b hb => (hgr.ext.new b hb).imp id (Nat.le_trans h9.size), fun b hb => (h8 b hb).imp id (Nat.le_trans HC1.out.size), ?_⟩
            exact (h9.mono (fun _ _ h => .inr h)).trans (hgr.chg.mono (fun _ _ h => .inl h)) (fun _ _ h => h))
          clear h1 h2 h3 h4 h5 h6 h7 h8 h9 e hf hq HREL
          go_wp2_with fail
          refine HQ.out.mono ?_
          rintro e w' ⟨rfl, T', hgr⟩
          have HRES := hid (HDONE.out T' w' hgr)
          clear hgr HQ HDONE c0 c1 c2 c3 c4 c5 c6 c7 c8
          go_wp2
          go_end0
          exact HRES.out
        · have HRES := hid (taken_quiet HG.out.1 HG.out.2.1 HG.out.2.2.1 HC1.out HRS.out (by omega) (by omega) HREL.out)
          clear HREL
          go_wp2
          go_end0
          exact HRES.out
        · obtain ⟨T2, h1, h2, h3, h4, h5, h6, h7, h8, h9⟩ := taken_ls HG.out.1 HG.out.2.1 HG.out.2.2.1 HC1.out HRS.out HREL.out
          have e : takeG S c = S := by unfold takeG; rw [if_neg (by omega)]
          have hsw : ktS.ok c.w2 := by have := (isCred_short HG.out.2.2.2.1).2.2.2.2.2.2.2; show c.w2.length ≤ _; omega
          have hent := h2.update h4 (by intro a e; cases e) (by intro a b e; injection e) h5 (mt := 85) Try.underlying85 (by have := HG.out.2.2.2.2.1; omega) (a := c.w2) hsw (by have q1 := linkL_len cs c.w2; have q2 := HG.out.2.2.2.2.1; omega) c
          obtain ⟨u, q1, q2, q3, q4, q5⟩ := hent
          obtain ⟨P, hP⟩ : ∃ P, P = OfMap T2 LTag.linkM LTag.linkR := ⟨_, rfl⟩
          have hPlt : ∀ x, P x → T2 x ≠ none := fun x h => by rw [hP] at h; exact ofMap_some h
          have HNEW : Hid (∀ x, wr.heap.size ≤ x → ¬ P x) := hid (fun x hx h => by have := h5 x (hPlt x h); omega)
          have HDONE : Hid (∀ w5, EntC3 ktS T2 .linkM .linkR wr m4 (cs.length + 1) (addL (linkL cs) c.w2 c) w5 → TakePostG T T20 g m3 m4 S cs c w0 (.returned (.tuple #[])) w5) := hid (fun w5 hE => by
            obtain ⟨T3, e1, e2, e3⟩ := hE
            have hall : Chg (fun b => T2 b ≠ none) wr w5 := e3.mono (fun i _ h => ofMap_some h)
            have hr := HG.out.2.2.2.1
            refine ⟨rfl, T, T3, by rw [e]; exact h6.keep hall (fun b hb h => hb (h7 b h)), ⟨by rw [e2.old _ (by rw [h3]; simp)]; exact h3, by rw [e2.old _ (by rw [h4]; simp)]; exact h4, (h1.keep (fun h => ?_) e3 (fun b a hb h => ?_)).ext e2.old, e1.cong (by simp) (fun x => ?_), e2.lo⟩, fun b hb => ?_, fun b hb => .inl hb, fun b hb => ?_, ?_⟩
            · rcases h with h | ⟨a, h⟩ <;> rw [h3] at h <;> cases h
            · rcases h with h | ⟨a, h⟩ <;> rw [hb] at h <;> cases h
            · unfold addL
              rw [linkL_snoc]
              by_cases ex : x = c.w2
              · rw [if_pos ex, if_pos ⟨hr, hk, ex.symm⟩, ex]
              · rw [if_neg ex, if_neg (fun h => ex h.2.2.symm), List.append_nil]
            · rcases e2.new b hb with h | h
              · exact h7 b h
              · cases ee : T b with
                | none => rfl
                | some x => have q := h6.lo b (by rw [ee]; simp); omega
            · rcases e2.new b hb with h | h
              · exact (h8 b h).imp id (Nat.le_trans HC1.out.size)
              · exact .inr (Nat.le_trans h9.size h)
            · refine (h9.mono (fun _ _ h => .inr h)).trans hall (fun i hi h => ?_)
              rcases h8 i h with h | h
              · exact .inr h
              · have := HC1.out.size; omega)
          have hgT : T g = some .top := by obtain ⟨⟨_, _, _, _, hp⟩, _⟩ := HG.out.1; exact hp.tg
          have hgn : T2 g = none := by
            cases e : T2 g with
            | none => rfl
            | some x => have := h7 g (by rw [e]; simp); rw [hgT] at this; cases this
          have hCn : T2 C = none := by
            cases e : T2 C with
            | none => rfl
            | some x =>
              rcases h8 C (by rw [e]; simp) with h | h
              · exact absurd HTC0.out.1 h
              · have q1 := lt_blk HBC.out; omega
          have HB := hid (show BaseU g C c m4 wr from ⟨h6.maps.2, HBW.out⟩)
          have hu2 : ∀ x, T2 x = none → ¬ u.ownBlock = some x := fun x hx e => by have := q2 x e; rw [hx] at this; cases this
          have HN : Hid (¬ u.ownBlock = some g ∧ ¬ u.ownBlock = some C) := hid ⟨hu2 g hgn, hu2 C hCn⟩
          rw [← hP] at q4 q5
          have HE0 := hid q3
          have HE1 := hid q4
          have HE2 := hid q5
          have HK := hid hk
          clear h1 h2 h3 h4 h5 h6 h7 h8 h9 e hsw q1 q2 q3 q4 q5 hPlt hgT hgn hCn hu2 HREL hP
          go_wp2_with fail
          clear c0 c1 c2 c3 c4 c5 c6 c7 c8 hk
          refine wp_region_stateAD (Chg P) (Duo 15 16 52 (fun w => Chg (fun _ => False) wr w) (RowC1 wr u (linkL cs c.w2 ++ [c])) (EntC3 ktS T2 .linkM .linkR wr m4 (cs.length + 1) (addL (linkL cs) c.w2 c))) (specAtR (kt10 P g C c m4 u)) [37, 38, 39, 40, 41, 42, 43, 44, 45, 46, 47, 48, 49, 50, 51, 52] [0, 3] (by kernel_rfl) (by kernel_rfl) (Duo.start (show (52 : Nat) < 53 by decide) ((Chg.refl _ _).drew)) (fun t v w w' hc h => specAtR_st _ t v w w' hc h) (by rfl) (by kernel_rfl) ?start10 ?obs10 ?fin10
          case start10 =>
            simp only [List.forall_mem_cons]; exact ⟨⟨_, rfl, rfl⟩, ⟨_, rfl, rfl⟩, fun _ h => by cases h⟩
          case obs10 =>
            clear HDONE
            refine ObsAD.cons none (by kernel_rfl) ?_ ?_
            · refine ObAD.plain fun L a w hi he hD hW hk K k => ?_
              obtain ⟨_, e0, rfl⟩ := hk 0 (by decide)
              clear hk
              have hS := hid (fun (v : Value) (w2 : World) (hc : Chg (fun _ => False) w w2) => hW.step (j := 0) (d := (some 37)) v (by decide) hc (fun _ _ h c => h.trans c (fun _ _ h => h)) (fun _ _ _ h c => h.quiet c) (fun _ _ h c => h.quiet c))
              clear hi he hW hD
              go_simp
              exact k _ _ (Chg.refl _ _) (hS.out _ _ (Chg.refl _ _)) rfl
            refine ObsAD.cons none (by kernel_rfl) ?_ ?_
            · refine ObAD.plain fun L a w hi he hD hW hk K k => ?_
              obtain ⟨_, e37, rfl⟩ := hk 37 (by decide)
              clear hk
              have hS := hid (fun (v : Value) (w2 : World) (hc : Chg (fun _ => False) w w2) => hW.step (j := 1) (d := (some 38)) v (by decide) hc (fun _ _ h c => h.trans c (fun _ _ h => h)) (fun _ _ _ h c => h.quiet c) (fun _ _ h c => h.quiet c))
              clear hi he hW hD
              go_simp
              exact k _ _ (Chg.refl _ _) (hS.out _ _ (Chg.refl _ _)) rfl
            refine ObsAD.cons none (by kernel_rfl) ?_ ?_
            · refine ObAD.plain fun L a w hi he hD hW hk K k => ?_
              obtain ⟨_, e38, rfl⟩ := hk 38 (by decide)
              clear hk
              have hS := hid (fun (v : Value) (w2 : World) (hc : Chg (fun _ => False) w w2) => hW.step (j := 2) (d := (some 39)) v (by decide) hc (fun _ _ h c => h.trans c (fun _ _ h => h)) (fun _ _ _ h c => h.quiet c) (fun _ _ h c => h.quiet c))
              clear hi he hW hD
              go_simp
              exact k _ _ (Chg.refl _ _) (hS.out _ _ (Chg.refl _ _)) rfl
            refine ObsAD.cons none (by kernel_rfl) ?_ ?_
            · refine ObAD.plain fun L a w hi he hD hW hk K k => ?_
              obtain ⟨_, e39, rfl⟩ := hk 39 (by decide)
              clear hk
              have hB := hW.early (by decide) hi (B := BaseU g C c m4) (fun w h => HB.out.keep h id id) (fun x w h => HB.out.keep h.2.1 HN.out.1 HN.out.2)
              have zz := hB.1
              have hS := hid (fun (v : Value) (w2 : World) (hc : Chg (fun _ => False) w w2) => hW.step (j := 3) (d := (some 40)) v (by decide) hc (fun _ _ h c => h.trans c (fun _ _ h => h)) (fun _ _ _ h c => h.quiet c) (fun _ _ h c => h.quiet c))
              clear hi he hW hD
              go_simp
              exact k _ _ (Chg.refl _ _) (hS.out _ _ (Chg.refl _ _)) rfl
            refine ObsAD.cons none (by kernel_rfl) ?_ ?_
            · refine ObAD.plain fun L a w hi he hD hW hk K k => ?_
              obtain ⟨_, e3, rfl⟩ := hk 3 (by decide)
              clear hk
              have hS := hid (fun (v : Value) (w2 : World) (hc : Chg (fun _ => False) w w2) => hW.step (j := 4) (d := (some 41)) v (by decide) hc (fun _ _ h c => h.trans c (fun _ _ h => h)) (fun _ _ _ h c => h.quiet c) (fun _ _ h c => h.quiet c))
              clear hi he hW hD
              go_simp
              exact k _ _ (Chg.refl _ _) (hS.out _ _ (Chg.refl _ _)) rfl
            refine ObsAD.cons none (by kernel_rfl) ?_ ?_
            · refine ObAD.plain fun L a w hi he hD hW hk K k => ?_
              obtain ⟨_, e41, rfl⟩ := hk 41 (by decide)
              clear hk
              have hB := hW.early (by decide) hi (B := BaseU g C c m4) (fun w h => HB.out.keep h id id) (fun x w h => HB.out.keep h.2.1 HN.out.1 HN.out.2)
              have z8 := hB.word
              have hS := hid (fun (v : Value) (w2 : World) (hc : Chg (fun _ => False) w w2) => hW.step (j := 5) (d := (some 42)) v (by decide) hc (fun _ _ h c => h.trans c (fun _ _ h => h)) (fun _ _ _ h c => h.quiet c) (fun _ _ h c => h.quiet c))
              clear hi he hW hD
              go_simp
              exact k _ _ (Chg.refl _ _) (hS.out _ _ (Chg.refl _ _)) rfl
            refine ObsAD.cons none (by kernel_rfl) ?_ ?_
            · refine ObAD.plain fun L a w hi he hD hW hk K k => ?_
              obtain ⟨_, e0, rfl⟩ := hk 0 (by decide)
              clear hk
              have hS := hid (fun (v : Value) (w2 : World) (hc : Chg (fun _ => False) w w2) => hW.step (j := 6) (d := (some 43)) v (by decide) hc (fun _ _ h c => h.trans c (fun _ _ h => h)) (fun _ _ _ h c => h.quiet c) (fun _ _ h c => h.quiet c))
              clear hi he hW hD
              go_simp
              exact k _ _ (Chg.refl _ _) (hS.out _ _ (Chg.refl _ _)) rfl
            refine ObsAD.cons none (by kernel_rfl) ?_ ?_
            · refine ObAD.plain fun L a w hi he hD hW hk K k => ?_
              obtain ⟨_, e43, rfl⟩ := hk 43 (by decide)
              clear hk
              have hS := hid (fun (v : Value) (w2 : World) (hc : Chg (fun _ => False) w w2) => hW.step (j := 7) (d := (some 44)) v (by decide) hc (fun _ _ h c => h.trans c (fun _ _ h => h)) (fun _ _ _ h c => h.quiet c) (fun _ _ h c => h.quiet c))
              clear hi he hW hD
              go_simp
              exact k _ _ (Chg.refl _ _) (hS.out _ _ (Chg.refl _ _)) rfl
            refine ObsAD.cons none (by kernel_rfl) ?_ ?_
            · refine ObAD.plain fun L a w hi he hD hW hk K k => ?_
              obtain ⟨_, e44, rfl⟩ := hk 44 (by decide)
              clear hk
              have hS := hid (fun (v : Value) (w2 : World) (hc : Chg (fun _ => False) w w2) => hW.step (j := 8) (d := (some 45)) v (by decide) hc (fun _ _ h c => h.trans c (fun _ _ h => h)) (fun _ _ _ h c => h.quiet c) (fun _ _ h c => h.quiet c))
              clear hi he hW hD
              go_simp
              exact k _ _ (Chg.refl _ _) (hS.out _ _ (Chg.refl _ _)) rfl
            refine ObsAD.cons none (by kernel_rfl) ?_ ?_
            · refine ObAD.plain fun L a w hi he hD hW hk K k => ?_
              obtain ⟨_, e45, rfl⟩ := hk 45 (by decide)
              clear hk
              have hB := hW.early (by decide) hi (B := BaseU g C c m4) (fun w h => HB.out.keep h id id) (fun x w h => HB.out.keep h.2.1 HN.out.1 HN.out.2)
              have zz := hB.1
              have hS := hid (fun (v : Value) (w2 : World) (hc : Chg (fun _ => False) w w2) => hW.step (j := 9) (d := (some 46)) v (by decide) hc (fun _ _ h c => h.trans c (fun _ _ h => h)) (fun _ _ _ h c => h.quiet c) (fun _ _ h c => h.quiet c))
              clear hi he hW hD
              go_simp
              exact k _ _ (Chg.refl _ _) (hS.out _ _ (Chg.refl _ _)) rfl
            refine ObsAD.cons none (by kernel_rfl) ?_ ?_
            · refine ObAD.plain fun L a w hi he hD hW hk K k => ?_
              obtain ⟨_, e3, rfl⟩ := hk 3 (by decide)
              clear hk
              have hS := hid (fun (v : Value) (w2 : World) (hc : Chg (fun _ => False) w w2) => hW.step (j := 10) (d := (some 47)) v (by decide) hc (fun _ _ h c => h.trans c (fun _ _ h => h)) (fun _ _ _ h c => h.quiet c) (fun _ _ h c => h.quiet c))
              clear hi he hW hD
              go_simp
              exact k _ _ (Chg.refl _ _) (hS.out _ _ (Chg.refl _ _)) rfl
            refine ObsAD.cons none (by kernel_rfl) ?_ ?_
            · refine ObAD.plain fun L a w hi he hD hW hk K k => ?_
              obtain ⟨_, e47, rfl⟩ := hk 47 (by decide)
              clear hk
              have hB := hW.early (by decide) hi (B := BaseU g C c m4) (fun w h => HB.out.keep h id id) (fun x w h => HB.out.keep h.2.1 HN.out.1 HN.out.2)
              have z8 := hB.word
              have hS := hid (fun (v : Value) (w2 : World) (hc : Chg (fun _ => False) w w2) => hW.step (j := 11) (d := (some 48)) v (by decide) hc (fun _ _ h c => h.trans c (fun _ _ h => h)) (fun _ _ _ h c => h.quiet c) (fun _ _ h c => h.quiet c))
              clear hi he hW hD
              go_simp
              exact k _ _ (Chg.refl _ _) (hS.out _ _ (Chg.refl _ _)) rfl
            refine ObsAD.cons none (by kernel_rfl) ?_ ?_
            · refine ObAD.plain fun L a w hi he hD hW hk K k => ?_
              obtain ⟨_, e46, rfl⟩ := hk 46 (by decide)
              obtain ⟨_, e48, rfl⟩ := hk 48 (by decide)
              clear hk
              have hq := hW.early (by decide) hi (B := fun w => (Instr.lookup 85 (.map (some m4)) (.string ⟨c.w2.toArray⟩) false).run Try.prog w = .ok u w) (fun w h => HE0.out w h.none9) (fun x w h => HE0.out w h.2.1)
              have hS := hid (fun (v : Value) (w2 : World) (hc : Chg (fun _ => False) w w2) => hW.step (j := 12) (d := (some 49)) v (by decide) hc (fun _ _ h c => h.trans c (fun _ _ h => h)) (fun _ _ _ h c => h.quiet c) (fun _ _ h c => h.quiet c))
              clear hi he hW hD
              go_simp
              exact k _ _ (Chg.refl _ _) (hS.out _ _ (Chg.refl _ _)) rfl
            refine ObsAD.cons none (by kernel_rfl) ?_ ?_
            · refine ObAD.plain fun L a w hi he hD hW hk K k => ?_
              obtain ⟨_, e3, rfl⟩ := hk 3 (by decide)
              clear hk
              have hB := hW.early (by decide) hi (B := BaseU g C c m4) (fun w h => HB.out.keep h id id) (fun x w h => HB.out.keep h.2.1 HN.out.1 HN.out.2)
              obtain ⟨z0, z1, z2, z3, z4, z5, z6, z7, z8⟩ := hB.cred HK.out
              have hS := hid (fun (v : Value) (w2 : World) (hc : Chg (fun _ => False) w w2) => hW.step (j := 13) (d := (some 50)) v (by decide) hc (fun _ _ h c => h.trans c (fun _ _ h => h)) (fun _ _ _ h c => h.quiet c) (fun _ _ h c => h.quiet c))
              clear hi he hW hD
              go_simp
              exact k _ _ (Chg.refl _ _) (hS.out _ _ (Chg.refl _ _)) rfl
            refine ObsAD.cons none (by kernel_rfl) ?_ ?_
            · refine ObAD.plain fun L a w hi he hD hW hk K k => ?_
              obtain ⟨_, e50, rfl⟩ := hk 50 (by decide)
              clear hk
              have hsz := hW.early (by decide) hi (B := fun w => wr.heap.size ≤ w.heap.size) (fun w h => h.size) (fun x w h => h.2.1.size)
              have hS := hid (fun (v : Value) (w2 : World) (hc : Chg (fun _ => False) w w2) => hW.step (j := 14) (d := (some 51)) v (by decide) hc (fun _ _ h c => h.trans c (fun _ _ h => h)) (fun _ _ _ h c => h.quiet c) (fun _ _ h c => h.quiet c))
              clear hi he hW hD
              go_simp
              exact k _ _ (Chg.none9 ((Chg.refl _ _).alloc _)) (hS.out _ _ ((Chg.refl _ _).alloc _)) ⟨_, rfl, cred_new3 HK.out _, HNEW.out _ hsz⟩
            refine ObsAD.cons none (by kernel_rfl) ?_ ?_
            · refine ObAD.plain fun L a w hi he hD hW hk K k => ?_
              obtain ⟨_, e49, rfl⟩ := hk 49 (by decide)
              obtain ⟨_, e51, f51⟩ := hk 51 (by decide)
              clear hk
              obtain ⟨b, rfl, hb, hb2⟩ := f51
              have h0 := hW.p0 hi
              obtain ⟨v2, w5, hr, hF, hS⟩ := HE1.out w b 22 h0 hb
              clear he hD
              refine ob_appendK 22 rfl e49 e51 hr ?_
              exact k _ _ hS (hW.first (by decide) hi hF) trivial
            refine ObsAD.cons none (by kernel_rfl) ?_ ?_
            · refine ObAD.plain fun L a w hi he hD hW hk K k => ?_
              obtain ⟨_, e40, rfl⟩ := hk 40 (by decide)
              obtain ⟨_, e42, rfl⟩ := hk 42 (by decide)
              clear hk
              have hall := behind_all (n := 16) hD rfl he (by kernel_rfl)
              obtain ⟨v2, e52, hF⟩ := hW.p1 (hall 15 (by decide)) hi
              obtain ⟨ao2, cap2, hv2⟩ := hF.1.shape
              obtain ⟨q, hq⟩ : ∃ q : Nat, q = (linkL cs c.w2 ++ [c]).length := ⟨_, rfl⟩
              rw [← hq] at hv2
              clear hq
              subst hv2
              obtain ⟨w5, hr0, hF2, hS⟩ := HE2.out w _ hF
              have hr : (Instr.mapUpdate 85 (.map (some m4)) (.string ⟨c.w2.toArray⟩) (.slice ao2 q cap2)).run Try.prog w = .ok () w5 := hr0
              clear hr0
              have HS := hid (And.intro hW (And.intro hall (And.intro hF2 hS)))
              clear hF hF2 hS hall he hD hW hi
              go_simp
              exact k undef _ HS.out.2.2.2 (HS.out.1.second (by decide) HS.out.2.1 HS.out.2.2.1) trivial
            exact ObsAD.nil
          case fin10 =>
            intro L vals w5 hL hWL hv
            have HEND := hid (hWL.p2 (hL 16 (by decide)))
            clear hL hWL hv HE0 HE1 HE2
            simp only [putAll, List.setIfInBounds_toArray, List.set_cons_zero, List.set_cons_succ]
            have HRES := hid (HDONE.out w5 HEND.out)
            clear HEND HDONE HB HN HNEW
            go_wp2
            go_end0
            exact HRES.out
        · have HRES := hid (taken_quiet HG.out.1 HG.out.2.1 HG.out.2.2.1 HC1.out HRS.out (by omega) (by omega) HREL.out)
          clear HREL
          go_wp2
          go_end0
          exact HRES.out
  case inr =>
    go_loopw [10] (fun i wr => ∃ k : Nat, k ≤ rs.length ∧ i = .int .i64 k ∧ Hid (∃ T2, CM ktR T2 .leanR wr m3 (cs.length * 2 + k) (fun x => leanL cs x ++ ((rs.take k).filter (fun y => decide (y = x))).map (fun _ => c)) ∧ CM ktS T2 .linkR wr m4 cs.length (linkL cs) ∧ ExtL T20 T2 w1 wr ∧ Chg (OfMap T20 .leanM .leanR) w1 wr)) (fun i _ => rs.length - (intOf i).toNat)
    case atStart => exact ⟨0, Nat.zero_le _, rfl, hid ⟨T20, (HG.out.2.1.lean.keep id HC1.out (fun _ _ _ => id)).cong (by omega) (fun a => by simp), HG.out.2.1.link.keep id HC1.out (fun _ _ _ => id), ExtL.refl (fun b hb => Nat.lt_of_lt_of_le (HG.out.2.1.lo b hb) HC1.out.size) (Nat.le_refl _), Chg.refl _ _⟩⟩
    case round =>
      obtain ⟨kk, hkk, rfl, hrel⟩ := hrel
      by_cases hlt : kk < rs.length
      · obtain ⟨_, b, off, hao, hR, hbA⟩ := HROW.out kk hlt
        obtain ⟨T2, h1, h2, h3, h4⟩ := hrel.out
        have hTb : ¬ OfMap T20 .leanM .leanR b := fun h => by
          have h1 := HG.out.2.1.lo b (ofMap_some h)
          have h2 := HSZA.out
          omega
        obtain ⟨a0, a1, hrs0⟩ := hR.keep h4 hTb
        have htk : rs.take (kk + 1) = rs.take kk ++ [rs[kk]] := List.take_succ_eq_append_getElem hlt
        obtain ⟨r, hr⟩ : ∃ r, r = rs[kk] := ⟨_, rfl⟩
        simp only [← hr] at a0 a1 hrs0 htk
        obtain ⟨L3, hL3⟩ : ∃ L3 : RoleB → List CredB, L3 = (fun x => leanL cs x ++ ((rs.take kk).filter (fun y => decide (y = x))).map (fun _ => c)) := ⟨_, rfl⟩
        rw [← hL3] at h1
        obtain ⟨n3, hn3⟩ : ∃ n3, n3 = cs.length * 2 + kk := ⟨_, rfl⟩
        rw [← hn3] at h1
        have hwa : Chg (fun _ => False) wr (wr.alloc (.cells #[.string ⟨r.1.toArray⟩, .string ⟨r.2.toArray⟩] 24)) := (Chg.refl _ wr).alloc _
        have hbR : (wr.alloc (.cells #[.string ⟨r.1.toArray⟩, .string ⟨r.2.toArray⟩] 24)).heap[wr.heap.size]? = some (.cells #[.string ⟨r.1.toArray⟩, .string ⟨r.2.toArray⟩] 24 (0, 0)) := heap_alloc_new wr _
        have htm : T2 m3 = some .leanM := by rw [h3.old _ (by rw [HG.out.2.1.t3]; simp)]; exact HG.out.2.1.t3
        have hlo2 : ∀ b, T2 b ≠ none → b < (wr.alloc (.cells #[.string ⟨r.1.toArray⟩, .string ⟨r.2.toArray⟩] 24)).heap.size := fun b hb => Nat.lt_of_lt_of_le (h3.lo b hb) hwa.size
        have hfil := List.length_filter_le (fun y => decide (y = r)) (rs.take kk)
        have hlen3 : (L3 r).length ≤ 33554432 := by
          rw [hL3]
          simp only [List.length_append, List.length_map]
          have q1 := leanL_len cs r
          have q2 := HG.out.2.2.2.2.1
          rw [List.length_take] at hfil
          omega
        have hent := (h1.keep id hwa (fun _ _ _ => id)).entry htm (by intro a e; cases e) (by intro a b e; injection e) hlo2 mRoleLaw (mt := 84) Try.underlying84 (by have := HG.out.2.2.2.2.1; omega) (a := r) hrs0 hlen3 c
        obtain ⟨u, st, o1, q1, q2, q3, q4, q5⟩ := hent
        obtain ⟨P, hP⟩ : ∃ P, P = OfMap T2 LTag.leanM LTag.leanR := ⟨_, rfl⟩
        have hPlt : ∀ x, P x → T2 x ≠ none := fun x h => by rw [hP] at h; exact ofMap_some h
        have HNEW : Hid (∀ x, (wr.alloc (.cells #[.string ⟨r.1.toArray⟩, .string ⟨r.2.toArray⟩] 24)).heap.size ≤ x → ¬ P x) := hid (fun x hx h => by have := hlo2 x (hPlt x h); omega)
        have HNEXT : Hid (∀ w5, EntC3 ktR T2 .leanM .leanR (wr.alloc (.cells #[.string ⟨r.1.toArray⟩, .string ⟨r.2.toArray⟩] 24)) m3 (n3 + 1) (addL L3 r c) w5 → Hid (∃ T2, CM ktR T2 .leanR w5 m3 (cs.length * 2 + (kk + 1)) (fun x => leanL cs x ++ ((rs.take (kk + 1)).filter (fun y => decide (y = x))).map (fun _ => c)) ∧ CM ktS T2 .linkR w5 m4 cs.length (linkL cs) ∧ ExtL T20 T2 w1 w5 ∧ Chg (OfMap T20 .leanM .leanR) w1 w5)) := hid (fun w5 hE => hid (by
          obtain ⟨T3, e1, e2, e3⟩ := hE
          refine ⟨T3, e1.cong (by omega) (fun x => ?_), ?_, h3.trans (e2.down hwa.size) h4.size, ?_⟩
          · unfold addL
            rw [hL3, htk, List.filter_append]
            by_cases e : x = r
            · subst e; simp
            · rw [if_neg e]
              have e' : ¬ r = x := fun h => e h.symm
              simp [e']
          · refine ((h2.keep id hwa (fun _ _ _ => id)).keep (fun h => ?_) e3 (fun b a hb h => ?_)).ext e2.old
            · have ht4 : T2 m4 = some .linkM := by rw [h3.old _ (by rw [HG.out.2.1.t4]; simp)]; exact HG.out.2.1.t4
              rcases h with h | ⟨a, h⟩ <;> rw [ht4] at h <;> cases h
            · rcases h with h | ⟨a, h⟩ <;> rw [hb] at h <;> cases h
          · refine h4.trans ((hwa.mono (fun _ _ h => h.elim)).trans e3 (fun _ _ h => h)) (fun i hi h => ?_)
            rcases h with h | ⟨a, h⟩
            · rcases h3.new i (by rw [h]; simp) with hh | hh
              · exact .inl (by rw [← h3.old i hh]; exact h)
              · omega
            · rcases h3.new i (by rw [h]; simp) with hh | hh
              · exact .inr ⟨a, by rw [← h3.old i hh]; exact h⟩
              · omega))
        have hgT : T g = some .top := by obtain ⟨⟨_, _, _, _, hp⟩, _⟩ := HG.out.1; exact hp.tg
        have hnT : ∀ x, T2 x ≠ none → T20 x ≠ none ∨ w1.heap.size ≤ x := h3.new
        have hgn : T2 g = none := by
          cases e : T2 g with
          | none => rfl
          | some x =>
            rcases hnT g (by rw [e]; simp) with h | h
            · have := HG.out.2.2.1 g h; rw [hgT] at this; cases this
            · have q1 := HG.out.1.lo g (by rw [hgT]; simp); have q2 := HC1.out.size; omega
        have hCn : T2 C = none := by
          cases e : T2 C with
          | none => rfl
          | some x =>
            rcases hnT C (by rw [e]; simp) with h | h
            · exact absurd HTC0.out.1 h
            · have q1 := lt_blk HBC.out; omega
        have hRn : T2 wr.heap.size = none := by
          cases e : T2 wr.heap.size with
          | none => rfl
          | some x => have := h3.lo _ (by rw [e]; simp); omega
        have hb0 : BaseT g C wr.heap.size c r m3 (wr.alloc (.cells #[.string ⟨r.1.toArray⟩, .string ⟨r.2.toArray⟩] 24)) := ⟨hwa.cell (h4.cell (HC1.out.cell HG.out.1.maps.1 id) (fun h => ofMap_some h (by
            cases e : T20 g with
            | none => rfl
            | some x => have := HG.out.2.2.1 g (by rw [e]; simp); rw [hgT] at this; cases this))) id, blk_keep (blk_keep HBC.out h4 (fun h => ofMap_some h HTC0.out.1)) hwa id, hbR⟩
        have HB := hid hb0
        have hu2 : ∀ x, T2 x = none → ¬ u.ownBlock = some x := fun x hx e => by have := q2 x e; rw [hx] at this; cases this
        have h32 : ∀ x, T2 x = none → x ≠ m3 := fun x hx e => by rw [e, htm] at hx; cases hx
        have HN : Hid (g ≠ m3 ∧ C ≠ m3 ∧ wr.heap.size ≠ m3 ∧ ¬ (g = m3 ∨ u.ownBlock = some g) ∧ ¬ (C = m3 ∨ u.ownBlock = some C) ∧ ¬ (wr.heap.size = m3 ∨ u.ownBlock = some wr.heap.size)) := hid ⟨h32 g hgn, h32 C hCn, h32 _ hRn, fun e => e.elim (h32 g hgn) (hu2 g hgn), fun e => e.elim (h32 C hCn) (hu2 C hCn), fun e => e.elim (h32 _ hRn) (hu2 _ hRn)⟩
        rw [← hP] at q3 q4 q5
        have HE1 := hid q3
        have HE2 := hid q4
        have HE3 := hid q5
        have x0 := cell_blk hbR 0
        have x1 := cell_blk hbR 1
        simp only [List.getElem?_toArray, List.getElem?_cons_zero, List.getElem?_cons_succ] at x0 x1
        subst hao
        clear h1 h2 h3 h4 hTb htk hr hL3 hn3 hwa hbR htm hlo2 hfil hlen3 q1 q2 q3 q4 q5 hPlt hgT hnT hgn hCn hRn hb0 hu2 h32 hrel hbA hrs0 hR hP
        go_wp2_with fail
        generalize hw2 : (wr.alloc (.cells #[.string ⟨r.1.toArray⟩, .string ⟨r.2.toArray⟩] 24)) = w2 at *
        generalize hRb : wr.heap.size = Rb at *
        clear a0 a1 x0 x1 hw2 hRb
        refine wp_region_stateAD (Chg P) (Trio 7 9 11 23 (fun w => Chg (fun _ => False) w2 w) (EntF1 w2 m3 o1) (EntC2 w2 m3 o1 u (L3 r ++ [c])) (EntC3 ktR T2 .leanM .leanR w2 m3 (n3 + 1) (addL L3 r c))) (specAtR (kt4 P g C Rb c r m3 u st)) [14, 15, 16, 17, 18, 20, 21, 22, 19, 23, 24] [0, 3, 5] (by kernel_rfl) (by kernel_rfl) (Trio.start (show (23 : Nat) < 53 by decide) ((Chg.refl _ _).drew)) (fun t v w w' hc h => specAtR_st _ t v w w' hc h) (by rfl) (by kernel_rfl) ?start4 ?obs4 ?fin4
        case start4 =>
          simp only [List.forall_mem_cons]; exact ⟨⟨_, rfl, rfl⟩, ⟨_, rfl, rfl⟩, ⟨_, rfl, rfl⟩, fun _ h => by cases h⟩
        case obs4 =>
          clear HNEXT
          refine ObsAD.cons none (by kernel_rfl) ?_ ?_
          · refine ObAD.plain fun L a w hi he hD hW hk K k => ?_
            obtain ⟨_, e0, rfl⟩ := hk 0 (by decide)
            clear hk
            have hS := hid (fun (v : Value) (w2 : World) (hc : Chg (fun _ => False) w w2) => hW.step (j := 0) (d := (some 14)) v (by decide) hc (fun _ _ h c => h.trans c (fun _ _ h => h)) (fun _ _ h c => ⟨h.1.trans c (fun _ _ h => h.elim), blk_keep h.2 c id⟩) (fun _ _ _ h c => h.quiet c) (fun _ _ h c => h.quiet c))
            clear hi he hW hD
            go_simp
            exact k _ _ (Chg.refl _ _) (hS.out _ _ (Chg.refl _ _)) rfl
          refine ObsAD.cons none (by kernel_rfl) ?_ ?_
          · refine ObAD.plain fun L a w hi he hD hW hk K k => ?_
            obtain ⟨_, e14, rfl⟩ := hk 14 (by decide)
            clear hk
            have hS := hid (fun (v : Value) (w2 : World) (hc : Chg (fun _ => False) w w2) => hW.step (j := 1) (d := (some 15)) v (by decide) hc (fun _ _ h c => h.trans c (fun _ _ h => h)) (fun _ _ h c => ⟨h.1.trans c (fun _ _ h => h.elim), blk_keep h.2 c id⟩) (fun _ _ _ h c => h.quiet c) (fun _ _ h c => h.quiet c))
            clear hi he hW hD
            go_simp
            exact k _ _ (Chg.refl _ _) (hS.out _ _ (Chg.refl _ _)) rfl
          refine ObsAD.cons none (by kernel_rfl) ?_ ?_
          · refine ObAD.plain fun L a w hi he hD hW hk K k => ?_
            obtain ⟨_, e15, rfl⟩ := hk 15 (by decide)
            clear hk
            have hS := hid (fun (v : Value) (w2 : World) (hc : Chg (fun _ => False) w w2) => hW.step (j := 2) (d := (some 16)) v (by decide) hc (fun _ _ h c => h.trans c (fun _ _ h => h)) (fun _ _ h c => ⟨h.1.trans c (fun _ _ h => h.elim), blk_keep h.2 c id⟩) (fun _ _ _ h c => h.quiet c) (fun _ _ h c => h.quiet c))
            clear hi he hW hD
            go_simp
            exact k _ _ (Chg.refl _ _) (hS.out _ _ (Chg.refl _ _)) rfl
          refine ObsAD.cons none (by kernel_rfl) ?_ ?_
          · refine ObAD.plain fun L a w hi he hD hW hk K k => ?_
            obtain ⟨_, e16, rfl⟩ := hk 16 (by decide)
            clear hk
            have hB := hW.early (by decide) hi (B := BaseT g C Rb c r m3) (fun w h => HB.out.keep h id id id) (fun w h => HB.out.keep h.1 HN.out.1 HN.out.2.1 HN.out.2.2.1) (fun x w h => HB.out.keep h.2.2.1 HN.out.2.2.2.1 HN.out.2.2.2.2.1 HN.out.2.2.2.2.2)
            have zz := hB.1
            have hS := hid (fun (v : Value) (w2 : World) (hc : Chg (fun _ => False) w w2) => hW.step (j := 3) (d := (some 17)) v (by decide) hc (fun _ _ h c => h.trans c (fun _ _ h => h)) (fun _ _ h c => ⟨h.1.trans c (fun _ _ h => h.elim), blk_keep h.2 c id⟩) (fun _ _ _ h c => h.quiet c) (fun _ _ h c => h.quiet c))
            clear hi he hW hD
            go_simp
            exact k _ _ (Chg.refl _ _) (hS.out _ _ (Chg.refl _ _)) rfl
          refine ObsAD.cons none (by kernel_rfl) ?_ ?_
          · refine ObAD.plain fun L a w hi he hD hW hk K k => ?_
            obtain ⟨_, e5, rfl⟩ := hk 5 (by decide)
            clear hk
            have hB := hW.early (by decide) hi (B := BaseT g C Rb c r m3) (fun w h => HB.out.keep h id id id) (fun w h => HB.out.keep h.1 HN.out.1 HN.out.2.1 HN.out.2.2.1) (fun x w h => HB.out.keep h.2.2.1 HN.out.2.2.2.1 HN.out.2.2.2.2.1 HN.out.2.2.2.2.2)
            obtain ⟨z0, z1⟩ := hB.role
            have hS := hid (fun (v : Value) (w2 : World) (hc : Chg (fun _ => False) w w2) => hW.step (j := 4) (d := (some 18)) v (by decide) hc (fun _ _ h c => h.trans c (fun _ _ h => h)) (fun _ _ h c => ⟨h.1.trans c (fun _ _ h => h.elim), blk_keep h.2 c id⟩) (fun _ _ _ h c => h.quiet c) (fun _ _ h c => h.quiet c))
            clear hi he hW hD
            go_simp
            exact k _ _ (Chg.refl _ _) (hS.out _ _ (Chg.refl _ _)) rfl
          refine ObsAD.cons none (by kernel_rfl) ?_ ?_
          · refine ObAD.plain fun L a w hi he hD hW hk K k => ?_
            obtain ⟨_, e3, rfl⟩ := hk 3 (by decide)
            clear hk
            have hB := hW.early (by decide) hi (B := BaseT g C Rb c r m3) (fun w h => HB.out.keep h id id id) (fun w h => HB.out.keep h.1 HN.out.1 HN.out.2.1 HN.out.2.2.1) (fun x w h => HB.out.keep h.2.2.1 HN.out.2.2.2.1 HN.out.2.2.2.2.1 HN.out.2.2.2.2.2)
            obtain ⟨z0, z1, z2, z3, z4, z5, z6, z7, z8⟩ := hB.cred
            have hS := hid (fun (v : Value) (w2 : World) (hc : Chg (fun _ => False) w w2) => hW.step (j := 5) (d := (some 20)) v (by decide) hc (fun _ _ h c => h.trans c (fun _ _ h => h)) (fun _ _ h c => ⟨h.1.trans c (fun _ _ h => h.elim), blk_keep h.2 c id⟩) (fun _ _ _ h c => h.quiet c) (fun _ _ h c => h.quiet c))
            clear hi he hW hD
            go_simp
            exact k _ _ (Chg.refl _ _) (hS.out _ _ (Chg.refl _ _)) rfl
          refine ObsAD.cons none (by kernel_rfl) ?_ ?_
          · refine ObAD.plain fun L a w hi he hD hW hk K k => ?_
            obtain ⟨_, e20, rfl⟩ := hk 20 (by decide)
            clear hk
            have hsz := hW.early (by decide) hi (B := fun w => w2.heap.size ≤ w.heap.size) (fun w h => h.size) (fun w h => h.1.size) (fun x w h => h.2.2.1.size)
            have hS := hid (fun (v : Value) (w2 : World) (hc : Chg (fun _ => False) w w2) => hW.step (j := 6) (d := (some 21)) v (by decide) hc (fun _ _ h c => h.trans c (fun _ _ h => h)) (fun _ _ h c => ⟨h.1.trans c (fun _ _ h => h.elim), blk_keep h.2 c id⟩) (fun _ _ _ h c => h.quiet c) (fun _ _ h c => h.quiet c))
            clear hi he hW hD
            go_simp
            exact k _ _ (Chg.none9 ((Chg.refl _ _).alloc _)) (hS.out _ _ ((Chg.refl _ _).alloc _)) ⟨_, rfl, heap_alloc_new _ _, HNEW.out _ hsz⟩
          refine ObsAD.cons none (by kernel_rfl) ?_ ?_
          · refine ObAD.plain fun L a w hi he hD hW hk K k => ?_
            obtain ⟨_, e17, rfl⟩ := hk 17 (by decide)
            obtain ⟨_, e18, rfl⟩ := hk 18 (by decide)
            clear hk
            obtain ⟨w5, hr0, hF, hS⟩ := HE1.out w (hW.p0 hi)
            have hr : (Instr.mapEntry 84 (.map (some m3)) (.agg #[.string ⟨r.1.toArray⟩, .string ⟨r.2.toArray⟩])).run Try.prog w = .ok (.tuple #[u, goInt st]) w5 := hr0
            clear hr0
            have HS := hid (And.intro (hW.zeroth (d := some 22) (v := .tuple #[u, goInt st]) (by decide) (by decide) hi hF) hS)
            clear hi he hD hW hF hS
            go_simp
            exact k _ _ HS.out.2 HS.out.1 rfl
          refine ObsAD.cons none (by kernel_rfl) ?_ ?_
          · refine ObAD.plain fun L a w hi he hD hW hk K k => ?_
            obtain ⟨_, e22, rfl⟩ := hk 22 (by decide)
            clear hk
            have hS := hid (fun (v : Value) (w2 : World) (hc : Chg (fun _ => False) w w2) => hW.step (j := 8) (d := (some 19)) v (by decide) hc (fun _ _ h c => h.trans c (fun _ _ h => h)) (fun _ _ h c => ⟨h.1.trans c (fun _ _ h => h.elim), blk_keep h.2 c id⟩) (fun _ _ _ h c => h.quiet c) (fun _ _ h c => h.quiet c))
            clear hi he hW hD
            go_simp
            exact k _ _ (Chg.refl _ _) (hS.out _ _ (Chg.refl _ _)) rfl
          refine ObsAD.cons none (by kernel_rfl) ?_ ?_
          · refine ObAD.plain fun L a w hi he hD hW hk K k => ?_
            obtain ⟨_, e19, rfl⟩ := hk 19 (by decide)
            obtain ⟨_, e21, f21⟩ := hk 21 (by decide)
            clear hk
            have hall := behind_all (n := 9) hD rfl he (by kernel_rfl)
            obtain ⟨b, rfl, hb, hb2⟩ := f21
            obtain ⟨v2, w5, hr, hF, hS⟩ := HE2.out w b 22 (hW.p1 (hall 7 (by decide)) hi) hb
            clear he hD
            refine ob_appendK 22 rfl e19 e21 hr ?_
            exact k _ _ hS (hW.first (by decide) (by decide) (hall 7 (by decide)) hi hF) trivial
          refine ObsAD.cons none (by kernel_rfl) ?_ ?_
          · refine ObAD.plain fun L a w hi he hD hW hk K k => ?_
            obtain ⟨_, e22, rfl⟩ := hk 22 (by decide)
            clear hk
            have hS := hid (fun (v : Value) (w2 : World) (hc : Chg (fun _ => False) w w2) => hW.step (j := 10) (d := (some 24)) v (by decide) hc (fun _ _ h c => h.trans c (fun _ _ h => h)) (fun _ _ h c => ⟨h.1.trans c (fun _ _ h => h.elim), blk_keep h.2 c id⟩) (fun _ _ _ h c => h.quiet c) (fun _ _ h c => h.quiet c))
            clear hi he hW hD
            go_simp
            exact k _ _ (Chg.refl _ _) (hS.out _ _ (Chg.refl _ _)) rfl
          refine ObsAD.cons none (by kernel_rfl) ?_ ?_
          · refine ObAD.plain fun L a w hi he hD hW hk K k => ?_
            obtain ⟨_, e17, rfl⟩ := hk 17 (by decide)
            obtain ⟨_, e24, rfl⟩ := hk 24 (by decide)
            clear hk
            have hall := behind_all (n := 11) hD rfl he (by kernel_rfl)
            obtain ⟨v2, e23, hF⟩ := hW.p2 (hall 9 (by decide)) hi
            obtain ⟨ao2, cap2, hv2⟩ := hF.1.shape
            obtain ⟨q, hq⟩ : ∃ q : Nat, q = (L3 r ++ [c]).length := ⟨_, rfl⟩
            rw [← hq] at hv2
            clear hq
            subst hv2
            obtain ⟨w5, hr0, hF2, hS⟩ := HE3.out w _ hF
            have hr : (Instr.entryStore 84 (.map (some m3)) (.int .i64 st) (.slice ao2 q cap2)).run Try.prog w = .ok () w5 := hr0
            clear hr0
            have HS := hid (And.intro hW (And.intro hall (And.intro hF2 hS)))
            clear hF hF2 hS hall he hD hW hi
            go_simp
            exact k undef _ HS.out.2.2.2 (HS.out.1.second (by decide) (by decide) HS.out.2.1 HS.out.2.2.1) trivial
          exact ObsAD.nil
        case fin4 =>
          intro L vals w5 hL hWL hv
          have HEND := hid (hWL.p3 (hL 11 (by decide)))
          clear hL hWL hv HE1 HE2 HE3
          simp only [putAll, List.setIfInBounds_toArray, List.set_cons_zero, List.set_cons_succ]
          have HN2 := hid (HNEXT.out w5 HEND.out)
          clear HEND HNEXT HB HN HNEW
          go_wp2
          go_roundw
          case rel => exact ⟨kk + 1, by omega, by go_num, HN2.out⟩
          case measure => simp [intOf]; omega
      · have hk2 : kk = rs.length := by omega
        subst hk2
        obtain ⟨T2x, _, _, _, hch⟩ := hrel.out
        have hbC := blk_keep HBC.out hch (fun h => ofMap_some h HTC0.out.1)
        have HREL := hid hrel.out
        have HBW := hid hbC
        obtain ⟨c0, c1, c2, c3, c4, c5, c6, c7, c8⟩ := cred_at_blk hbC
        simp only [Nat.zero_add] at c0 c1 c2 c3 c4 c5 c6 c7 c8
        clear hrel hch hbC hlt
        have HKIND := hid (isCred_kind HG.out.2.2.2.1)
        rcases HKIND.out with hk | hk | hk | hk
        · obtain ⟨T2, h1, h2, h3, h4, h5, h6, h7, h8, h9⟩ := taken_ls HG.out.1 HG.out.2.1 HG.out.2.2.1 HC1.out HRS.out HREL.out
          have e : takeG S c = bringG S c c.who := by unfold takeG; rw [if_pos hk]
          have hf : credShort c 9223372036854775807 := by
            obtain ⟨h1, h2, h3, h4, h5, h6, h7, h8⟩ := isCred_short HG.out.2.2.2.1
            exact ⟨by omega, by omega, by omega, by omega, by omega, by omega, by omega, by omega⟩
          have hq := ch_bring2 g m3 m4 S c c.who wr h6 (by rw [← e]; exact HG.out.2.2.2.2.2) hf hf.2.2.1
          rw [hk] at hq
          have HQ := hid hq
          have HDONE : Hid (∀ T' w', Gro T wr g m3 m4 S T' w' (bringG S c c.who) → TakePostG T T20 g m3 m4 S cs c w0 (.returned (.tuple #[])) w') := hid (fun T' w' hgr => by
            have hls : LS T2 wr m3 m4 (cs ++ [c]) := ⟨h3, h4, h1, h2.cong (by simp) (linkL_not (by omega)), h5⟩
            obtain ⟨q1, q2⟩ := hls.gro h7 hgr
            refine ⟨rfl, T', T2, by rw [e]; exact hgr.gs, q1, q2, fun b hb => (hgr.ext.new b hb).imp id (Nat.le_trans h9.size), fun b hb => (h8 b hb).imp id (Nat.le_trans HC1.out.size), ?_⟩
            exact (h9.mono (fun _ _ h => .inr h)).trans (hgr.chg.mono (fun _ _ h => .inl h)) (fun _ _ h => h))
          clear h1 h2 h3 h4 h5 h6 h7 h8 h9 e hf hq HREL
          go_wp2_with fail
          refine HQ.out.mono ?_
          rintro e w' ⟨rfl, T', hgr⟩
          have HRES := hid (HDONE.out T' w' hgr)
          clear hgr HQ HDONE c0 c1 c2 c3 c4 c5 c6 c7 c8
          go_wp2
          go_end0
          exact HRES.out
        · have HRES := hid (taken_quiet HG.out.1 HG.out.2.1 HG.out.2.2.1 HC1.out HRS.out (by omega) (by omega) HREL.out)
          clear HREL
          go_wp2
          go_end0
          exact HRES.out
        · obtain ⟨T2, h1, h2, h3, h4, h5, h6, h7, h8, h9⟩ := taken_ls HG.out.1 HG.out.2.1 HG.out.2.2.1 HC1.out HRS.out HREL.out
          have e : takeG S c = S := by unfold takeG; rw [if_neg (by omega)]
          have hsw : ktS.ok c.w2 := by have := (isCred_short HG.out.2.2.2.1).2.2.2.2.2.2.2; show c.w2.length ≤ _; omega
          have hent := h2.update h4 (by intro a e; cases e) (by intro a b e; injection e) h5 (mt := 85) Try.underlying85 (by have := HG.out.2.2.2.2.1; omega) (a := c.w2) hsw (by have q1 := linkL_len cs c.w2; have q2 := HG.out.2.2.2.2.1; omega) c
          obtain ⟨u, q1, q2, q3, q4, q5⟩ := hent
          obtain ⟨P, hP⟩ : ∃ P, P = OfMap T2 LTag.linkM LTag.linkR := ⟨_, rfl⟩
          have hPlt : ∀ x, P x → T2 x ≠ none := fun x h => by rw [hP] at h; exact ofMap_some h
          have HNEW : Hid (∀ x, wr.heap.size ≤ x → ¬ P x) := hid (fun x hx h => by have := h5 x (hPlt x h); omega)
          have HDONE : Hid (∀ w5, EntC3 ktS T2 .linkM .linkR wr m4 (cs.length + 1) (addL (linkL cs) c.w2 c) w5 → TakePostG T T20 g m3 m4 S cs c w0 (.returned (.tuple #[])) w5) := hid (fun w5 hE => by
            obtain ⟨T3, e1, e2, e3⟩ := hE
            have hall : Chg (fun b => T2 b ≠ none) wr w5 := e3.mono (fun i _ h => ofMap_some h)
            have hr := HG.out.2.2.2.1
            refine ⟨rfl, T, T3, by rw [e]; exact h6.keep hall (fun b hb h => hb (h7 b h)), ⟨by rw [e2.old _ (by rw [h3]; simp)]; exact h3, by rw [e2.old _ (by rw [h4]; simp)]; exact h4, (h1.keep (fun h => ?_) e3 (fun b a hb h => ?_)).ext e2.old, e1.cong (by simp) (fun x => ?_), e2.lo⟩, fun b hb => ?_, fun b hb => .inl hb, fun b hb => ?_, ?_⟩
            · rcases h with h | ⟨a, h⟩ <;> rw [h3] at h <;> cases h
            · rcases h with h | ⟨a, h⟩ <;> rw [hb] at h <;> cases h
            · unfold addL
              rw [linkL_snoc]
              by_cases ex : x = c.w2
              · rw [if_pos ex, if_pos ⟨hr, hk, ex.symm⟩, ex]
              · rw [if_neg ex, if_neg (fun h => ex h.2.2.symm), List.append_nil]
            · rcases e2.new b hb with h | h
              · exact h7 b h
              · cases ee : T b with
                | none => rfl
                | some x => have q := h6.lo b (by rw [ee]; simp); omega
            · rcases e2.new b hb with h | h
              · exact (h8 b h).imp id (Nat.le_trans HC1.out.size)
              · exact .inr (Nat.le_trans h9.size h)
            · refine (h9.mono (fun _ _ h => .inr h)).trans hall (fun i hi h => ?_)
              rcases h8 i h with h | h
              · exact .inr h
              · have := HC1.out.size; omega)
          have hgT : T g = some .top := by obtain ⟨⟨_, _, _, _, hp⟩, _⟩ := HG.out.1; exact hp.tg
          have hgn : T2 g = none := by
            cases e : T2 g with
            | none => rfl
            | some x => have := h7 g (by rw [e]; simp); rw [hgT] at this; cases this
          have hCn : T2 C = none := by
            cases e : T2 C with
            | none => rfl
            | some x =>
              rcases h8 C (by rw [e]; simp) with h | h
              · exact absurd HTC0.out.1 h
              · have q1 := lt_blk HBC.out; omega
          have HB := hid (show BaseU g C c m4 wr from ⟨h6.maps.2, HBW.out⟩)
          have hu2 : ∀ x, T2 x = none → ¬ u.ownBlock = some x := fun x hx e => by have := q2 x e; rw [hx] at this; cases this
          have HN : Hid (¬ u.ownBlock = some g ∧ ¬ u.ownBlock = some C) := hid ⟨hu2 g hgn, hu2 C hCn⟩
          rw [← hP] at q4 q5
          have HE0 := hid q3
          have HE1 := hid q4
          have HE2 := hid q5
          have HK := hid hk
          clear h1 h2 h3 h4 h5 h6 h7 h8 h9 e hsw q1 q2 q3 q4 q5 hPlt hgT hgn hCn hu2 HREL hP
          go_wp2_with fail
          clear c0 c1 c2 c3 c4 c5 c6 c7 c8 hk
          refine wp_region_stateAD (Chg P) (Duo 15 16 52 (fun w => Chg (fun _ => False) wr w) (RowC1 wr u (linkL cs c.w2 ++ [c])) (EntC3 ktS T2 .linkM .linkR wr m4 (cs.length + 1) (addL (linkL cs) c.w2 c))) (specAtR (kt10 P g C c m4 u)) [37, 38, 39, 40, 41, 42, 43, 44, 45, 46, 47, 48, 49, 50, 51, 52] [0, 3] (by kernel_rfl) (by kernel_rfl) (Duo.start (show (52 : Nat) < 53 by decide) ((Chg.refl _ _).drew)) (fun t v w w' hc h => specAtR_st _ t v w w' hc h) (by rfl) (by kernel_rfl) ?start10 ?obs10 ?fin10
          case start10 =>
            simp only [List.forall_mem_cons]; exact ⟨⟨_, rfl, rfl⟩, ⟨_, rfl, rfl⟩, fun _ h => by cases h⟩
          case obs10 =>
            clear HDONE
            refine ObsAD.cons none (by kernel_rfl) ?_ ?_
            · refine ObAD.plain fun L a w hi he hD hW hk K k => ?_
              obtain ⟨_, e0, rfl⟩ := hk 0 (by decide)
              clear hk
              have hS := hid (fun (v : Value) (w2 : World) (hc : Chg (fun _ => False) w w2) => hW.step (j := 0) (d := (some 37)) v (by decide) hc (fun _ _ h c => h.trans c (fun _ _ h => h)) (fun _ _ _ h c => h.quiet c) (fun _ _ h c => h.quiet c))
              clear hi he hW hD
              go_simp
              exact k _ _ (Chg.refl _ _) (hS.out _ _ (Chg.refl _ _)) rfl
            refine ObsAD.cons none (by kernel_rfl) ?_ ?_
            · refine ObAD.plain fun L a w hi he hD hW hk K k => ?_
              obtain ⟨_, e37, rfl⟩ := hk 37 (by decide)
              clear hk
              have hS := hid (fun (v : Value) (w2 : World) (hc : Chg (fun _ => False) w w2) => hW.step (j := 1) (d := (some 38)) v (by decide) hc (fun _ _ h c => h.trans c (fun _ _ h => h)) (fun _ _ _ h c => h.quiet c) (fun _ _ h c => h.quiet c))
              clear hi he hW hD
              go_simp
              exact k _ _ (Chg.refl _ _) (hS.out _ _ (Chg.refl _ _)) rfl
            refine ObsAD.cons none (by kernel_rfl) ?_ ?_
            · refine ObAD.plain fun L a w hi he hD hW hk K k => ?_
              obtain ⟨_, e38, rfl⟩ := hk 38 (by decide)
              clear hk
              have hS := hid (fun (v : Value) (w2 : World) (hc : Chg (fun _ => False) w w2) => hW.step (j := 2) (d := (some 39)) v (by decide) hc (fun _ _ h c => h.trans c (fun _ _ h => h)) (fun _ _ _ h c => h.quiet c) (fun _ _ h c => h.quiet c))
              clear hi he hW hD
              go_simp
              exact k _ _ (Chg.refl _ _) (hS.out _ _ (Chg.refl _ _)) rfl
            refine ObsAD.cons none (by kernel_rfl) ?_ ?_
            · refine ObAD.plain fun L a w hi he hD hW hk K k => ?_
              obtain ⟨_, e39, rfl⟩ := hk 39 (by decide)
              clear hk
              have hB := hW.early (by decide) hi (B := BaseU g C c m4) (fun w h => HB.out.keep h id id) (fun x w h => HB.out.keep h.2.1 HN.out.1 HN.out.2)
              have zz := hB.1
              have hS := hid (fun (v : Value) (w2 : World) (hc : Chg (fun _ => False) w w2) => hW.step (j := 3) (d := (some 40)) v (by decide) hc (fun _ _ h c => h.trans c (fun _ _ h => h)) (fun _ _ _ h c => h.quiet c) (fun _ _ h c => h.quiet c))
              clear hi he hW hD
              go_simp
              exact k _ _ (Chg.refl _ _) (hS.out _ _ (Chg.refl _ _)) rfl
            refine ObsAD.cons none (by kernel_rfl) ?_ ?_
            · refine ObAD.plain fun L a w hi he hD hW hk K k => ?_
              obtain ⟨_, e3, rfl⟩ := hk 3 (by decide)
              clear hk
              have hS := hid (fun (v : Value) (w2 : World) (hc : Chg (fun _ => False) w w2) => hW.step (j := 4) (d := (some 41)) v (by decide) hc (fun _ _ h c => h.trans c (fun _ _ h => h)) (fun _ _ _ h c => h.quiet c) (fun _ _ h c => h.quiet c))
              clear hi he hW hD
              go_simp
              exact k _ _ (Chg.refl _ _) (hS.out _ _ (Chg.refl _ _)) rfl
            refine ObsAD.cons none (by kernel_rfl) ?_ ?_
            · refine ObAD.plain fun L a w hi he hD hW hk K k => ?_
              obtain ⟨_, e41, rfl⟩ := hk 41 (by decide)
              clear hk
              have hB := hW.early (by decide) hi (B := BaseU g C c m4) (fun w h => HB.out.keep h id id) (fun x w h => HB.out.keep h.2.1 HN.out.1 HN.out.2)
              have z8 := hB.word
              have hS := hid (fun (v : Value) (w2 : World) (hc : Chg (fun _ => False) w w2) => hW.step (j := 5) (d := (some 42)) v (by decide) hc (fun _ _ h c => h.trans c (fun _ _ h => h)) (fun _ _ _ h c => h.quiet c) (fun _ _ h c => h.quiet c))
              clear hi he hW hD
              go_simp
              exact k _ _ (Chg.refl _ _) (hS.out _ _ (Chg.refl _ _)) rfl
            refine ObsAD.cons none (by kernel_rfl) ?_ ?_
            · refine ObAD.plain fun L a w hi he hD hW hk K k => ?_
              obtain ⟨_, e0, rfl⟩ := hk 0 (by decide)
              clear hk
              have hS := hid (fun (v : Value) (w2 : World) (hc : Chg (fun _ => False) w w2) => hW.step (j := 6) (d := (some 43)) v (by decide) hc (fun _ _ h c => h.trans c (fun _ _ h => h)) (fun _ _ _ h c => h.quiet c) (fun _ _ h c => h.quiet c))
              clear hi he hW hD
              go_simp
              exact k _ _ (Chg.refl _ _) (hS.out _ _ (Chg.refl _ _)) rfl
            refine ObsAD.cons none (by kernel_rfl) ?_ ?_
            · refine ObAD.plain fun L a w hi he hD hW hk K k => ?_
              obtain ⟨_, e43, rfl⟩ := hk 43 (by decide)
              clear hk
              have hS := hid (fun (v : Value) (w2 : World) (hc : Chg (fun _ => False) w w2) => hW.step (j := 7) (d := (some 44)) v (by decide) hc (fun _ _ h c => h.trans c (fun _ _ h => h)) (fun _ _ _ h c => h.quiet c) (fun _ _ h c => h.quiet c))
              clear hi he hW hD
              go_simp
              exact k _ _ (Chg.refl _ _) (hS.out _ _ (Chg.refl _ _)) rfl
            refine ObsAD.cons none (by kernel_rfl) ?_ ?_
            · refine ObAD.plain fun L a w hi he hD hW hk K k => ?_
              obtain ⟨_, e44, rfl⟩ := hk 44 (by decide)
              clear hk
              have hS := hid (fun (v : Value) (w2 : World) (hc : Chg (fun _ => False) w w2) => hW.step (j := 8) (d := (some 45)) v (by decide) hc (fun _ _ h c => h.trans c (fun _ _ h => h)) (fun _ _ _ h c => h.quiet c) (fun _ _ h c => h.quiet c))
              clear hi he hW hD
              go_simp
              exact k _ _ (Chg.refl _ _) (hS.out _ _ (Chg.refl _ _)) rfl
            refine ObsAD.cons none (by kernel_rfl) ?_ ?_
            · refine ObAD.plain fun L a w hi he hD hW hk K k => ?_
              obtain ⟨_, e45, rfl⟩ := hk 45 (by decide)
              clear hk
              have hB := hW.early (by decide) hi (B := BaseU g C c m4) (fun w h => HB.out.keep h id id) (fun x w h => HB.out.keep h.2.1 HN.out.1 HN.out.2)
              have zz := hB.1
              have hS := hid (fun (v : Value) (w2 : World) (hc : Chg (fun _ => False) w w2) => hW.step (j := 9) (d := (some 46)) v (by decide) hc (fun _ _ h c => h.trans c (fun _ _ h => h)) (fun _ _ _ h c => h.quiet c) (fun _ _ h c => h.quiet c))
              clear hi he hW hD
              go_simp
              exact k _ _ (Chg.refl _ _) (hS.out _ _ (Chg.refl _ _)) rfl
            refine ObsAD.cons none (by kernel_rfl) ?_ ?_
            · refine ObAD.plain fun L a w hi he hD hW hk K k => ?_
              obtain ⟨_, e3, rfl⟩ := hk 3 (by decide)
              clear hk
              have hS := hid (fun (v : Value) (w2 : World) (hc : Chg (fun _ => False) w w2) => hW.step (j := 10) (d := (some 47)) v (by decide) hc (fun _ _ h c => h.trans c (fun _ _ h => h)) (fun _ _ _ h c => h.quiet c) (fun _ _ h c => h.quiet c))
              clear hi he hW hD
              go_simp
              exact k _ _ (Chg.refl _ _) (hS.out _ _ (Chg.refl _ _)) rfl
            refine ObsAD.cons none (by kernel_rfl) ?_ ?_
            · refine ObAD.plain fun L a w hi he hD hW hk K k => ?_
              obtain ⟨_, e47, rfl⟩ := hk 47 (by decide)
              clear hk
              have hB := hW.early (by decide) hi (B := BaseU g C c m4) (fun w h => HB.out.keep h id id) (fun x w h => HB.out.keep h.2.1 HN.out.1 HN.out.2)
              have z8 := hB.word
              have hS := hid (fun (v : Value) (w2 : World) (hc : Chg (fun _ => False) w w2) => hW.step (j := 11) (d := (some 48)) v (by decide) hc (fun _ _ h c => h.trans c (fun _ _ h => h)) (fun _ _ _ h c => h.quiet c) (fun _ _ h c => h.quiet c))
              clear hi he hW hD
              go_simp
              exact k _ _ (Chg.refl _ _) (hS.out _ _ (Chg.refl _ _)) rfl
            refine ObsAD.cons none (by kernel_rfl) ?_ ?_
            · refine ObAD.plain fun L a w hi he hD hW hk K k => ?_
              obtain ⟨_, e46, rfl⟩ := hk 46 (by decide)
              obtain ⟨_, e48, rfl⟩ := hk 48 (by decide)
              clear hk
              have hq := hW.early (by decide) hi (B := fun w => (Instr.lookup 85 (.map (some m4)) (.string ⟨c.w2.toArray⟩) false).run Try.prog w = .ok u w) (fun w h => HE0.out w h.none9) (fun x w h => HE0.out w h.2.1)
              have hS := hid (fun (v : Value) (w2 : World) (hc : Chg (fun _ => False) w w2) => hW.step (j := 12) (d := (some 49)) v (by decide) hc (fun _ _ h c => h.trans c (fun _ _ h => h)) (fun _ _ _ h c => h.quiet c) (fun _ _ h c => h.quiet c))
              clear hi he hW hD
              go_simp
              exact k _ _ (Chg.refl _ _) (hS.out _ _ (Chg.refl _ _)) rfl
            refine ObsAD.cons none (by kernel_rfl) ?_ ?_
            · refine ObAD.plain fun L a w hi he hD hW hk K k => ?_
              obtain ⟨_, e3, rfl⟩ := hk 3 (by decide)
              clear hk
              have hB := hW.early (by decide) hi (B := BaseU g C c m4) (fun w h => HB.out.keep h id id) (fun x w h => HB.out.keep h.2.1 HN.out.1 HN.out.2)
              obtain ⟨z0, z1, z2, z3, z4, z5, z6, z7, z8⟩ := hB.cred HK.out
              have hS := hid (fun (v : Value) (w2 : World) (hc : Chg (fun _ => False) w w2) => hW.step (j := 13) (d := (some 50)) v (by decide) hc (fun _ _ h c => h.trans c (fun _ _ h => h)) (fun _ _ _ h c => h.quiet c) (fun _ _ h c => h.quiet c))
              clear hi he hW hD
              go_simp
              exact k _ _ (Chg.refl _ _) (hS.out _ _ (Chg.refl _ _)) rfl
            refine ObsAD.cons none (by kernel_rfl) ?_ ?_
            · refine ObAD.plain fun L a w hi he hD hW hk K k => ?_
              obtain ⟨_, e50, rfl⟩ := hk 50 (by decide)
              clear hk
              have hsz := hW.early (by decide) hi (B := fun w => wr.heap.size ≤ w.heap.size) (fun w h => h.size) (fun x w h => h.2.1.size)
              have hS := hid (fun (v : Value) (w2 : World) (hc : Chg (fun _ => False) w w2) => hW.step (j := 14) (d := (some 51)) v (by decide) hc (fun _ _ h c => h.trans c (fun _ _ h => h)) (fun _ _ _ h c => h.quiet c) (fun _ _ h c => h.quiet c))
              clear hi he hW hD
              go_simp
              exact k _ _ (Chg.none9 ((Chg.refl _ _).alloc _)) (hS.out _ _ ((Chg.refl _ _).alloc _)) ⟨_, rfl, cred_new3 HK.out _, HNEW.out _ hsz⟩
            refine ObsAD.cons none (by kernel_rfl) ?_ ?_
            · refine ObAD.plain fun L a w hi he hD hW hk K k => ?_
              obtain ⟨_, e49, rfl⟩ := hk 49 (by decide)
              obtain ⟨_, e51, f51⟩ := hk 51 (by decide)
              clear hk
              obtain ⟨b, rfl, hb, hb2⟩ := f51
              have h0 := hW.p0 hi
              obtain ⟨v2, w5, hr, hF, hS⟩ := HE1.out w b 22 h0 hb
              clear he hD
              refine ob_appendK 22 rfl e49 e51 hr ?_
              exact k _ _ hS (hW.first (by decide) hi hF) trivial
            refine ObsAD.cons none (by kernel_rfl) ?_ ?_
            · refine ObAD.plain fun L a w hi he hD hW hk K k => ?_
              obtain ⟨_, e40, rfl⟩ := hk 40 (by decide)
              obtain ⟨_, e42, rfl⟩ := hk 42 (by decide)
              clear hk
              have hall := behind_all (n := 16) hD rfl he (by kernel_rfl)
              obtain ⟨v2, e52, hF⟩ := hW.p1 (hall 15 (by decide)) hi
              obtain ⟨ao2, cap2, hv2⟩ := hF.1.shape
              obtain ⟨q, hq⟩ : ∃ q : Nat, q = (linkL cs c.w2 ++ [c]).length := ⟨_, rfl⟩
              rw [← hq] at hv2
              clear hq
              subst hv2
              obtain ⟨w5, hr0, hF2, hS⟩ := HE2.out w _ hF
              have hr : (Instr.mapUpdate 85 (.map (some m4)) (.string ⟨c.w2.toArray⟩) (.slice ao2 q cap2)).run Try.prog w = .ok () w5 := hr0
              clear hr0
              have HS := hid (And.intro hW (And.intro hall (And.intro hF2 hS)))
              clear hF hF2 hS hall he hD hW hi
              go_simp
              exact k undef _ HS.out.2.2.2 (HS.out.1.second (by decide) HS.out.2.1 HS.out.2.2.1) trivial
            exact ObsAD.nil
          case fin10 =>
            intro L vals w5 hL hWL hv
            have HEND := hid (hWL.p2 (hL 16 (by decide)))
            clear hL hWL hv HE0 HE1 HE2
            simp only [putAll, List.setIfInBounds_toArray, List.set_cons_zero, List.set_cons_succ]
            have HRES := hid (HDONE.out w5 HEND.out)
            clear HEND HDONE HB HN HNEW
            go_wp2
            go_end0
            exact HRES.out
        · have HRES := hid (taken_quiet HG.out.1 HG.out.2.1 HG.out.2.2.1 HC1.out HRS.out (by omega) (by omega) HREL.out)
          clear HREL
          go_wp2
          go_end0
          exact HRES.out
end Go.Proofs.Ytjaplnainlbldaa
