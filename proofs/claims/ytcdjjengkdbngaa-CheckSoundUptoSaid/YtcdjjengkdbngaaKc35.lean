/- What all ways to a step have. -/
import Derived.Test.YtcdjjengkdbngaaKc34
namespace Go.Proofs.Ytcdjjengkdbngaa
open Go.RowKit Go.Maps
attribute [local go_sem] Oper.semAt_some

/-- A way that is handed over: a slice, and its places. -/
abbrev WayE := { x : Value × List Nat // ∃ ao n cap, x.1 = .slice ao n cap }

theorem kw_seq2 {T : Nat → Option KTag} {U : Nat → Prop} (g Bs Bk : Nat) (F : List FactB) (s : StepB) (w : World) (htag : ∀ i, T i ≠ none → ¬ U i ∧ i < w.heap.size) (hus : ¬ U Bs) (huk : ¬ U Bk) (hul : ∀ i, U i → i < w.heap.size) (hF : F.length ≤ 1000000) (hsh : stepShort s 9223372036854775807) (hks : KS T w g F)
    (hbs : w.heap[Bs]? = some (.cells (stepBox s) 36 (0, 0))) (hbk : w.heap[Bk]? = some (.cells #[.pointer (some ⟨g, 0, none⟩)] 78 (0, 0))) :
    SeqC 104 #[.pointer (some ⟨Bs, 0, none⟩), .pointer (some ⟨Bk, 0, none⟩)] (fun x : WayE => #[x.1.1]) U (fun x i => x.1.1.ownBlock = some i) (fun x m W => OwnI m W x.1.1 x.1.2) (fun ys => ys.map (·.1.2) = waysK s F) (fun ys => ys.map (·.1.2) <+: waysK s F) (F.length + 2) w := by
  intro l J Jx W n hc hJ hJx hY h0
  have key := kw_ways_any (J := fun s A => ∃ s' : List WayE, s'.map (·.1) = s ∧ J s' A) (Jx := fun s A => ∃ s' : List WayE, s'.map (·.1) = s ∧ Jx s' A) l g Bs Bk w.heap.size F s W ⟨htag, ⟨hus, lt_blk hbs⟩, ⟨huk, lt_blk hbk⟩, hul, hc.size⟩ hF hsh (hks.quiet hc) (blk_keep hbs hc id) (blk_keep hbk hc id)
    (fun s A B ⟨s', h1, h2⟩ hq => ⟨s', h1, hJ _ _ _ h2 hq⟩) (fun m pre x W0 W1 ⟨pre', hp, hj⟩ h2 h3 h4 => by
      obtain ⟨ao, cap, hs⟩ := h3.shape
      have hlen : pre'.length = pre.length := by rw [← hp, List.length_map]
      refine (hY m pre' ⟨x, ao, x.2.length, cap, hs⟩ W0 W1 hj h2 h3 (by omega)).mono ?_
      rintro e W' (⟨rfl, q1, q2⟩ | ⟨rfl, q1⟩)
      · refine .inl ⟨rfl, ⟨_, by simp [hp], q1⟩, q2.mono (fun i _ hi => ?_)⟩
        rcases hi with hi | hi | ⟨y, hy, hi⟩
        · exact .inl hi
        · exact .inr (.inl hi)
        · refine .inr (.inr ⟨y.1, ?_, hi⟩)
          rw [← hp]
          rcases List.mem_append.1 hy with hy | hy
          · exact List.mem_append_left _ (List.mem_map_of_mem hy)
          · rw [List.mem_singleton] at hy; subst hy; simp
      · exact .inr ⟨rfl, _, by simp [hp], q1⟩) ⟨[], rfl, h0⟩
  refine callsIn_wide.2 (key.mono ?_)
  rintro e W' ⟨hv, (⟨xs, h1, s', h2, h3⟩ | ⟨pre, h1, s', h2, h3⟩)⟩
  · exact ⟨hv, .inl ⟨s', by rw [← h1, ← h2, List.map_map]; rfl, h3⟩⟩
  · exact ⟨hv, .inr ⟨s', by rw [← h2, List.map_map] at h1; exact h1, h3⟩⟩

/-- Between two rounds: in L lies what all that have come have, in B whether none has come. -/
structure ComI (w0 : World) (n0 L B m : Nat) (pre : List WayE) (v : Value) (W : World) : Prop where
  bl : Boxed W L 121 v
  bb : Boxed W B 4 (.bool (decide (pre = [])))
  own : OwnI w0.heap.size W v (commonK (pre.map (·.1.2)))
  low : ∀ i, v.ownBlock = some i → i < m ∧ n0 ≤ i ∧ ∃ y ∈ pre, y.1.1.ownBlock = some i
  mm : n0 ≤ m
  be : Below w0.heap.size w0 W

theorem comI_stays {w0 : World} {n0 L B m : Nat} {pre : List WayE} {v : Value} {C : Nat} (hC : w0.heap.size ≤ C) : StaysFrom C (ComI w0 n0 L B m pre v) := fun u X Y row hs hg hr =>
  ⟨boxed_stays C _ _ _ u X Y row hs.bl hg hr, boxed_stays C _ _ _ u X Y row hs.bb hg hr, ownI_stays C _ _ _ u X Y row hs.own hg hr, hs.low, hs.mm, below_stays hC (Nat.le_refl _) u X Y row hs.be hg hr⟩
theorem ex_stays {α : Type} {B : Nat} {I : α → World → Prop} (h : ∀ a, StaysFrom B (I a)) : StaysFrom B (fun W => ∃ a, I a W) := fun u X Y row ⟨a, ha⟩ hg hr => ⟨a, h a u X Y row ha hg hr⟩

def CommonPost (s : StepB) (F : List FactB) (w : World) (e : Ending) (w' : World) : Prop :=
  ∃ v, e = .returned v ∧ OwnI w.heap.size w' v (commonK (waysK s F)) ∧ Chg (fun _ => False) w w'

set_option maxRecDepth 100000 in
set_option maxHeartbeats 4000000 in
theorem kw_common {T : Nat → Option KTag} (g : Nat) (F : List FactB) (s : StepB) (w : World) (h : KS T w g F) (hF : F.length ≤ 1000000) (hsh : stepShort s 9223372036854775807) :
    Calls Try.prog 62 #[.pointer (some ⟨g, 0, none⟩), .agg (stepBox s)] w (CommonPost s F w) := by
  have HK := hid h
  have HSH := hid hsh
  have HFL := hid hF
  have HWS := hid (kw_ways g s (((w.alloc (.cells #[.int .i64 s.c.kind, .string ⟨s.c.head.1.toArray⟩, .string ⟨s.c.head.2.toArray⟩, .string ⟨s.c.who.toArray⟩, .string ⟨s.c.b.1.toArray⟩, .string ⟨s.c.b.2.toArray⟩, .string ⟨s.c.c.1.toArray⟩, .string ⟨s.c.c.2.toArray⟩, .string ⟨s.c.w2.toArray⟩, .string ⟨s.f.1.1.toArray⟩, .string ⟨s.f.1.2.toArray⟩, .string ⟨s.f.2.toArray⟩] 36)).alloc (.cells #[.slice none 0 0] 121)).alloc (.cells #[.bool true] 4)))
  clear h hsh hF
  refine (callsIn_wide (n := 10)).1 ?_
  unfold stepBox at HWS ⊢
  refine callsIn_of_wp_marks Try.func62 rfl trivial ?_ rfl
  simp only [Try.ntmps62, List.size_toArray, List.length_cons, List.length_nil, Nat.reduceAdd, Nat.reduceSub, Array.replicate_succ, Array.replicate_zero, List.push_toArray, List.append_toArray, List.nil_append, List.cons_append]
  gi_wp2_with fail
  refine ⟨trivial, ?_⟩
  refine (callsIn_wide.2 HWS.out).mono ?_
  clear HWS
  rintro e w' ⟨rfl, rfl⟩
  gi_wp2_with fail
  have hc0 : Chg (fun _ => False) w (((((w.alloc (.cells #[.int .i64 s.c.kind, .string ⟨s.c.head.1.toArray⟩, .string ⟨s.c.head.2.toArray⟩, .string ⟨s.c.who.toArray⟩, .string ⟨s.c.b.1.toArray⟩, .string ⟨s.c.b.2.toArray⟩, .string ⟨s.c.c.1.toArray⟩, .string ⟨s.c.c.2.toArray⟩, .string ⟨s.c.w2.toArray⟩, .string ⟨s.f.1.1.toArray⟩, .string ⟨s.f.1.2.toArray⟩, .string ⟨s.f.2.toArray⟩] 36)).alloc (.cells #[.slice none 0 0] 121)).alloc (.cells #[.bool true] 4)).alloc (.cells #[.pointer (some ⟨g, 0, none⟩)] 78)).alloc (.cells #[.int .i64 s.c.kind, .string ⟨s.c.head.1.toArray⟩, .string ⟨s.c.head.2.toArray⟩, .string ⟨s.c.who.toArray⟩, .string ⟨s.c.b.1.toArray⟩, .string ⟨s.c.b.2.toArray⟩, .string ⟨s.c.c.1.toArray⟩, .string ⟨s.c.c.2.toArray⟩, .string ⟨s.c.w2.toArray⟩, .string ⟨s.f.1.1.toArray⟩, .string ⟨s.f.1.2.toArray⟩, .string ⟨s.f.2.toArray⟩] 36)) := ((((((Chg.refl _ w).alloc _)).alloc _).alloc _).alloc _).alloc _
  have hL : Boxed (((((w.alloc (.cells #[.int .i64 s.c.kind, .string ⟨s.c.head.1.toArray⟩, .string ⟨s.c.head.2.toArray⟩, .string ⟨s.c.who.toArray⟩, .string ⟨s.c.b.1.toArray⟩, .string ⟨s.c.b.2.toArray⟩, .string ⟨s.c.c.1.toArray⟩, .string ⟨s.c.c.2.toArray⟩, .string ⟨s.c.w2.toArray⟩, .string ⟨s.f.1.1.toArray⟩, .string ⟨s.f.1.2.toArray⟩, .string ⟨s.f.2.toArray⟩] 36)).alloc (.cells #[.slice none 0 0] 121)).alloc (.cells #[.bool true] 4)).alloc (.cells #[.pointer (some ⟨g, 0, none⟩)] 78)).alloc (.cells #[.int .i64 s.c.kind, .string ⟨s.c.head.1.toArray⟩, .string ⟨s.c.head.2.toArray⟩, .string ⟨s.c.who.toArray⟩, .string ⟨s.c.b.1.toArray⟩, .string ⟨s.c.b.2.toArray⟩, .string ⟨s.c.c.1.toArray⟩, .string ⟨s.c.c.2.toArray⟩, .string ⟨s.c.w2.toArray⟩, .string ⟨s.f.1.1.toArray⟩, .string ⟨s.f.1.2.toArray⟩, .string ⟨s.f.2.toArray⟩] 36)) (w.heap.size + 1) 121 (.slice none 0 0) := by
    have := (((Boxed.new (w.alloc (.cells #[.int .i64 s.c.kind, .string ⟨s.c.head.1.toArray⟩, .string ⟨s.c.head.2.toArray⟩, .string ⟨s.c.who.toArray⟩, .string ⟨s.c.b.1.toArray⟩, .string ⟨s.c.b.2.toArray⟩, .string ⟨s.c.c.1.toArray⟩, .string ⟨s.c.c.2.toArray⟩, .string ⟨s.c.w2.toArray⟩, .string ⟨s.f.1.1.toArray⟩, .string ⟨s.f.1.2.toArray⟩, .string ⟨s.f.2.toArray⟩] 36)) 121 (.slice none 0 0)).alloc (.cells #[.bool true] 4)).alloc (.cells #[.pointer (some ⟨g, 0, none⟩)] 78)).alloc (.cells #[.int .i64 s.c.kind, .string ⟨s.c.head.1.toArray⟩, .string ⟨s.c.head.2.toArray⟩, .string ⟨s.c.who.toArray⟩, .string ⟨s.c.b.1.toArray⟩, .string ⟨s.c.b.2.toArray⟩, .string ⟨s.c.c.1.toArray⟩, .string ⟨s.c.c.2.toArray⟩, .string ⟨s.c.w2.toArray⟩, .string ⟨s.f.1.1.toArray⟩, .string ⟨s.f.1.2.toArray⟩, .string ⟨s.f.2.toArray⟩] 36)
    rw [World.size_alloc] at this
    exact this
  have hB : Boxed (((((w.alloc (.cells #[.int .i64 s.c.kind, .string ⟨s.c.head.1.toArray⟩, .string ⟨s.c.head.2.toArray⟩, .string ⟨s.c.who.toArray⟩, .string ⟨s.c.b.1.toArray⟩, .string ⟨s.c.b.2.toArray⟩, .string ⟨s.c.c.1.toArray⟩, .string ⟨s.c.c.2.toArray⟩, .string ⟨s.c.w2.toArray⟩, .string ⟨s.f.1.1.toArray⟩, .string ⟨s.f.1.2.toArray⟩, .string ⟨s.f.2.toArray⟩] 36)).alloc (.cells #[.slice none 0 0] 121)).alloc (.cells #[.bool true] 4)).alloc (.cells #[.pointer (some ⟨g, 0, none⟩)] 78)).alloc (.cells #[.int .i64 s.c.kind, .string ⟨s.c.head.1.toArray⟩, .string ⟨s.c.head.2.toArray⟩, .string ⟨s.c.who.toArray⟩, .string ⟨s.c.b.1.toArray⟩, .string ⟨s.c.b.2.toArray⟩, .string ⟨s.c.c.1.toArray⟩, .string ⟨s.c.c.2.toArray⟩, .string ⟨s.c.w2.toArray⟩, .string ⟨s.f.1.1.toArray⟩, .string ⟨s.f.1.2.toArray⟩, .string ⟨s.f.2.toArray⟩] 36)) (w.heap.size + 1 + 1) 4 (.bool true) := by
    have := ((Boxed.new ((w.alloc (.cells #[.int .i64 s.c.kind, .string ⟨s.c.head.1.toArray⟩, .string ⟨s.c.head.2.toArray⟩, .string ⟨s.c.who.toArray⟩, .string ⟨s.c.b.1.toArray⟩, .string ⟨s.c.b.2.toArray⟩, .string ⟨s.c.c.1.toArray⟩, .string ⟨s.c.c.2.toArray⟩, .string ⟨s.c.w2.toArray⟩, .string ⟨s.f.1.1.toArray⟩, .string ⟨s.f.1.2.toArray⟩, .string ⟨s.f.2.toArray⟩] 36)).alloc (.cells #[.slice none 0 0] 121)) 4 (.bool true)).alloc (.cells #[.pointer (some ⟨g, 0, none⟩)] 78)).alloc (.cells #[.int .i64 s.c.kind, .string ⟨s.c.head.1.toArray⟩, .string ⟨s.c.head.2.toArray⟩, .string ⟨s.c.who.toArray⟩, .string ⟨s.c.b.1.toArray⟩, .string ⟨s.c.b.2.toArray⟩, .string ⟨s.c.c.1.toArray⟩, .string ⟨s.c.c.2.toArray⟩, .string ⟨s.c.w2.toArray⟩, .string ⟨s.f.1.1.toArray⟩, .string ⟨s.f.1.2.toArray⟩, .string ⟨s.f.2.toArray⟩] 36)
    rw [World.size_alloc, World.size_alloc] at this
    exact this
  have hbk : (((((w.alloc (.cells #[.int .i64 s.c.kind, .string ⟨s.c.head.1.toArray⟩, .string ⟨s.c.head.2.toArray⟩, .string ⟨s.c.who.toArray⟩, .string ⟨s.c.b.1.toArray⟩, .string ⟨s.c.b.2.toArray⟩, .string ⟨s.c.c.1.toArray⟩, .string ⟨s.c.c.2.toArray⟩, .string ⟨s.c.w2.toArray⟩, .string ⟨s.f.1.1.toArray⟩, .string ⟨s.f.1.2.toArray⟩, .string ⟨s.f.2.toArray⟩] 36)).alloc (.cells #[.slice none 0 0] 121)).alloc (.cells #[.bool true] 4)).alloc (.cells #[.pointer (some ⟨g, 0, none⟩)] 78)).alloc (.cells #[.int .i64 s.c.kind, .string ⟨s.c.head.1.toArray⟩, .string ⟨s.c.head.2.toArray⟩, .string ⟨s.c.who.toArray⟩, .string ⟨s.c.b.1.toArray⟩, .string ⟨s.c.b.2.toArray⟩, .string ⟨s.c.c.1.toArray⟩, .string ⟨s.c.c.2.toArray⟩, .string ⟨s.c.w2.toArray⟩, .string ⟨s.f.1.1.toArray⟩, .string ⟨s.f.1.2.toArray⟩, .string ⟨s.f.2.toArray⟩] 36)).heap[w.heap.size + 1 + 1 + 1]? = some (.cells #[.pointer (some ⟨g, 0, none⟩)] 78 (0, 0)) := by
    have := heap_alloc_new (((w.alloc (.cells #[.int .i64 s.c.kind, .string ⟨s.c.head.1.toArray⟩, .string ⟨s.c.head.2.toArray⟩, .string ⟨s.c.who.toArray⟩, .string ⟨s.c.b.1.toArray⟩, .string ⟨s.c.b.2.toArray⟩, .string ⟨s.c.c.1.toArray⟩, .string ⟨s.c.c.2.toArray⟩, .string ⟨s.c.w2.toArray⟩, .string ⟨s.f.1.1.toArray⟩, .string ⟨s.f.1.2.toArray⟩, .string ⟨s.f.2.toArray⟩] 36)).alloc (.cells #[.slice none 0 0] 121)).alloc (.cells #[.bool true] 4)) (.cells #[.pointer (some ⟨g, 0, none⟩)] 78)
    rw [World.size_alloc, World.size_alloc, World.size_alloc] at this
    exact blk_keep this ((Chg.refl (fun _ => False) _).alloc _) id
  have hbs : (((((w.alloc (.cells #[.int .i64 s.c.kind, .string ⟨s.c.head.1.toArray⟩, .string ⟨s.c.head.2.toArray⟩, .string ⟨s.c.who.toArray⟩, .string ⟨s.c.b.1.toArray⟩, .string ⟨s.c.b.2.toArray⟩, .string ⟨s.c.c.1.toArray⟩, .string ⟨s.c.c.2.toArray⟩, .string ⟨s.c.w2.toArray⟩, .string ⟨s.f.1.1.toArray⟩, .string ⟨s.f.1.2.toArray⟩, .string ⟨s.f.2.toArray⟩] 36)).alloc (.cells #[.slice none 0 0] 121)).alloc (.cells #[.bool true] 4)).alloc (.cells #[.pointer (some ⟨g, 0, none⟩)] 78)).alloc (.cells #[.int .i64 s.c.kind, .string ⟨s.c.head.1.toArray⟩, .string ⟨s.c.head.2.toArray⟩, .string ⟨s.c.who.toArray⟩, .string ⟨s.c.b.1.toArray⟩, .string ⟨s.c.b.2.toArray⟩, .string ⟨s.c.c.1.toArray⟩, .string ⟨s.c.c.2.toArray⟩, .string ⟨s.c.w2.toArray⟩, .string ⟨s.f.1.1.toArray⟩, .string ⟨s.f.1.2.toArray⟩, .string ⟨s.f.2.toArray⟩] 36)).heap[w.heap.size + 1 + 1 + 1 + 1]? = some (.cells (stepBox s) 36 (0, 0)) := by
    have := heap_alloc_new ((((w.alloc (.cells #[.int .i64 s.c.kind, .string ⟨s.c.head.1.toArray⟩, .string ⟨s.c.head.2.toArray⟩, .string ⟨s.c.who.toArray⟩, .string ⟨s.c.b.1.toArray⟩, .string ⟨s.c.b.2.toArray⟩, .string ⟨s.c.c.1.toArray⟩, .string ⟨s.c.c.2.toArray⟩, .string ⟨s.c.w2.toArray⟩, .string ⟨s.f.1.1.toArray⟩, .string ⟨s.f.1.2.toArray⟩, .string ⟨s.f.2.toArray⟩] 36)).alloc (.cells #[.slice none 0 0] 121)).alloc (.cells #[.bool true] 4)).alloc (.cells #[.pointer (some ⟨g, 0, none⟩)] 78)) (.cells #[.int .i64 s.c.kind, .string ⟨s.c.head.1.toArray⟩, .string ⟨s.c.head.2.toArray⟩, .string ⟨s.c.who.toArray⟩, .string ⟨s.c.b.1.toArray⟩, .string ⟨s.c.b.2.toArray⟩, .string ⟨s.c.c.1.toArray⟩, .string ⟨s.c.c.2.toArray⟩, .string ⟨s.c.w2.toArray⟩, .string ⟨s.f.1.1.toArray⟩, .string ⟨s.f.1.2.toArray⟩, .string ⟨s.f.2.toArray⟩] 36)
    rw [World.size_alloc, World.size_alloc, World.size_alloc, World.size_alloc] at this
    exact this
  have hsz : (((((w.alloc (.cells #[.int .i64 s.c.kind, .string ⟨s.c.head.1.toArray⟩, .string ⟨s.c.head.2.toArray⟩, .string ⟨s.c.who.toArray⟩, .string ⟨s.c.b.1.toArray⟩, .string ⟨s.c.b.2.toArray⟩, .string ⟨s.c.c.1.toArray⟩, .string ⟨s.c.c.2.toArray⟩, .string ⟨s.c.w2.toArray⟩, .string ⟨s.f.1.1.toArray⟩, .string ⟨s.f.1.2.toArray⟩, .string ⟨s.f.2.toArray⟩] 36)).alloc (.cells #[.slice none 0 0] 121)).alloc (.cells #[.bool true] 4)).alloc (.cells #[.pointer (some ⟨g, 0, none⟩)] 78)).alloc (.cells #[.int .i64 s.c.kind, .string ⟨s.c.head.1.toArray⟩, .string ⟨s.c.head.2.toArray⟩, .string ⟨s.c.who.toArray⟩, .string ⟨s.c.b.1.toArray⟩, .string ⟨s.c.b.2.toArray⟩, .string ⟨s.c.c.1.toArray⟩, .string ⟨s.c.c.2.toArray⟩, .string ⟨s.c.w2.toArray⟩, .string ⟨s.f.1.1.toArray⟩, .string ⟨s.f.1.2.toArray⟩, .string ⟨s.f.2.toArray⟩] 36)).heap.size = w.heap.size + 5 := by simp
  have hlo : ∀ i, T i ≠ none → i < w.heap.size := HK.out.lo
  generalize (((((w.alloc (.cells #[.int .i64 s.c.kind, .string ⟨s.c.head.1.toArray⟩, .string ⟨s.c.head.2.toArray⟩, .string ⟨s.c.who.toArray⟩, .string ⟨s.c.b.1.toArray⟩, .string ⟨s.c.b.2.toArray⟩, .string ⟨s.c.c.1.toArray⟩, .string ⟨s.c.c.2.toArray⟩, .string ⟨s.c.w2.toArray⟩, .string ⟨s.f.1.1.toArray⟩, .string ⟨s.f.1.2.toArray⟩, .string ⟨s.f.2.toArray⟩] 36)).alloc (.cells #[.slice none 0 0] 121)).alloc (.cells #[.bool true] 4)).alloc (.cells #[.pointer (some ⟨g, 0, none⟩)] 78)).alloc (.cells #[.int .i64 s.c.kind, .string ⟨s.c.head.1.toArray⟩, .string ⟨s.c.head.2.toArray⟩, .string ⟨s.c.who.toArray⟩, .string ⟨s.c.b.1.toArray⟩, .string ⟨s.c.b.2.toArray⟩, .string ⟨s.c.c.1.toArray⟩, .string ⟨s.c.c.2.toArray⟩, .string ⟨s.c.w2.toArray⟩, .string ⟨s.f.1.1.toArray⟩, .string ⟨s.f.1.2.toArray⟩, .string ⟨s.f.2.toArray⟩] 36)) = W0 at *
  refine wpIn_rangeC (n := 10) (k := 8) (gf := 104) (lb := #[.pointer (some ⟨w.heap.size + 1 + 1 + 1 + 1, 0, none⟩), .pointer (some ⟨w.heap.size + 1 + 1 + 1, 0, none⟩)]) (U := (fun i => i = w.heap.size + 1 ∨ i = w.heap.size + 1 + 1)) rfl (enters_of Try.func104 (by kernel_rfl) rfl)
    (kw_seq2 (T := T) (U := (fun i => i = w.heap.size + 1 ∨ i = w.heap.size + 1 + 1)) g (w.heap.size + 1 + 1 + 1 + 1) (w.heap.size + 1 + 1 + 1) F s W0 (fun i hi => ⟨(fun e => by have h1 := hlo i hi; rcases e with e | e <;> omega), by have := hlo i hi; omega⟩) (fun e => by rcases e with e | e <;> omega) (fun e => by rcases e with e | e <;> omega) (fun i hi => by rcases hi with e | e <;> omega) HFL.out HSH.out (HK.out.quiet hc0) hbs hbk) (Chg.refl _ _) (fun _ => rfl)
    (fun x m => ownI_stays _ _ _ _) (fun x m m' W hm h => h.low hm)
    (fun m pre W => ∃ v, ComI w (w.heap.size + 5) (w.heap.size + 1) (w.heap.size + 1 + 1) m pre v W)
    (fun _ _ => False)
    (fun m pre => ex_stays fun v => comI_stays (by omega))
    (fun pre => stays_pure _ _)
    ⟨_, hL, hB, OwnI.nil _ _, (fun i hi => by cases hi), (by omega), qbelow hc0 (Nat.le_refl _)⟩
    (fun x a' W => ∃ Bx, w.heap.size + 5 ≤ Bx ∧ Boxed W Bx 121 x.1.1 ∧ a' = { tmps := #[.pointer (some ⟨g, 0, none⟩), .agg #[.int .i64 s.c.kind, .string ⟨s.c.head.1.toArray⟩, .string ⟨s.c.head.2.toArray⟩, .string ⟨s.c.who.toArray⟩, .string ⟨s.c.b.1.toArray⟩, .string ⟨s.c.b.2.toArray⟩, .string ⟨s.c.c.1.toArray⟩, .string ⟨s.c.c.2.toArray⟩, .string ⟨s.c.w2.toArray⟩, .string ⟨s.f.1.1.toArray⟩, .string ⟨s.f.1.2.toArray⟩, .string ⟨s.f.2.toArray⟩], undef, .pointer (some ⟨w.heap.size, 0, none⟩), .slice none 0 0, .pointer (some ⟨w.heap.size + 1, 0, none⟩), .pointer (some ⟨w.heap.size + 1 + 1, 0, none⟩), .pointer (some ⟨Bx, 0, none⟩), .pointer (some ⟨g, 0, none⟩), .agg #[.int .i64 s.c.kind, .string ⟨s.c.head.1.toArray⟩, .string ⟨s.c.head.2.toArray⟩, .string ⟨s.c.who.toArray⟩, .string ⟨s.c.b.1.toArray⟩, .string ⟨s.c.b.2.toArray⟩, .string ⟨s.c.c.1.toArray⟩, .string ⟨s.c.c.2.toArray⟩, .string ⟨s.c.w2.toArray⟩, .string ⟨s.f.1.1.toArray⟩, .string ⟨s.f.1.2.toArray⟩, .string ⟨s.f.2.toArray⟩], .func (.func 104) #[] #[.pointer (some ⟨w.heap.size + 1 + 1 + 1 + 1, 0, none⟩), .pointer (some ⟨w.heap.size + 1 + 1 + 1, 0, none⟩)], x.1.1, undef, undef, undef, undef, undef, undef], defers := [] })
    (fun x a' => ex_stays fun Bx => stays_and (stays_pure _ _) (stays_and (boxed_stays _ _ _ _) (stays_pure _ _))) ?assign ?body ?done ?stop
  case assign =>
    intro l x W K hw hK
    obtain ⟨⟨xv, ps⟩, ⟨ao, n, cap, hxv⟩⟩ := x
    dsimp only at hxv
    subst hxv
    have HK2 := hid hK
    have hbx := Boxed.new W 121 (.slice ao n cap)
    have HB := hid hbx
    have hlw : w.heap.size + 5 ≤ W.heap.size := by omega
    clear hK hbx
    gi_wp2
    exact HK2.out _ _ ((Chg.refl _ _).alloc _) ⟨W.heap.size, hlw, HB.out, rfl⟩
  case body =>
    rintro l m pre x a' W hl hr hm hwl ⟨v, hI⟩ hC ⟨Bx, hBx, hbx, rfl⟩ hlen
    obtain ⟨⟨xv, ps⟩, ⟨ao, n, cap, hxv⟩⟩ := x
    dsimp only at hxv hC hbx
    subst hxv
    have hv7 := hbx.cell
    have cL := hI.bl.cell
    have fL := hI.bl.frozen
    have cB := hI.bb.cell
    have fB := hI.bb.frozen
    have HI := hid hI
    have HC := hid hC
    have HBX := hid hbx
    have HSZ := hid hsz
    have HMM := hid (And.intro hm (And.intro hwl (And.intro hl hr)))
    cases pre with
    | nil =>
      clear hI hC hbx hl hr hm hwl hsz
      have hd : decide (([] : List WayE) = []) = true := rfl
      rw [hd] at cB
      clear hd
      gi_wp2
      obtain ⟨hm, hwl, hl, hr⟩ := HMM.out
      have cc : Chg (fun i => i = w.heap.size + 1 ∨ i = w.heap.size + 1 + 1) W ((W.setCell ⟨w.heap.size + 1, 0, none⟩ (.slice ao n cap)).setCell ⟨w.heap.size + 1 + 1, 0, none⟩ (.bool false)) := ((Chg.refl (fun i => i = w.heap.size + 1 ∨ i = w.heap.size + 1 + 1) W).setCell (p := ⟨w.heap.size + 1, 0, none⟩) (fun _ => .inl rfl) _).setCell (p := ⟨w.heap.size + 1 + 1, 0, none⟩) (fun _ => .inr rfl) _
      refine ⟨((KeepsOthers.setCell _ _ _).trans (KeepsOthers.setCell _ _ _)).from _, cc.mono (fun i _ h => .inl h), _, Nat.le_refl _, .slice ao n cap, (HI.out.bl.set _).other (by omega) _, ?_, ?_, ?_, ?_, ?_⟩
      · have h1 : Boxed (W.setCell ⟨w.heap.size + 1, 0, none⟩ (.slice ao n cap)) (w.heap.size + 1 + 1) 4 (.bool (decide (([] : List WayE) = []))) := HI.out.bb.other (by omega) _
        exact h1.set _
      · have h1 := (HC.out.keep cc (fun i hi e => by
          have h2 := (HC.out.blt hi).1
          have h3 := HI.out.mm
          rcases e with e | e <;> omega))
        exact h1.low (by have := HI.out.mm; omega)
      · intro i hi
        have h2 := HC.out.blt hi
        have h3 := HI.out.mm
        have h4 := cc.size
        exact ⟨by omega, by omega, _, List.mem_singleton.2 rfl, hi⟩
      · have h3 := HI.out.mm; have h4 := cc.size; omega
      · exact HI.out.be.trans (cc.below HI.out.be.size (fun i hi e => by rcases e with e | e <;> omega))
    | cons y ys =>
      obtain ⟨av, cv, hsv⟩ := hI.own.shape
      obtain ⟨nv, hnv⟩ : ∃ nv, nv = (commonK ((y :: ys).map (·.1.2))).length := ⟨_, rfl⟩
      rw [← hnv] at hsv
      subst hsv
      clear hnv
      have hfo : commonK (((y :: ys) ++ [(⟨(.slice ao n cap, ps), ao, n, cap, rfl⟩ : WayE)]).map (·.1.2)) = (commonK ((y :: ys).map (·.1.2))).filter (fun a => ps.contains a) := by rw [List.map_append]; exact commonK_snoc (by simp) ps
      have HFO := hid hfo
      have ho := hI.own
      generalize commonK ((y :: ys).map (·.1.2)) = qs at ho HFO
      have hdel := kw_del (m := m) Bx (Value.slice av nv cv) (.slice ao n cap) qs ps W ho hv7 hC (fun i hi => ⟨fun e => by
          obtain ⟨p1, p2, _⟩ := hI.low i hi
          subst e
          have h2 := hbx
          rcases ho.2 with ⟨q1, _⟩ | ⟨gg, cap', cur, q1, _, hh, _⟩
          · rw [q1] at hi; cases hi
          · rw [q1] at hi
            have : gg = i := by simpa [Value.ownBlock] using hi
            subst this
            have h3 : some (Obj.cells cur 3 (0, 0)) = some (.cells #[.slice ao n cap] 121 (0, 0)) := hh.symm.trans h2
            injection h3 with h3; injection h3 with _ h3 _
            exact absurd h3 (by decide), fun e => by
          have := (hC.blt e).1
          have := (hI.low i hi).1
          omega⟩)
      have HDEL := hid hdel
      have HNE : Hid (∀ k, (Value.slice av nv cv).ownBlock = some k → k < m ∧ w.heap.size + 5 ≤ k ∧ ∃ z ∈ y :: ys, z.1.1.ownBlock = some k) := hid hI.low
      clear hI hC hbx hl hr hm hwl hsz hfo hdel
      have hd : decide (y :: ys = []) = false := rfl
      rw [hd] at cB
      clear hd
      gi_wp2_with fail
      refine ⟨trivial, ?_⟩
      refine (CallsIn.inRound l (callsIn_wide.2 HDEL.out)).mono ?_
      clear HDEL hv7 cL fL cB fB
      rintro e W5 ⟨v2, rfl, ho2, hb2, hc2⟩
      obtain ⟨a2, c2, hs2⟩ := ho2.shape
      obtain ⟨n2, hn2⟩ : ∃ n2, n2 = (qs.filter (fun a => ps.contains a)).length := ⟨_, rfl⟩
      rw [← hn2] at hs2
      have hne1 : ∀ k, (Value.slice av nv cv).ownBlock = some k → k ≠ w.heap.size + 1 ∧ k ≠ w.heap.size + 1 + 1 := fun k hk => by have := (HNE.out k hk).2.1; omega
      have hl5 : Boxed W5 (w.heap.size + 1) 121 (Value.slice av nv cv) := blk_keep HI.out.bl hc2 (fun e => (hne1 _ e).1 rfl)
      have hb5 : Boxed W5 (w.heap.size + 1 + 1) 4 (.bool (decide (y :: ys = []))) := blk_keep HI.out.bb hc2 (fun e => (hne1 _ e).2 rfl)
      have HX := hid (And.intro hl5 (And.intro hb5 (And.intro ho2 (And.intro hb2 hc2))))
      have cL := hl5.cell
      have fL := hl5.frozen
      clear hl5 hb5 ho2 hb2 hc2 hne1 hn2
      subst hs2
      gi_wp2
      obtain ⟨hl5, hb5, ho2, hb2, hc2⟩ := HX.out
      obtain ⟨hm, hwl, hl, hr⟩ := HMM.out
      have hsz := HSZ.out
      have cs : Chg (· = w.heap.size + 1) W5 (W5.setCell ⟨w.heap.size + 1, 0, none⟩ (.slice a2 n2 c2)) := (Chg.refl (· = w.heap.size + 1) W5).setCell (p := ⟨w.heap.size + 1, 0, none⟩) (fun _ => rfl) _
      have cc : Chg (fun i => i = w.heap.size + 1 ∨ (Value.slice av nv cv).ownBlock = some i) W (W5.setCell ⟨w.heap.size + 1, 0, none⟩ (.slice a2 n2 c2)) := (hc2.mono (fun i _ h => .inr h)).trans (cs.mono (fun i _ h => .inl h)) (fun _ _ h => h)
      have hsW := cc.size
      have hs5 := hc2.size
      refine ⟨?_, cc.mono (fun i _ h => ?_), m, by omega, .slice a2 n2 c2, hl5.set _, ?_, ?_, ?_, ?_, ?_⟩
      · refine ⟨cc.size, fun k o hk h0 ho => ?_⟩
        refine blk_keep h0 cc (fun e => ?_)
        rcases e with e | e
        · subst e
          have := HI.out.bl
          rw [show W.heap[w.heap.size + 1]? = _ from HI.out.bl] at h0
          cases h0
          cases ho
        · rcases HI.out.own.2 with ⟨q1, _⟩ | ⟨gg, cap', cur, q1, _, hh, _⟩
          · rw [q1] at e; cases e
          · rw [q1] at e
            have : gg = k := by simpa [Value.ownBlock] using e
            subst this
            rw [hh] at h0
            cases h0
            cases ho
      · rcases h with h | h
        · exact .inl (.inl h)
        · obtain ⟨_, _, z, hz, hzb⟩ := HNE.out i h
          exact .inr ⟨z, List.mem_append_left _ hz, hzb⟩
      · have h1 := hb5.other (B' := w.heap.size + 1) (by omega) (.slice a2 n2 c2)
        exact h1
      · rw [HFO.out]
        exact ho2.keep cs (fun k hk e => by
          rw [hb2] at hk
          have := (HNE.out k hk).2.1
          have : k = w.heap.size + 1 := e
          omega)
      · intro i hi
        rw [hb2] at hi
        obtain ⟨p1, p2, z, hz, hzb⟩ := HNE.out i hi
        exact ⟨p1, p2, z, List.mem_append_left _ hz, hzb⟩
      · exact HI.out.mm
      · exact HI.out.be.trans (cc.below HI.out.be.size (fun i hi e => by
          rcases e with e | e
          · omega
          · have := (HNE.out i e).2.1; omega))
  case done =>
    rintro D m xs W hD hS ⟨v, hI⟩ hKd
    have c4 := hI.bl.cell
    gi_wp2
    refine ⟨by simp, .inl ⟨_, _, rfl, run_takeDeferred hKd, ?_⟩⟩
    have cp := chg_putObj W D (.deferred none)
    refine ⟨_, results_tmp rfl _ _ _, v, rfl, ?_, below_q (hI.be.trans (cp.below hI.be.size (fun i hi e => by have : i = D := e; omega)))⟩
    rw [← hS]
    exact ownI_stays D _ _ _ () _ _ _ hI.own (grownBy_putObj' W D (.deferred none)) (fun r e => by cases e; exact ⟨Nat.le_refl _, _, hKd, rfl⟩)
  case stop =>
    rintro D pre W hD hS h _
    exact h.elim
end Go.Proofs.Ytcdjjengkdbngaa
