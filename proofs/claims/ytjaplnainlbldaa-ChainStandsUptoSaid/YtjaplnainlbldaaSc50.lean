/- Texts that the proof leans on, in one: KwFollows, KwKK, KwFol, KwSetOf. -/
import Derived.Test.YtjaplnainlbldaaSc49
import Derived.Test.YtjaplnainlbldaaSc45
import Derived.Test.YtjaplnainlbldaaSc41
/- Is there a way to a step? -/
namespace Go.Proofs.Ytjaplnainlbldaa
open Go.RowKit Go.Maps
attribute [local go_sem] Oper.semAt_some

theorem OwnI.low {B A : Nat} {w : World} {v : Value} {ps : List Nat} (h : OwnI B w v ps) (hA : A ≤ B) : OwnI A w v ps := by
  rcases h with ⟨h1, h2 | ⟨g, cap, cur, h3, h4, h5⟩⟩
  · exact ⟨h1, .inl h2⟩
  · exact ⟨h1, .inr ⟨g, cap, cur, h3, Nat.le_trans hA h4, h5⟩⟩
theorem ownI_stays (B m : Nat) (v : Value) (ps : List Nat) : StaysFrom B (fun W => OwnI m W v ps) := fun _ X Y row hs hg hr => by
  rcases hs with ⟨h1, h2 | ⟨g, cap, cur, h3, h4, h5, h6⟩⟩
  · exact ⟨h1, .inl h2⟩
  · refine ⟨h1, .inr ⟨g, cap, cur, h3, h4, (hg.block g (lt_blk h5) (fun e => ?_)).trans h5, h6⟩⟩
    obtain ⟨_, o, ho, hc⟩ := hr g e.symm
    rw [h5] at ho
    cases ho
    cases hc
theorem stays_and {B : Nat} {I J : World → Prop} (h : StaysFrom B I) (k : StaysFrom B J) : StaysFrom B (fun W => I W ∧ J W) := OwnFrom.and h k
theorem stays_pure (B : Nat) (p : Prop) : StaysFrom B (fun _ => p) := fun _ _ _ _ hs _ _ => hs
theorem boxed_stays (B b : Nat) (t : TypeId) (v : Value) : StaysFrom B (fun W => Boxed W b t v) := Own.from (boxed_own (β := Unit) b t (fun _ => v)) B
theorem below_stays {B n : Nat} {w0 : World} (h : n ≤ B) (hn : n ≤ w0.heap.size) : StaysFrom B (fun W => Below n w0 W) := ownFrom_below hn h

theorem results_bool {fn : Func} {p : Tmp} (h : fn.results = #[.cell p 4]) (tmps : Array Value) (w : World) (g : Nat) (b : Bool) (hp : tmps.getD p undef = .pointer (some ⟨g, 0, none⟩))
    (hg : w.heap[g]? = some (.cells #[.bool b] 4 (0, 0))) : (results fn tmps).run Try.prog w = .ok (.bool b) w := by
  have hc := cell_blk hg 0
  simp only [List.getElem?_toArray, List.getElem?_cons_zero] at hc
  have hp2 : tmps[p]?.getD undef = .pointer (some ⟨g, 0, none⟩) := by rw [← Array.getD_eq_getD_getElem?]; exact hp
  simp [results, h, hp2, go_sem, hc]

/-- The iterator's maker. -/
theorem kw_ways (g : Nat) (s : StepB) (w : World) : Calls Try.prog 90 #[.pointer (some ⟨g, 0, none⟩), .agg (stepBox s)] w fun e w' => e = .returned (.func (.func 115) #[] #[.pointer (some ⟨w.heap.size + 1, 0, none⟩), .pointer (some ⟨w.heap.size, 0, none⟩)]) ∧ w' = (w.alloc (.cells #[.pointer (some ⟨g, 0, none⟩)] 103)).alloc (.cells (stepBox s) 43) := by
  unfold stepBox
  go_enter Try.func90, Try.ntmps90
  go_wp2
  go_ret
  exact ⟨rfl, rfl⟩

set_option maxRecDepth 100000 in
set_option maxHeartbeats 4000000 in
theorem kw_follows {T : Nat → Option KTag} (g : Nat) (F : List FactB) (s : StepB) (w : World) (h : KS T w g F) (hF : F.length ≤ 1000000) (hsh : stepShort s 9223372036854775807) :
    Calls Try.prog 51 #[.pointer (some ⟨g, 0, none⟩), .agg (stepBox s)] w fun e w' => e = .returned (.bool (decide (waysK s F ≠ []))) ∧ Chg (fun _ => False) w w' := by
  have HK := hid h
  have HSH := hid hsh
  have HFL := hid hF
  have HWS := hid (kw_ways g s ((w.alloc (.cells (stepBox s) 43)).alloc (.cells #[.bool false] 4)))
  clear h hsh hF
  refine (callsIn_wide (n := 10)).1 ?_
  unfold stepBox at HWS ⊢
  refine callsIn_of_wp_marks Try.func51 rfl trivial ?_ rfl
  simp only [Try.ntmps51, List.size_toArray, List.length_cons, List.length_nil, Nat.reduceAdd, Nat.reduceSub, Array.replicate_succ, Array.replicate_zero, List.push_toArray, List.append_toArray, List.nil_append, List.cons_append]
  gi_wp2_with fail
  refine ⟨trivial, ?_⟩
  refine (callsIn_wide.2 HWS.out).mono ?_
  clear HWS
  rintro e w' ⟨rfl, rfl⟩
  gi_wp2_with fail
  have hc0 : Chg (fun _ => False) w ((((w.alloc (.cells #[.int .i64 s.c.kind, .string ⟨s.c.head.1.toArray⟩, .string ⟨s.c.head.2.toArray⟩, .string ⟨s.c.who.toArray⟩, .string ⟨s.c.b.1.toArray⟩, .string ⟨s.c.b.2.toArray⟩, .string ⟨s.c.c.1.toArray⟩, .string ⟨s.c.c.2.toArray⟩, .string ⟨s.c.w2.toArray⟩, .string ⟨s.f.1.1.toArray⟩, .string ⟨s.f.1.2.toArray⟩, .string ⟨s.f.2.toArray⟩] 43)).alloc (.cells #[.bool false] 4)).alloc (.cells #[.pointer (some ⟨g, 0, none⟩)] 103)).alloc (.cells #[.int .i64 s.c.kind, .string ⟨s.c.head.1.toArray⟩, .string ⟨s.c.head.2.toArray⟩, .string ⟨s.c.who.toArray⟩, .string ⟨s.c.b.1.toArray⟩, .string ⟨s.c.b.2.toArray⟩, .string ⟨s.c.c.1.toArray⟩, .string ⟨s.c.c.2.toArray⟩, .string ⟨s.c.w2.toArray⟩, .string ⟨s.f.1.1.toArray⟩, .string ⟨s.f.1.2.toArray⟩, .string ⟨s.f.2.toArray⟩] 43)) := (((((Chg.refl _ w).alloc _)).alloc _).alloc _).alloc _
  have hB4 : Boxed ((((w.alloc (.cells #[.int .i64 s.c.kind, .string ⟨s.c.head.1.toArray⟩, .string ⟨s.c.head.2.toArray⟩, .string ⟨s.c.who.toArray⟩, .string ⟨s.c.b.1.toArray⟩, .string ⟨s.c.b.2.toArray⟩, .string ⟨s.c.c.1.toArray⟩, .string ⟨s.c.c.2.toArray⟩, .string ⟨s.c.w2.toArray⟩, .string ⟨s.f.1.1.toArray⟩, .string ⟨s.f.1.2.toArray⟩, .string ⟨s.f.2.toArray⟩] 43)).alloc (.cells #[.bool false] 4)).alloc (.cells #[.pointer (some ⟨g, 0, none⟩)] 103)).alloc (.cells #[.int .i64 s.c.kind, .string ⟨s.c.head.1.toArray⟩, .string ⟨s.c.head.2.toArray⟩, .string ⟨s.c.who.toArray⟩, .string ⟨s.c.b.1.toArray⟩, .string ⟨s.c.b.2.toArray⟩, .string ⟨s.c.c.1.toArray⟩, .string ⟨s.c.c.2.toArray⟩, .string ⟨s.c.w2.toArray⟩, .string ⟨s.f.1.1.toArray⟩, .string ⟨s.f.1.2.toArray⟩, .string ⟨s.f.2.toArray⟩] 43)) (w.heap.size + 1) 4 (.bool false) := by
    have := ((Boxed.new (w.alloc (.cells #[.int .i64 s.c.kind, .string ⟨s.c.head.1.toArray⟩, .string ⟨s.c.head.2.toArray⟩, .string ⟨s.c.who.toArray⟩, .string ⟨s.c.b.1.toArray⟩, .string ⟨s.c.b.2.toArray⟩, .string ⟨s.c.c.1.toArray⟩, .string ⟨s.c.c.2.toArray⟩, .string ⟨s.c.w2.toArray⟩, .string ⟨s.f.1.1.toArray⟩, .string ⟨s.f.1.2.toArray⟩, .string ⟨s.f.2.toArray⟩] 43)) 4 (.bool false)).alloc (.cells #[.pointer (some ⟨g, 0, none⟩)] 103)).alloc (.cells #[.int .i64 s.c.kind, .string ⟨s.c.head.1.toArray⟩, .string ⟨s.c.head.2.toArray⟩, .string ⟨s.c.who.toArray⟩, .string ⟨s.c.b.1.toArray⟩, .string ⟨s.c.b.2.toArray⟩, .string ⟨s.c.c.1.toArray⟩, .string ⟨s.c.c.2.toArray⟩, .string ⟨s.c.w2.toArray⟩, .string ⟨s.f.1.1.toArray⟩, .string ⟨s.f.1.2.toArray⟩, .string ⟨s.f.2.toArray⟩] 43)
    rw [World.size_alloc] at this
    exact this
  have hbk : ((((w.alloc (.cells #[.int .i64 s.c.kind, .string ⟨s.c.head.1.toArray⟩, .string ⟨s.c.head.2.toArray⟩, .string ⟨s.c.who.toArray⟩, .string ⟨s.c.b.1.toArray⟩, .string ⟨s.c.b.2.toArray⟩, .string ⟨s.c.c.1.toArray⟩, .string ⟨s.c.c.2.toArray⟩, .string ⟨s.c.w2.toArray⟩, .string ⟨s.f.1.1.toArray⟩, .string ⟨s.f.1.2.toArray⟩, .string ⟨s.f.2.toArray⟩] 43)).alloc (.cells #[.bool false] 4)).alloc (.cells #[.pointer (some ⟨g, 0, none⟩)] 103)).alloc (.cells #[.int .i64 s.c.kind, .string ⟨s.c.head.1.toArray⟩, .string ⟨s.c.head.2.toArray⟩, .string ⟨s.c.who.toArray⟩, .string ⟨s.c.b.1.toArray⟩, .string ⟨s.c.b.2.toArray⟩, .string ⟨s.c.c.1.toArray⟩, .string ⟨s.c.c.2.toArray⟩, .string ⟨s.c.w2.toArray⟩, .string ⟨s.f.1.1.toArray⟩, .string ⟨s.f.1.2.toArray⟩, .string ⟨s.f.2.toArray⟩] 43)).heap[w.heap.size + 1 + 1]? = some (.cells #[.pointer (some ⟨g, 0, none⟩)] 103 (0, 0)) := by
    have := heap_alloc_new ((w.alloc (.cells #[.int .i64 s.c.kind, .string ⟨s.c.head.1.toArray⟩, .string ⟨s.c.head.2.toArray⟩, .string ⟨s.c.who.toArray⟩, .string ⟨s.c.b.1.toArray⟩, .string ⟨s.c.b.2.toArray⟩, .string ⟨s.c.c.1.toArray⟩, .string ⟨s.c.c.2.toArray⟩, .string ⟨s.c.w2.toArray⟩, .string ⟨s.f.1.1.toArray⟩, .string ⟨s.f.1.2.toArray⟩, .string ⟨s.f.2.toArray⟩] 43)).alloc (.cells #[.bool false] 4)) (.cells #[.pointer (some ⟨g, 0, none⟩)] 103)
    rw [World.size_alloc, World.size_alloc] at this
    exact blk_keep this ((Chg.refl (fun _ => False) _).alloc _) id
  have hbs : ((((w.alloc (.cells #[.int .i64 s.c.kind, .string ⟨s.c.head.1.toArray⟩, .string ⟨s.c.head.2.toArray⟩, .string ⟨s.c.who.toArray⟩, .string ⟨s.c.b.1.toArray⟩, .string ⟨s.c.b.2.toArray⟩, .string ⟨s.c.c.1.toArray⟩, .string ⟨s.c.c.2.toArray⟩, .string ⟨s.c.w2.toArray⟩, .string ⟨s.f.1.1.toArray⟩, .string ⟨s.f.1.2.toArray⟩, .string ⟨s.f.2.toArray⟩] 43)).alloc (.cells #[.bool false] 4)).alloc (.cells #[.pointer (some ⟨g, 0, none⟩)] 103)).alloc (.cells #[.int .i64 s.c.kind, .string ⟨s.c.head.1.toArray⟩, .string ⟨s.c.head.2.toArray⟩, .string ⟨s.c.who.toArray⟩, .string ⟨s.c.b.1.toArray⟩, .string ⟨s.c.b.2.toArray⟩, .string ⟨s.c.c.1.toArray⟩, .string ⟨s.c.c.2.toArray⟩, .string ⟨s.c.w2.toArray⟩, .string ⟨s.f.1.1.toArray⟩, .string ⟨s.f.1.2.toArray⟩, .string ⟨s.f.2.toArray⟩] 43)).heap[w.heap.size + 1 + 1 + 1]? = some (.cells (stepBox s) 43 (0, 0)) := by
    have := heap_alloc_new (((w.alloc (.cells #[.int .i64 s.c.kind, .string ⟨s.c.head.1.toArray⟩, .string ⟨s.c.head.2.toArray⟩, .string ⟨s.c.who.toArray⟩, .string ⟨s.c.b.1.toArray⟩, .string ⟨s.c.b.2.toArray⟩, .string ⟨s.c.c.1.toArray⟩, .string ⟨s.c.c.2.toArray⟩, .string ⟨s.c.w2.toArray⟩, .string ⟨s.f.1.1.toArray⟩, .string ⟨s.f.1.2.toArray⟩, .string ⟨s.f.2.toArray⟩] 43)).alloc (.cells #[.bool false] 4)).alloc (.cells #[.pointer (some ⟨g, 0, none⟩)] 103)) (.cells #[.int .i64 s.c.kind, .string ⟨s.c.head.1.toArray⟩, .string ⟨s.c.head.2.toArray⟩, .string ⟨s.c.who.toArray⟩, .string ⟨s.c.b.1.toArray⟩, .string ⟨s.c.b.2.toArray⟩, .string ⟨s.c.c.1.toArray⟩, .string ⟨s.c.c.2.toArray⟩, .string ⟨s.c.w2.toArray⟩, .string ⟨s.f.1.1.toArray⟩, .string ⟨s.f.1.2.toArray⟩, .string ⟨s.f.2.toArray⟩] 43)
    rw [World.size_alloc, World.size_alloc, World.size_alloc] at this
    exact this
  have hsz : ((((w.alloc (.cells #[.int .i64 s.c.kind, .string ⟨s.c.head.1.toArray⟩, .string ⟨s.c.head.2.toArray⟩, .string ⟨s.c.who.toArray⟩, .string ⟨s.c.b.1.toArray⟩, .string ⟨s.c.b.2.toArray⟩, .string ⟨s.c.c.1.toArray⟩, .string ⟨s.c.c.2.toArray⟩, .string ⟨s.c.w2.toArray⟩, .string ⟨s.f.1.1.toArray⟩, .string ⟨s.f.1.2.toArray⟩, .string ⟨s.f.2.toArray⟩] 43)).alloc (.cells #[.bool false] 4)).alloc (.cells #[.pointer (some ⟨g, 0, none⟩)] 103)).alloc (.cells #[.int .i64 s.c.kind, .string ⟨s.c.head.1.toArray⟩, .string ⟨s.c.head.2.toArray⟩, .string ⟨s.c.who.toArray⟩, .string ⟨s.c.b.1.toArray⟩, .string ⟨s.c.b.2.toArray⟩, .string ⟨s.c.c.1.toArray⟩, .string ⟨s.c.c.2.toArray⟩, .string ⟨s.c.w2.toArray⟩, .string ⟨s.f.1.1.toArray⟩, .string ⟨s.f.1.2.toArray⟩, .string ⟨s.f.2.toArray⟩] 43)).heap.size = w.heap.size + 4 := by simp
  have hlo : ∀ i, T i ≠ none → i < w.heap.size := HK.out.lo
  generalize ((((w.alloc (.cells #[.int .i64 s.c.kind, .string ⟨s.c.head.1.toArray⟩, .string ⟨s.c.head.2.toArray⟩, .string ⟨s.c.who.toArray⟩, .string ⟨s.c.b.1.toArray⟩, .string ⟨s.c.b.2.toArray⟩, .string ⟨s.c.c.1.toArray⟩, .string ⟨s.c.c.2.toArray⟩, .string ⟨s.c.w2.toArray⟩, .string ⟨s.f.1.1.toArray⟩, .string ⟨s.f.1.2.toArray⟩, .string ⟨s.f.2.toArray⟩] 43)).alloc (.cells #[.bool false] 4)).alloc (.cells #[.pointer (some ⟨g, 0, none⟩)] 103)).alloc (.cells #[.int .i64 s.c.kind, .string ⟨s.c.head.1.toArray⟩, .string ⟨s.c.head.2.toArray⟩, .string ⟨s.c.who.toArray⟩, .string ⟨s.c.b.1.toArray⟩, .string ⟨s.c.b.2.toArray⟩, .string ⟨s.c.c.1.toArray⟩, .string ⟨s.c.c.2.toArray⟩, .string ⟨s.c.w2.toArray⟩, .string ⟨s.f.1.1.toArray⟩, .string ⟨s.f.1.2.toArray⟩, .string ⟨s.f.2.toArray⟩] 43)) = W0 at *
  refine wpIn_rangeC (n := 10) (k := 8) (gf := 115) (lb := #[.pointer (some ⟨w.heap.size + 1 + 1 + 1, 0, none⟩), .pointer (some ⟨w.heap.size + 1 + 1, 0, none⟩)]) (U := (· = w.heap.size + 1)) rfl (enters_of Try.func115 (by kernel_rfl) rfl)
    (kw_seq (T := T) (U := (· = w.heap.size + 1)) g (w.heap.size + 1 + 1 + 1) (w.heap.size + 1 + 1) F s W0 (fun i hi => ⟨(fun e => by have := hlo i hi; have : i = w.heap.size + 1 := e; omega), by have := hlo i hi; omega⟩) (by omega) (by omega) (fun i hi => by have : i = w.heap.size + 1 := hi; omega) HFL.out HSH.out (HK.out.quiet hc0) hbs hbk) (Chg.refl _ _) (fun _ => rfl)
    (fun x m => ownI_stays _ _ _ _) (fun x m m' W hm h => h.low hm)
    (fun _ pre W => (pre = [] ∧ Boxed W (w.heap.size + 1) 4 (.bool false)) ∧ Below w.heap.size w W)
    (fun pre W => (pre ≠ [] ∧ Boxed W (w.heap.size + 1) 4 (.bool true)) ∧ Below w.heap.size w W)
    (fun m pre => stays_and (stays_and (stays_pure _ _) (boxed_stays _ _ _ _)) (below_stays (by omega) (Nat.le_refl _)))
    (fun pre => stays_and (stays_and (stays_pure _ _) (boxed_stays _ _ _ _)) (below_stays (by omega) (Nat.le_refl _)))
    ⟨⟨rfl, hB4⟩, qbelow hc0 (Nat.le_refl _)⟩
    (fun x a' _ => a' = { tmps := #[.pointer (some ⟨g, 0, none⟩), .agg #[.int .i64 s.c.kind, .string ⟨s.c.head.1.toArray⟩, .string ⟨s.c.head.2.toArray⟩, .string ⟨s.c.who.toArray⟩, .string ⟨s.c.b.1.toArray⟩, .string ⟨s.c.b.2.toArray⟩, .string ⟨s.c.c.1.toArray⟩, .string ⟨s.c.c.2.toArray⟩, .string ⟨s.c.w2.toArray⟩, .string ⟨s.f.1.1.toArray⟩, .string ⟨s.f.1.2.toArray⟩, .string ⟨s.f.2.toArray⟩], undef, .pointer (some ⟨w.heap.size, 0, none⟩), .pointer (some ⟨w.heap.size + 1, 0, none⟩), .pointer (some ⟨g, 0, none⟩), .agg #[.int .i64 s.c.kind, .string ⟨s.c.head.1.toArray⟩, .string ⟨s.c.head.2.toArray⟩, .string ⟨s.c.who.toArray⟩, .string ⟨s.c.b.1.toArray⟩, .string ⟨s.c.b.2.toArray⟩, .string ⟨s.c.c.1.toArray⟩, .string ⟨s.c.c.2.toArray⟩, .string ⟨s.c.w2.toArray⟩, .string ⟨s.f.1.1.toArray⟩, .string ⟨s.f.1.2.toArray⟩, .string ⟨s.f.2.toArray⟩], .func (.func 115) #[] #[.pointer (some ⟨w.heap.size + 1 + 1 + 1, 0, none⟩), .pointer (some ⟨w.heap.size + 1 + 1, 0, none⟩)], x.1], defers := [] })
    (fun x a' => stays_pure _ _) ?assign ?body ?done ?stop
  case assign =>
    intro l x W K _ hK
    have HK2 := hid hK
    clear hK
    gi_wp2
    exact HK2.out _ _ (Chg.refl _ _) (by simp)
  case body =>
    rintro l m pre x a' W hl hr hm hwl ⟨⟨rfl, hbx⟩, hB⟩ hC rfl hlen
    have HR := hid (show KeepsFrom W0.heap.size W (W.setCell ⟨w.heap.size + 1, 0, none⟩ (.bool true)) ∧ ((([] ++ [x] : List (Value × List Nat)) ≠ [] ∧ Boxed (W.setCell ⟨w.heap.size + 1, 0, none⟩ (.bool true)) (w.heap.size + 1) 4 (.bool true)) ∧ Below w.heap.size w (W.setCell ⟨w.heap.size + 1, 0, none⟩ (.bool true))) from
      ⟨(KeepsOthers.setCell _ _ _).from _, ⟨by simp, hbx.set _⟩, hB.setCell (p := ⟨w.heap.size + 1, 0, none⟩) (by show w.heap.size ≤ w.heap.size + 1; omega) _⟩)
    have c4 := hbx.cell
    have f4 := hbx.frozen
    clear hbx hB hC hl hr hm hwl
    gi_wp2
    exact HR.out
  case done =>
    rintro D m xs W hD hS ⟨⟨rfl, hbx⟩, hB⟩ hKd
    have c4 := hbx.cell
    have f4 := hbx.frozen
    gi_wp2
    have hKd2 := (KeepsOthers.setCell W ⟨w.heap.size + 1, 0, none⟩ (.bool false)).same D _ hKd rfl
    refine ⟨by simp, .inl ⟨_, _, rfl, run_takeDeferred hKd2, ?_⟩⟩
    have hbx2 : Boxed (W.setCell ⟨w.heap.size + 1, 0, none⟩ (.bool false)) (w.heap.size + 1) 4 (.bool false) := hbx.set _
    have hB2 : Below w.heap.size w (W.setCell ⟨w.heap.size + 1, 0, none⟩ (.bool false)) := hB.setCell (p := ⟨w.heap.size + 1, 0, none⟩) (by show w.heap.size ≤ w.heap.size + 1; omega) _
    have cp := chg_putObj (W.setCell ⟨w.heap.size + 1, 0, none⟩ (.bool false)) D (.deferred none)
    refine ⟨.bool false, results_bool rfl _ _ (w.heap.size + 1) false rfl (blk_keep hbx2 cp (fun e => by have : w.heap.size + 1 = D := e; omega)), ?_, below_q (hB2.trans (cp.below hB2.size (fun i hi e => by have : i = D := e; omega)))⟩
    rw [← hS]
    rfl
  case stop =>
    rintro D pre W hD hS ⟨⟨hne, hbx⟩, hB⟩ hKd
    gi_wp2
    refine ⟨by simp, .inl ⟨_, _, rfl, run_takeDeferred hKd, ?_⟩⟩
    have cp := chg_putObj W D (.deferred none)
    refine ⟨.bool true, results_bool rfl _ _ (w.heap.size + 1) true rfl (blk_keep hbx cp (fun e => by have : w.heap.size + 1 = D := e; omega)), ?_, below_q (hB.trans (cp.below hB.size (fun i hi e => by have : i = D := e; omega)))⟩
    have hw : waysK s F ≠ [] := fun e => by
      rw [e] at hS
      have := List.eq_nil_of_prefix_nil hS
      exact hne (List.map_eq_nil_iff.1 this)
    rw [decide_eq_true hw]
end Go.Proofs.Ytjaplnainlbldaa

/- What is known, amid the program's loops. -/
namespace Go.Proofs.Ytjaplnainlbldaa
open Go.RowKit Go.Maps

/-- The block g knows F; its blocks are newer than w0, and none of Pr. -/
structure KK (w0 : World) (Pr : Nat → Prop) (g : Nat) (F : List FactB) (w : World) : Prop where
  ex : ∃ T, KS T w g F ∧ ∀ b, T b ≠ none → w0.heap.size ≤ b ∧ ¬ Pr b
  sz : w0.heap.size ≤ w.heap.size

section
variable {w0 w w' : World} {Pr : Nat → Prop} {g : Nat} {F : List FactB}
theorem KK.keep {S : Nat → Prop} (h : KK w0 Pr g F w) (hc : Chg S w w') (hs : ∀ i, w0.heap.size ≤ i → ¬ Pr i → ¬ S i) : KK w0 Pr g F w' := by
  obtain ⟨⟨T, h1, h2⟩, h3⟩ := h
  exact ⟨⟨T, h1.keep hc (fun b hb => hs b (h2 b hb).1 (h2 b hb).2), h2⟩, Nat.le_trans h3 hc.size⟩
theorem KK.quiet (h : KK w0 Pr g F w) (hc : Chg (fun _ => False) w w') : KK w0 Pr g F w' := h.keep hc (fun _ _ _ => id)
theorem KK.made {e : Ending} (h : NewK w0 e w') : ∃ g, e = .returned (.pointer (some ⟨g, 0, none⟩)) ∧ KK w0 (fun _ => False) g [] w' ∧ Chg (fun _ => False) w0 w' := by
  obtain ⟨T, h1, h2, h3, h4⟩ := h
  exact ⟨_, h1, ⟨⟨T, h2, fun b hb => ⟨h4 b hb, id⟩⟩, h3.size⟩, h3⟩

def KAdded (w0 : World) (Pr : Nat → Prop) (g : Nat) (F : List FactB) (f : FactB) (w : World) (e : Ending) (w' : World) : Prop :=
  e = .returned (.tuple #[]) ∧ KK w0 Pr g (addK F f) w' ∧ Chg (fun i => w0.heap.size ≤ i ∧ ¬ Pr i) w w'

theorem KK.add (h : KK w0 Pr g F w) (hp : ∀ i, Pr i → i < w.heap.size) (f : FactB) (hf : factShort f 9223372036854775807) (hn : F.length < 33554432) :
    Calls Try.prog 52 #[.pointer (some ⟨g, 0, none⟩), .agg #[.string ⟨f.1.1.toArray⟩, .string ⟨f.1.2.toArray⟩, .string ⟨f.2.toArray⟩]] w (KAdded w0 Pr g F f w) := by
  obtain ⟨⟨T, h1, h2⟩, h3⟩ := h
  have key : Calls Try.prog 52 #[.pointer (some ⟨g, 0, none⟩), .agg #[.string ⟨f.1.1.toArray⟩, .string ⟨f.1.2.toArray⟩, .string ⟨f.2.toArray⟩]] w (AddPost T g F f w) := by
    by_cases hm : f ∈ F
    · exact kw_add_yes g F f w h1 hm
    · exact kw_add_no g F f w h1 hn hf hm
  refine key.mono ?_
  rintro e w' ⟨he, T', k1, k2, k3⟩
  refine ⟨he, ⟨⟨T', k1, fun b hb => ?_⟩, Nat.le_trans h3 k3.size⟩, k3.mono (fun i _ hi => h2 i hi)⟩
  rcases k2.new b hb with e | e
  · exact h2 b e
  · exact ⟨Nat.le_trans h3 e, fun e2 => by have := hp b e2; omega⟩

theorem KK.has (h : KK w0 Pr g F w) (f : FactB) (hf : factShort f 9223372036854775807) : Calls Try.prog 53 #[.pointer (some ⟨g, 0, none⟩), .agg #[.string ⟨f.1.1.toArray⟩, .string ⟨f.1.2.toArray⟩, .string ⟨f.2.toArray⟩]] w fun e w' => e = .returned (.bool (decide (f ∈ F))) ∧ Chg (fun _ => False) w w' := by
  obtain ⟨⟨T, h1, h2⟩, h3⟩ := h
  exact kw_has g F f w h1 hf
theorem KK.follows (h : KK w0 Pr g F w) (s : StepB) (hs : stepShort s 9223372036854775807) (hn : F.length ≤ 1000000) : Calls Try.prog 51 #[.pointer (some ⟨g, 0, none⟩), .agg (stepBox s)] w fun e w' => e = .returned (.bool (decide (waysK s F ≠ []))) ∧ Chg (fun _ => False) w w' := by
  obtain ⟨⟨T, h1, h2⟩, h3⟩ := h
  exact kw_follows g F s w h1 hn hs
end

theorem follows_ways {s : StepB} {hs : List FactB} : decide (waysK s (knownK hs) ≠ []) = followsK s hs := by
  rw [Bool.eq_iff_iff, decide_eq_true_eq, waysK_ne, folK_iff]
  have : (fun f => f ∈ knownK hs) = (fun f => f ∈ hs) := funext fun f => propext knownK_mem
  rw [this]
end Go.Proofs.Ytjaplnainlbldaa

/- The contract of the program's Follows. -/
namespace Go.Proofs.Ytjaplnainlbldaa
open Go.RowKit Go.Maps

end Go.Proofs.Ytjaplnainlbldaa

/- The contract of the program's Check. -/
namespace Go.Proofs.Ytjaplnainlbldaa
open Go.RowKit Go.Maps

def inC (cs : List CredB) : CredB → Option Value := fun c => if c ∈ cs then some (.agg #[]) else none
theorem inC_snoc (cs : List CredB) (c : CredB) : putF (inC cs) c (.agg #[]) = inC (cs ++ [c]) := by
  funext d
  unfold putF inC
  by_cases e : d = c
  · rw [if_pos e, if_pos (by simp [e])]
  · rw [if_neg e]
    by_cases h : d ∈ cs
    · rw [if_pos h, if_pos (by simp [h])]
    · rw [if_neg h, if_neg (by simp [h, e])]
theorem inC_some (cs : List CredB) (c : CredB) : (inC cs c).isSome = hasC cs c := by
  unfold inC hasC
  rw [List.contains_eq_mem]
  split <;> simp_all
theorem inC_val (cs : List CredB) (c : CredB) : (inC cs c).getD (.agg #[]) = .agg #[] := by unfold inC; split <;> rfl
theorem kZeroUn (w : World) : (zeroValue 99).run Try.prog w = .ok (.agg #[]) w := by kernel_rfl

theorem run_makeMapN (n : Int) (w : World) : (Instr.makeMap 101 (some (.int .i64 n))).run Try.prog w = .ok (.map (some w.heap.size)) (w.alloc (.map #[] 0)) := by
  simp [Instr.makeMap, run_underlying Try.underlying101, asInt, asIntOf, Sem.run_bind, Result.andThen]

def SetOfPost (cs : List CredB) (w : World) (e : Ending) (w' : World) : Prop := ∃ mb, e = .returned (.map (some mb)) ∧ w.heap.size ≤ mb ∧ KV ktW w' mb cs.length (inC cs) ∧ Chg (fun _ => False) w w'

set_option maxRecDepth 100000 in
set_option maxHeartbeats 4000000 in
theorem kw_setOf {E : Nat → Prop} (co : Option Addr) (cc : Nat) (cs : List CredB) (w : World) (hn : cs.length ≤ 1000000) (h : CredsAt E w co cs) (hk : KindsC cs) : Calls Try.prog 49 #[.slice co cs.length cc] w (SetOfPost cs w) := by
  have HS := hid (And.intro h hk)
  have hmm := run_makeMapN
  have hmk := kv_made ktW w
  have hca : Chg (fun _ => False) w (w.alloc (.map #[] 0)) := (Chg.refl _ _).alloc _
  have HM := hid (And.intro (hmk.cong (F' := inC []) (fun c _ => by simp [inC])) hca)
  clear h hk hmk hca
  go_enter Try.func49, Try.ntmps49
  go_wp2
  clear hmm
  generalize w.alloc (.map #[] 0) = w1 at *
  obtain ⟨mb, hmb⟩ : ∃ mb, w.heap.size = mb := ⟨_, rfl⟩
  have HMB := hid hmb
  rw [hmb] at HM ⊢
  clear hmb
  go_loopw [11] (fun i wr => ∃ j : Nat, j ≤ cs.length ∧ i = .int .i64 j ∧ Hid (KV ktW wr mb j (inC (cs.take j))) ∧ Hid (Chg (fun _ => False) w wr)) (fun i _ => cs.length - (intOf i).toNat)
  case atStart => exact ⟨0, Nat.zero_le _, rfl, hid HM.out.1, hid HM.out.2⟩
  case round =>
    obtain ⟨j, hj, rfl, hk, hc⟩ := hrel
    by_cases hlt : j < cs.length
    · obtain ⟨b, off, hao, _, ⟨a0, a1, a2, a3, a4, a5, a6, a7, a8⟩, hsc⟩ := (HS.out.1.keep hc.out (fun _ _ => id)) j hlt
      have hkw := HS.out.2 _ (List.getElem_mem hlt)
      have htk : inC (cs.take (j + 1)) = putF (inC (cs.take j)) cs[j] (.agg #[]) := by rw [List.take_succ_eq_append_getElem hlt, inC_snoc]
      generalize cs[j] = c at *
      have hal : Chg (fun _ => False) wr (wr.alloc (.cells #[.int .i64 c.kind, .string ⟨c.head.1.toArray⟩, .string ⟨c.head.2.toArray⟩, .string ⟨c.who.toArray⟩, .string ⟨c.b.1.toArray⟩, .string ⟨c.b.2.toArray⟩, .string ⟨c.c.1.toArray⟩, .string ⟨c.c.2.toArray⟩, .string ⟨c.w2.toArray⟩] 36)) := (Chg.refl _ _).alloc _
      obtain ⟨w2, hr0, hk2, hc2, _⟩ := (hk.out.keep hal id).set (t := 101) (e := 99) Try.underlying101 (by omega) (a := c) ⟨hsc, hkw⟩ (.agg #[])
      have hr : (Instr.mapUpdate 101 (.map (some mb)) (.agg #[.int .i64 c.kind, .string ⟨c.head.1.toArray⟩, .string ⟨c.head.2.toArray⟩, .string ⟨c.who.toArray⟩, .string ⟨c.b.1.toArray⟩, .string ⟨c.b.2.toArray⟩, .string ⟨c.c.1.toArray⟩, .string ⟨c.c.2.toArray⟩, .string ⟨c.w2.toArray⟩]) (.agg #[])).run Try.prog (wr.alloc (.cells #[.int .i64 c.kind, .string ⟨c.head.1.toArray⟩, .string ⟨c.head.2.toArray⟩, .string ⟨c.who.toArray⟩, .string ⟨c.b.1.toArray⟩, .string ⟨c.b.2.toArray⟩, .string ⟨c.c.1.toArray⟩, .string ⟨c.c.2.toArray⟩, .string ⟨c.w2.toArray⟩] 36)) = .ok () w2 := hr0
      rw [← htk] at hk2
      have HK2 := hid hk2
      have HC3 : Hid (Chg (fun _ => False) w w2) := hid ((hc.out.trans hal (fun _ _ h => h)).trans hc2 (fun i hi h => by have := HMB.out; omega))
      clear hk hc hsc hkw htk hal hk2 hc2 hr0
      subst hao
      go_wp2
      clear hr a0 a1 a2 a3 a4 a5 a6 a7 a8
      go_roundw
      case rel => exact ⟨j + 1, by omega, by go_num, HK2, HC3⟩
      case measure => simp [intOf]; omega
    · have hje : j = cs.length := by omega
      have hk2 := hk.out
      rw [hje, List.take_length] at hk2
      have HP := hid (show SetOfPost cs w (.returned (.map (some mb))) wr from ⟨mb, rfl, by have := HMB.out; omega, hk2, hc.out⟩)
      clear hk hc hk2 hje
      go_wp2
      go_ret
      exact HP.out
end Go.Proofs.Ytjaplnainlbldaa
