/- Law 13's first answers true. -/
import Derived.Test.YtcbfieodjbfjdaaNc25
import Derived.Test.YtcbfieodjbfjdaaNc26
namespace Go.Proofs.Ytcbfieodjbfjdaa
open Go.RowKit Go.Lib Go.Sort

theorem of_known {f z : FmB} (hf : isF f = true) (hz : ShapeR f z) (hzF : isF z = true) {w : World} {e : Ending} {w' : World} (h : OfPost f w e w') : ∃ x : AT, e = .returned (.tuple #[fmV x, .int .i64 0]) ∧ OwnA w.heap.size w' x ∧ (blksA x).Nodup ∧ Chg (fun _ => False) w w' ∧ eraseA x = z := by
  obtain ⟨x, k, h1, h2, h3, h4, h5⟩ := h
  rcases h5 with ⟨h5, _⟩ | ⟨_, y, hy, ⟨h6, h7, rfl⟩ | ⟨h6, _⟩⟩
  · rw [hf] at h5; cases h5
  · exact ⟨x, h1, h2, h3, h4, by rw [h7]; exact shape_is hf hz hzF hy⟩
  · rw [shape_is hf hz hzF hy, hzF] at h6; cases h6
theorem of_wrong {f : FmB} (hf : isF f = false) {w : World} {e : Ending} {w' : World} (h : OfPost f w e w') : ∃ x : AT, e = .returned (.tuple #[fmV x, .int .i64 11]) ∧ OwnA w.heap.size w' x ∧ Chg (fun _ => False) w w' ∧ eraseA x = zFm := by
  obtain ⟨x, k, h1, h2, h3, h4, h5⟩ := h
  rcases h5 with ⟨_, h6, rfl⟩ | ⟨h5, _⟩
  · exact ⟨x, h1, h2, h4, h6⟩
  · rw [hf] at h5; cases h5
theorem is_known {f z : FmB} (hf : isF f = true) (hz : ShapeR f z) (hzF : isF z = true) {w : World} {e : Ending} {w' : World} (h : IsPost f w e w') : ∃ b : Bool, e = .returned (.bool b) ∧ (b = true ↔ f = z) ∧ Chg (fun _ => False) w w' := by
  obtain ⟨b, h1, h2, h3⟩ := h
  refine ⟨b, h1, ?_, h2⟩
  rcases h3 with ⟨h3, _⟩ | ⟨_, y, hy, hb⟩
  · rw [hf] at h3; cases h3
  · have e := shape_is hf hz hzF hy
    rw [hb, e]
    exact ⟨fun h => h.2, fun h => ⟨hzF, h⟩⟩

def faN : FmB := .mk 1 0 (([97] : List UInt8), ([114] : List UInt8)) []
def fbN : FmB := .mk 1 0 (([98] : List UInt8), ([115] : List UInt8)) []
def fabN : FmB := .mk 2 0 ([], []) [faN, fbN]
theorem fa_ne_fb : faN ≠ fbN := by simp [faN, fbN]
theorem le_ab : leN faN fbN := by unfold leN; decide +kernel
theorem le_bb : leN fbN fbN := by unfold leN; decide +kernel
theorem le_aa : leN faN faN := by unfold leN; decide +kernel
theorem isF_ab : isF fabN = true := by decide +kernel
theorem isF_a : isF faN = true := by decide +kernel
theorem sh_a : ShapeR faN faN := by rw [shapeR_eq, if_pos (show faN.op = 1 from rfl)]; rfl
theorem sh_b : ShapeR fbN fbN := by rw [shapeR_eq, if_pos (show fbN.op = 1 from rfl)]; rfl
theorem sh_ab : ShapeR fabN fabN := by
  rw [shapeR_eq, if_neg (by decide)]
  refine ⟨[faN, fbN], ?_, ?_⟩
  · show ShapeL [faN, fbN] [faN, fbN]
    rw [ShapeL]; refine ⟨_, _, rfl, sh_a, ?_⟩
    rw [ShapeL]; refine ⟨_, _, rfl, sh_b, ?_⟩
    rw [ShapeL]
  · rw [if_neg (by decide)]
    refine .inr ⟨?_, [faN, fbN], ?_, ?_, ?_⟩
    · intro k hk _
      simp only [List.mem_cons, List.not_mem_nil, or_false] at hk
      rcases hk with rfl | rfl <;> decide +kernel
    · exact List.Perm.refl _
    · exact List.pairwise_cons.2 ⟨fun y hy => by rw [List.mem_singleton.1 hy]; exact le_ab, List.pairwise_singleton _ _⟩
    · simp only [cmpctN, if_neg fa_ne_fb]; rfl
theorem sh_bab : ShapeR (.mk 2 0 ([], []) [fbN, fabN]) fabN := by
  rw [ShapeR, if_neg (by decide)]
  refine ⟨[fbN, fabN], ?_, ?_⟩
  · rw [ShapeL]; refine ⟨_, _, rfl, sh_b, ?_⟩
    rw [ShapeL]; refine ⟨_, _, rfl, sh_ab, ?_⟩
    rw [ShapeL]
  · rw [if_neg (by decide)]
    refine .inr ⟨?_, [faN, fbN, fbN], ?_, ?_, ?_⟩
    · intro k hk hne
      simp only [List.mem_cons, List.not_mem_nil, or_false] at hk
      rcases hk with rfl | rfl
      · decide +kernel
      · exact absurd rfl hne
    · show List.Perm [faN, fbN, fbN] [fbN, faN, fbN]
      exact List.Perm.swap _ _ _
    · refine List.pairwise_cons.2 ⟨fun y hy => ?_, List.pairwise_cons.2 ⟨fun y hy => by rw [List.mem_singleton.1 hy]; exact le_bb, List.pairwise_singleton _ _⟩⟩
      simp only [List.mem_cons, List.not_mem_nil, or_false, or_self] at hy
      rw [hy]; exact le_ab
    · simp only [cmpctN, if_neg fa_ne_fb, if_true]; rfl
theorem sh_aa : ShapeR (.mk 2 0 ([], []) [faN, faN]) faN := by
  rw [ShapeR, if_neg (by decide)]
  refine ⟨[faN, faN], ?_, ?_⟩
  · rw [ShapeL]; refine ⟨_, _, rfl, sh_a, ?_⟩
    rw [ShapeL]; refine ⟨_, _, rfl, sh_a, ?_⟩
    rw [ShapeL]
  · rw [if_neg (by decide)]
    refine .inr ⟨?_, [faN, faN], ?_, ?_, ?_⟩
    · intro k hk _
      simp only [List.mem_cons, List.not_mem_nil, or_false, or_self] at hk
      rw [hk]; decide +kernel
    · exact List.Perm.refl _
    · exact List.pairwise_cons.2 ⟨fun y hy => by rw [List.mem_singleton.1 hy]; exact le_aa, List.pairwise_singleton _ _⟩
    · simp only [cmpctN, if_true]; rfl
theorem sh_one : ShapeR (.mk 2 0 ([], []) [faN]) faN := by
  rw [ShapeR, if_neg (by decide)]
  refine ⟨[faN], ?_, ?_⟩
  · rw [ShapeL]; refine ⟨_, _, rfl, sh_a, ?_⟩
    rw [ShapeL]
  · rw [if_neg (by decide)]
    refine .inr ⟨?_, [faN], ?_, ?_, ?_⟩
    · intro k hk _
      rw [List.mem_singleton.1 hk]; decide +kernel
    · exact List.Perm.refl _
    · exact List.pairwise_singleton _ _
    · rfl
def tA : AT := .mk 1 0 (([97] : List UInt8), ([114] : List UInt8)) (.slice none 0 0) []
def tB : AT := .mk 1 0 (([98] : List UInt8), ([115] : List UInt8)) (.slice none 0 0) []
theorem tA_own (B : Nat) (w : World) : OwnA B w tA := by
  unfold tA
  rw [ownA_eq]
  exact ⟨⟨by simp [AT.r], by simp [AT.r]⟩, World.ownsRow_nil _ _ _ _, trivial⟩
theorem tB_own (B : Nat) (w : World) : OwnA B w tB := by
  unfold tB
  rw [ownA_eq]
  exact ⟨⟨by simp [AT.r], by simp [AT.r]⟩, World.ownsRow_nil _ _ _ _, trivial⟩
/-- All of a row of the call's own that lies in one block. -/
theorem all_own {B K n : Nat} {w : World} {ts : List AT} (hn : n = ts.length) (hK : B ≤ K) (hn2 : n ≤ 1000) (hb : w.heap[K]? = some (.cells (rowA ts).toArray 26 (0, 0))) (hts : ∀ t ∈ ts, OwnA B w t ∧ blksA t = []) : OwnA B w (.mk 2 0 ([], []) (.slice (some ⟨K, 0, none⟩) n n) ts) ∧ (blksA (.mk 2 0 ([], []) (.slice (some ⟨K, 0, none⟩) n n) ts)).Nodup := by
  subst hn
  refine ⟨?_, ?_⟩
  · rw [ownA_eq]
    refine ⟨⟨by simp [AT.r], by simp [AT.r]⟩, ⟨by rw [rowA_len], .inr ⟨K, ts.length, _, rfl, hK, hb, Nat.le_refl _, by unfold maxLen; omega, by rw [List.size_toArray, rowA_len], ?_⟩⟩, (ownL_all _ _ _).2 fun t ht => (hts t ht).1⟩
    show ((rowA ts).toArray.toList.take (ts.length * 5)) = rowA ts
    rw [List.take_of_length_le (by rw [rowA_len]; exact Nat.le_refl _)]
  · have : blksL ts = [] := by
      rw [blksL_flat, List.flatMap_eq_nil_iff]
      exact fun t ht => (hts t ht).2
    rw [blksA_eq]
    show (_ ++ blksL ts).Nodup
    rw [this]
    simp [AT.v, Value.ownBlock]

set_option maxRecDepth 100000 in
set_option maxHeartbeats 8000000 in
theorem nnfirst (w : World) : Calls Try.prog 6 #[] w fun e w' => e = .returned (.bool true) ∧ Chg (fun _ => False) w w' := by
  have k1 := (Chg.refl (fun _ => False) w).alloc (.cells #[.int .i64 1, .int .i64 0, .string ⟨#[97]⟩, .string ⟨#[114]⟩, .slice none 0 0] 26)
  have k2 := k1.alloc (.cells #[.int .i64 1, .int .i64 0, .string ⟨#[98]⟩, .string ⟨#[115]⟩, .slice none 0 0] 26)
  have k3 := k2.alloc (.cells #[.int .i64 1, .int .i64 0, .string ⟨#[97]⟩, .string ⟨#[114]⟩, .slice none 0 0, .int .i64 1, .int .i64 0, .string ⟨#[98]⟩, .string ⟨#[115]⟩, .slice none 0 0] 26)
  have k4 := k3.alloc (.cells #[.int .i64 2, .int .i64 0, .string ⟨#[]⟩, .string ⟨#[]⟩, .slice (some ⟨w.heap.size + 2, 0, none⟩) 2 2] 26)
  have k5 := k4.alloc (.cells #[.int .i64 1, .int .i64 0, .string ⟨#[98]⟩, .string ⟨#[115]⟩, .slice none 0 0, .int .i64 2, .int .i64 0, .string ⟨#[]⟩, .string ⟨#[]⟩, .slice (some ⟨w.heap.size + 2, 0, none⟩) 2 2] 26)
  have e1 : (w.alloc (.cells #[.int .i64 1, .int .i64 0, .string ⟨#[97]⟩, .string ⟨#[114]⟩, .slice none 0 0] 26)).heap.size = w.heap.size + 1 := by simp
  have e2 : ((w.alloc (.cells #[.int .i64 1, .int .i64 0, .string ⟨#[97]⟩, .string ⟨#[114]⟩, .slice none 0 0] 26)).alloc (.cells #[.int .i64 1, .int .i64 0, .string ⟨#[98]⟩, .string ⟨#[115]⟩, .slice none 0 0] 26)).heap.size = w.heap.size + 2 := by simp
  have e3 : (((w.alloc (.cells #[.int .i64 1, .int .i64 0, .string ⟨#[97]⟩, .string ⟨#[114]⟩, .slice none 0 0] 26)).alloc (.cells #[.int .i64 1, .int .i64 0, .string ⟨#[98]⟩, .string ⟨#[115]⟩, .slice none 0 0] 26)).alloc (.cells #[.int .i64 1, .int .i64 0, .string ⟨#[97]⟩, .string ⟨#[114]⟩, .slice none 0 0, .int .i64 1, .int .i64 0, .string ⟨#[98]⟩, .string ⟨#[115]⟩, .slice none 0 0] 26)).heap.size = w.heap.size + 3 := by simp
  have e4 : ((((w.alloc (.cells #[.int .i64 1, .int .i64 0, .string ⟨#[97]⟩, .string ⟨#[114]⟩, .slice none 0 0] 26)).alloc (.cells #[.int .i64 1, .int .i64 0, .string ⟨#[98]⟩, .string ⟨#[115]⟩, .slice none 0 0] 26)).alloc (.cells #[.int .i64 1, .int .i64 0, .string ⟨#[97]⟩, .string ⟨#[114]⟩, .slice none 0 0, .int .i64 1, .int .i64 0, .string ⟨#[98]⟩, .string ⟨#[115]⟩, .slice none 0 0] 26)).alloc (.cells #[.int .i64 2, .int .i64 0, .string ⟨#[]⟩, .string ⟨#[]⟩, .slice (some ⟨w.heap.size + 2, 0, none⟩) 2 2] 26)).heap.size = w.heap.size + 4 := by simp
  have e5 : (((((w.alloc (.cells #[.int .i64 1, .int .i64 0, .string ⟨#[97]⟩, .string ⟨#[114]⟩, .slice none 0 0] 26)).alloc (.cells #[.int .i64 1, .int .i64 0, .string ⟨#[98]⟩, .string ⟨#[115]⟩, .slice none 0 0] 26)).alloc (.cells #[.int .i64 1, .int .i64 0, .string ⟨#[97]⟩, .string ⟨#[114]⟩, .slice none 0 0, .int .i64 1, .int .i64 0, .string ⟨#[98]⟩, .string ⟨#[115]⟩, .slice none 0 0] 26)).alloc (.cells #[.int .i64 2, .int .i64 0, .string ⟨#[]⟩, .string ⟨#[]⟩, .slice (some ⟨w.heap.size + 2, 0, none⟩) 2 2] 26)).alloc (.cells #[.int .i64 1, .int .i64 0, .string ⟨#[98]⟩, .string ⟨#[115]⟩, .slice none 0 0, .int .i64 2, .int .i64 0, .string ⟨#[]⟩, .string ⟨#[]⟩, .slice (some ⟨w.heap.size + 2, 0, none⟩) 2 2] 26)).heap.size = w.heap.size + 5 := by simp
  have c5 := (Chg.refl (fun _ => False) ((((w.alloc (.cells #[.int .i64 1, .int .i64 0, .string ⟨#[97]⟩, .string ⟨#[114]⟩, .slice none 0 0] 26)).alloc (.cells #[.int .i64 1, .int .i64 0, .string ⟨#[98]⟩, .string ⟨#[115]⟩, .slice none 0 0] 26)).alloc (.cells #[.int .i64 1, .int .i64 0, .string ⟨#[97]⟩, .string ⟨#[114]⟩, .slice none 0 0, .int .i64 1, .int .i64 0, .string ⟨#[98]⟩, .string ⟨#[115]⟩, .slice none 0 0] 26)).alloc (.cells #[.int .i64 2, .int .i64 0, .string ⟨#[]⟩, .string ⟨#[]⟩, .slice (some ⟨w.heap.size + 2, 0, none⟩) 2 2] 26))).alloc (.cells #[.int .i64 1, .int .i64 0, .string ⟨#[98]⟩, .string ⟨#[115]⟩, .slice none 0 0, .int .i64 2, .int .i64 0, .string ⟨#[]⟩, .string ⟨#[]⟩, .slice (some ⟨w.heap.size + 2, 0, none⟩) 2 2] 26)
  have c4 := (Chg.refl (fun _ => False) (((w.alloc (.cells #[.int .i64 1, .int .i64 0, .string ⟨#[97]⟩, .string ⟨#[114]⟩, .slice none 0 0] 26)).alloc (.cells #[.int .i64 1, .int .i64 0, .string ⟨#[98]⟩, .string ⟨#[115]⟩, .slice none 0 0] 26)).alloc (.cells #[.int .i64 1, .int .i64 0, .string ⟨#[97]⟩, .string ⟨#[114]⟩, .slice none 0 0, .int .i64 1, .int .i64 0, .string ⟨#[98]⟩, .string ⟨#[115]⟩, .slice none 0 0] 26))).alloc (.cells #[.int .i64 2, .int .i64 0, .string ⟨#[]⟩, .string ⟨#[]⟩, .slice (some ⟨w.heap.size + 2, 0, none⟩) 2 2] 26)
  have c3 := (Chg.refl (fun _ => False) ((w.alloc (.cells #[.int .i64 1, .int .i64 0, .string ⟨#[97]⟩, .string ⟨#[114]⟩, .slice none 0 0] 26)).alloc (.cells #[.int .i64 1, .int .i64 0, .string ⟨#[98]⟩, .string ⟨#[115]⟩, .slice none 0 0] 26))).alloc (.cells #[.int .i64 1, .int .i64 0, .string ⟨#[97]⟩, .string ⟨#[114]⟩, .slice none 0 0, .int .i64 1, .int .i64 0, .string ⟨#[98]⟩, .string ⟨#[115]⟩, .slice none 0 0] 26)
  have c2 := (Chg.refl (fun _ => False) (w.alloc (.cells #[.int .i64 1, .int .i64 0, .string ⟨#[97]⟩, .string ⟨#[114]⟩, .slice none 0 0] 26))).alloc (.cells #[.int .i64 1, .int .i64 0, .string ⟨#[98]⟩, .string ⟨#[115]⟩, .slice none 0 0] 26)
  have ha1 := blk_keep (heap_alloc_new w (.cells #[.int .i64 1, .int .i64 0, .string ⟨#[97]⟩, .string ⟨#[114]⟩, .slice none 0 0] 26)) c2 id
  have ha := blk_keep (blk_keep (blk_keep ha1 c3 id) c4 id) c5 id
  have hb := heap_alloc_new (w.alloc (.cells #[.int .i64 1, .int .i64 0, .string ⟨#[97]⟩, .string ⟨#[114]⟩, .slice none 0 0] 26)) (.cells #[.int .i64 1, .int .i64 0, .string ⟨#[98]⟩, .string ⟨#[115]⟩, .slice none 0 0] 26)
  rw [e1] at hb
  have hk := heap_alloc_new ((w.alloc (.cells #[.int .i64 1, .int .i64 0, .string ⟨#[97]⟩, .string ⟨#[114]⟩, .slice none 0 0] 26)).alloc (.cells #[.int .i64 1, .int .i64 0, .string ⟨#[98]⟩, .string ⟨#[115]⟩, .slice none 0 0] 26)) (.cells #[.int .i64 1, .int .i64 0, .string ⟨#[97]⟩, .string ⟨#[114]⟩, .slice none 0 0, .int .i64 1, .int .i64 0, .string ⟨#[98]⟩, .string ⟨#[115]⟩, .slice none 0 0] 26)
  rw [e2] at hk
  have hk5 := blk_keep (blk_keep hk c4 id) c5 id
  have hab := heap_alloc_new (((w.alloc (.cells #[.int .i64 1, .int .i64 0, .string ⟨#[97]⟩, .string ⟨#[114]⟩, .slice none 0 0] 26)).alloc (.cells #[.int .i64 1, .int .i64 0, .string ⟨#[98]⟩, .string ⟨#[115]⟩, .slice none 0 0] 26)).alloc (.cells #[.int .i64 1, .int .i64 0, .string ⟨#[97]⟩, .string ⟨#[114]⟩, .slice none 0 0, .int .i64 1, .int .i64 0, .string ⟨#[98]⟩, .string ⟨#[115]⟩, .slice none 0 0] 26)) (.cells #[.int .i64 2, .int .i64 0, .string ⟨#[]⟩, .string ⟨#[]⟩, .slice (some ⟨w.heap.size + 2, 0, none⟩) 2 2] 26)
  rw [e3] at hab
  have hab5 := blk_keep hab c5 id
  have hk2 := heap_alloc_new ((((w.alloc (.cells #[.int .i64 1, .int .i64 0, .string ⟨#[97]⟩, .string ⟨#[114]⟩, .slice none 0 0] 26)).alloc (.cells #[.int .i64 1, .int .i64 0, .string ⟨#[98]⟩, .string ⟨#[115]⟩, .slice none 0 0] 26)).alloc (.cells #[.int .i64 1, .int .i64 0, .string ⟨#[97]⟩, .string ⟨#[114]⟩, .slice none 0 0, .int .i64 1, .int .i64 0, .string ⟨#[98]⟩, .string ⟨#[115]⟩, .slice none 0 0] 26)).alloc (.cells #[.int .i64 2, .int .i64 0, .string ⟨#[]⟩, .string ⟨#[]⟩, .slice (some ⟨w.heap.size + 2, 0, none⟩) 2 2] 26)) (.cells #[.int .i64 1, .int .i64 0, .string ⟨#[98]⟩, .string ⟨#[115]⟩, .slice none 0 0, .int .i64 2, .int .i64 0, .string ⟨#[]⟩, .string ⟨#[]⟩, .slice (some ⟨w.heap.size + 2, 0, none⟩) 2 2] 26)
  rw [e4] at hk2
  have hfab : ∀ W : World, W.heap[w.heap.size + 2]? = some (.cells #[.int .i64 1, .int .i64 0, .string ⟨#[97]⟩, .string ⟨#[114]⟩, .slice none 0 0, .int .i64 1, .int .i64 0, .string ⟨#[98]⟩, .string ⟨#[115]⟩, .slice none 0 0] 26 (0, 0)) → FmsAt (fun i => w.heap.size ≤ i ∧ i < w.heap.size + 5) W 1 (some ⟨w.heap.size + 2, 0, none⟩) fabN.kids := fun W hW i hi => by
    refine ⟨_, _, rfl, ⟨by omega, by omega⟩, ?_⟩
    rcases (show i = 0 ∨ i = 1 by simp [fabN, FmB.kids] at hi; omega) with rfl | rfl
    · exact fm_at_cells (f := faN) (ao := none) (cp := 0) ⟨cell_blk hW 0, cell_blk hW 1, cell_blk hW 2, cell_blk hW 3, cell_blk hW 4⟩ ⟨by simp [faN, FmB.r], by simp [faN, FmB.r]⟩ (fun _ => rfl) (FmsAt.nil _ _ _ _)
    · exact fm_at_cells (f := fbN) (ao := none) (cp := 0) ⟨cell_blk hW 5, cell_blk hW 6, cell_blk hW 7, cell_blk hW 8, cell_blk hW 9⟩ ⟨by simp [fbN, FmB.r], by simp [fbN, FmB.r]⟩ (fun _ => rfl) (FmsAt.nil _ _ _ _)
  have hfms : FmsAt (fun i => w.heap.size ≤ i ∧ i < w.heap.size + 5) (((((w.alloc (.cells #[.int .i64 1, .int .i64 0, .string ⟨#[97]⟩, .string ⟨#[114]⟩, .slice none 0 0] 26)).alloc (.cells #[.int .i64 1, .int .i64 0, .string ⟨#[98]⟩, .string ⟨#[115]⟩, .slice none 0 0] 26)).alloc (.cells #[.int .i64 1, .int .i64 0, .string ⟨#[97]⟩, .string ⟨#[114]⟩, .slice none 0 0, .int .i64 1, .int .i64 0, .string ⟨#[98]⟩, .string ⟨#[115]⟩, .slice none 0 0] 26)).alloc (.cells #[.int .i64 2, .int .i64 0, .string ⟨#[]⟩, .string ⟨#[]⟩, .slice (some ⟨w.heap.size + 2, 0, none⟩) 2 2] 26)).alloc (.cells #[.int .i64 1, .int .i64 0, .string ⟨#[98]⟩, .string ⟨#[115]⟩, .slice none 0 0, .int .i64 2, .int .i64 0, .string ⟨#[]⟩, .string ⟨#[]⟩, .slice (some ⟨w.heap.size + 2, 0, none⟩) 2 2] 26)) 2 (some ⟨w.heap.size + 4, 0, none⟩) [fbN, fabN] := by
    intro i hi
    refine ⟨_, _, rfl, ⟨by omega, by omega⟩, ?_⟩
    rcases (show i = 0 ∨ i = 1 by simp at hi; omega) with rfl | rfl
    · exact fm_at_cells (f := fbN) (ao := none) (cp := 0) ⟨cell_blk hk2 0, cell_blk hk2 1, cell_blk hk2 2, cell_blk hk2 3, cell_blk hk2 4⟩ ⟨by simp [fbN, FmB.r], by simp [fbN, FmB.r]⟩ (fun _ => rfl) (FmsAt.nil _ _ _ _)
    · exact fm_at_cells (f := fabN) (ao := some ⟨w.heap.size + 2, 0, none⟩) (cp := 2) ⟨cell_blk hk2 5, cell_blk hk2 6, cell_blk hk2 7, cell_blk hk2 8, cell_blk hk2 9⟩ ⟨by simp [fabN, FmB.r], by simp [fabN, FmB.r]⟩ (fun e => by cases e) (hfab _ hk5)
  have HO1 := hid (pnOf (.mk 2 0 ([], []) [fbN, fabN]) 2 (some ⟨w.heap.size + 4, 0, none⟩) 2 _ hfms (fun i hi => by omega) ⟨by simp [FmB.r], by simp [FmB.r]⟩ (by decide +kernel))
  have HX := hid (And.intro ha (And.intro hk5 (And.intro hab5 (And.intro k5 e5))))
  have HFAB := hid hfab
  clear k1 k2 k3 k4 k5 e1 e2 e3 e4 e5 c2 c3 c4 c5 ha1 ha hb hk hk5 hab hab5 hk2 hfab hfms
  go_enter Try.func6, Try.ntmps6
  go_wp2_with fail
  refine HO1.out.mono ?_
  clear HO1
  generalize (((((w.alloc (.cells #[.int .i64 1, .int .i64 0, .string ⟨#[97]⟩, .string ⟨#[114]⟩, .slice none 0 0] 26)).alloc (.cells #[.int .i64 1, .int .i64 0, .string ⟨#[98]⟩, .string ⟨#[115]⟩, .slice none 0 0] 26)).alloc (.cells #[.int .i64 1, .int .i64 0, .string ⟨#[97]⟩, .string ⟨#[114]⟩, .slice none 0 0, .int .i64 1, .int .i64 0, .string ⟨#[98]⟩, .string ⟨#[115]⟩, .slice none 0 0] 26)).alloc (.cells #[.int .i64 2, .int .i64 0, .string ⟨#[]⟩, .string ⟨#[]⟩, .slice (some ⟨w.heap.size + 2, 0, none⟩) 2 2] 26)).alloc (.cells #[.int .i64 1, .int .i64 0, .string ⟨#[98]⟩, .string ⟨#[115]⟩, .slice none 0 0, .int .i64 2, .int .i64 0, .string ⟨#[]⟩, .string ⟨#[]⟩, .slice (some ⟨w.heap.size + 2, 0, none⟩) 2 2] 26)) = w5 at *
  intro e w6 hp6
  obtain ⟨x, rfl, gx1, gx2, gx3, gx4⟩ := of_known (by decide +kernel) sh_bab isF_ab hp6
  clear hp6
  obtain ⟨xo, xc, x1, _, _, _, _⟩ := own_val gx1
  rw [gx4] at x1
  have hfx : fmV x = .agg #[.int .i64 2, .int .i64 0, .string ⟨#[]⟩, .string ⟨#[]⟩, .slice xo 2 xc] := congrArg Value.agg x1
  rw [hfx]
  have cX : Chg (fun _ => False) w6 (w6.alloc (.cells #[.int .i64 2, .int .i64 0, .string ⟨#[]⟩, .string ⟨#[]⟩, .slice xo 2 xc] 26)) := (Chg.refl _ w6).alloc _
  have hX := heap_alloc_new w6 (.cells #[.int .i64 2, .int .i64 0, .string ⟨#[]⟩, .string ⟨#[]⟩, .slice xo 2 xc] 26)
  have c57 := gx3.trans cX (fun _ _ h => h)
  have ha7 := blk_keep HX.out.1 c57 id
  have HO2 : Hid (Calls Try.prog 10 #[.agg #[.int .i64 1, .int .i64 0, .string ⟨#[97]⟩, .string ⟨#[114]⟩, .slice none 0 0], .agg #[.int .i64 1, .int .i64 0, .string ⟨#[97]⟩, .string ⟨#[114]⟩, .slice none 0 0]] (w6.alloc (.cells #[.int .i64 2, .int .i64 0, .string ⟨#[]⟩, .string ⟨#[]⟩, .slice xo 2 xc] 26)) (OfPost (.mk 2 0 ([], []) [faN, faN]) (w6.alloc (.cells #[.int .i64 2, .int .i64 0, .string ⟨#[]⟩, .string ⟨#[]⟩, .slice xo 2 xc] 26)))) := hid (pnBoth (D := fun _ => False) (E := fun _ => False) faN 0 none 0 faN 0 none 0 _ (FmsAt.nil _ _ _ _) (fun _ h => h.elim) ⟨by simp [faN, FmB.r], by simp [faN, FmB.r]⟩ (fun _ => rfl) (FmsAt.nil _ _ _ _) (fun _ h => h.elim) ⟨by simp [faN, FmB.r], by simp [faN, FmB.r]⟩ (fun _ => rfl) (by decide +kernel))
  have HX7 := hid (And.intro (ownA_keep cX x gx1 (fun _ _ => id)) (And.intro gx2 (And.intro gx4 (And.intro hfx (And.intro hX c57)))))
  have a0 := cell_blk ha7 0
  have a1 := cell_blk ha7 1
  have a2 := cell_blk ha7 2
  have a3 := cell_blk ha7 3
  have a4 := cell_blk ha7 4
  simp only [List.getElem?_toArray, List.getElem?_cons_zero, List.getElem?_cons_succ] at a0 a1 a2 a3 a4
  clear x1 gx1 gx2 gx3 gx4 hfx cX hX c57 ha7
  go_wp2_with fail
  refine HO2.out.mono ?_
  clear HO2
  generalize hw7 : w6.alloc (.cells #[.int .i64 2, .int .i64 0, .string ⟨#[]⟩, .string ⟨#[]⟩, .slice xo 2 xc] 26) = w7 at *
  intro e w8 hp8
  obtain ⟨y, rfl, gy1, gy2, gy3, gy4⟩ := of_known (by decide +kernel) sh_aa isF_a hp8
  clear hp8
  obtain ⟨yo, yc, y1, _, _, _, _⟩ := own_val gy1
  rw [gy4] at y1
  have hfy : fmV y = .agg #[.int .i64 1, .int .i64 0, .string ⟨#[97]⟩, .string ⟨#[114]⟩, .slice yo 0 yc] := congrArg Value.agg y1
  rw [hfy]
  have cY : Chg (fun _ => False) w8 (w8.alloc (.cells #[.int .i64 1, .int .i64 0, .string ⟨#[97]⟩, .string ⟨#[114]⟩, .slice yo 0 yc] 26)) := (Chg.refl _ w8).alloc _
  have hY := heap_alloc_new w8 (.cells #[.int .i64 1, .int .i64 0, .string ⟨#[97]⟩, .string ⟨#[114]⟩, .slice yo 0 yc] 26)
  have HO3 : Hid (Calls Try.prog 8 #[.agg #[.int .i64 0, .int .i64 0, .string ⟨#[]⟩, .string ⟨#[]⟩, .slice none 0 0]] (w8.alloc (.cells #[.int .i64 1, .int .i64 0, .string ⟨#[97]⟩, .string ⟨#[114]⟩, .slice yo 0 yc] 26)) (OfPost zFm (w8.alloc (.cells #[.int .i64 1, .int .i64 0, .string ⟨#[97]⟩, .string ⟨#[114]⟩, .slice yo 0 yc] 26)))) := hid (pnOf (D := fun _ => False) zFm 0 none 0 _ (FmsAt.nil _ _ _ _) (fun _ h => h.elim) ⟨by simp [zFm, FmB.r], by simp [zFm, FmB.r]⟩ (by decide +kernel))
  have HY9 := hid (And.intro (ownA_keep cY y gy1 (fun _ _ => id)) (And.intro gy2 (And.intro gy4 (And.intro hfy (And.intro hY (gy3.trans cY (fun _ _ h => h)))))))
  clear y1 gy1 gy2 gy3 gy4 hfy cY hY a0 a1 a2 a3 a4
  go_wp2_with fail
  refine HO3.out.mono ?_
  clear HO3
  generalize hw9 : w8.alloc (.cells #[.int .i64 1, .int .i64 0, .string ⟨#[97]⟩, .string ⟨#[114]⟩, .slice yo 0 yc] 26) = w9 at *
  intro e w10 hp10
  obtain ⟨z, rfl, gz1, gz3, gz4⟩ := of_wrong zFm_no hp10
  clear hp10
  obtain ⟨zo, zc, z1, _, _, _, _⟩ := own_val gz1
  rw [gz4] at z1
  have hfz : fmV z = .agg #[.int .i64 0, .int .i64 0, .string ⟨#[]⟩, .string ⟨#[]⟩, .slice zo 0 zc] := congrArg Value.agg z1
  rw [hfz]
  have cZ : Chg (fun _ => False) w10 (w10.alloc (.cells #[.int .i64 0, .int .i64 0, .string ⟨#[]⟩, .string ⟨#[]⟩, .slice zo 0 zc] 26)) := (Chg.refl _ w10).alloc _
  have c911 := gz3.trans cZ (fun _ _ h => h)
  have c711 := HY9.out.2.2.2.2.2.trans c911 (fun _ _ h => h)
  have c511 := HX7.out.2.2.2.2.2.trans c711 (fun _ _ h => h)
  have hAB : ∀ W, Chg (fun _ => False) w5 W → OwnA 0 W (.mk 2 0 ([], []) (.slice (some ⟨w.heap.size + 2, 0, none⟩) 2 2) [tA, tB]) ∧ (blksA (.mk 2 0 ([], []) (.slice (some ⟨w.heap.size + 2, 0, none⟩) 2 2) [tA, tB])).Nodup := fun W hW => all_own (n := 2) rfl (Nat.zero_le _) (by omega) (blk_keep HX.out.2.1 hW id) (fun t ht => by
    simp only [List.mem_cons, List.not_mem_nil, or_false] at ht
    rcases ht with rfl | rfl
    · exact ⟨tA_own _ _, by simp [tA, blksA, blksL, Value.ownBlock]⟩
    · exact ⟨tB_own _ _, by simp [tB, blksA, blksL, Value.ownBlock]⟩)
  have hS1 : Calls Try.prog 21 #[.agg #[.int .i64 2, .int .i64 0, .string ⟨#[]⟩, .string ⟨#[]⟩, .slice xo 2 xc], .agg #[.int .i64 2, .int .i64 0, .string ⟨#[]⟩, .string ⟨#[]⟩, .slice (some ⟨w.heap.size + 2, 0, none⟩) 2 2]] (w10.alloc (.cells #[.int .i64 0, .int .i64 0, .string ⟨#[]⟩, .string ⟨#[]⟩, .slice zo 0 zc] 26)) fun e w' => e = .returned (.bool true) ∧ Chg (fun _ => False) (w10.alloc (.cells #[.int .i64 0, .int .i64 0, .string ⟨#[]⟩, .string ⟨#[]⟩, .slice zo 0 zc] 26)) w' := by
    have h1 := same_own (B := 0) (x := x) (y := .mk 2 0 ([], []) (.slice (some ⟨w.heap.size + 2, 0, none⟩) 2 2) [tA, tB]) (ownA_low (Nat.zero_le _) x (ownA_keep c711 x HX7.out.1 (fun _ _ => id))) HX7.out.2.1 (by rw [HX7.out.2.2.1]; decide +kernel) (hAB _ c511).1 (show nodesF fabN ≤ 90000 by decide +kernel)
    rw [HX7.out.2.2.2.1, sameA_yes.2 (show eraseA x = _ by rw [HX7.out.2.2.1]; rfl)] at h1
    exact h1
  have HS1 := hid hS1
  have hx11 := blk_keep HX7.out.2.2.2.2.1 c711 id
  have hab11 := blk_keep HX.out.2.2.1 c511 id
  have HZ := hid (And.intro c911 (And.intro c711 c511))
  have HAB := hid hAB
  have x0 := cell_blk hx11 0
  have x1 := cell_blk hx11 1
  have x2 := cell_blk hx11 2
  have x3 := cell_blk hx11 3
  have x4 := cell_blk hx11 4
  simp only [List.getElem?_toArray, List.getElem?_cons_zero, List.getElem?_cons_succ] at x0 x1 x2 x3 x4
  have b0 := cell_blk hab11 0
  have b1 := cell_blk hab11 1
  have b2 := cell_blk hab11 2
  have b3 := cell_blk hab11 3
  have b4 := cell_blk hab11 4
  simp only [List.getElem?_toArray, List.getElem?_cons_zero, List.getElem?_cons_succ] at b0 b1 b2 b3 b4
  clear z1 gz1 gz3 gz4 hfz cZ c911 c711 c511 hS1 hx11 hab11 hAB
  go_wp2_with fail
  refine HS1.out.mono ?_
  clear HS1
  generalize hw11 : w10.alloc (.cells #[.int .i64 0, .int .i64 0, .string ⟨#[]⟩, .string ⟨#[]⟩, .slice zo 0 zc] 26) = w11 at *
  rintro e w12 ⟨rfl, c12⟩
  have c912 := HZ.out.1.trans c12 (fun _ _ h => h)
  have c512 := HZ.out.2.2.trans c12 (fun _ _ h => h)
  have hS2 : Calls Try.prog 21 #[.agg #[.int .i64 1, .int .i64 0, .string ⟨#[97]⟩, .string ⟨#[114]⟩, .slice yo 0 yc], .agg #[.int .i64 1, .int .i64 0, .string ⟨#[97]⟩, .string ⟨#[114]⟩, .slice none 0 0]] w12 fun e w' => e = .returned (.bool true) ∧ Chg (fun _ => False) w12 w' := by
    have h1 := same_own (B := 0) (x := y) (y := tA) (ownA_low (Nat.zero_le _) y (ownA_keep c912 y HY9.out.1 (fun _ _ => id))) HY9.out.2.1 (by rw [HY9.out.2.2.1]; decide +kernel) (tA_own _ _) (by decide +kernel)
    rw [HY9.out.2.2.2.1, sameA_yes.2 (show eraseA y = _ by rw [HY9.out.2.2.1]; rfl)] at h1
    exact h1
  have HS2 := hid hS2
  have hy12 := blk_keep HY9.out.2.2.2.2.1 c912 id
  have ha12 := blk_keep HX.out.1 c512 id
  have HC12 := hid c512
  have y0 := cell_blk hy12 0
  have y1 := cell_blk hy12 1
  have y2 := cell_blk hy12 2
  have y3 := cell_blk hy12 3
  have y4 := cell_blk hy12 4
  simp only [List.getElem?_toArray, List.getElem?_cons_zero, List.getElem?_cons_succ] at y0 y1 y2 y3 y4
  have a0 := cell_blk ha12 0
  have a1 := cell_blk ha12 1
  have a2 := cell_blk ha12 2
  have a3 := cell_blk ha12 3
  have a4 := cell_blk ha12 4
  simp only [List.getElem?_toArray, List.getElem?_cons_zero, List.getElem?_cons_succ] at a0 a1 a2 a3 a4
  clear hS2 hy12 ha12 c912 c512 c12 x0 x1 x2 x3 x4 b0 b1 b2 b3 b4
  go_wp2_with fail
  refine HS2.out.mono ?_
  clear HS2
  rintro e w13 ⟨rfl, c13⟩
  have c513 := HC12.out.trans c13 (fun _ _ h => h)
  have hS3 : Calls Try.prog 12 #[.agg #[.int .i64 2, .int .i64 0, .string ⟨#[]⟩, .string ⟨#[]⟩, .slice (some ⟨w.heap.size + 2, 0, none⟩) 2 2]] w13 (IsPost fabN w13) := pnIs fabN 1 (some ⟨w.heap.size + 2, 0, none⟩) 2 w13 (HFAB.out w13 (blk_keep HX.out.2.1 c513 id)) (fun i hi => by have := HX.out.2.2.2.2; have := c513.size; omega) ⟨by simp [fabN, FmB.r], by simp [fabN, FmB.r]⟩ (by decide +kernel) (same_with_own (HAB.out w13 c513).1 (Nat.zero_le _) (HAB.out w13 c513).2 (show nodesF fabN ≤ 4000 by decide +kernel) _ _ rfl)
  have HS3 := hid hS3
  have hab13 := blk_keep HX.out.2.2.1 c513 id
  have HC13 := hid c513
  have b0 := cell_blk hab13 0
  have b1 := cell_blk hab13 1
  have b2 := cell_blk hab13 2
  have b3 := cell_blk hab13 3
  have b4 := cell_blk hab13 4
  simp only [List.getElem?_toArray, List.getElem?_cons_zero, List.getElem?_cons_succ] at b0 b1 b2 b3 b4
  clear hS3 hab13 c513 c13 y0 y1 y2 y3 y4 a0 a1 a2 a3 a4
  go_wp2_with fail
  refine HS3.out.mono ?_
  clear HS3
  intro e w14 hp14
  obtain ⟨bb, rfl, hbb, c14⟩ := is_known isF_ab sh_ab isF_ab hp14
  have hbt : bb = true := hbb.2 rfl
  subst hbt
  clear hp14 hbb
  have c514 := HC13.out.trans c14 (fun _ _ h => h)
  have c15 : Chg (fun _ => False) w14 (w14.alloc (.cells #[.int .i64 1, .int .i64 0, .string ⟨#[97]⟩, .string ⟨#[114]⟩, .slice none 0 0] 26)) := (Chg.refl _ w14).alloc _
  have h15 := heap_alloc_new w14 (.cells #[.int .i64 1, .int .i64 0, .string ⟨#[97]⟩, .string ⟨#[114]⟩, .slice none 0 0] 26)
  have s15 := c15.size
  have hone := all_own (B := 0) (n := 1) (ts := [tA]) rfl (Nat.zero_le _) (by omega) h15 (fun t ht => by
    rw [List.mem_singleton.1 ht]
    exact ⟨tA_own _ _, by simp [tA, blksA, blksL, Value.ownBlock]⟩)
  have hS4 : Calls Try.prog 12 #[.agg #[.int .i64 2, .int .i64 0, .string ⟨#[]⟩, .string ⟨#[]⟩, .slice (some ⟨w14.heap.size, 0, none⟩) 1 1]] (w14.alloc (.cells #[.int .i64 1, .int .i64 0, .string ⟨#[97]⟩, .string ⟨#[114]⟩, .slice none 0 0] 26)) (IsPost (.mk 2 0 ([], []) [faN]) (w14.alloc (.cells #[.int .i64 1, .int .i64 0, .string ⟨#[97]⟩, .string ⟨#[114]⟩, .slice none 0 0] 26))) :=
    pnIs (D := fun i => i = w14.heap.size) (.mk 2 0 ([], []) [faN]) 1 (some ⟨w14.heap.size, 0, none⟩) 1 _ (fun i hi => by
      refine ⟨_, _, rfl, rfl, ?_⟩
      have : i = 0 := by simp [FmB.kids] at hi; omega
      subst this
      exact fm_at_cells (f := faN) (ao := none) (cp := 0) ⟨cell_blk h15 0, cell_blk h15 1, cell_blk h15 2, cell_blk h15 3, cell_blk h15 4⟩ ⟨by simp [faN, FmB.r], by simp [faN, FmB.r]⟩ (fun _ => rfl) (FmsAt.nil _ _ _ _)) (fun i hi => by rw [hi]; exact lt_blk h15) ⟨by simp [FmB.r], by simp [FmB.r]⟩ (by decide +kernel) (same_with_own hone.1 (Nat.zero_le _) hone.2 (show nodesF (.mk 2 0 ([], []) [faN]) ≤ 4000 by decide +kernel) _ _ rfl)
  have HS4 := hid hS4
  have ha14 := blk_keep HX.out.1 c514 id
  have HC15 := hid (c514.trans c15 (fun _ _ h => h))
  have a0 := cell_blk ha14 0
  have a1 := cell_blk ha14 1
  have a2 := cell_blk ha14 2
  have a3 := cell_blk ha14 3
  have a4 := cell_blk ha14 4
  simp only [List.getElem?_toArray, List.getElem?_cons_zero, List.getElem?_cons_succ] at a0 a1 a2 a3 a4
  clear hS4 ha14 hone h15 s15 c15 c514 c14 b0 b1 b2 b3 b4
  go_wp2_with fail
  refine HS4.out.mono ?_
  clear HS4
  generalize hw15 : w14.alloc (.cells #[.int .i64 1, .int .i64 0, .string ⟨#[97]⟩, .string ⟨#[114]⟩, .slice none 0 0] 26) = w15 at *
  intro e w16 hp16
  obtain ⟨bb, rfl, hbb, c16⟩ := is_known (by decide +kernel) sh_one isF_a hp16
  have hbt : bb = false := by
    cases bb with
    | false => rfl
    | true => have := hbb.1 rfl; simp [faN] at this
  subst hbt
  clear hp16 hbb
  have HC16 := hid (HC15.out.trans c16 (fun _ _ h => h))
  have HA := hid (palways w16)
  clear c16 a0 a1 a2 a3 a4
  go_wp2_with fail
  refine HA.out.mono ?_
  clear HA
  rintro e w17 ⟨rfl, c17⟩
  have HR : Hid (Calls Try.prog 22 #[.agg #[.int .i64 2, .int .i64 0, .string ⟨#[]⟩, .string ⟨#[]⟩, .slice none 0 0]] w17 fun e w' => e = .returned (.bool true) ∧ Chg (fun _ => False) w17 w') := hid (by
    have h1 := fm_right (D := fun _ => False) 0 (.mk 2 0 ([], []) []) none 0 w17 (FmsAt.nil _ _ _ _) (fun _ h => h.elim) ⟨by simp [FmB.r], by simp [FmB.r]⟩ (by decide +kernel)
    rw [show isF (.mk 2 0 ([], []) []) = true by decide +kernel] at h1
    exact h1)
  have HC17 := hid (HC16.out.trans c17 (fun _ _ h => h))
  clear c17
  go_wp2_with fail
  refine HR.out.mono ?_
  clear HR
  rintro e w18 ⟨rfl, c18⟩
  have HC18 := hid (HC17.out.trans c18 (fun _ _ h => h))
  have HN := hid (pnever w18)
  clear c18
  go_wp2_with fail
  refine HN.out.mono ?_
  clear HN
  rintro e w19 ⟨rfl, c19⟩
  have HC19 := hid (HX.out.2.2.2.1.trans (HC18.out.trans c19 (fun _ _ h => h)) (fun _ _ h => h))
  clear c19
  have hfd : ∀ w : World, (Instr.field 26 (.agg #[.int .i64 3, .int .i64 0, .string ⟨#[]⟩, .string ⟨#[]⟩, .slice none 0 0]) 0).run Try.prog w = .ok (.int .i64 3) w := fun _ => by kernel_rfl
  go_wp2
  go_ret
  exact ⟨rfl, HC19.out⟩
end Go.Proofs.Ytcbfieodjbfjdaa
