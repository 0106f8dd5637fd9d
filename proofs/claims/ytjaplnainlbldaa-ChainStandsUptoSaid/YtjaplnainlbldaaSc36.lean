/- The tight chain of what a growth has. -/
import Derived.Test.YtjaplnainlbldaaSc30
import Derived.Test.YtjaplnainlbldaaSc34
import Derived.Test.YtjaplnainlbldaaSc35
namespace Go.Proofs.Ytjaplnainlbldaa
open Go.RowKit

theorem tightI_K (S : List StepB) (last : Nat) : ∀ m p, ((tightI S last m).1.K.getD p []).length ≤ 2 * m * (S.length + 1)
  | 0, p => by rw [(start_get S last p).2]; simp
  | m + 1, p => by
    have ih := tightI_K S last m p
    have e : 2 * (m + 1) * (S.length + 1) = 2 * m * (S.length + 1) + 2 * (S.length + 1) := by
      rw [show 2 * (m + 1) = 2 * m + 2 by omega, Nat.add_mul]
    by_cases hc : last - m < last ∧ needsK (tightI S last m).1 (last - m) = false
    · rw [tightI_drop hc.1 hc.2]
      show ((tightI S last m).1.K.getD p []).length ≤ _
      omega
    · rw [tightI_keep hc]
      have h1 := waysG_len S (S.getD (last - m) noStC) (last - m)
      exact takers_bound (last - m) _ _ p _ (by omega)

theorem TightP.short {S : List StepB} {last m : Nat} {k : KeptB} {ks : List Nat} (h : TightP S last m k ks) : ks.length ≤ last + 1 := by
  have hn : ks.Nodup := by
    rw [List.nodup_iff_pairwise_ne]
    exact h.dec.imp (fun hab => by omega)
  have h2 := nodup_lengthG ks (List.range (last + 1)) hn (fun x hx => by rw [List.mem_range]; have := (h.rng x hx).2; omega)
  simpa using h2

theorem run_makeWs (n : Nat) (hn : n ≤ 1000000) (w : World) : (Instr.makeSlice 135 (.int .i64 n) (.int .i64 n)).run Try.prog w = .ok (.slice (some ⟨w.heap.size, 0, none⟩) n n) (w.alloc (.cells (madeCells #[.slice none 0 0] n) 142)) := by
  have := run_makeSlice (P := Try.prog) w 135 142 Try.t142 (.slice none 0 0) Try.underlying135 (by kernel_rfl) (by kernel_rfl) .i64 .i64 n n (by omega) (Int.le_refl _) (by show (n : Int).toNat * 1 ≤ _; omega) (by show ((24 : Nat) : Int) * (n : Int) ≤ _; omega) (by omega)
  simpa [show Try.t142.size = 1 from rfl, Value.cells] using this
theorem run_makeIs (n : Nat) (hn : n ≤ 1000000) (w : World) : (Instr.makeSlice 136 (.int .i64 n) (.int .i64 n)).run Try.prog w = .ok (.slice (some ⟨w.heap.size, 0, none⟩) n n) (w.alloc (.cells (madeCells #[.slice none 0 0] n) 156)) := by
  have := run_makeSlice (P := Try.prog) w 136 156 Try.t156 (.slice none 0 0) Try.underlying136 (by kernel_rfl) (by kernel_rfl) .i64 .i64 n n (by omega) (Int.le_refl _) (by show (n : Int).toNat * 1 ≤ _; omega) (by show ((24 : Nat) : Int) * (n : Int) ≤ _; omega) (by omega)
  simpa [show Try.t156.size = 1 from rfl, Value.cells] using this
theorem vrow_madeW (w : World) (n : Nat) : VRow (w.alloc (.cells (madeCells #[.slice none 0 0] n) 142)) w.heap.size n 142 (fun _ => .slice none 0 0) := by
  refine ⟨_, heap_alloc_new w _, fun i hi => ?_⟩
  have hs := size_madeCells #[Value.slice none 0 0] n
  rw [Array.getElem?_eq_getElem (by omega)]
  simp [madeCells, Nat.mod_one]
theorem vrow_madeI (w : World) (n : Nat) : VRow (w.alloc (.cells (madeCells #[.slice none 0 0] n) 156)) w.heap.size n 156 (fun _ => .slice none 0 0) := by
  refine ⟨_, heap_alloc_new w _, fun i hi => ?_⟩
  have hs := size_madeCells #[Value.slice none 0 0] n
  rw [Array.getElem?_eq_getElem (by omega)]
  simp [madeCells, Nat.mod_one]

def Spec.rowW (n B : Nat) : Spec := ⟨fun v w => ∃ b, v = .slice (some ⟨b, 0, none⟩) n n ∧ VRow w b n 142 (fun _ => .slice none 0 0) ∧ B ≤ b, fun _ _ _ hc ⟨b, h1, h2, h3⟩ => ⟨b, h1, h2.keep hc id, h3⟩⟩
def Spec.rowK (n B : Nat) : Spec := ⟨fun v w => ∃ b, v = .slice (some ⟨b, 0, none⟩) n n ∧ VRow w b n 156 (fun _ => .slice none 0 0) ∧ B ≤ b, fun _ _ _ hc ⟨b, h1, h2, h3⟩ => ⟨b, h1, h2.keep hc id, h3⟩⟩
def Spec.pairP (n B : Nat) : Spec := ⟨fun v w => ∃ bw bk, v = .agg #[.slice (some ⟨bw, 0, none⟩) n n, .slice (some ⟨bk, 0, none⟩) n n] ∧ VRow w bw n 142 (fun _ => .slice none 0 0) ∧ B ≤ bw ∧ VRow w bk n 156 (fun _ => .slice none 0 0) ∧ B ≤ bk, fun _ _ _ hc ⟨b, c, h1, h2, h3, h4, h5⟩ => ⟨b, c, h1, h2.keep hc id, h3, h4.keep hc id, h5⟩⟩
def Spec.keptP (n B : Nat) : Spec := ⟨fun v w => ∃ g bw bk, v = .pointer (some ⟨g, 0, none⟩) ∧ w.heap[g]? = some (.cells #[.slice (some ⟨bw, 0, none⟩) n n, .slice (some ⟨bk, 0, none⟩) n n] 138 (0, 0)) ∧ B ≤ g ∧ VRow w bw n 142 (fun _ => .slice none 0 0) ∧ B ≤ bw ∧ VRow w bk n 156 (fun _ => .slice none 0 0) ∧ B ≤ bk, fun _ _ _ hc ⟨g, b, c, h1, h2, h3, h4, h5, h6, h7⟩ => ⟨g, b, c, h1, blk_keep h2 hc id, h3, h4.keep hc id, h5, h6.keep hc id, h7⟩⟩

/-- What is kept at first. -/
theorem kept_made {w : World} {g bw bk n B : Nat} (h1 : w.heap[g]? = some (.cells #[.slice (some ⟨bw, 0, none⟩) n n, .slice (some ⟨bk, 0, none⟩) n n] 138 (0, 0))) (h2 : B ≤ g) (h3 : VRow w bw n 142 (fun _ => .slice none 0 0)) (h4 : B ≤ bw) (h5 : VRow w bk n 156 (fun _ => .slice none 0 0)) (h6 : B ≤ bk) {S : List StepB} {last : Nat} (hn : n = last + 1) :
    ∃ T, PS T w g n (tightI S last 0).1 ∧ ∀ b, T b ≠ none → B ≤ b := by
  have ne1 : g ≠ bw := fun e => by
    obtain ⟨cur, q, _⟩ := h3
    rw [← e, h1] at q
    cases q
  have ne2 : g ≠ bk := fun e => by
    obtain ⟨cur, q, _⟩ := h5
    rw [← e, h1] at q
    cases q
  have ne3 : bw ≠ bk := fun e => by
    obtain ⟨cur, q, _⟩ := h3
    obtain ⟨cur2, q2, _⟩ := h5
    rw [e, q2] at q
    cases q
  have tl : ∀ b, putP (putP (putP (fun _ => none) bw .ways) bk .takers) g .top b ≠ none → b = g ∨ b = bw ∨ b = bk := fun b h => by
    unfold putP at h
    by_cases e1 : b = g
    · exact .inl e1
    · by_cases e2 : b = bk
      · exact .inr (.inr e2)
      · by_cases e3 : b = bw
        · exact .inr (.inl e3)
        · rw [if_neg e1, if_neg e2, if_neg e3] at h; exact absurd rfl h
  refine ⟨putP (putP (putP (fun _ => none) bw .ways) bk .takers) g .top, ⟨⟨bw, bk, fun _ => .slice none 0 0, fun _ => .slice none 0 0, h1, if_pos rfl, ?_, ?_, h3, h5, fun i _ => ⟨?_, fun b hb => (by cases hb)⟩, fun i _ => ⟨?_, fun b hb => (by cases hb)⟩⟩, fun b hb => ?_, ?_, ?_⟩, fun b hb => ?_⟩
  · unfold putP; rw [if_neg (fun e => ne1 e.symm), if_neg ne3, if_pos rfl]
  · unfold putP; rw [if_neg (fun e => ne2 e.symm), if_pos rfl]
  · rw [(start_get S last i).1]; exact OwnWy.nil _ _
  · rw [(start_get S last i).2]; exact OwnI.nil _ _
  · rcases tl b hb with rfl | rfl | rfl
    · exact lt_blk h1
    · exact h3.lt
    · exact h5.lt
  · rw [hn]; simp [tightI]
  · rw [hn]; simp [tightI]
  · rcases tl b hb with rfl | rfl | rfl
    · exact h2
    · exact h4
    · exact h6

theorem step_cells_new (w : World) (s : StepB) (j : Nat) (u : Value) (h : (stepCells s)[j]? = some u) : (w.alloc (.cells (stepBox s) 43)).cell? ((⟨w.heap.size, 0, none⟩ : Addr).add j) = some u := by
  rw [add_off, Nat.zero_add, cell_blk (heap_alloc_new w _) j, show stepBox s = (stepCells s).toArray from rfl, List.getElem?_toArray]
  exact h

set_option maxRecDepth 100000 in
set_option maxHeartbeats 8000000 in
theorem ch_tight {T0 : Nat → Option KTag} {ls : List CredB} (g m3 m4 : Nat) (S : List StepB) (last : Nat) (w0 : World) (h : GS T0 w0 g m3 m4 S) (hg : Good ls S) (hi : last < S.length) (hS : 2 * (S.length + 1) * (S.length + 1) ≤ 33554430) :
    Calls Try.prog 39 #[.pointer (some ⟨g, 0, none⟩), .int .i64 (last : Nat)] w0 fun e w' => ∃ v, e = .returned v ∧ OwnSt w0.heap.size w' v (tightG S last) ∧ Chg (fun _ => False) w0 w' := by
  obtain ⟨i0, hi0, hz0, hz1, hz2⟩ := info_parts Try.info43
  have HI0 := hid (And.intro hi0 (And.intro hz0 (And.intro hz1 hz2)))
  clear hi0 hz0 hz1 hz2
  have HG := hid hg
  have HGS := hid h
  have HLS := hid hi
  have hsb : S.length ≤ 4096 := by
    refine Nat.le_of_not_lt (fun hc => ?_)
    have h1 : 4098 ≤ S.length + 1 := by omega
    have h2 := Nat.mul_le_mul (Nat.mul_le_mul_left 2 h1) h1
    omega
  have HSB := hid hsb
  obtain ⟨n, hn⟩ : ∃ n, n = last + 1 := ⟨_, rfl⟩
  have HNS : Hid (n = last + 1) := hid hn
  have HNN : Hid (n = last + 1) := hid hn
  have HNB : Hid (n ≤ 1000000) := hid (by omega)
  have HBIG : Hid (2 * (last + 2) * (S.length + 1) ≤ 33554430) := hid (Nat.le_trans (Nat.mul_le_mul_right _ (by omega)) hS)
  have HWR : Hid (IntKind.i64.wrap ((last : Int) + 1) = (n : Int)) := hid (by rw [IntKind.wrap_i64]; omega)
  clear h hg hi hS hsb hn
  go_enter Try.func39, Try.ntmps39
  go_wp2_with fail
  refine wp_region_specs [.any, .eq (.int .i64 (last : Nat)), .any, .any, .any, .keptP n w0.heap.size, .any, .any, .eq (.int .i64 (last : Nat)), .eq (.int .i64 (n : Nat)), .rowW n w0.heap.size, .eq (.int .i64 (last : Nat)), .eq (.int .i64 (n : Nat)), .rowK n w0.heap.size, .pairP n w0.heap.size, .keptP n w0.heap.size, .any, .any, .any, .any, .any, .any, .any, .any, .any, .any, .any, .any, .any, .any, .any, .any, .any, .any, .any, .any, .any, .any, .any, .any, .any, .any, .any, .any, .any, .any, .any, .any, .any, .any, .any, .any] [8, 9, 10, 11, 12, 13, 14, 15, 5] [1] (by kernel_rfl) (by kernel_rfl) (by rfl) (by kernel_rfl) ?start1 ?obs1 ?fin1
  case start1 =>
    simp only [List.forall_mem_cons]; exact ⟨⟨_, rfl, rfl⟩, fun _ h => by cases h⟩
  case obs1 =>
    clear HG HGS HLS HSB HBIG HNS HI0
    refine Obs.cons none (by kernel_rfl) ?_ ?_
    · refine Ob.plain fun a w hR hk K k => ?_
      obtain ⟨_, e1, f1⟩ := hk 1 (by decide)
      clear hk
      go_simp
      exact k _ _ (Chg.refl _ _) f1
    refine Obs.cons none (by kernel_rfl) ?_ ?_
    · refine Ob.plain fun a w hR hk K k => ?_
      obtain ⟨_, e8, rfl⟩ := hk 8 (by decide)
      clear hk
      have hw := HWR.out
      go_simp
      exact k _ _ (Chg.refl _ _) rfl
    refine Obs.cons none (by kernel_rfl) ?_ ?_
    · refine Ob.plain fun a w hR hk K k => ?_
      obtain ⟨_, e9, rfl⟩ := hk 9 (by decide)
      clear hk
      have hm := run_makeWs n HNB.out w
      have hsz := hR.size
      go_simp
      exact k _ _ ((Chg.refl _ _).alloc _) ⟨_, rfl, vrow_madeW w n, hsz⟩
    refine Obs.cons none (by kernel_rfl) ?_ ?_
    · refine Ob.plain fun a w hR hk K k => ?_
      obtain ⟨_, e1, f1⟩ := hk 1 (by decide)
      clear hk
      go_simp
      exact k _ _ (Chg.refl _ _) f1
    refine Obs.cons none (by kernel_rfl) ?_ ?_
    · refine Ob.plain fun a w hR hk K k => ?_
      obtain ⟨_, e11, rfl⟩ := hk 11 (by decide)
      clear hk
      have hw := HWR.out
      go_simp
      exact k _ _ (Chg.refl _ _) rfl
    refine Obs.cons none (by kernel_rfl) ?_ ?_
    · refine Ob.plain fun a w hR hk K k => ?_
      obtain ⟨_, e12, rfl⟩ := hk 12 (by decide)
      clear hk
      have hm := run_makeIs n HNB.out w
      have hsz := hR.size
      go_simp
      exact k _ _ ((Chg.refl _ _).alloc _) ⟨_, rfl, vrow_madeI w n, hsz⟩
    refine Obs.cons none (by kernel_rfl) ?_ ?_
    · refine Ob.plain fun a w hR hk K k => ?_
      obtain ⟨_, e10, f10⟩ := hk 10 (by decide)
      obtain ⟨_, e13, f13⟩ := hk 13 (by decide)
      clear hk
      obtain ⟨bw, rfl, p1, p2⟩ := f10
      obtain ⟨bk, rfl, q1, q2⟩ := f13
      have HH := hid (And.intro p1 (And.intro p2 (And.intro q1 q2)))
      clear p1 p2 q1 q2
      go_simp
      exact k _ _ (Chg.refl _ _) ⟨bw, bk, rfl, HH.out⟩
    refine Obs.cons none (by kernel_rfl) ?_ ?_
    · refine Ob.plain fun a w hR hk K k => ?_
      obtain ⟨_, e14, f14⟩ := hk 14 (by decide)
      clear hk
      obtain ⟨bw, bk, rfl, p1, p2, q1, q2⟩ := f14
      have hsz := hR.size
      have HH := hid (And.intro (p1.keep ((Chg.refl (fun _ => False) w).alloc (.cells #[.slice (some ⟨bw, 0, none⟩) n n, .slice (some ⟨bk, 0, none⟩) n n] 138)) id) (And.intro p2 (And.intro (q1.keep ((Chg.refl (fun _ => False) w).alloc (.cells #[.slice (some ⟨bw, 0, none⟩) n n, .slice (some ⟨bk, 0, none⟩) n n] 138)) id) q2)))
      clear p1 p2 q1 q2
      go_simp
      exact k _ _ ((Chg.refl _ _).alloc _) ⟨_, bw, bk, rfl, heap_alloc_new w _, hsz, HH.out⟩
    refine Obs.cons none (by kernel_rfl) ?_ ?_
    · refine Ob.plain fun a w hR hk K k => ?_
      obtain ⟨_, e15, f15⟩ := hk 15 (by decide)
      clear hk
      go_simp
      exact k _ _ (Chg.refl _ _) f15
    exact Obs.nil
  case fin1 =>
    intro vals w9 hc9 hv
    obtain ⟨gk, bw, bk, h5, hk1, hk2, hk3, hk4, hk5, hk6⟩ := hv 5 (by decide)
    simp only [putAll, List.setIfInBounds_toArray, List.set_cons_zero, List.set_cons_succ, h5]
    have HMADE := hid (kept_made (S := S) hk1 hk2 hk3 hk4 hk5 hk6 HNS.out)
    have HC9 := hid hc9
    clear hc9 hv h5 hk1 hk2 hk3 hk4 hk5 hk6
    go_wp2
    go_loopw [6, 7] (fun s6 s7 wr => ∃ (p : Nat) (z : Int), p ≤ last + 1 ∧ s7 = .int .i64 z ∧ z = (last : Int) - (p : Int) ∧ Hid (∃ T, PS T wr gk n (tightI S last p).1 ∧ (∀ b, T b ≠ none → w0.heap.size ≤ b) ∧ OwnSt w0.heap.size wr s6 (stepsOf S (tightI S last p).2) ∧ (∀ b, (s6).ownBlock = some b → T b = none) ∧ Chg (fun _ => False) w0 wr)) (fun _ s7 _ => (intOf s7 + 1).toNat)
    case atStart => exact ⟨0, (last : Nat), Nat.zero_le _, rfl, by omega, hid (by
      obtain ⟨T, t1, t2⟩ := HMADE.out
      exact ⟨T, t1, t2, World.ownsRow_nil _ _ _ _, fun b h => (by cases h), HC9.out⟩)⟩
    case round =>
      obtain ⟨p, z, hp, rfl, hz, hrel⟩ := hrel
      by_cases hpl : p ≤ last
      · obtain ⟨i, hi⟩ : ∃ i, i = last - p := ⟨_, rfl⟩
        have hzi : z = (i : Int) := by omega
        have hil : i ≤ last := by omega
        subst hzi
        obtain ⟨T, t1, t2, t3, t4, t5⟩ := hrel.out
        have htp := tightP HG.out HLS.out p (by omega)
        have hgs := HGS.out.quiet t5
        have hisS : i < S.length := by have := HLS.out; omega
        have hkey : ∀ y ∈ (tightI S last p).1.K.getD i [], y < n := fun y hy => by
          have h1 := (htp.takers i hil y).1 hy
          have h2 := (htp.rng y h1.1).2
          have := HNN.out
          omega
        have hklen : ∀ q, ((tightI S last p).1.K.getD q []).length + 2 * (S.length + 1) ≤ 33554430 := fun q => by
          have h1 := tightI_K S last p q
          have h2 := HBIG.out
          have h3 : 2 * p * (S.length + 1) + 2 * (S.length + 1) ≤ 2 * (last + 2) * (S.length + 1) := by
            have : 2 * p + 2 ≤ 2 * (last + 2) := by omega
            have h4 := Nat.mul_le_mul_right (S.length + 1) this
            rw [Nat.add_mul] at h4
            exact h4
          omega
        have hwl : ∀ y, ((tightI S last p).1.W.getD y []).length ≤ 33554432 := fun y => by have := htp.fewW y; have := HSB.out; omega
        have hin : i < n := by have := HNN.out; omega
        have hnb : n ≤ 33554432 := by have := HNB.out; omega
        have HLOOP := hid (And.intro t1 (And.intro t2 (And.intro t3 (And.intro t4 (And.intro t5 (And.intro hgs (And.intro hklen hwl)))))))
        have HIDX := hid (And.intro hi (And.intro hin (And.intro hnb hisS)))
        have h0i : (0 : Int) ≤ (i : Int) := by omega
        have HLT := hid (waysG_lt HG.out hisS)
        have HDROP : Hid (∀ w5, i < last → needsK (tightI S last p).1 i = false → (∃ T', Kep (fun _ => False) T wr gk n T' w5 (dropK (tightI S last p).1 i)) → Hid (∃ T, PS T w5 gk n (tightI S last (p + 1)).1 ∧ (∀ b, T b ≠ none → w0.heap.size ≤ b) ∧ OwnSt w0.heap.size w5 u6 (stepsOf S (tightI S last (p + 1)).2) ∧ (∀ b, (u6).ownBlock = some b → T b = none) ∧ Chg (fun _ => False) w0 w5)) := hid (fun w5 h1 h2 ⟨T', hk⟩ => hid (by
          have e : tightI S last (p + 1) = (dropK (tightI S last p).1 i, (tightI S last p).2) := by rw [hi]; exact tightI_drop (by omega) (by rw [← hi]; exact h2)
          rw [e]
          have hsz := t5.size
          refine ⟨T', hk.ps, fun b hb => (hk.ext.new b hb).elim (t2 b) (fun h => h.elim (fun h => h.elim) (fun h => by omega)), t3.keep hk.chg (fun b hb h => h (t4 b hb)), fun b hb => ?_, t5.trans hk.chg (fun j hj h => by have := t2 j h; omega)⟩
          cases ee : T' b with
          | none => rfl
          | some y =>
            rcases hk.ext.new b (by rw [ee]; simp) with h | h | h
            · exact absurd (t4 b hb) h
            · exact h.elim
            · have := (t3.blt hb).2; omega))
        have HKEEP : Hid (∀ (v : Value) (w5 w6 : World) (T' : Nat → Option PTag), OwnWy wr.heap.size w5 v (waysG S (S[i]'hisS) i) → Chg (fun _ => False) wr w5 → Kep (fun b => v.ownBlock = some b) T w5 gk n T' w6 (keepK (tightI S last p).1 i (waysG S (S[i]'hisS) i)) → ¬ (i < last ∧ needsK (tightI S last p).1 i = false) → PS T' w6 gk n (tightI S last (p + 1)).1 ∧ (∀ b, T' b ≠ none → w0.heap.size ≤ b) ∧ OwnSt w0.heap.size w6 u6 (stepsOf S (tightI S last p).2) ∧ (∀ b, u6.ownBlock = some b → T' b = none) ∧ Chg (fun _ => False) w0 w6 ∧ stepsOf S (tightI S last (p + 1)).2 = stepsOf S (tightI S last p).2 ++ [S[i]'hisS]) := hid (fun v w5 w6 T' hv hc5 hk hno => by
          have e : tightI S last (p + 1) = (keepK (tightI S last p).1 i (waysG S (S.getD i noStC) i), (tightI S last p).2 ++ [i]) := by rw [hi]; exact tightI_keep (by rw [← hi]; exact hno)
          rw [e, getD_lt hisS]
          have hsz := t5.size
          have hsz5 := hc5.size
          have hnew : ∀ b, T' b ≠ none → T b ≠ none ∨ wr.heap.size ≤ b := fun b hb => (hk.ext.new b hb).imp id (fun h => h.elim (fun h => (hv.blt h).1) (fun h => by omega))
          refine ⟨hk.ps, fun b hb => (hnew b hb).elim (t2 b) (fun h => by omega), (t3.keep hc5 (fun _ _ => id)).keep hk.chg (fun b hb h => h (t4 b hb)), fun b hb => ?_, (t5.trans hc5 (fun _ _ h => h)).trans hk.chg (fun j hj h => by have := t2 j h; omega), by simp [stepsOf, List.getD_eq_getElem?_getD, List.getElem?_eq_getElem hisS]⟩
          cases ee : T' b with
          | none => rfl
          | some y =>
            rcases hnew b (by rw [ee]; simp) with h | h
            · exact absurd (t4 b hb) h
            · have := (t3.blt hb).2; omega)
        have hqw := fun w5 (hc5 : Chg (fun _ => False) wr w5) => ch_ways g m3 m4 S i w5 (hgs.quiet hc5) HG.out hisS (by have := HSB.out; omega)
        have HQW := hid hqw
        have HQK : Hid (∀ (w5 w6 : World) (v : Value), Chg (fun _ => False) wr w5 → Chg (fun _ => False) w5 w6 → OwnWy w5.heap.size w6 v (waysG S (S[i]'hisS) i) → Calls Try.prog 80 #[.pointer (some ⟨gk, 0, none⟩), .int .i64 (i : Nat), v] w6 (KeepPost T gk n (tightI S last p).1 i v (waysG S (S[i]'hisS) i) w6)) := hid (fun w5 w6 v hc5 hc6 hv => by
          have hlenw := waysG_len S (S[i]'hisS) i
          exact ch_keep gk n (tightI S last p).1 i v (waysG S (S[i]'hisS) i) w6 (t1.quiet (hc5.trans hc6 (fun _ _ h => h))) hin hnb (ownsRow_lowK hv (Nat.zero_le _)) (fun b hb => by
            cases ee : T b with
            | none => rfl
            | some y => have h1 := t1.lo b (by rw [ee]; simp); have h2 := (hv.blt hb).1; have h3 := hc5.size; omega) (fun x hx => by have := waysG_lt HG.out hisS x hx; omega) (by have := HSB.out; omega) (fun q => by have := hklen q; omega))
        have hqn := fun (h : i < last) => ch_needs gk n (tightI S last p).1 i wr t1 hin hnb hkey (by have := hklen i; omega) hwl
        have hqd := fun w5 (hc5 : Chg (fun _ => False) wr w5) => ch_drop gk n (tightI S last p).1 i w5 (t1.quiet hc5) hin hnb hkey (by have := hklen i; omega) hwl
        have HQN := hid hqn
        have HQD := hid hqd
        obtain ⟨ws, hws⟩ : ∃ ws, ws = waysG S (S[i]'hisS) i := ⟨_, rfl⟩
        simp only [← hws] at HKEEP HQW HQK
        have hfew := HNN.out
        clear t1 t2 t3 t4 t5 htp hgs hkey hklen hwl hqw hqn hqd hrel hws hz hi
        by_cases hlast : i < last
        · have hli : (i : Int) < (last : Int) := by omega
          cases hnd : needsK (tightI S last p).1 i with
          | false =>
            have HND := hid (HQN.out hlast)
            rw [hnd] at HND
            have HDR := hid (fun w5 h => HDROP.out w5 hlast hnd h)
            clear hnd HQN HDROP HKEEP HQW HQK HLT
            go_wp2_with fail
            refine HND.out.mono ?_
            rintro e w5 ⟨rfl, hc5⟩
            have HQ := hid (HQD.out w5 hc5)
            have HC5 := hid hc5
            clear hc5 HND HQD
            go_wp2_with fail
            refine HQ.out.mono ?_
            rintro e w6 ⟨rfl, T', hk⟩
            have HN := hid (HDR.out w6 ⟨T', hk.early HC5.out⟩)
            clear hk HQ HDR HC5 HLOOP
            go_wp2
            go_roundw
            case rel => exact ⟨p + 1, _, by omega, rfl, by have hi := HIDX.out.1; omega, HN.out⟩
            case measure => show ((i : Int) - 1 + 1).toNat < ((i : Int) + 1).toNat; omega
          | true =>
            have HND := hid (HQN.out hlast)
            rw [hnd] at HND
            have HKP := hid (fun v w5 w6 T' a b c => HKEEP.out v w5 w6 T' a b c (fun h => by rw [hnd] at h; cases h.2))
            clear hnd HQN HDROP HKEEP HQD HLT
            go_wp2_with fail
            refine HND.out.mono ?_
            rintro e w5 ⟨rfl, hc5⟩
            have HQ := hid (HQW.out w5 hc5)
            have HC5 := hid hc5
            clear hc5 HND HQW
            go_wp2_with fail
            refine HQ.out.mono ?_
            rintro e w6 ⟨v, rfl, hv6, hc6⟩
            have HQ2 := hid (HQK.out w5 w6 v HC5.out hc6 hv6)
            have HV := hid (And.intro hv6 hc6)
            clear hv6 hc6 HQ HQK
            go_wp2_with fail
            refine HQ2.out.mono ?_
            rintro e w7 ⟨rfl, T', hk⟩
            obtain ⟨k1, k2, k3, k4, k5, k6⟩ := HKP.out v w6 w7 T' (ownsRow_lowK HV.out.1 HC5.out.size) (HC5.out.trans HV.out.2 (fun _ _ h => h)) hk
            obtain ⟨ks, hks⟩ : ∃ ks, ks = stepsOf S (tightI S last p).2 := ⟨_, rfl⟩
            rw [← hks] at k3 k6
            obtain ⟨ao8, cap8, hs6⟩ := k3.shape
            obtain ⟨kl, hkl⟩ : ∃ kl, kl = ks.length := ⟨_, rfl⟩
            rw [← hkl] at hs6
            subst hs6
            obtain ⟨ao2, cap2, z1, z2, z3⟩ := (HGS.out.quiet k5).steps
            obtain ⟨B, off, hao2, hDD, ⟨⟨a0, a1, a2, a3, a4, a5, a6, a7, a8⟩, ⟨b0, b1, b2⟩⟩, hss⟩ := z2 i HIDX.out.2.2.2
            have hsn : ∃ s, s = (S[i]'HIDX.out.2.2.2) := ⟨_, rfl⟩
            obtain ⟨s, hs⟩ := hsn
            simp only [← hs] at a0 a1 a2 a3 a4 a5 a6 a7 a8 b0 b1 b2 k6
            change w7.cell? ⟨B, off + i * 12 + 10, none⟩ = _ at b1
            change w7.cell? ⟨B, off + i * 12 + 11, none⟩ = _ at b2
            obtain ⟨nn, hnn⟩ : ∃ nn, nn = S.length := ⟨_, rfl⟩
            have hin2 : (i : Int) < (nn : Int) := by have := HIDX.out.2.2.2; omega
            have hnn2 : nn ≤ 33554432 := by have := HSB.out; omega
            rw [hao2, ← hnn] at z1
            have hksl : kl ≤ 33554432 := by
              rw [hkl, hks]
              have := TightP.short (tightP HG.out HLS.out p (by omega))
              simp only [stepsOf, List.length_map]
              have h2 := HSB.out
              have h3 := HLS.out
              omega
            have HKS := hid (And.intro k1 (And.intro k2 (And.intro k4 (And.intro k5 k6))))
            have HO := hid k3
            have hO2 : w7.ownsRow w0.heap.size 43 12 (.slice ao8 kl cap8) kl (stepRow ks) := by rw [hkl]; rw [hkl] at k3; exact k3
            have HO2 := hid hO2
            clear hO2
            have HKL := hid hksl
            have HKK := hid hkl
            clear k1 k2 k3 k4 k5 k6 z2 z3 hao2 hDD hss hk HQ2 HV HKP hs hksl hks hkl
            go_wp2_with (at_builtin; refine wpList_append_own_at _ rfl (.tmp 39) (.tmp 47) 29 rfl w0.heap.size 43 i0 (.agg #[.int .i64 0, .string ⟨#[]⟩, .string ⟨#[]⟩, .string ⟨#[]⟩, .string ⟨#[]⟩, .string ⟨#[]⟩, .string ⟨#[]⟩, .string ⟨#[]⟩, .string ⟨#[]⟩, .string ⟨#[]⟩, .string ⟨#[]⟩, .string ⟨#[]⟩]) 12 184 Try.underlying29 HI0.out.1 HI0.out.2.1 HI0.out.2.2.1 HI0.out.2.2.2 rfl (by decide) _ _ _ rfl (World.ownsRow.alloc HO2.out (.cells (stepBox s) 43)) ⟨w7.heap.size, 0, none⟩ 1 1 (stepCells s) rfl rfl ?c1 ?c2 ?c3 ?c4 ?c5 ?_)
            case c1 =>
              intro j u hj
              have hb := step_cells_new w7 s j u hj
              exact hb
            case c2 => exact step_one s
            case c3 => have := HKL.out; unfold maxLen; omega
            case c4 => have := HKL.out; omega
            case c5 => have := HKS.out.2.2.2.1.size; simp [World.size_alloc]; omega
            clear a0 a1 a2 a3 a4 a5 a6 a7 a8 b0 b1 b2 z1
            intro v' w3 hown hgrow _ hat
            have HN : Hid (Hid (∃ T, PS T w3 gk n (tightI S last (p + 1)).1 ∧ (∀ b, T b ≠ none → w0.heap.size ≤ b) ∧ OwnSt w0.heap.size w3 v' (stepsOf S (tightI S last (p + 1)).2) ∧ (∀ b, (v').ownBlock = some b → T b = none) ∧ Chg (fun _ => False) w0 w3)) := hid (hid (by
              have ho2 : OwnSt w0.heap.size w3 v' (ks ++ [s]) := by
                unfold OwnSt
                rw [stepRow_snoc, List.length_append, ← HKK.out]
                exact hown
              obtain ⟨k1, k2, k4, k5, k6⟩ := HKS.out
              have hbl : ∀ b, (Value.slice ao8 kl cap8).ownBlock = some b → w0.heap.size ≤ b := fun b hb => by
                have := (OwnSt.blt (show OwnSt w0.heap.size w7 (Value.slice ao8 kl cap8) ks from HO.out) hb).1
                exact this
              have hcA : Chg (fun i => (Value.slice ao8 kl cap8).ownBlock = some i) w7 w3 := (((Chg.refl _ w7).alloc _).grown hgrow (fun k e _ => e))
              refine ⟨T', k1.keep hcA (fun b hb h => hb (k4 b h)), k2, by rw [k6]; exact ho2, fun b hb => ?_, k5.trans hcA (fun j hj h => by have := hbl j h; omega)⟩
              rcases hat with h | h
              · exact k4 b (by rw [← h]; exact hb)
              · rw [h] at hb
                cases hb
                cases ee : T' (w7.heap.size + 1) with
                | none => rfl
                | some y => have := k1.lo _ (by rw [ee]; simp); omega))
            clear hown hgrow hat HO HKS HKL
            go_wp2
            go_roundw
            case rel => exact ⟨p + 1, _, by omega, rfl, by have hi := HIDX.out.1; omega, HN.out⟩
            case measure => show ((i : Int) - 1 + 1).toNat < ((i : Int) + 1).toNat; omega
        · have hnl : ¬ (i : Int) < (last : Int) := by omega
          have HKP := hid (fun v w5 w6 T' a b c => HKEEP.out v w5 w6 T' a b c (fun h => hlast h.1))
          have HQ := hid (HQW.out wr (Chg.refl _ _))
          have HC5 : Hid (Chg (fun _ => False) wr wr) := hid (Chg.refl _ _)
          clear HQN HDROP HKEEP HQD HLT HQW
          go_wp2_with fail
          refine HQ.out.mono ?_
          rintro e w6 ⟨v, rfl, hv6, hc6⟩
          have HQ2 := hid (HQK.out wr w6 v HC5.out hc6 hv6)
          have HV := hid (And.intro hv6 hc6)
          clear hv6 hc6 HQ HQK
          go_wp2_with fail
          refine HQ2.out.mono ?_
          rintro e w7 ⟨rfl, T', hk⟩
          obtain ⟨k1, k2, k3, k4, k5, k6⟩ := HKP.out v w6 w7 T' (ownsRow_lowK HV.out.1 HC5.out.size) (HC5.out.trans HV.out.2 (fun _ _ h => h)) hk
          obtain ⟨ks, hks⟩ : ∃ ks, ks = stepsOf S (tightI S last p).2 := ⟨_, rfl⟩
          rw [← hks] at k3 k6
          obtain ⟨ao8, cap8, hs6⟩ := k3.shape
          obtain ⟨kl, hkl⟩ : ∃ kl, kl = ks.length := ⟨_, rfl⟩
          rw [← hkl] at hs6
          subst hs6
          obtain ⟨ao2, cap2, z1, z2, z3⟩ := (HGS.out.quiet k5).steps
          obtain ⟨B, off, hao2, hDD, ⟨⟨a0, a1, a2, a3, a4, a5, a6, a7, a8⟩, ⟨b0, b1, b2⟩⟩, hss⟩ := z2 i HIDX.out.2.2.2
          have hsn : ∃ s, s = (S[i]'HIDX.out.2.2.2) := ⟨_, rfl⟩
          obtain ⟨s, hs⟩ := hsn
          simp only [← hs] at a0 a1 a2 a3 a4 a5 a6 a7 a8 b0 b1 b2 k6
          change w7.cell? ⟨B, off + i * 12 + 10, none⟩ = _ at b1
          change w7.cell? ⟨B, off + i * 12 + 11, none⟩ = _ at b2
          obtain ⟨nn, hnn⟩ : ∃ nn, nn = S.length := ⟨_, rfl⟩
          have hin2 : (i : Int) < (nn : Int) := by have := HIDX.out.2.2.2; omega
          have hnn2 : nn ≤ 33554432 := by have := HSB.out; omega
          rw [hao2, ← hnn] at z1
          have hksl : kl ≤ 33554432 := by
            rw [hkl, hks]
            have := TightP.short (tightP HG.out HLS.out p (by omega))
            simp only [stepsOf, List.length_map]
            have h2 := HSB.out
            have h3 := HLS.out
            omega
          have HKS := hid (And.intro k1 (And.intro k2 (And.intro k4 (And.intro k5 k6))))
          have HO := hid k3
          have hO2 : w7.ownsRow w0.heap.size 43 12 (.slice ao8 kl cap8) kl (stepRow ks) := by rw [hkl]; rw [hkl] at k3; exact k3
          have HO2 := hid hO2
          clear hO2
          have HKL := hid hksl
          have HKK := hid hkl
          clear k1 k2 k3 k4 k5 k6 z2 z3 hao2 hDD hss hk HQ2 HV HKP hs hksl hks hkl
          go_wp2_with (at_builtin; refine wpList_append_own_at _ rfl (.tmp 39) (.tmp 47) 29 rfl w0.heap.size 43 i0 (.agg #[.int .i64 0, .string ⟨#[]⟩, .string ⟨#[]⟩, .string ⟨#[]⟩, .string ⟨#[]⟩, .string ⟨#[]⟩, .string ⟨#[]⟩, .string ⟨#[]⟩, .string ⟨#[]⟩, .string ⟨#[]⟩, .string ⟨#[]⟩, .string ⟨#[]⟩]) 12 184 Try.underlying29 HI0.out.1 HI0.out.2.1 HI0.out.2.2.1 HI0.out.2.2.2 rfl (by decide) _ _ _ rfl (World.ownsRow.alloc HO2.out (.cells (stepBox s) 43)) ⟨w7.heap.size, 0, none⟩ 1 1 (stepCells s) rfl rfl ?c1 ?c2 ?c3 ?c4 ?c5 ?_)
          case c1 =>
            intro j u hj
            have hb := step_cells_new w7 s j u hj
            exact hb
          case c2 => exact step_one s
          case c3 => have := HKL.out; unfold maxLen; omega
          case c4 => have := HKL.out; omega
          case c5 => have := HKS.out.2.2.2.1.size; simp [World.size_alloc]; omega
          clear a0 a1 a2 a3 a4 a5 a6 a7 a8 b0 b1 b2 z1
          intro v' w3 hown hgrow _ hat
          have HN : Hid (Hid (∃ T, PS T w3 gk n (tightI S last (p + 1)).1 ∧ (∀ b, T b ≠ none → w0.heap.size ≤ b) ∧ OwnSt w0.heap.size w3 v' (stepsOf S (tightI S last (p + 1)).2) ∧ (∀ b, (v').ownBlock = some b → T b = none) ∧ Chg (fun _ => False) w0 w3)) := hid (hid (by
            have ho2 : OwnSt w0.heap.size w3 v' (ks ++ [s]) := by
              unfold OwnSt
              rw [stepRow_snoc, List.length_append, ← HKK.out]
              exact hown
            obtain ⟨k1, k2, k4, k5, k6⟩ := HKS.out
            have hbl : ∀ b, (Value.slice ao8 kl cap8).ownBlock = some b → w0.heap.size ≤ b := fun b hb => by
              have := (OwnSt.blt (show OwnSt w0.heap.size w7 (Value.slice ao8 kl cap8) ks from HO.out) hb).1
              exact this
            have hcA : Chg (fun i => (Value.slice ao8 kl cap8).ownBlock = some i) w7 w3 := (((Chg.refl _ w7).alloc _).grown hgrow (fun k e _ => e))
            refine ⟨T', k1.keep hcA (fun b hb h => hb (k4 b h)), k2, by rw [k6]; exact ho2, fun b hb => ?_, k5.trans hcA (fun j hj h => by have := hbl j h; omega)⟩
            rcases hat with h | h
            · exact k4 b (by rw [← h]; exact hb)
            · rw [h] at hb
              cases hb
              cases ee : T' (w7.heap.size + 1) with
              | none => rfl
              | some y => have := k1.lo _ (by rw [ee]; simp); omega))
          clear hown hgrow hat HO HKS HKL
          go_wp2
          go_roundw
          case rel => exact ⟨p + 1, _, by omega, rfl, by have hi := HIDX.out.1; omega, HN.out⟩
          case measure => show ((i : Int) - 1 + 1).toNat < ((i : Int) + 1).toNat; omega
      · have hpe : p = last + 1 := by omega
        have hzm : z = -1 := by omega
        subst hzm
        obtain ⟨T, t1, t2, t3, t4, t5⟩ := hrel.out
        rw [hpe] at t3
        obtain ⟨ao, cap, hs6⟩ := t3.shape
        subst hs6
        have hll : (stepsOf S (tightI S last (last + 1)).2).length ≤ 4194304 := by
          have := TightP.short (tightP HG.out HLS.out (last + 1) (Nat.le_refl _))
          simp only [stepsOf, List.length_map]
          have h2 := HSB.out
          have h3 := HLS.out
          omega
        have hq := ch_rev t3 hll
        have HQ := hid hq
        have HRES : Hid (∀ w5, OwnSt w0.heap.size w5 (.slice ao (stepsOf S (tightI S last (last + 1)).2).length cap) (stepsOf S (tightI S last (last + 1)).2).reverse → Chg (fun i => (Value.slice ao (stepsOf S (tightI S last (last + 1)).2).length cap).ownBlock = some i) wr w5 → OwnSt w0.heap.size w5 (.slice ao (stepsOf S (tightI S last (last + 1)).2).length cap) (tightG S last) ∧ Chg (fun _ => False) w0 w5) := hid (fun w5 h1 h2 => ⟨h1, t5.trans h2 (fun j hj h => by have := (t3.blt h).1; omega)⟩)
        generalize (stepsOf S (tightI S last (last + 1)).2).length = ln at *
        clear t1 t2 t3 t4 t5 hrel hq hll
        go_wp2_with fail
        refine HQ.out.mono ?_
        rintro e w5 ⟨rfl, h1, h2⟩
        have HR2 := hid (HRES.out w5 h1 h2)
        clear h1 h2 HQ HRES
        go_wp2
        go_ret
        exact ⟨_, rfl, HR2.out⟩
end Go.Proofs.Ytjaplnainlbldaa
