/- Texts that the proof leans on, in one: ChDrop, ShelfR. -/
import Derived.Test.YtjaplnainlbldaaSc33
import Derived.Shelf.SlicesQ.Reverse
import Derived.Ground.SlgnProg
import Derived.Test.YtjaplnainlbldaaProg
/- A place that isn't needed is dropped. -/
namespace Go.Proofs.Ytjaplnainlbldaa
open Go.RowKit

/-- The blocks of ways. -/
def WB (T : Nat → Option PTag) (b : Nat) : Prop := T b = some .ways ∨ ∃ p, T b = some (.wrow p)
theorem WB.some {T : Nat → Option PTag} {b : Nat} (h : WB T b) : T b ≠ none := by
  rcases h with h | ⟨p, h⟩ <;> rw [h] <;> simp

/-- What DeleteFunc has left of a row. -/
def DelR (w : World) (u : Value) (fs : List WayB) (v' : Value) (w' : World) : Prop := OwnWy 0 w' v' fs ∧ v'.ownBlock = u.ownBlock ∧ Chg (fun i => u.ownBlock = some i) w w'
theorem DelR.quiet {w : World} {u x : Value} {fs : List WayB} {w' w2 : World} (h : DelR w u fs x w') (hc : Chg (fun _ => False) w' w2) : DelR w u fs x w2 := ⟨h.1.keep hc (fun _ _ => id), h.2.1, h.2.2.trans hc (fun _ _ h => h.elim)⟩
/-- It is stored. -/
def DelS (T : Nat → Option PTag) (w : World) (g n : Nat) (k : KeptB) (w' : World) : Prop := ∃ T', PS T' w' g n k ∧ ExtP (fun _ => False) T T' w w' ∧ Chg (WB T) w w'
theorem DelS.quiet {T : Nat → Option PTag} {w : World} {g n : Nat} {k : KeptB} {w' w2 : World} (h : DelS T w g n k w') (hc : Chg (fun _ => False) w' w2) : DelS T w g n k w2 := by
  obtain ⟨T', h1, h2, h3⟩ := h
  exact ⟨T', h1.quiet hc, h2.up hc.size, h3.trans hc (fun _ _ h => h.elim)⟩

theorem PParts.deleted {T : Nat → Option PTag} {w : World} {g n : Nat} {k : KeptB} {bw bk : Nat} {VW VK : Nat → Value} (h : PParts T w g n k bw bk VW VK) (hlo : ∀ b, T b ≠ none → b < w.heap.size) (hlw : k.W.length = n) (hlk : k.K.length = n) {i y A : Nat} (hy : y < n) (hlen : (k.W.getD y []).length ≤ 33554432) (hA : w.cell? ⟨A, 0, none⟩ = some (.int .i64 (i : Nat))) (hAn : ∀ b, (VW y).ownBlock = some b → b ≠ A) :
    (∀ w', Chg (fun _ => False) w w' → Calls Try.prog 111 #[VW y, .func (.func 112) #[] #[.pointer (some ⟨A, 0, none⟩)]] w' fun e w5 => ∃ v, e = .returned v ∧ DelR w (VW y) ((k.W.getD y []).filter (fun x => !takesW i x)) v w5 ∧ Chg (fun b => T b ≠ none) w' w5) ∧
    (∀ w' v', DelR w (VW y) ((k.W.getD y []).filter (fun x => !takesW i x)) v' w' → w'.cell? ⟨bw, y, none⟩ = some (VW y) ∧ w'.frozen? ⟨bw, y, none⟩ = false ∧ DelS T w g n ⟨k.W.set y ((k.W.getD y []).filter (fun x => !takesW i x)), k.K⟩ (w'.setCell ⟨bw, y, none⟩ v') ∧ Chg (fun b => T b ≠ none) w' (w'.setCell ⟨bw, y, none⟩ v')) := by
  obtain ⟨q1, q2⟩ := h.isW y hy
  have hnb : ∀ b, (VW y).ownBlock = some b → b ≠ bw := fun b hb e => by have := q2 b hb; rw [e, h.t1] at this; cases this
  refine ⟨fun w' hc => ?_, fun w' v' hw' => ?_⟩
  · refine (ch_del 112 #[.pointer (some ⟨A, 0, none⟩)] (takesW i) (VW y) (k.W.getD y []) w' hlen (q1.keep hc (fun _ _ => id)) (enters Try.func112 (by kernel_rfl) (by kernel_rfl)) (takes_off i A w' (hc.cell hA id) (fun e => hAn _ e rfl))).mono ?_
    rintro e w5 ⟨v, rfl, h1, h2, h3⟩
    exact ⟨v, rfl, ⟨h1, h2, hc.none9.trans h3 (fun _ _ h => h)⟩, h3.mono (fun b _ hb => by rw [q2 b hb]; simp)⟩
  · obtain ⟨g1, g2, g3⟩ := hw'
    have hr := h.rw_.keep g3 (fun e => hnb _ e rfl)
    obtain ⟨T', ⟨VW', _, hp'⟩, hx, hc⟩ := h.setW (N := fun _ => False) hlo hlw hy g3 g1 (.inl g2)
    have cs : Chg (· = bw) w' (w'.setCell ⟨bw, y, none⟩ v') := (Chg.refl (· = bw) w').setCell (p := ⟨bw, y, none⟩) (fun _ => rfl) _
    refine ⟨hr.cell hy, hr.froz y, ⟨T', ⟨⟨bw, bk, VW', VK, hp'⟩, hx.lo, by rw [List.length_set]; exact hlw, hlk⟩, hx, ?_⟩, cs.mono (fun j _ hj => by rw [hj, h.t1]; simp)⟩
    exact (g3.mono (fun j _ hj => .inr ⟨y, q2 j hj⟩)).trans (cs.mono (fun j _ hj => .inl (hj ▸ h.t1))) (fun _ _ h => h)

def kd4 (T : Nat → Option PTag) (g A bw n y : Nat) (u : Value) : List (SpecR (Chg (fun b => T b ≠ none))) := [.eq (.pointer (some ⟨g, 0, none⟩)), .any, .any, .eq (.pointer (some ⟨A, 0, none⟩)), .any, .eq (.int .i64 (y : Nat)), .any, .any, .any, .any, .any, .any, .any, .any, .any, .any, .any, .any, .eq (.pointer (some ⟨g, 0, none⟩)), .eq (.pointer (some ⟨g, 0, none⟩)), .eq (.pointer (some ⟨g, 0, none⟩)), .eq (.slice (some ⟨bw, 0, none⟩) n n), .eq (.int .i64 (y : Nat)), .eq (.pointer (some ⟨g, 0, none⟩)), .eq (.pointer (some ⟨g, 0, none⟩)), .eq (.pointer (some ⟨g, 0, none⟩)), .eq (.slice (some ⟨bw, 0, none⟩) n n), .eq (.int .i64 (y : Nat)), .eq (.pointer (some ⟨bw, y, none⟩)), .eq (u), .eq (.func (.func 112) #[] #[.pointer (some ⟨A, 0, none⟩)]), .any, .eq (.pointer (some ⟨bw, y, none⟩)), .any]

def DropPost (T : Nat → Option PTag) (g n : Nat) (k : KeptB) (i : Nat) (w : World) (e : Ending) (w' : World) : Prop :=
  e = .returned (.tuple #[]) ∧ ∃ T', Kep (fun _ => False) T w g n T' w' (dropK k i)

set_option maxRecDepth 100000 in
set_option maxHeartbeats 4000000 in
theorem ch_drop {T : Nat → Option PTag} (g n : Nat) (kp : KeptB) (i : Nat) (w0 : World) (h : PS T w0 g n kp) (hi : i < n) (_ : n ≤ 33554432) (hky : ∀ y ∈ kp.K.getD i [], y < n) (hkl : (kp.K.getD i []).length ≤ 33554432) (hwl : ∀ y, (kp.W.getD y []).length ≤ 33554432) :
    Calls Try.prog 79 #[.pointer (some ⟨g, 0, none⟩), .int .i64 (i : Nat)] w0 (DropPost T g n kp i w0) := by
  have HPS0 := hid (h.quiet ((Chg.refl _ w0).alloc (.cells #[.int .i64 (i : Nat)] 3)))
  have hc1 : Chg (fun _ => False) w0 (w0.alloc (.cells #[.int .i64 (i : Nat)] 3)) := (Chg.refl _ w0).alloc _
  have hbA : (w0.alloc (.cells #[.int .i64 (i : Nat)] 3)).heap[w0.heap.size]? = some (.cells #[.int .i64 (i : Nat)] 3 (0, 0)) := heap_alloc_new w0 _
  have hA0 := cell_blk hbA 0
  simp only [List.getElem?_toArray, List.getElem?_cons_zero] at hA0
  have hTA : T w0.heap.size = none := by
    cases e : T w0.heap.size with
    | none => rfl
    | some y => have := h.lo _ (by rw [e]; simp); omega
  have hps := h.quiet hc1
  obtain ⟨⟨bw, bk, VW, VK, hp⟩, hlo, hlw, hlk⟩ := hps
  obtain ⟨q1, q2⟩ := hp.isK i hi
  obtain ⟨ps, hps⟩ : ∃ ps, ps = kp.K.getD i [] := ⟨_, rfl⟩
  rw [← hps] at q1
  obtain ⟨ao, cap, hu⟩ := q1.shape
  obtain ⟨m, hm⟩ : ∃ m, m = ps.length := ⟨_, rfl⟩
  rw [← hm] at hu
  have HX := hid (And.intro (show (w0.alloc (.cells #[.int .i64 (i : Nat)] 3)).cell? ⟨g, 1, none⟩ = some (.slice (some ⟨bk, 0, none⟩) n n) from cell_blk hp.blk 1) (And.intro hA0 (And.intro (show (w0.alloc (.cells #[.int .i64 (i : Nat)] 3)).cell? ⟨bk, i, none⟩ = some (.slice ao m cap) by rw [← hu]; exact hp.rk_.cell hi) hi)))
  rw [hu] at q1 q2
  have HPS := hid hps
  have HM := hid hm.symm
  have HML : Hid (m ≤ 33554432) := hid (by rw [hm, hps]; exact hkl)
  have HKY : Hid (∀ y ∈ ps, y < n) := hid (by rw [hps]; exact hky)
  have HQ1 := hid q1
  have HQ2 := hid q2
  have HWL := hid hwl
  have HC1 := hid hc1
  have HTA := hid hTA
  have HFIN : Hid (∀ w9 wr, Chg (fun _ => False) w0 w9 → (∃ T1, PS T1 wr g n ⟨ps.foldl (dropAt i) kp.W, kp.K⟩ ∧ ExtP (fun _ => False) T T1 w9 wr ∧ Chg (fun b => T b ≠ none) w9 wr ∧ OwnI 0 wr (.slice ao m cap) ps) → DropPost T g n kp i w0 (.returned (.tuple #[])) wr) := hid (fun w9 wr hc9 hd => by
    obtain ⟨T1, s1, s2, s3, _⟩ := hd
    refine ⟨rfl, T1, ?_, s2.down hc9.size, hc9.none9.trans s3 (fun _ _ h => h)⟩
    have e : dropK kp i = ⟨ps.foldl (dropAt i) kp.W, kp.K⟩ := by rw [hps]; rfl
    rw [e]
    exact s1)
  clear h hky hkl hwl hc1 hbA hA0 hTA hlo hlw hlk hp q1 q2 hps hm hu
  go_enter Try.func79, Try.ntmps79
  go_wp2_with fail
  generalize (w0.alloc (.cells #[.int .i64 (i : Nat)] 3)) = w1 at *
  generalize w0.heap.size = A at *
  clear VW VK
  refine wp_region_specs [.eq (.pointer (some ⟨g, 0, none⟩)), .any, .any, .eq (.pointer (some ⟨A, 0, none⟩)), .any, .any, .eq (.pointer (some ⟨g, 0, none⟩)), .eq (.pointer (some ⟨g, 0, none⟩)), .eq (.pointer (some ⟨g, 1, none⟩)), .eq (.slice (some ⟨bk, 0, none⟩) n n), .eq (.int .i64 (i : Nat)), .eq (.pointer (some ⟨bk, i, none⟩)), .eq (.slice ao m cap), .eq (.int .i64 m), .eq (.int .i64 0), .any, .any, .any, .any, .any, .any, .any, .any, .any, .any, .any, .any, .any, .any, .any, .any, .any, .any, .any] [6, 7, 8, 9, 10, 11, 12, 13, 14] [0, 3] (by kernel_rfl) (by kernel_rfl) (by rfl) (by kernel_rfl) ?start1 ?obs1 ?fin1
  case start1 =>
    simp only [List.forall_mem_cons]; exact ⟨⟨_, rfl, rfl⟩, ⟨_, rfl, rfl⟩, fun _ h => by cases h⟩
  case obs1 =>
    clear HPS HM HML HKY HQ1 HQ2 HC1 HPS0 HWL HTA HFIN
    refine Obs.cons none (by kernel_rfl) ?_ ?_
    · refine Ob.plain fun a w hR hk K k => ?_
      obtain ⟨_, e0, f0⟩ := hk 0 (by decide)
      clear hk
      go_simp
      exact k _ _ (Chg.refl _ _) f0
    refine Obs.cons none (by kernel_rfl) ?_ ?_
    · refine Ob.plain fun a w hR hk K k => ?_
      obtain ⟨_, e6, rfl⟩ := hk 6 (by decide)
      clear hk
      go_simp
      exact k _ _ (Chg.refl _ _) rfl
    refine Obs.cons none (by kernel_rfl) ?_ ?_
    · refine Ob.plain fun a w hR hk K k => ?_
      obtain ⟨_, e7, rfl⟩ := hk 7 (by decide)
      clear hk
      go_simp
      exact k _ _ (Chg.refl _ _) rfl
    refine Obs.cons none (by kernel_rfl) ?_ ?_
    · refine Ob.plain fun a w hR hk K k => ?_
      obtain ⟨_, e8, rfl⟩ := hk 8 (by decide)
      clear hk
      have zz := hR.cell HX.out.1 id
      go_simp
      exact k _ _ (Chg.refl _ _) rfl
    refine Obs.cons none (by kernel_rfl) ?_ ?_
    · refine Ob.plain fun a w hR hk K k => ?_
      obtain ⟨_, e3, rfl⟩ := hk 3 (by decide)
      clear hk
      have zz := hR.cell HX.out.2.1 id
      go_simp
      exact k _ _ (Chg.refl _ _) rfl
    refine Obs.cons none (by kernel_rfl) ?_ ?_
    · refine Ob.plain fun a w hR hk K k => ?_
      obtain ⟨_, e9, rfl⟩ := hk 9 (by decide)
      obtain ⟨_, e10, rfl⟩ := hk 10 (by decide)
      clear hk
      have hlt := HX.out.2.2.2
      go_simp
      exact k _ _ (Chg.refl _ _) rfl
    refine Obs.cons none (by kernel_rfl) ?_ ?_
    · refine Ob.plain fun a w hR hk K k => ?_
      obtain ⟨_, e11, rfl⟩ := hk 11 (by decide)
      clear hk
      have zz := hR.cell HX.out.2.2.1 id
      go_simp
      exact k _ _ (Chg.refl _ _) rfl
    refine Obs.cons none (by kernel_rfl) ?_ ?_
    · refine Ob.plain fun a w hR hk K k => ?_
      obtain ⟨_, e12, rfl⟩ := hk 12 (by decide)
      clear hk
      go_simp
      exact k _ _ (Chg.refl _ _) rfl
    refine Obs.cons none (by kernel_rfl) ?_ ?_
    · refine Ob.plain fun a w hR hk K k => ?_
      clear hk
      go_simp
      exact k _ _ (Chg.refl _ _) rfl
    exact Obs.nil
  case fin1 =>
    intro vals w9 hc9 hv
    have h12 : vals 12 = .slice ao m cap := hv 12 (by decide)
    have h13 : vals 13 = .int .i64 m := hv 13 (by decide)
    have h14 : vals 14 = .int .i64 0 := hv 14 (by decide)
    simp only [putAll, List.setIfInBounds_toArray, List.set_cons_zero, List.set_cons_succ, h12, h13, h14]
    have HC9 := hid (HC1.out.trans hc9 (fun _ _ h => h))
    have HP9 := hid (HPS0.out.quiet hc9)
    have HA9 := hid (hc9.cell HX.out.2.1 id)
    have HQ9 := hid (HQ1.out.keep hc9 (fun _ _ => id))
    have hml := HML.out
    have HSZ : Hid (A < w9.heap.size) := hid (by have := World.block_lt_of_cell? w9 ⟨A, 0, none⟩ HA9.out; exact this)
    clear hc9 hv h12 h13 h14 HX HC1 HPS0 HQ1 HML
    go_wp2
    go_loopw [14] (fun s wr => ∃ j : Nat, j ≤ m ∧ s = .int .i64 j ∧ Hid (∃ T1, PS T1 wr g n ⟨(ps.take j).foldl (dropAt i) kp.W, kp.K⟩ ∧ ExtP (fun _ => False) T T1 w9 wr ∧ Chg (fun b => T b ≠ none) w9 wr ∧ OwnI 0 wr (.slice ao m cap) ps)) (fun s _ => m - (intOf s).toNat)
    case atStart => exact ⟨0, Nat.zero_le _, rfl, hid ⟨T, HP9.out, ExtP.refl HP9.out.lo (Nat.le_refl _), Chg.refl _ _, HQ9.out⟩⟩
    case round =>
      obtain ⟨jj, hjj, rfl, hrel⟩ := hrel
      by_cases hltm : jj < m
      · obtain ⟨T1, hps1, hx1, hc1, hrow⟩ := hrel.out
        have hjp : jj < ps.length := by rw [HM.out]; exact hltm
        obtain ⟨b, hao, p1, _⟩ := hrow.cells hjp
        have hyn := HKY.out _ (List.getElem_mem hjp)
        have HTK := hid (List.take_succ_eq_append_getElem hjp)
        generalize ps[jj] = y at *
        obtain ⟨⟨bw, bk, VW, VK, hp⟩, hlo, hlw, hlk⟩ := hps1
        obtain ⟨kq, hkq⟩ : ∃ kq : KeptB, kq = ⟨(ps.take jj).foldl (dropAt i) kp.W, kp.K⟩ := ⟨_, rfl⟩
        rw [← hkq] at hp hlw hlk
        obtain ⟨r1, r2⟩ := hp.isW y hyn
        have hgA : wr.cell? ⟨A, 0, none⟩ = some (.int .i64 (i : Nat)) := hc1.cell HA9.out (fun e => e HTA.out)
        have hAn : ∀ b, (VW y).ownBlock = some b → b ≠ A := fun b hb e => by
          have h1 := r2 b hb
          rw [e] at h1
          rcases hx1.new A (by rw [h1]; simp) with h | h | h
          · exact h HTA.out
          · exact h
          · have := HSZ.out; omega
        have hlenq : (kq.W.getD y []).length ≤ 33554432 := by
          rw [hkq]
          show (((ps.take jj).foldl (dropAt i) kp.W).getD y []).length ≤ _
          rw [dropsF_get]
          split
          · exact Nat.le_trans (List.length_filter_le _ _) (HWL.out y)
          · exact HWL.out y
        have hdel := hp.deleted (i := i) (y := y) hlo hlw hlk hyn hlenq hgA hAn
        have HNXT : Hid (∀ w5, DelS T1 wr g n ⟨kq.W.set y ((kq.W.getD y []).filter (fun x => !takesW i x)), kq.K⟩ w5 → Hid (∃ T1, PS T1 w5 g n ⟨(ps.take (jj + 1)).foldl (dropAt i) kp.W, kp.K⟩ ∧ ExtP (fun _ => False) T T1 w9 w5 ∧ Chg (fun b => T b ≠ none) w9 w5 ∧ OwnI 0 w5 (.slice ao m cap) ps)) := hid (fun w5 hd => hid (by
          obtain ⟨T2, s1, s2, s3⟩ := hd
          have e : (ps.take (jj + 1)).foldl (dropAt i) kp.W = kq.W.set y ((kq.W.getD y []).filter (fun x => !takesW i x)) := by rw [HTK.out, List.foldl_append, hkq]; rfl
          have e2 : kp.K = kq.K := by rw [hkq]
          have hne : ∀ i, i < w9.heap.size → T1 i ≠ none → T i ≠ none := fun i hi h => (hx1.new i h).elim id (fun h => h.elim (fun h => h.elim) (fun h => by omega))
          refine ⟨T2, by rw [e, e2]; exact s1, hx1.trans s2 hc1.size (fun _ h => h.elim), hc1.trans (s3.mono (fun i _ h => h.some)) hne, hrow.keep s3 (fun b hb h => ?_)⟩
          have ht := hx1.old b (by rw [HQ2.out b hb]; simp)
          rw [HQ2.out b hb] at ht
          rcases h with h | ⟨p, h⟩ <;> rw [ht] at h <;> cases h))
        obtain ⟨u, hu⟩ : ∃ u, u = VW y := ⟨_, rfl⟩
        obtain ⟨fs, hfs⟩ : ∃ fs, fs = (kq.W.getD y []).filter (fun x => !takesW i x) := ⟨_, rfl⟩
        rw [← hu, ← hfs] at hdel
        rw [← hfs] at HNXT
        have HB := hid (And.intro (show wr.cell? ⟨g, 0, none⟩ = some (.slice (some ⟨bw, 0, none⟩) n n) from cell_blk hp.blk 0) (show wr.cell? ⟨bw, y, none⟩ = some u by rw [hu]; exact hp.rw_.cell hyn))
        have HN : Hid (¬ u.ownBlock = some g ∧ ¬ u.ownBlock = some bw) := hid ⟨fun e => (by rw [hu] at e; have := r2 _ e; rw [hp.tg] at this; cases this), fun e => (by rw [hu] at e; have := r2 _ e; rw [hp.t1] at this; cases this)⟩
        have HY := hid hyn
        obtain ⟨d1, d2⟩ := hdel
        have HE1 := hid d1
        have HE2 := hid d2
        subst hao
        clear hx1 hc1 hrow hrel hp hlo hlw hlk r1 r2 hgA hAn hlenq hu hfs d1 d2 hkq HTK hjp
        clear VW
        obtain ⟨T, hT⟩ : ∃ T', T' = T1 := ⟨_, rfl⟩
        rw [← hT] at HNXT HE1 HE2
        clear hT
        go_wp2_with fail
        clear p1 hyn
        refine wp_region_stateAD (Chg (fun b => T b ≠ none)) (Duo 13 15 31 (fun w => Chg (fun _ => False) wr w) (DelR wr u fs) (DelS T wr g n ⟨kq.W.set y fs, kq.K⟩)) (specAtR (kd4 T g A bw n y u)) [18, 19, 20, 21, 22, 23, 24, 25, 26, 27, 28, 29, 30, 31, 32] [0, 3, 5] (by kernel_rfl) (by kernel_rfl) (Duo.start (show (31 : Nat) < 34 by decide) ((Chg.refl _ _).drew)) (fun t v w w' hc h => specAtR_st _ t v w w' hc h) (by rfl) (by kernel_rfl) ?start4 ?obs4 ?fin4
        case start4 =>
          simp only [List.forall_mem_cons]; exact ⟨⟨_, rfl, rfl⟩, ⟨_, rfl, rfl⟩, ⟨_, rfl, rfl⟩, fun _ h => by cases h⟩
        case obs4 =>
          clear HNXT
          refine ObsAD.cons none (by kernel_rfl) ?_ ?_
          · refine ObAD.plain fun L a w hi he hD hW hk K k => ?_
            obtain ⟨_, e0, rfl⟩ := hk 0 (by decide)
            clear hk
            have hS := hid (fun (v : Value) (w2 : World) (hc : Chg (fun _ => False) w w2) => hW.step (j := 0) (d := (some 18)) v (by decide) hc (fun _ _ h c => h.trans c (fun _ _ h => h)) (fun _ _ _ h c => h.quiet c) (fun _ _ h c => h.quiet c))
            clear hi he hW hD
            go_simp
            exact k _ _ (Chg.refl _ _) (hS.out _ _ (Chg.refl _ _)) rfl
          refine ObsAD.cons none (by kernel_rfl) ?_ ?_
          · refine ObAD.plain fun L a w hi he hD hW hk K k => ?_
            obtain ⟨_, e18, rfl⟩ := hk 18 (by decide)
            clear hk
            have hS := hid (fun (v : Value) (w2 : World) (hc : Chg (fun _ => False) w w2) => hW.step (j := 1) (d := (some 19)) v (by decide) hc (fun _ _ h c => h.trans c (fun _ _ h => h)) (fun _ _ _ h c => h.quiet c) (fun _ _ h c => h.quiet c))
            clear hi he hW hD
            go_simp
            exact k _ _ (Chg.refl _ _) (hS.out _ _ (Chg.refl _ _)) rfl
          refine ObsAD.cons none (by kernel_rfl) ?_ ?_
          · refine ObAD.plain fun L a w hi he hD hW hk K k => ?_
            obtain ⟨_, e19, rfl⟩ := hk 19 (by decide)
            clear hk
            have hS := hid (fun (v : Value) (w2 : World) (hc : Chg (fun _ => False) w w2) => hW.step (j := 2) (d := (some 20)) v (by decide) hc (fun _ _ h c => h.trans c (fun _ _ h => h)) (fun _ _ _ h c => h.quiet c) (fun _ _ h c => h.quiet c))
            clear hi he hW hD
            go_simp
            exact k _ _ (Chg.refl _ _) (hS.out _ _ (Chg.refl _ _)) rfl
          refine ObsAD.cons none (by kernel_rfl) ?_ ?_
          · refine ObAD.plain fun L a w hi he hD hW hk K k => ?_
            obtain ⟨_, e20, rfl⟩ := hk 20 (by decide)
            clear hk
            have hB := hW.early (by decide) hi (B := fun w => w.cell? ⟨g, 0, none⟩ = some (.slice (some ⟨bw, 0, none⟩) n n) ∧ w.cell? ⟨bw, y, none⟩ = some u) (fun w h => ⟨h.cell HB.out.1 id, h.cell HB.out.2 id⟩) (fun v w h => ⟨h.2.2.cell HB.out.1 HN.out.1, h.2.2.cell HB.out.2 HN.out.2⟩)
            have zz := hB.1
            have hS := hid (fun (v : Value) (w2 : World) (hc : Chg (fun _ => False) w w2) => hW.step (j := 3) (d := (some 21)) v (by decide) hc (fun _ _ h c => h.trans c (fun _ _ h => h)) (fun _ _ _ h c => h.quiet c) (fun _ _ h c => h.quiet c))
            clear hi he hW hD
            go_simp
            exact k _ _ (Chg.refl _ _) (hS.out _ _ (Chg.refl _ _)) rfl
          refine ObsAD.cons none (by kernel_rfl) ?_ ?_
          · refine ObAD.plain fun L a w hi he hD hW hk K k => ?_
            obtain ⟨_, e5, rfl⟩ := hk 5 (by decide)
            clear hk
            have hS := hid (fun (v : Value) (w2 : World) (hc : Chg (fun _ => False) w w2) => hW.step (j := 4) (d := (some 22)) v (by decide) hc (fun _ _ h c => h.trans c (fun _ _ h => h)) (fun _ _ _ h c => h.quiet c) (fun _ _ h c => h.quiet c))
            clear hi he hW hD
            go_simp
            exact k _ _ (Chg.refl _ _) (hS.out _ _ (Chg.refl _ _)) rfl
          refine ObsAD.cons none (by kernel_rfl) ?_ ?_
          · refine ObAD.plain fun L a w hi he hD hW hk K k => ?_
            obtain ⟨_, e0, rfl⟩ := hk 0 (by decide)
            clear hk
            have hS := hid (fun (v : Value) (w2 : World) (hc : Chg (fun _ => False) w w2) => hW.step (j := 5) (d := (some 23)) v (by decide) hc (fun _ _ h c => h.trans c (fun _ _ h => h)) (fun _ _ _ h c => h.quiet c) (fun _ _ h c => h.quiet c))
            clear hi he hW hD
            go_simp
            exact k _ _ (Chg.refl _ _) (hS.out _ _ (Chg.refl _ _)) rfl
          refine ObsAD.cons none (by kernel_rfl) ?_ ?_
          · refine ObAD.plain fun L a w hi he hD hW hk K k => ?_
            obtain ⟨_, e23, rfl⟩ := hk 23 (by decide)
            clear hk
            have hS := hid (fun (v : Value) (w2 : World) (hc : Chg (fun _ => False) w w2) => hW.step (j := 6) (d := (some 24)) v (by decide) hc (fun _ _ h c => h.trans c (fun _ _ h => h)) (fun _ _ _ h c => h.quiet c) (fun _ _ h c => h.quiet c))
            clear hi he hW hD
            go_simp
            exact k _ _ (Chg.refl _ _) (hS.out _ _ (Chg.refl _ _)) rfl
          refine ObsAD.cons none (by kernel_rfl) ?_ ?_
          · refine ObAD.plain fun L a w hi he hD hW hk K k => ?_
            obtain ⟨_, e24, rfl⟩ := hk 24 (by decide)
            clear hk
            have hS := hid (fun (v : Value) (w2 : World) (hc : Chg (fun _ => False) w w2) => hW.step (j := 7) (d := (some 25)) v (by decide) hc (fun _ _ h c => h.trans c (fun _ _ h => h)) (fun _ _ _ h c => h.quiet c) (fun _ _ h c => h.quiet c))
            clear hi he hW hD
            go_simp
            exact k _ _ (Chg.refl _ _) (hS.out _ _ (Chg.refl _ _)) rfl
          refine ObsAD.cons none (by kernel_rfl) ?_ ?_
          · refine ObAD.plain fun L a w hi he hD hW hk K k => ?_
            obtain ⟨_, e25, rfl⟩ := hk 25 (by decide)
            clear hk
            have hB := hW.early (by decide) hi (B := fun w => w.cell? ⟨g, 0, none⟩ = some (.slice (some ⟨bw, 0, none⟩) n n) ∧ w.cell? ⟨bw, y, none⟩ = some u) (fun w h => ⟨h.cell HB.out.1 id, h.cell HB.out.2 id⟩) (fun v w h => ⟨h.2.2.cell HB.out.1 HN.out.1, h.2.2.cell HB.out.2 HN.out.2⟩)
            have zz := hB.1
            have hS := hid (fun (v : Value) (w2 : World) (hc : Chg (fun _ => False) w w2) => hW.step (j := 8) (d := (some 26)) v (by decide) hc (fun _ _ h c => h.trans c (fun _ _ h => h)) (fun _ _ _ h c => h.quiet c) (fun _ _ h c => h.quiet c))
            clear hi he hW hD
            go_simp
            exact k _ _ (Chg.refl _ _) (hS.out _ _ (Chg.refl _ _)) rfl
          refine ObsAD.cons none (by kernel_rfl) ?_ ?_
          · refine ObAD.plain fun L a w hi he hD hW hk K k => ?_
            obtain ⟨_, e5, rfl⟩ := hk 5 (by decide)
            clear hk
            have hS := hid (fun (v : Value) (w2 : World) (hc : Chg (fun _ => False) w w2) => hW.step (j := 9) (d := (some 27)) v (by decide) hc (fun _ _ h c => h.trans c (fun _ _ h => h)) (fun _ _ _ h c => h.quiet c) (fun _ _ h c => h.quiet c))
            clear hi he hW hD
            go_simp
            exact k _ _ (Chg.refl _ _) (hS.out _ _ (Chg.refl _ _)) rfl
          refine ObsAD.cons none (by kernel_rfl) ?_ ?_
          · refine ObAD.plain fun L a w hi he hD hW hk K k => ?_
            obtain ⟨_, e26, rfl⟩ := hk 26 (by decide)
            obtain ⟨_, e27, rfl⟩ := hk 27 (by decide)
            clear hk
            have hlt := HY.out
            have hS := hid (fun (v : Value) (w2 : World) (hc : Chg (fun _ => False) w w2) => hW.step (j := 10) (d := (some 28)) v (by decide) hc (fun _ _ h c => h.trans c (fun _ _ h => h)) (fun _ _ _ h c => h.quiet c) (fun _ _ h c => h.quiet c))
            clear hi he hW hD
            go_simp
            exact k _ _ (Chg.refl _ _) (hS.out _ _ (Chg.refl _ _)) rfl
          refine ObsAD.cons none (by kernel_rfl) ?_ ?_
          · refine ObAD.plain fun L a w hi he hD hW hk K k => ?_
            obtain ⟨_, e28, rfl⟩ := hk 28 (by decide)
            clear hk
            have hB := hW.early (by decide) hi (B := fun w => w.cell? ⟨g, 0, none⟩ = some (.slice (some ⟨bw, 0, none⟩) n n) ∧ w.cell? ⟨bw, y, none⟩ = some u) (fun w h => ⟨h.cell HB.out.1 id, h.cell HB.out.2 id⟩) (fun v w h => ⟨h.2.2.cell HB.out.1 HN.out.1, h.2.2.cell HB.out.2 HN.out.2⟩)
            have zz := hB.2
            have hS := hid (fun (v : Value) (w2 : World) (hc : Chg (fun _ => False) w w2) => hW.step (j := 11) (d := (some 29)) v (by decide) hc (fun _ _ h c => h.trans c (fun _ _ h => h)) (fun _ _ _ h c => h.quiet c) (fun _ _ h c => h.quiet c))
            clear hi he hW hD
            go_simp
            exact k _ _ (Chg.refl _ _) (hS.out _ _ (Chg.refl _ _)) rfl
          refine ObsAD.cons none (by kernel_rfl) ?_ ?_
          · refine ObAD.plain fun L a w hi he hD hW hk K k => ?_
            obtain ⟨_, e3, rfl⟩ := hk 3 (by decide)
            clear hk
            have hS := hid (fun (v : Value) (w2 : World) (hc : Chg (fun _ => False) w w2) => hW.step (j := 12) (d := (some 30)) v (by decide) hc (fun _ _ h c => h.trans c (fun _ _ h => h)) (fun _ _ _ h c => h.quiet c) (fun _ _ h c => h.quiet c))
            clear hi he hW hD
            go_simp
            exact k _ _ (Chg.refl _ _) (hS.out _ _ (Chg.refl _ _)) rfl
          refine ObsAD.cons none (by kernel_rfl) ?_ ?_
          · refine ObAD.plain fun L a w hi he hD hW hk K k => ?_
            obtain ⟨_, e29, rfl⟩ := hk 29 (by decide)
            obtain ⟨_, e30, rfl⟩ := hk 30 (by decide)
            clear hk
            have hq := HE1.out w (hW.p0 hi)
            have HS := hid hW
            clear he hD hW
            go_simp
            refine hq.mono ?_
            rintro e w5 ⟨v2, rfl, hF, hS⟩
            exact k v2 _ hS (HS.out.first (by decide) hi hF) trivial
          refine ObsAD.cons none (by kernel_rfl) ?_ ?_
          · refine ObAD.plain fun L a w hi he hD hW hk K k => ?_
            obtain ⟨_, e21, rfl⟩ := hk 21 (by decide)
            obtain ⟨_, e22, rfl⟩ := hk 22 (by decide)
            clear hk
            have hlt := HY.out
            have hS := hid (fun (v : Value) (w2 : World) (hc : Chg (fun _ => False) w w2) => hW.step (j := 14) (d := (some 32)) v (by decide) hc (fun _ _ h c => h.trans c (fun _ _ h => h)) (fun _ _ _ h c => h.quiet c) (fun _ _ h c => h.quiet c))
            clear hi he hW hD
            go_simp
            exact k _ _ (Chg.refl _ _) (hS.out _ _ (Chg.refl _ _)) rfl
          refine ObsAD.cons none (by kernel_rfl) ?_ ?_
          · refine ObAD.plain fun L a w hi he hD hW hk K k => ?_
            obtain ⟨_, e32, rfl⟩ := hk 32 (by decide)
            clear hk
            have hall := behind_all (n := 15) hD rfl he (by kernel_rfl)
            obtain ⟨v2, e31, hF⟩ := hW.p1 (hall 13 (by decide)) hi
            obtain ⟨ao2, cap2, hv2⟩ := hF.1.shape
            obtain ⟨q, hq⟩ : ∃ q : Nat, q = fs.length := ⟨_, rfl⟩
            rw [← hq] at hv2
            clear hq
            subst hv2
            obtain ⟨hcl, hfz, hF2, hS⟩ := HE2.out w _ hF
            have HS := hid (And.intro hW (And.intro hall (And.intro hF2 hS)))
            clear hF hF2 hS hall he hD hW hi
            go_simp
            exact k undef _ HS.out.2.2.2 (HS.out.1.second (by decide) HS.out.2.1 HS.out.2.2.1) trivial
          exact ObsAD.nil
        case fin4 =>
          intro L vals w5 hL hWL hv
          have HEND := hid (hWL.p2 (hL 15 (by decide)))
          clear hL hWL hv HE1 HE2
          simp only [putAll, List.setIfInBounds_toArray, List.set_cons_zero, List.set_cons_succ]
          have HN2 := hid (HNXT.out w5 HEND.out)
          clear HEND HNXT HB HN HY
          go_wp2
          go_roundw
          case rel => exact ⟨jj + 1, by omega, by go_num, HN2.out⟩
          case measure => simp [intOf]; omega
      · have hj2 : jj = m := by omega
        have HRES := hid (HFIN.out w9 wr HC9.out (by
          have h := hrel.out
          have e : ps.take m = ps := by rw [← HM.out, List.take_length]
          rw [hj2, e] at h
          exact h))
        clear hrel hj2
        go_wp2
        go_end0
        exact HRES.out
end Go.Proofs.Ytjaplnainlbldaa

/-
  DERIVED: THE SHELF's CONTRACTS AT THIS DUMP, IN PLAIN WORDS (tools/lay-plain.mjs out of 'TryShelfR.lean', which tools/lay-shelf.mjs wrote): THE SAME DECLARATIONS UNDER THE SAME NAMES: 'import', 'namespace', 'open', 'def', 'theorem' AND NOTHING ELSE: no command of the shelf's: FOR A HAND-IN. Each laying: the table of numbers ('.._ren') and one theorem, a field a fact of the dump's own or the kernel's comparison; each contract: ONE APPLICATION.
-/
namespace Go.Proofs
open Go.Shelf
def Try.revSt_ren : Go.Shelf.Ren := ⟨fun | 35 => 82 | n => n, fun | 22 => 29 | 23 => 43 | 3 => 3 | 4 => 4 | 0 => 0 | n => n, fun | n => n⟩
theorem Try.revSt : Go.Proofs.SlLaysE0.n35 Try.prog Try.revSt_ren := {
  mixed := by kernel_rfl
  f35 := ⟨Try.f82.name, by decide, Try.func82.trans (congrArg some (by kernel_rfl))⟩
  t0 := Try.underlying0
  a0 := Try.isAgg0
  z0 := Try.sizeOf0
  v0 := Try.zeroValue0
  t3 := Try.underlying3
  a3 := Try.isAgg3
  z3 := Try.sizeOf3
  v3 := Try.zeroValue3
  t4 := Try.underlying4
  a4 := Try.isAgg4
  z4 := Try.sizeOf4
  v4 := Try.zeroValue4
  t22 := Try.underlying29
  a22 := Try.isAgg29
  z22 := Try.sizeOf29
  v22 := Try.zeroValue29 }
end Go.Proofs
