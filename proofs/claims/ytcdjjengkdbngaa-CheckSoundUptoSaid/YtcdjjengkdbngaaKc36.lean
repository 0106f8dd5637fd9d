/- Texts that the proof leans on, in one: KwTight, KpPuts. -/
import Derived.Test.YtcdjjengkdbngaaKc35
import Derived.Test.YtcdjjengkdbngaaKc32
import Derived.Laws.MakeOwn
import Derived.Test.YtcdjjengkdbngaaKc10
import Derived.Test.YtcdjjengkdbngaaKc29
import Derived.Test.YtcdjjengkdbngaaKc5
import Derived.Test.YtcdjjengkdbngaaKc8
/- The contract of the program's Tight. -/
namespace Go.Proofs.Ytcdjjengkdbngaa
open Go.RowKit Go.Maps

open Classical in
/-- A row of bools that tells of each place whether it is one of these. -/
def BRow (M : Nat → Prop) (n : Nat) (w : World) (N : Nat) : Prop := ∃ cur : Array Value, w.heap[N]? = some (.cells cur 4 (0, 0)) ∧ ∀ i, i < n → cur[i]? = some (.bool (decide (M i)))
section
variable {M M' : Nat → Prop} {n N : Nat} {w w' : World}
theorem BRow.keep {S : Nat → Prop} (h : BRow M n w N) (hc : Chg S w w') (hs : ¬ S N) : BRow M n w' N := by
  obtain ⟨cur, h1, h2⟩ := h
  exact ⟨cur, blk_keep h1 hc hs, h2⟩
theorem BRow.cong (h : BRow M n w N) (e : ∀ i, i < n → (M i ↔ M' i)) : BRow M' n w N := by
  obtain ⟨cur, h1, h2⟩ := h
  refine ⟨cur, h1, fun i hi => (h2 i hi).trans ?_⟩
  congr 2
  exact decide_eq_decide.2 (e i hi)
open Classical in
theorem BRow.cell (h : BRow M n w N) {i : Nat} (hi : i < n) : w.cell? ⟨N, i, none⟩ = some (.bool (decide (M i))) := by
  obtain ⟨cur, h1, h2⟩ := h
  rw [cell_blk h1 i, h2 i hi]
open Classical in
theorem BRow.yes (h : BRow M n w N) {i : Nat} (hi : i < n) (hm : M i) : w.cell? ⟨N, i, none⟩ = some (.bool true) := by
  rw [h.cell hi, decide_eq_true hm]
open Classical in
theorem BRow.no (h : BRow M n w N) {i : Nat} (hi : i < n) (hm : ¬ M i) : w.cell? ⟨N, i, none⟩ = some (.bool false) := by
  rw [h.cell hi, decide_eq_false hm]
theorem BRow.froz (h : BRow M n w N) (i : Nat) : w.frozen? ⟨N, i, none⟩ = false := by
  obtain ⟨cur, h1, h2⟩ := h
  exact froz_blk h1 i
open Classical in
theorem BRow.set (h : BRow M n w N) (i : Nat) : BRow (fun k => M k ∨ k = i) n (w.setCell ⟨N, i, none⟩ (.bool true)) N := by
  obtain ⟨cur, h1, h2⟩ := h
  refine ⟨cur.setIfInBounds i (.bool true), ?_, fun k hk => ?_⟩
  · simp only [World.setCell, Array.getElem?_modify]
    rw [if_pos trivial, h1]
    rfl
  · by_cases e : i = k
    · subst e
      have hlt : i < cur.size := (Array.getElem?_eq_some_iff.1 (h2 i hk)).1
      rw [Array.getElem?_setIfInBounds_self_of_lt hlt]
      congr 2
      have hp : (fun k => M k ∨ k = i) i := .inr rfl
      exact (@decide_eq_true _ (Classical.propDecidable _) hp).symm
    · rw [Array.getElem?_setIfInBounds_ne e, h2 k hk]
      congr 2
      exact decide_eq_decide.2 ⟨.inl, fun h => h.elim id (fun h => absurd h.symm e)⟩
end

theorem KK.common {w0 w : World} {Pr : Nat → Prop} {g : Nat} {F : List FactB} (h : KK w0 Pr g F w) (s : StepB) (hs : stepShort s 9223372036854775807) (hn : F.length ≤ 1000000) : Calls Try.prog 62 #[.pointer (some ⟨g, 0, none⟩), .agg (stepBox s)] w (CommonPost s F w) := by
  obtain ⟨⟨T, h1, h2⟩, h3⟩ := h
  exact kw_common g F s w h1 hn hs

theorem run_makeBools (n : Nat) (hn : n ≤ 1000000) (w : World) : (Instr.makeSlice 120 (.int .i64 n) (.int .i64 n)).run Try.prog w = .ok (.slice (some ⟨w.heap.size, 0, none⟩) n n) (w.alloc (.cells (madeCells #[.bool false] n) 4)) := by
  have := run_makeSlice (P := Try.prog) w 120 4 Try.t4 (.bool false) Try.underlying120 (by kernel_rfl) (by kernel_rfl) .i64 .i64 n n (by omega) (Int.le_refl _) (by show (n : Int).toNat * 1 ≤ _; omega) (by show ((1 : Nat) : Int) * (n : Int) ≤ _; omega) (by omega)
  simpa [show Try.t4.size = 1 from rfl, Value.cells] using this
theorem brow_made (w : World) (n : Nat) : BRow (fun _ => False) n (w.alloc (.cells (madeCells #[.bool false] n) 4)) w.heap.size := by
  refine ⟨_, heap_alloc_new w _, fun i hi => ?_⟩
  have hs := size_madeCells #[Value.bool false] n
  rw [Array.getElem?_eq_getElem (by omega)]
  simp [madeCells, Nat.mod_one]

theorem factsK_mem {ls : List StepB} {j : Nat} {f : FactB} (h : f ∈ factsK (ls.take j)) : ∃ i, ∃ h : i < ls.length, i < j ∧ ls[i].f = f := by
  unfold factsK at h
  obtain ⟨s, hs, rfl⟩ := List.mem_map.1 h
  obtain ⟨i, hi, rfl⟩ := List.mem_iff_getElem.1 hs
  rw [List.length_take] at hi
  exact ⟨i, by omega, by omega, by simp⟩

/-- What the rounds of Tight have told. -/
structure TOk (ls : List StepB) (j : Nat) : Prop where
  dis : ∀ i k (hi : i < ls.length) (hk : k < ls.length), i < j → k < i → ls[i].f ≠ ls[k].f
  fol : ∀ i (h : i < ls.length), i < j → followsK ls[i] (factsK (ls.take i)) = true
theorem TOk.nd {ls : List StepB} {j : Nat} (h : TOk ls j) : (factsK (ls.take j)).Nodup := by
  refine factsK_nd fun i k hi hk hlt => ?_
  rw [List.length_take] at hi hk
  simp only [List.getElem_take]
  exact h.dis i k (by omega) (by omega) (by omega) hlt
theorem TOk.dup {ls : List StepB} {j : Nat} (hj : j < ls.length) (h : ls[j].f ∈ factsK (ls.take j)) : tightK ls = false := by
  obtain ⟨i, hi, hij, e⟩ := factsK_mem h
  exact tightK_no (fun hall => hall.1 j i hj hi hij e.symm)
theorem TOk.unf {ls : List StepB} {j : Nat} (hj : j < ls.length) (h : followsK ls[j] (factsK (ls.take j)) = false) : tightK ls = false :=
  tightK_no (fun hall => by
    have h2 := hall.2.1
    unfold standsK at h2
    have := (of_decide_eq_true h2) j hj
    rw [h] at this
    exact Bool.noConfusion this)
theorem TOk.next {ls : List StepB} {j : Nat} (h : TOk ls j) (hj : j < ls.length) (h1 : ls[j].f ∉ factsK (ls.take j)) (h2 : followsK ls[j] (factsK (ls.take j)) = true) : TOk ls (j + 1) := by
  refine ⟨fun i k hi hk hij hki e => ?_, fun i hi hij => ?_⟩
  · by_cases e2 : i = j
    · subst e2
      refine h1 ?_
      rw [e]
      unfold factsK
      refine List.mem_map.2 ⟨ls[k], ?_, rfl⟩
      refine List.mem_iff_getElem.2 ⟨k, by rw [List.length_take]; omega, by simp⟩
    · exact h.dis i k hi hk (by omega) hki e
  · by_cases e2 : i = j
    · subst e2; exact h2
    · exact h.fol i hi (by omega)
theorem TOk.iff {ls : List StepB} (h : TOk ls ls.length) : tightK ls = true ↔ ∀ i, i + 1 < ls.length → neededK ls ls.length i :=
  tightK_iff (fun i j hi hj hlt => h.dis i j hi hj hi hlt) (fun i hi => h.fol i hi hi)

theorem neededK_next {ls : List StepB} {j : Nat} (hj : j < ls.length) (i : Nat) : neededK ls (j + 1) i ↔ (neededK ls j i ∨ i ∈ commonK (waysK ls[j] (factsK (ls.take j)))) := by
  constructor
  · rintro ⟨k, hk, hkj, hi⟩
    by_cases e : k = j
    · subst e; exact .inr hi
    · exact .inl ⟨k, hk, by omega, hi⟩
  · rintro (⟨k, hk, hkj, hi⟩ | hi)
    · exact ⟨k, hk, by omega, hi⟩
    · exact ⟨j, hj, by omega, hi⟩
theorem neededK_zero {ls : List StepB} (i : Nat) : False ↔ neededK ls 0 i := ⟨False.elim, fun ⟨_, _, h, _⟩ => by omega⟩

set_option maxRecDepth 100000 in
set_option maxHeartbeats 8000000 in
theorem ck_tight {D : Nat → Prop} (ao : Option Addr) (cp : Nat) (ls : List StepB) (w : World) (hn : totalSt ls ≤ 1500) (_ : ls.length ≤ cp) (_ : cp ≤ 9223372036854775807) (h : StepsAt D w ao ls) :
    Calls Try.prog 32 #[.slice ao ls.length cp] w fun e w' => e = .returned (.bool (tightK ls)) ∧ Chg (fun _ => False) w w' := by
  have hl1 := totalSt_len ls
  have hlen : ls.length ≤ 1000 := by omega
  have HS := hid h
  have HSH := hid (steps_short h)
  have HNEW := hid (kw_new w)
  have hmk := run_makeBools ls.length (by omega)
  clear h hl1 hn
  go_enter Try.func32, Try.ntmps32
  go_wp2_with fail
  refine HNEW.out.mono ?_
  clear HNEW
  intro e w1 hnew
  obtain ⟨g, rfl, hk, hc1⟩ := KK.made hnew
  have ha : Chg (fun _ => False) w1 (w1.alloc (.cells (madeCells #[.bool false] ls.length) 4)) := (Chg.refl _ _).alloc _
  have HK := hid ((hk.apart (Nat.le_refl _)).quiet ha)
  have HC := hid (hc1.trans ha (fun _ _ h => h))
  have HB := hid ((brow_made w1 ls.length).cong (fun i _ => neededK_zero (ls := ls) i))
  have HNB : Hid (w.heap.size ≤ w1.heap.size) := hid hc1.size
  clear hnew hk hc1 ha
  go_wp2
  clear hmk
  generalize (w1.alloc (.cells (madeCells #[.bool false] ls.length) 4)) = w2 at *
  obtain ⟨N, hN⟩ : ∃ N, w1.heap.size = N := ⟨_, rfl⟩
  simp only [hN] at HK HB HNB ⊢
  have HPR : Hid (∀ i, (False ∨ i = N) → i < w2.heap.size) := hid (fun i hi => by
    rcases hi with hi | hi
    · exact hi.elim
    · obtain ⟨cur, h1, _⟩ := HB.out
      rw [hi]; exact lt_blk h1)
  clear hN
  go_loopw [16] (fun i wr => ∃ j : Nat, j ≤ ls.length ∧ i = .int .i64 j ∧ Hid (KK w (fun i => False ∨ i = N) g (factsK (ls.take j)) wr) ∧ Hid (BRow (neededK ls j) ls.length wr N) ∧ Hid (Chg (fun _ => False) w wr) ∧ Hid (TOk ls j)) (fun i _ => ls.length - (intOf i).toNat)
  case atStart => exact ⟨0, Nat.zero_le _, rfl, HK, HB, HC, hid ⟨fun _ _ _ _ h _ => absurd h (by omega), fun _ _ h => absurd h (by omega)⟩⟩
  case round =>
    obtain ⟨j, hj, rfl, hk, hbr, hc, htok⟩ := hrel
    have hkl : (factsK (ls.take j)).length ≤ 1000 := by rw [factsK_len, List.length_take]; omega
    by_cases hlt : j < ls.length
    · obtain ⟨b, off, hao, _, ⟨⟨a0, a1, a2, a3, a4, a5, a6, a7, a8⟩, ⟨b0, b1, b2⟩⟩, hss⟩ := (HS.out.keep hc.out (fun _ _ => id)) j hlt
      have hsh := HSH.out _ (List.getElem_mem hlt)
      have HT : Hid ((ls[j].f ∈ factsK (ls.take j) → tightK ls = false) ∧ (followsK ls[j] (factsK (ls.take j)) = false → tightK ls = false) ∧ (ls[j].f ∉ factsK (ls.take j) → followsK ls[j] (factsK (ls.take j)) = true → TOk ls (j + 1)) ∧ factsK (ls.take (j + 1)) = factsK (ls.take j) ++ [ls[j].f] ∧ (∀ i, neededK ls (j + 1) i ↔ (neededK ls j i ∨ i ∈ commonK (waysK ls[j] (factsK (ls.take j)))))) := hid ⟨TOk.dup hlt, TOk.unf hlt, htok.out.next hlt, by rw [List.take_succ_eq_append_getElem hlt, factsK_snoc], neededK_next hlt⟩
      generalize hsj : ls[j] = s at *
      clear hsj
      obtain ⟨FF, hFF⟩ : ∃ FF, FF = factsK (ls.take j) := ⟨_, rfl⟩
      rw [← hFF] at hk hkl HT
      have HFL : Hid (FF.length = j ∧ FF = knownK FF) := hid ⟨by rw [hFF, factsK_len, List.length_take]; omega, by rw [hFF]; exact (knownK_self htok.out.nd).symm⟩
      clear hFF htok
      have hal : Chg (fun _ => False) wr (wr.alloc (.cells #[.int .i64 s.c.kind, .string ⟨s.c.head.1.toArray⟩, .string ⟨s.c.head.2.toArray⟩, .string ⟨s.c.who.toArray⟩, .string ⟨s.c.b.1.toArray⟩, .string ⟨s.c.b.2.toArray⟩, .string ⟨s.c.c.1.toArray⟩, .string ⟨s.c.c.2.toArray⟩, .string ⟨s.c.w2.toArray⟩, .string ⟨s.f.1.1.toArray⟩, .string ⟨s.f.1.2.toArray⟩, .string ⟨s.f.2.toArray⟩] 36)) := (Chg.refl _ _).alloc _
      have hbx := heap_alloc_new wr (.cells #[.int .i64 s.c.kind, .string ⟨s.c.head.1.toArray⟩, .string ⟨s.c.head.2.toArray⟩, .string ⟨s.c.who.toArray⟩, .string ⟨s.c.b.1.toArray⟩, .string ⟨s.c.b.2.toArray⟩, .string ⟨s.c.c.1.toArray⟩, .string ⟨s.c.c.2.toArray⟩, .string ⟨s.c.w2.toArray⟩, .string ⟨s.f.1.1.toArray⟩, .string ⟨s.f.1.2.toArray⟩, .string ⟨s.f.2.toArray⟩] 36)
      obtain ⟨⟨s0, s1, s2, s3, s4, s5, s6, s7, s8⟩, ⟨t0, t1, t2⟩⟩ := step_at_blk hbx
      simp only [Nat.zero_add] at s0 s1 s2 s3 s4 s5 s6 s7 s8 t0 t1 t2
      change wr.cell? ⟨b, off + j * 12 + 10, none⟩ = _ at b1
      change wr.cell? ⟨b, off + j * 12 + 11, none⟩ = _ at b2
      have HLT := hid hlt
      have HKL := hid hkl
      have HS5 := hid hsh
      have HBX := hid (And.intro hbx hal)
      have hhas := (hk.out.quiet hal).has s.f hsh.2
      have HHAS := hid hhas
      clear hal hbx hkl hsh hss hhas hlt
      subst hao
      go_wp2_with fail
      refine HHAS.out.mono ?_
      clear HHAS s0 s1 s2 s3 s4 s5 s6 s7 s8 t0 t1 t2 a0 a1 a2 a3 a4 a5 a6 a7 a8 b0 b1 b2
      rintro e w5 ⟨rfl, hc5⟩
      have hcw5 := HBX.out.2.trans hc5 (fun _ _ h => h)
      have HK5 := hid (hk.out.quiet hcw5)
      have HB5 := hid (hbr.out.keep hcw5 id)
      have HC5 := hid (hc.out.trans hcw5 (fun _ _ h => h))
      have HBX5 := hid (blk_keep HBX.out.1 hc5 id)
      clear hk hbr hc hcw5 hc5 HBX
      cases hdd : decide (s.f ∈ FF) with
      | true =>
        have HR : Hid (tightK ls = false) := hid (HT.out.1 (of_decide_eq_true hdd))
        clear hdd
        go_wp2_with fail
        go_ret
        exact ⟨by rw [HR.out]; rfl, HC5.out⟩
      | false =>
        have HND : Hid (s.f ∉ FF) := hid (of_decide_eq_false hdd)
        clear hdd
        have hfl := HK5.out.follows s HS5.out (by have := HKL.out; omega)
        have hfl2 : decide (waysK s FF ≠ []) = followsK s FF := by
          have := follows_ways (s := s) (hs := FF)
          rw [← HFL.out.2] at this
          exact this
        rw [hfl2] at hfl
        unfold stepBox at hfl
        have HFOL := hid hfl
        obtain ⟨⟨s0, s1, s2, s3, s4, s5, s6, s7, s8⟩, ⟨t0, t1, t2⟩⟩ := step_at_blk HBX5.out
        simp only [Nat.zero_add] at s0 s1 s2 s3 s4 s5 s6 s7 s8 t0 t1 t2
        clear hfl hfl2
        go_wp2_with fail
        refine HFOL.out.mono ?_
        clear HFOL s0 s1 s2 s3 s4 s5 s6 s7 s8 t0 t1 t2
        rintro e w6 ⟨rfl, hc6⟩
        have HK6 := hid (HK5.out.quiet hc6)
        have HB6 := hid (HB5.out.keep hc6 id)
        have HC6 := hid (HC5.out.trans hc6 (fun _ _ h => h))
        have HBX6 := hid (blk_keep HBX5.out hc6 id)
        clear HK5 HB5 HC5 HBX5 hc6
        cases hff : followsK s FF with
        | false =>
          have HR : Hid (tightK ls = false) := hid (HT.out.2.1 hff)
          clear hff
          go_wp2_with fail
          go_ret
          exact ⟨by rw [HR.out]; rfl, HC6.out⟩
        | true =>
          have HTN := hid (HT.out.2.2.1 HND.out hff)
          clear hff
          have hcm := HK6.out.common s HS5.out (by have := HKL.out; omega)
          unfold stepBox at hcm
          have HCM := hid hcm
          obtain ⟨⟨s0, s1, s2, s3, s4, s5, s6, s7, s8⟩, ⟨t0, t1, t2⟩⟩ := step_at_blk HBX6.out
          simp only [Nat.zero_add] at s0 s1 s2 s3 s4 s5 s6 s7 s8 t0 t1 t2
          clear hcm
          go_wp2_with fail
          refine HCM.out.mono ?_
          clear HCM s0 s1 s2 s3 s4 s5 s6 s7 s8 t0 t1 t2
          rintro e w7 ⟨v, rfl, hov, hc7⟩
          obtain ⟨av, cv, rfl⟩ := hov.shape
          have HK7 := hid (HK6.out.quiet hc7)
          have HB7 := hid (HB6.out.keep hc7 id)
          have HC7 := hid (HC6.out.trans hc7 (fun _ _ h => h))
          have HBX7 := hid (blk_keep HBX6.out hc7 id)
          have HPS : Hid ((commonK (waysK s FF)).length ≤ 2 ∧ ∀ i ∈ commonK (waysK s FF), i < ls.length) := hid ⟨commonK_len _ (fun y hy => waysK_two hy), fun i hi => by
            have h2 : ∃ y ∈ waysK s FF, i ∈ y := by
              cases hw : waysK s FF with
              | nil => rw [hw] at hi; cases hi
              | cons y ys =>
                refine ⟨y, by simp, ?_⟩
                have h3 := (commonK_mem (ys := waysK s FF) (by rw [hw]; simp) i).1 hi
                exact h3 y (by rw [hw]; simp)
            obtain ⟨y, hy, hiy⟩ := h2
            have := waysK_lt hy i hiy
            have := HFL.out.1
            have := HLT.out
            omega⟩
          have HNX : Hid (∀ i, neededK ls (j + 1) i ↔ (neededK ls j i ∨ i ∈ commonK (waysK s FF))) := hid HT.out.2.2.2.2
          generalize commonK (waysK s FF) = ps at *
          have HOV := hid hov
          have HX6 : Hid (N < w6.heap.size) := hid (by
            obtain ⟨cur, h1, _⟩ := HB6.out
            exact lt_blk h1)
          clear hov hc7 HK6 HB6 HC6 HBX6
          obtain ⟨X, hX⟩ : ∃ X, wr.heap.size = X := ⟨_, rfl⟩
          simp only [hX] at HBX7 ⊢
          clear hX
          go_wp2
          go_loopw [34] (fun i wl => ∃ m : Nat, m ≤ ps.length ∧ i = .int .i64 m ∧ Hid (KK w (fun i => False ∨ i = N) g FF wl) ∧ Hid (BRow (fun i => neededK ls j i ∨ i ∈ ps.take m) ls.length wl N) ∧ Hid (Chg (fun _ => False) w wl) ∧ Hid (wl.heap[X]? = some (.cells (stepBox s) 36 (0, 0))) ∧ Hid (OwnI w6.heap.size wl (.slice av ps.length cv) ps) ∧ Hid (w7.heap.size ≤ wl.heap.size)) (fun i _ => ps.length - (intOf i).toNat)
          case atStart => exact ⟨0, Nat.zero_le _, rfl, HK7, hid (HB7.out.cong (fun i _ => by simp)), HC7, HBX7, HOV, hid (Nat.le_refl _)⟩
          case round =>
            obtain ⟨m, hm, rfl, hk, hbr, hc, hbx, hov, hsz⟩ := hrel
            by_cases hlm : m < ps.length
            · obtain ⟨bb, rfl, x0, x1⟩ := hov.out.cells hlm
              have hin := HPS.out.2 _ (List.getElem_mem hlm)
              have htk : ps.take (m + 1) = ps.take m ++ [ps[m]] := by rw [List.take_succ_eq_append_getElem hlm]
              generalize ps[m] = p at *
              have hcl := hbr.out.cell hin
              have hfz := hbr.out.froz p
              have hcs : Chg (· = N) wr (wr.setCell ⟨N, p, none⟩ (.bool true)) := (Chg.refl (· = N) wr).setCell (p := ⟨N, p, none⟩) (fun _ => rfl) _
              have HXN : Hid (X ≠ N) := hid (fun e => by
                obtain ⟨cur, h1, _⟩ := hbr.out
                have h2 := hbx.out
                rw [e, h1] at h2
                injection h2 with h2
                injection h2 with _ h2 _
                exact absurd h2 (by decide))
              have HK8 := hid (hk.out.keep hcs (fun i _ hp e => hp (.inr e)))
              have HB8 : Hid (BRow (fun i => neededK ls j i ∨ i ∈ ps.take (m + 1)) ls.length (wr.setCell ⟨N, p, none⟩ (.bool true)) N) := hid ((hbr.out.set p).cong (fun i _ => by rw [htk, List.mem_append, List.mem_singleton, or_assoc]))
              have HC8 : Hid (Chg (fun _ => False) w (wr.setCell ⟨N, p, none⟩ (.bool true))) := hid (hc.out.setCell (p := ⟨N, p, none⟩) (fun hl => absurd (show N < w.heap.size from hl) (by have := HNB.out; omega)) _)
              have HX8 := hid (blk_keep hbx.out hcs HXN.out)
              have HO8 := hid (hov.out.keep hcs (fun k hk e => by have := (hov.out.blt hk).1; have := HX6.out; omega))
              have HS8 : Hid (w7.heap.size ≤ (wr.setCell ⟨N, p, none⟩ (.bool true)).heap.size) := hid (Nat.le_trans hsz.out hcs.size)
              have hp2 := HPS.out.1
              clear hk hbr hc hbx hsz hov hcs HXN htk
              go_wp2_with fail
              exact ⟨⟨m + 1, by omega, by go_num, HK8, HB8, HC8, HX8, HO8, HS8⟩, by simp [intOf]; omega⟩
            · have hme : m = ps.length := by omega
              have hb2 := hbr.out
              rw [hme, List.take_length] at hb2
              have hb3 := hb2.cong (M' := neededK ls (j + 1)) (fun i _ => (HNX.out i).symm)
              have hp : ∀ i, (False ∨ i = N) → i < wr.heap.size := fun i hi => by
                rcases hi with hi | hi
                · exact hi.elim
                · obtain ⟨cur, h1, _⟩ := hb3
                  rw [hi]; exact lt_blk h1
              have hadd := hk.out.add hp s.f HS5.out.2 (by have := HKL.out; omega)
              have HADD := hid hadd
              obtain ⟨_, ⟨t0, t1, t2⟩⟩ := step_at_blk hbx.out
              simp only [Nat.zero_add] at t0 t1 t2
              have HB9 := hid hb3
              have HC9 := hid hc.out
              clear hk hbr hc hbx hsz hov hb2 hb3 hp hadd hme
              go_wp2_with fail
              refine HADD.out.mono ?_
              clear HADD t0 t1 t2
              rintro e wz ⟨rfl, hkz, hcz⟩
              have hae : addK FF s.f = factsK (ls.take (j + 1)) := by rw [HT.out.2.2.2.1, addK, if_neg HND.out]
              rw [hae] at hkz
              have HKZ := hid hkz
              have HBZ := hid (HB9.out.keep hcz (fun h => h.2 (.inr rfl)))
              have HCZ := hid (HC9.out.trans hcz (fun i hi h => by omega))
              clear hkz hcz hae HB9 HC9
              go_wp2
              go_roundw
              case rel => exact ⟨j + 1, by have := HLT.out; omega, by go_num, HKZ, HBZ, HCZ, HTN⟩
              case measure => have := HLT.out; simp [intOf]; omega
    · have hje : j = ls.length := by omega
      subst hje
      have HIF := hid htok.out.iff
      have HB9 := hid hbr.out
      have HC9 := hid hc.out
      clear hk hbr hc htok hkl
      go_wp2
      go_loopw [50] (fun i wl => ∃ m : Nat, (m + 1 ≤ ls.length ∨ m = 0) ∧ i = .int .i64 m ∧ Hid (BRow (neededK ls ls.length) ls.length wl N) ∧ Hid (Chg (fun _ => False) w wl) ∧ Hid (∀ i, i < m → neededK ls ls.length i)) (fun i _ => ls.length - (intOf i).toNat)
      case atStart => exact ⟨0, .inr rfl, rfl, HB9, HC9, hid (fun i h => absurd h (by omega))⟩
      case round =>
        obtain ⟨m, hm, rfl, hbr, hc, hup⟩ := hrel
        by_cases hlm : m + 1 < ls.length
        · have hml : m < ls.length := by omega
          have hfz := hbr.out.froz m
          by_cases hne : neededK ls ls.length m
          · have hcl := hbr.out.yes hml hne
            have HUP : Hid (∀ i, i < m + 1 → neededK ls ls.length i) := hid (fun i hi => by
              by_cases e : i = m
              · subst e; exact hne
              · exact hup.out i (by omega))
            clear hne hup
            go_wp2_with fail
            exact ⟨⟨m + 1, .inl (by omega), by go_num, hbr, hc, HUP⟩, by simp [intOf]; omega⟩
          · have hcl := hbr.out.no hml hne
            have HR : Hid (tightK ls = false) := hid (by
              rw [← Bool.not_eq_true]
              exact fun e => hne (HIF.out.1 e m hlm))
            clear hne
            go_wp2_with fail
            go_ret
            exact ⟨by rw [HR.out]; rfl, hc.out⟩
        · have HR : Hid (tightK ls = true) := hid (HIF.out.2 (fun i hi => hup.out i (by omega)))
          go_wp2_with fail
          go_ret
          exact ⟨by rw [HR.out]; rfl, hc.out⟩
end Go.Proofs.Ytcdjjengkdbngaa

/- Whether a step can be written: the program's puts. -/
namespace Go.Proofs.Ytcdjjengkdbngaa
open Go.RowKit Go.Maps
attribute [local go_sem ↓ high] run_eqg_role run_eql_role

set_option maxRecDepth 100000 in
set_option maxHeartbeats 4000000 in
theorem kp_puts (s : StepB) (w : World) (hs : stepShort s 9223372036854775807) : Calls Try.prog 51 #[.agg #[.int .i64 s.c.kind, .string ⟨s.c.head.1.toArray⟩, .string ⟨s.c.head.2.toArray⟩, .string ⟨s.c.who.toArray⟩, .string ⟨s.c.b.1.toArray⟩, .string ⟨s.c.b.2.toArray⟩, .string ⟨s.c.c.1.toArray⟩, .string ⟨s.c.c.2.toArray⟩, .string ⟨s.c.w2.toArray⟩, .string ⟨s.f.1.1.toArray⟩, .string ⟨s.f.1.2.toArray⟩, .string ⟨s.f.2.toArray⟩]] w fun e w' => e = .returned (.bool (stepGood s)) ∧ Chg (fun _ => False) w w' := by
  have hb := heap_alloc_new w (.cells #[.int .i64 s.c.kind, .string ⟨s.c.head.1.toArray⟩, .string ⟨s.c.head.2.toArray⟩, .string ⟨s.c.who.toArray⟩, .string ⟨s.c.b.1.toArray⟩, .string ⟨s.c.b.2.toArray⟩, .string ⟨s.c.c.1.toArray⟩, .string ⟨s.c.c.2.toArray⟩, .string ⟨s.c.w2.toArray⟩, .string ⟨s.f.1.1.toArray⟩, .string ⟨s.f.1.2.toArray⟩, .string ⟨s.f.2.toArray⟩] 36)
  have hc : Chg (fun _ => False) w (w.alloc (.cells #[.int .i64 s.c.kind, .string ⟨s.c.head.1.toArray⟩, .string ⟨s.c.head.2.toArray⟩, .string ⟨s.c.who.toArray⟩, .string ⟨s.c.b.1.toArray⟩, .string ⟨s.c.b.2.toArray⟩, .string ⟨s.c.c.1.toArray⟩, .string ⟨s.c.c.2.toArray⟩, .string ⟨s.c.w2.toArray⟩, .string ⟨s.f.1.1.toArray⟩, .string ⟨s.f.1.2.toArray⟩, .string ⟨s.f.2.toArray⟩] 36)) := (Chg.refl _ w).alloc _
  have hpr := pcright s.c (w.alloc (.cells #[.int .i64 s.c.kind, .string ⟨s.c.head.1.toArray⟩, .string ⟨s.c.head.2.toArray⟩, .string ⟨s.c.who.toArray⟩, .string ⟨s.c.b.1.toArray⟩, .string ⟨s.c.b.2.toArray⟩, .string ⟨s.c.c.1.toArray⟩, .string ⟨s.c.c.2.toArray⟩, .string ⟨s.c.w2.toArray⟩, .string ⟨s.f.1.1.toArray⟩, .string ⟨s.f.1.2.toArray⟩, .string ⟨s.f.2.toArray⟩] 36)) hs.1
  unfold credV at hpr
  have HS := hid (And.intro hb (And.intro hc hs))
  obtain ⟨⟨s0, s1, s2, s3, s4, s5, s6, s7, s8⟩, ⟨t0, t1, t2⟩⟩ := step_at_blk hb
  simp only [Nat.zero_add] at s0 s1 s2 s3 s4 s5 s6 s7 s8 t0 t1 t2
  have hsg : Hid (stepGood s = (isCred s.c && (decide (s.f.1 = s.c.head) && isName s.f.2))) := hid rfl
  clear hb hc hs
  go_enter Try.func51, Try.ntmps51
  go_wp2_with fail
  refine hpr.mono ?_
  clear hpr s0 s1 s2 s3 s4 s5 s6 s7 s8 t0 t1 t2
  rintro e w1 ⟨rfl, hc1⟩
  obtain ⟨⟨s0, s1, s2, s3, s4, s5, s6, s7, s8⟩, ⟨t0, t1, t2⟩⟩ := step_at_blk (blk_keep HS.out.1 hc1 id)
  simp only [Nat.zero_add] at s0 s1 s2 s3 s4 s5 s6 s7 s8 t0 t1 t2
  have HC := hid (HS.out.2.1.trans hc1 (fun _ _ h => h))
  have hr := right_any s.f.2 w1 HS.out.2.2.2.2.2
  clear hc1
  cases hx : isCred s.c with
  | false =>
    have HR : Hid (stepGood s = false) := hid (by rw [hsg.out, hx]; rfl)
    clear hx hr
    go_wp2_with fail
    go_ret
    exact ⟨by rw [HR.out]; rfl, HC.out⟩
  | true =>
    cases hd : decide (s.f.1 = s.c.head) with
    | true =>
      have HR : Hid (stepGood s = isName s.f.2) := hid (by rw [hsg.out, hx, hd]; rfl)
      have hh := of_decide_eq_true hd
      clear hx hd
      go_wp2_with fail
      refine hr.mono ?_
      clear hr s0 s1 s2 s3 s4 s5 s6 s7 s8 t0 t1 t2
      rintro e w2 ⟨rfl, rfl⟩
      go_wp2_with fail
      go_ret
      exact ⟨by rw [HR.out]; rfl, HC.out⟩
    | false =>
      have HR : Hid (stepGood s = false) := hid (by rw [hsg.out, hx, hd]; rfl)
      have hh := of_decide_eq_false hd
      clear hx hr
      go_wp2_with fail
      go_ret
      exact ⟨by rw [HR.out]; rfl, HC.out⟩
end Go.Proofs.Ytcdjjengkdbngaa
