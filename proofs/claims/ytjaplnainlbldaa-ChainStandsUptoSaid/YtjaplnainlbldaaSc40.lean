/- Texts that the proof leans on, in one: ChFind, RoleSpec, RefCredBytes, RefCredSet, ChUsed. -/
import Derived.Test.YtjaplnainlbldaaSc36
import Derived.Test.YtjaplnainlbldaaSc39
import Derived.Test.YtjaplnainlbldaaSc5
import Derived.Test.YtjaplnainlbldaaSc4
import Derived.Test.YtjaplnainlbldaaSc6
import Derived.Test.YtjaplnainlbldaaSc29
/- Find: a tight chain of what has grown, if the fact has come. -/
namespace Go.Proofs.Ytjaplnainlbldaa
open Go.RowKit

/-- What is found. -/
def FindIs (ls : List CredB) (want : FactB) (R : List StepB) (b : Bool) : Prop :=
  ∃ cs S, SetC ls cs ∧ GrowTo cs want S ∧ ((want ∈ factsK S ∧ b = true ∧ R = tightG S ((factsK S).idxOf want)) ∨ (want ∉ factsK S ∧ b = false ∧ R = []))
def FindPost (ls : List CredB) (want : FactB) (w : World) (e : Ending) (w' : World) : Prop :=
  ∃ v R b, e = .returned (.tuple #[v, .bool b]) ∧ FindIs ls want R b ∧ OwnSt w.heap.size w' v R ∧ Chg (fun _ => False) w w'

/-- It is one. -/
theorem FindIs.one {ls : List CredB} {want : FactB} {R R' : List StepB} {b b' : Bool} (h : FindIs ls want R b) (k : FindIs ls want R' b') : R = R' ∧ b = b' := by
  obtain ⟨cs, S, h1, h2, h3⟩ := h
  obtain ⟨cs', S', k1, k2, k3⟩ := k
  have e := h1.one k1
  subst e
  have e := h2.one k2
  subst e
  rcases h3 with ⟨q1, rfl, rfl⟩ | ⟨q1, rfl, rfl⟩ <;> rcases k3 with ⟨r1, rfl, rfl⟩ | ⟨r1, rfl, rfl⟩
  · exact ⟨rfl, rfl⟩
  · exact absurd q1 r1
  · exact absurd r1 q1
  · exact ⟨rfl, rfl⟩
theorem fact_at {S : List StepB} {z : Nat} {f : FactB} (hl : z < S.length) (h : (factsK S)[z]? = some f) : S[z].f = f := by
  unfold factsK at h
  rw [List.getElem?_map, List.getElem?_eq_getElem hl] at h
  exact Option.some.inj h

/-- What is found is a tight chain of these credentials, that ends with the fact; it is found just where the fact follows. -/
theorem FindIs.spec {ls : List CredB} {want : FactB} {R : List StepB} {b : Bool} (h : FindIs ls want R b) : (b = true ↔ Der ls want) ∧ (b = false → R = []) ∧ (b = true → standsK R = true ∧ tightK R = true ∧ (∃ R0 s, R = R0 ++ [s] ∧ s.f = want) ∧ ∀ s ∈ R, s.c ∈ ls ∧ isCred s.c = true) := by
  obtain ⟨cs, S, h1, h2, h3⟩ := h
  have hall : ∀ c ∈ cs, isCred c = true := fun c hc => ((h1.2 c).1 hc).2
  obtain ⟨hgood, hiff⟩ := h2.iff hall
  have hder : want ∈ factsK S ↔ Der ls want := hiff.trans (der_set h1)
  rcases h3 with ⟨q1, rfl, rfl⟩ | ⟨q1, rfl, rfl⟩
  · refine ⟨⟨fun _ => hder.1 q1, fun _ => rfl⟩, fun h => (by cases h), fun _ => ?_⟩
    have hl : (factsK S).idxOf want < S.length := by rw [← factsK_len]; exact List.idxOf_lt_length_of_mem q1
    have hk := kept_of hgood hl
    have e : tightG S ((factsK S).idxOf want) = stepsOf S (tightI S ((factsK S).idxOf want) ((factsK S).idxOf want + 1)).2.reverse := by
      unfold tightG stepsOf
      rw [List.map_reverse]
    obtain ⟨t1, t2, R0, t3⟩ := kept_tight hgood hl hk
    rw [e]
    refine ⟨t1, t2, ⟨R0, _, t3, ?_⟩, fun s hs => ?_⟩
    · exact fact_at hl (idx_get q1)
    · unfold stepsOf at hs
      obtain ⟨i, hi, rfl⟩ := List.mem_map.1 hs
      have hil : i < S.length := Nat.lt_of_le_of_lt (hk.le i hi) hl
      rw [getD_lt hil]
      have hm := hgood.mem _ (List.getElem_mem hil)
      exact ⟨((h1.2 _).1 hm).1, hall _ hm⟩
  · exact ⟨⟨fun h => (by cases h), fun h => absurd (hder.2 h) q1⟩, fun _ => rfl, fun h => (by cases h)⟩

theorem setC_few {ls cs : List CredB} (h : SetC ls cs) (hl : ls.length ≤ 50) : cs.length ≤ 50 := by
  have hn : cs.Nodup := h.1.nodup ltC_ord
  exact Nat.le_trans (nodup_lengthG cs ls hn (fun c hc => ((h.2 c).1 hc).1)) hl
theorem setC_few2 {ls cs : List CredB} (h : SetC ls cs) (hl : ∃ l0 : List CredB, l0.length ≤ 50 ∧ ∀ c ∈ ls, c ∈ l0) : cs.length ≤ 50 := by
  have hn : cs.Nodup := h.1.nodup ltC_ord
  obtain ⟨l0, h0, h1⟩ := hl
  exact Nat.le_trans (nodup_lengthG cs l0 hn (fun c hc => h1 c ((h.2 c).1 hc).1)) h0
theorem find_big {cs : List CredB} {S : List StepB} (h : Good cs S) (hl : cs.length ≤ 50) : 2 * (S.length + 1) * (S.length + 1) ≤ 33554430 := by
  have h1 := facts_le (rs := cs.map (·.head)) (ns := cs.map (·.who)) h.nd (fun f hf => by
    have hd := h.der f hf
    refine ⟨?_, ?_⟩
    · obtain ⟨c, hc, _, e⟩ := hd.head
      exact List.mem_map.2 ⟨c, hc, e⟩
    · obtain ⟨c, hc, hr, hk, e⟩ := hd.who
      exact List.mem_map.2 ⟨c, hc, e⟩)
  rw [List.length_map, List.length_map, factsK_len] at h1
  have h2 : cs.length * cs.length ≤ 50 * 50 := Nat.mul_le_mul hl hl
  have h3 : S.length + 1 ≤ 2501 := by omega
  have h4 : 2 * (S.length + 1) ≤ 5002 := by omega
  exact Nat.le_trans (Nat.mul_le_mul h4 h3) (by decide)

def Spec.setS (ls : List CredB) : Spec := ⟨fun v w => ∃ cs ao cap, v = .slice ao cs.length cap ∧ SetC ls cs ∧ CredsAt (fun k => k < w.heap.size) w ao cs, fun v w w' hc h => by
  obtain ⟨cs, ao, cap, h1, h2, h3⟩ := h
  exact ⟨cs, ao, cap, h1, h2, (h3.keep hc (fun _ _ => id)).mono (fun _ h => Nat.lt_of_lt_of_le h hc.size)⟩⟩
def Spec.grownS (ls : List CredB) (want : FactB) (B : Nat) : Spec := ⟨fun v w => ∃ cs S T g m3 m4, v = .pointer (some ⟨g, 0, none⟩) ∧ SetC ls cs ∧ GrowTo cs want S ∧ GS T w g m3 m4 S ∧ ∀ b, T b ≠ none → B ≤ b, fun _ _ _ hc ⟨cs, S, T, g, m3, m4, h1, h2, h3, h4, h5⟩ => ⟨cs, S, T, g, m3, m4, h1, h2, h3, h4.quiet hc, h5⟩⟩

set_option maxRecDepth 100000 in
set_option maxHeartbeats 4000000 in
theorem ch_find2 {D : Nat → Prop} (ao : Option Addr) (cp : Nat) (ls : List CredB) (want : FactB) (w0 : World) (hl : ls.length ≤ 1000 ∧ ∃ l0 : List CredB, l0.length ≤ 50 ∧ ∀ c ∈ ls, c ∈ l0) (h : CredsAt D w0 ao ls) (hD : ∀ i, D i → i < w0.heap.size) (hz : ao = none → cp = 0) (hw : factShort want 9223372036854775807) :
    Calls Try.prog 9 #[.slice ao ls.length cp, .agg #[.string ⟨want.1.1.toArray⟩, .string ⟨want.1.2.toArray⟩, .string ⟨want.2.toArray⟩]] w0 (FindPost ls want w0) := by
  have hc1 : Chg (fun _ => False) w0 (w0.alloc (.cells #[.string ⟨want.1.1.toArray⟩, .string ⟨want.1.2.toArray⟩, .string ⟨want.2.toArray⟩] 26)) := (Chg.refl _ w0).alloc _
  have hbA : (w0.alloc (.cells #[.string ⟨want.1.1.toArray⟩, .string ⟨want.1.2.toArray⟩, .string ⟨want.2.toArray⟩] 26)).heap[w0.heap.size]? = some (.cells #[.string ⟨want.1.1.toArray⟩, .string ⟨want.1.2.toArray⟩, .string ⟨want.2.toArray⟩] 26 (0, 0)) := heap_alloc_new w0 _
  have z0 := cell_blk hbA 0
  have z1 := cell_blk hbA 1
  have z2 := cell_blk hbA 2
  simp only [List.getElem?_toArray, List.getElem?_cons_zero, List.getElem?_cons_succ] at z0 z1 z2
  have HX := hid (And.intro z0 (And.intro z1 z2))
  have HC1 := hid hc1
  have HLL := hid hl
  have HWS := hid hw
  have HSET : Hid (∀ w', Chg (fun _ => False) (w0.alloc (.cells #[.string ⟨want.1.1.toArray⟩, .string ⟨want.1.2.toArray⟩, .string ⟨want.2.toArray⟩] 26)) w' → Calls Try.prog 38 #[.slice ao ls.length cp] w' (SetPostC ls w')) := hid (fun w' hc => pcset ao cp ls w' (by omega) (h.keep (hc1.trans hc (fun _ _ h => h)) (fun _ _ => id)) (fun i hi => Nat.lt_of_lt_of_le (hD i hi) (hc1.trans hc (fun _ _ h => h)).size) hz)
  clear hc1 hbA z0 z1 z2 hl h hD hz hw
  go_enter Try.func9, Try.ntmps9
  go_wp2_with fail
  generalize (w0.alloc (.cells #[.string ⟨want.1.1.toArray⟩, .string ⟨want.1.2.toArray⟩, .string ⟨want.2.toArray⟩] 26)) = w1 at *
  generalize hAe : w0.heap.size = A at HX ⊢
  refine wp_region_specs [.eq (.slice ao ls.length cp), .any, .any, .eq (.pointer (some ⟨A, 0, none⟩)), .any, .any, .grownS ls want w0.heap.size, .any, .any, .eq (.slice ao ls.length cp), .setS ls, .eq (.agg #[.string ⟨want.1.1.toArray⟩, .string ⟨want.1.2.toArray⟩, .string ⟨want.2.toArray⟩]), .grownS ls want w0.heap.size, .any, .any, .any, .any, .any, .any, .any, .any, .any, .any, .any, .any, .any, .any] [9, 10, 11, 12, 6] [0, 3] (by kernel_rfl) (by kernel_rfl) (by rfl) (by kernel_rfl) ?start1 ?obs1 ?fin1
  case start1 =>
    simp only [List.forall_mem_cons]; exact ⟨⟨_, rfl, rfl⟩, ⟨_, rfl, rfl⟩, fun _ h => by cases h⟩
  case obs1 =>
    skip
    refine Obs.cons none (by kernel_rfl) ?_ ?_
    · refine Ob.plain fun a w hR hk K k => ?_
      obtain ⟨_, e0, f0⟩ := hk 0 (by decide)
      clear hk
      go_simp
      exact k _ _ (Chg.refl _ _) f0
    refine Obs.cons none (by kernel_rfl) ?_ ?_
    · refine Ob.plain fun a w hR hk K k => ?_
      obtain ⟨_, e9, rfl⟩ := hk 9 (by decide)
      clear hk
      have hq := HSET.out w hR
      clear hR
      go_simp
      refine hq.mono ?_
      rintro e w5 ⟨out, ao5, cap5, rfl, h1, h2, h3, _⟩
      exact k _ _ h3 ⟨out, ao5, cap5, rfl, h1, h2.mono (fun _ h => h.2)⟩
    refine Obs.cons none (by kernel_rfl) ?_ ?_
    · refine Ob.plain fun a w hR hk K k => ?_
      obtain ⟨_, e3, rfl⟩ := hk 3 (by decide)
      clear hk
      have z0 := hR.cell HX.out.1 id
      have z1 := hR.cell HX.out.2.1 id
      have z2 := hR.cell HX.out.2.2 id
      go_simp
      exact k _ _ (Chg.refl _ _) rfl
    refine Obs.cons none (by kernel_rfl) ?_ ?_
    · refine Ob.plain fun a w hR hk K k => ?_
      obtain ⟨_, e10, f10⟩ := hk 10 (by decide)
      obtain ⟨_, e11, rfl⟩ := hk 11 (by decide)
      clear hk
      obtain ⟨cs, ao5, cap5, rfl, h1, h2⟩ := f10
      have hsz := Nat.le_trans HC1.out.size hR.size
      have hl : cs.length ≤ 1000 := Nat.le_trans (setC_few2 h1 HLL.out.2) (by decide)
      have hq := ch_grow ao5 cap5 cs want w (fun c hc => ((h1.2 c).1 hc).2) hl h2 (fun _ h => h) HWS.out
      have H1 := hid h1
      clear h1 h2 hR hl
      obtain ⟨cl, hcl⟩ : ∃ cl, cl = cs.length := ⟨_, rfl⟩
      simp only [← hcl] at *
      clear hcl
      go_simp
      refine hq.mono ?_
      rintro e w5 ⟨S, T, g, m3, m4, rfl, p1, p2, p3, p4⟩
      exact k _ _ p4 ⟨cs, S, T, g, m3, m4, rfl, H1.out, p1, p2, fun b hb => Nat.le_trans hsz (p3 b hb)⟩
    refine Obs.cons none (by kernel_rfl) ?_ ?_
    · refine Ob.plain fun a w hR hk K k => ?_
      obtain ⟨_, e12, f12⟩ := hk 12 (by decide)
      clear hk
      go_simp
      exact k _ _ (Chg.refl _ _) f12
    exact Obs.nil
  case fin1 =>
    intro vals w9 hc9 hv
    obtain ⟨cs, S, T, g, m3, m4, h6, p1, p2, p3, p4⟩ := hv 6 (by decide)
    simp only [putAll, List.setIfInBounds_toArray, List.set_cons_zero, List.set_cons_succ, h6]
    have HC6 := hid (HC1.out.trans hc9 (fun _ _ h => h))
    have hall : ∀ c ∈ cs, isCred c = true := fun c hc => ((p1.2 c).1 hc).2
    obtain ⟨hgood, hiff⟩ := p2.iff hall
    have HGR := hid (And.intro p1 p2)
    have HGS := hid p3
    have HGOOD := hid hgood
    have hbig : 2 * (S.length + 1) * (S.length + 1) ≤ 33554430 := find_big hgood (setC_few2 p1 HLL.out.2)
    have HBIG := hid hbig
    obtain ⟨m1, k1, k2⟩ := p3.place HWS.out
    have HX2 := hid (And.intro k1 (And.intro (hc9.cell HX.out.1 id) (And.intro (hc9.cell HX.out.2.1 id) (hc9.cell HX.out.2.2 id))))
    have hl2 : ∀ w', Chg (fun _ => False) w9 w' → (Instr.lookup 82 (.map (some m1)) (.agg #[.string ⟨want.1.1.toArray⟩, .string ⟨want.1.2.toArray⟩, .string ⟨want.2.toArray⟩]) true).run Try.prog w' = .ok (.tuple #[(atF (factsK S) want).getD (.int .i64 0), .bool (decide (want ∈ factsK S))]) w' := fun w' hc => (k2 w' hc).2
    obtain ⟨w6, hw6⟩ : ∃ w6, w6 = w9 := ⟨_, rfl⟩
    simp only [← hw6] at *
    clear hw6 hv h6 p1 p2 p3 p4 hall hgood hiff hbig k1 k2 HX hc9 HC1
    by_cases hin : want ∈ factsK S
    · obtain ⟨z, hz⟩ : ∃ z, z = (factsK S).idxOf want := ⟨_, rfl⟩
      have hat : (atF (factsK S) want).getD (.int .i64 0) = .int .i64 (z : Nat) := by unfold atF; rw [if_pos hin, ← hz]; rfl
      have hzl : z < S.length := by rw [hz, ← factsK_len]; exact List.idxOf_lt_length_of_mem hin
      rw [hat, decide_eq_true hin] at hl2
      have HL2 := hid hl2
      have HZE := hid hz
      have HZS := hid hzl
      have HIN := hid hin
      clear hin hz hat hzl hl2
      go_wp2_with fail
      refine wp_region_specs [.any, .any, .any, .eq (.pointer (some ⟨A, 0, none⟩)), .any, .any, .eq (.pointer (some ⟨g, 0, none⟩)), .eq ((.int .i64 (z : Nat))), .eq (.bool true), .any, .any, .any, .any, .eq (.tuple #[(.int .i64 (z : Nat)), .bool true]), .eq (.pointer (some ⟨g, 0, none⟩)), .eq (.pointer (some ⟨g, 0, none⟩)), .eq (.pointer (some ⟨g, 1, none⟩)), .eq (.map (some m1)), .eq (.agg #[.string ⟨want.1.1.toArray⟩, .string ⟨want.1.2.toArray⟩, .string ⟨want.2.toArray⟩]), .eq (.tuple #[(.int .i64 (z : Nat)), .bool true]), .eq ((.int .i64 (z : Nat))), .eq (.bool true), .any, .any, .any, .any, .any] [14, 15, 16, 17, 18, 19, 13, 20, 21, 7, 8] [3, 6] (by kernel_rfl) (by kernel_rfl) (by rfl) (by kernel_rfl) ?start2 ?obs2 ?fin2
      case start2 =>
        simp only [List.forall_mem_cons]; exact ⟨⟨_, rfl, rfl⟩, ⟨_, rfl, rfl⟩, fun _ h => by cases h⟩
      case obs2 =>
        clear HC6 HGR HGS HGOOD HZS HBIG HIN HZE
        refine Obs.cons none (by kernel_rfl) ?_ ?_
        · refine Ob.plain fun a w hR hk K k => ?_
          obtain ⟨_, e6, f6⟩ := hk 6 (by decide)
          clear hk
          go_simp
          exact k _ _ (Chg.refl _ _) f6
        refine Obs.cons none (by kernel_rfl) ?_ ?_
        · refine Ob.plain fun a w hR hk K k => ?_
          obtain ⟨_, e14, rfl⟩ := hk 14 (by decide)
          clear hk
          go_simp
          exact k _ _ (Chg.refl _ _) rfl
        refine Obs.cons none (by kernel_rfl) ?_ ?_
        · refine Ob.plain fun a w hR hk K k => ?_
          obtain ⟨_, e15, rfl⟩ := hk 15 (by decide)
          clear hk
          go_simp
          exact k _ _ (Chg.refl _ _) rfl
        refine Obs.cons none (by kernel_rfl) ?_ ?_
        · refine Ob.plain fun a w hR hk K k => ?_
          obtain ⟨_, e16, rfl⟩ := hk 16 (by decide)
          clear hk
          have zz := hR.cell HX2.out.1 id
          go_simp
          exact k _ _ (Chg.refl _ _) rfl
        refine Obs.cons none (by kernel_rfl) ?_ ?_
        · refine Ob.plain fun a w hR hk K k => ?_
          obtain ⟨_, e3, rfl⟩ := hk 3 (by decide)
          clear hk
          have z0 := hR.cell HX2.out.2.1 id
          have z1 := hR.cell HX2.out.2.2.1 id
          have z2 := hR.cell HX2.out.2.2.2 id
          go_simp
          exact k _ _ (Chg.refl _ _) rfl
        refine Obs.cons none (by kernel_rfl) ?_ ?_
        · refine Ob.plain fun a w hR hk K k => ?_
          obtain ⟨_, e17, rfl⟩ := hk 17 (by decide)
          obtain ⟨_, e18, rfl⟩ := hk 18 (by decide)
          clear hk
          have q := HL2.out w hR
          go_simp
          exact k _ _ (Chg.refl _ _) rfl
        refine Obs.cons none (by kernel_rfl) ?_ ?_
        · refine Ob.plain fun a w hR hk K k => ?_
          obtain ⟨_, e19, f19⟩ := hk 19 (by decide)
          clear hk
          go_simp
          exact k _ _ (Chg.refl _ _) f19
        refine Obs.cons none (by kernel_rfl) ?_ ?_
        · refine Ob.plain fun a w hR hk K k => ?_
          obtain ⟨_, e13, rfl⟩ := hk 13 (by decide)
          clear hk
          go_simp
          exact k _ _ (Chg.refl _ _) rfl
        refine Obs.cons none (by kernel_rfl) ?_ ?_
        · refine Ob.plain fun a w hR hk K k => ?_
          obtain ⟨_, e13, rfl⟩ := hk 13 (by decide)
          clear hk
          go_simp
          exact k _ _ (Chg.refl _ _) rfl
        refine Obs.cons none (by kernel_rfl) ?_ ?_
        · refine Ob.plain fun a w hR hk K k => ?_
          obtain ⟨_, e20, f20⟩ := hk 20 (by decide)
          clear hk
          go_simp
          exact k _ _ (Chg.refl _ _) f20
        refine Obs.cons none (by kernel_rfl) ?_ ?_
        · refine Ob.plain fun a w hR hk K k => ?_
          obtain ⟨_, e21, f21⟩ := hk 21 (by decide)
          clear hk
          go_simp
          exact k _ _ (Chg.refl _ _) f21
        exact Obs.nil
      case fin2 =>
        intro vals w9 hc9 hv
        have h7 : vals 7 = .int .i64 (z : Nat) := hv 7 (by decide)
        have h8 : vals 8 = .bool true := hv 8 (by decide)
        simp only [putAll, List.setIfInBounds_toArray, List.set_cons_zero, List.set_cons_succ, h7, h8]
        have hq := ch_tight g m3 m4 S z w9 (HGS.out.quiet hc9) HGOOD.out HZS.out HBIG.out
        have HQ := hid hq
        have HSZ := hid (HC6.out.trans hc9 (fun _ _ h => h))
        clear hc9 hv h7 h8 HX2 HL2 HC6 hq
        go_wp2_with fail
        refine HQ.out.mono ?_
        rintro e w7 ⟨v, rfl, h1, h2⟩
        have HRES : Hid (FindPost ls want w0 (.returned (.tuple #[v, .bool true])) w7) := hid ⟨_, _, _, rfl, ⟨cs, S, HGR.out.1, HGR.out.2, .inl ⟨HIN.out, rfl, by rw [HZE.out]⟩⟩, ownsRow_lowK h1 HSZ.out.size, HSZ.out.trans h2 (fun _ _ h => h)⟩
        clear h1 h2 HQ HSZ HGR HIN
        go_wp2
        go_ret2
        exact HRES.out
    · have hat : (atF (factsK S) want).getD (.int .i64 0) = .int .i64 0 := by unfold atF; rw [if_neg hin]; rfl
      rw [hat, decide_eq_false hin] at hl2
      have HL2 := hid hl2
      have HNIN := hid hin
      clear hin hat hl2
      go_wp2_with fail
      refine wp_region_specs [.any, .any, .any, .eq (.pointer (some ⟨A, 0, none⟩)), .any, .any, .eq (.pointer (some ⟨g, 0, none⟩)), .eq ((.int .i64 0)), .eq (.bool false), .any, .any, .any, .any, .eq (.tuple #[(.int .i64 0), .bool false]), .eq (.pointer (some ⟨g, 0, none⟩)), .eq (.pointer (some ⟨g, 0, none⟩)), .eq (.pointer (some ⟨g, 1, none⟩)), .eq (.map (some m1)), .eq (.agg #[.string ⟨want.1.1.toArray⟩, .string ⟨want.1.2.toArray⟩, .string ⟨want.2.toArray⟩]), .eq (.tuple #[(.int .i64 0), .bool false]), .eq ((.int .i64 0)), .eq (.bool false), .any, .any, .any, .any, .any] [14, 15, 16, 17, 18, 19, 13, 20, 21, 7, 8] [3, 6] (by kernel_rfl) (by kernel_rfl) (by rfl) (by kernel_rfl) ?start2 ?obs2 ?fin2
      case start2 =>
        simp only [List.forall_mem_cons]; exact ⟨⟨_, rfl, rfl⟩, ⟨_, rfl, rfl⟩, fun _ h => by cases h⟩
      case obs2 =>
        clear HC6 HGR HNIN
        refine Obs.cons none (by kernel_rfl) ?_ ?_
        · refine Ob.plain fun a w hR hk K k => ?_
          obtain ⟨_, e6, f6⟩ := hk 6 (by decide)
          clear hk
          go_simp
          exact k _ _ (Chg.refl _ _) f6
        refine Obs.cons none (by kernel_rfl) ?_ ?_
        · refine Ob.plain fun a w hR hk K k => ?_
          obtain ⟨_, e14, rfl⟩ := hk 14 (by decide)
          clear hk
          go_simp
          exact k _ _ (Chg.refl _ _) rfl
        refine Obs.cons none (by kernel_rfl) ?_ ?_
        · refine Ob.plain fun a w hR hk K k => ?_
          obtain ⟨_, e15, rfl⟩ := hk 15 (by decide)
          clear hk
          go_simp
          exact k _ _ (Chg.refl _ _) rfl
        refine Obs.cons none (by kernel_rfl) ?_ ?_
        · refine Ob.plain fun a w hR hk K k => ?_
          obtain ⟨_, e16, rfl⟩ := hk 16 (by decide)
          clear hk
          have zz := hR.cell HX2.out.1 id
          go_simp
          exact k _ _ (Chg.refl _ _) rfl
        refine Obs.cons none (by kernel_rfl) ?_ ?_
        · refine Ob.plain fun a w hR hk K k => ?_
          obtain ⟨_, e3, rfl⟩ := hk 3 (by decide)
          clear hk
          have z0 := hR.cell HX2.out.2.1 id
          have z1 := hR.cell HX2.out.2.2.1 id
          have z2 := hR.cell HX2.out.2.2.2 id
          go_simp
          exact k _ _ (Chg.refl _ _) rfl
        refine Obs.cons none (by kernel_rfl) ?_ ?_
        · refine Ob.plain fun a w hR hk K k => ?_
          obtain ⟨_, e17, rfl⟩ := hk 17 (by decide)
          obtain ⟨_, e18, rfl⟩ := hk 18 (by decide)
          clear hk
          have q := HL2.out w hR
          go_simp
          exact k _ _ (Chg.refl _ _) rfl
        refine Obs.cons none (by kernel_rfl) ?_ ?_
        · refine Ob.plain fun a w hR hk K k => ?_
          obtain ⟨_, e19, f19⟩ := hk 19 (by decide)
          clear hk
          go_simp
          exact k _ _ (Chg.refl _ _) f19
        refine Obs.cons none (by kernel_rfl) ?_ ?_
        · refine Ob.plain fun a w hR hk K k => ?_
          obtain ⟨_, e13, rfl⟩ := hk 13 (by decide)
          clear hk
          go_simp
          exact k _ _ (Chg.refl _ _) rfl
        refine Obs.cons none (by kernel_rfl) ?_ ?_
        · refine Ob.plain fun a w hR hk K k => ?_
          obtain ⟨_, e13, rfl⟩ := hk 13 (by decide)
          clear hk
          go_simp
          exact k _ _ (Chg.refl _ _) rfl
        refine Obs.cons none (by kernel_rfl) ?_ ?_
        · refine Ob.plain fun a w hR hk K k => ?_
          obtain ⟨_, e20, f20⟩ := hk 20 (by decide)
          clear hk
          go_simp
          exact k _ _ (Chg.refl _ _) f20
        refine Obs.cons none (by kernel_rfl) ?_ ?_
        · refine Ob.plain fun a w hR hk K k => ?_
          obtain ⟨_, e21, f21⟩ := hk 21 (by decide)
          clear hk
          go_simp
          exact k _ _ (Chg.refl _ _) f21
        exact Obs.nil
      case fin2 =>
        intro vals w9 hc9 hv
        have h7 : vals 7 = .int .i64 0 := hv 7 (by decide)
        have h8 : vals 8 = .bool false := hv 8 (by decide)
        simp only [putAll, List.setIfInBounds_toArray, List.set_cons_zero, List.set_cons_succ, h7, h8]
        have HRES : Hid (FindPost ls want w0 (.returned (.tuple #[.slice none 0 0, .bool false])) w9) := hid ⟨_, _, _, rfl, ⟨cs, S, HGR.out.1, HGR.out.2, .inr ⟨HNIN.out, rfl, rfl⟩⟩, World.ownsRow_nil _ _ _ _, HC6.out.trans hc9 (fun _ _ h => h)⟩
        clear hc9 hv h7 h8 HX2 HL2 HC6 HGR HNIN
        go_wp2
        go_ret2
        exact HRES.out
theorem ch_find {D : Nat → Prop} (ao : Option Addr) (cp : Nat) (ls : List CredB) (want : FactB) (w0 : World) (hl : ls.length ≤ 50) (h : CredsAt D w0 ao ls) (hD : ∀ i, D i → i < w0.heap.size) (hz : ao = none → cp = 0) (hw : factShort want 9223372036854775807) :
    Calls Try.prog 9 #[.slice ao ls.length cp, .agg #[.string ⟨want.1.1.toArray⟩, .string ⟨want.1.2.toArray⟩, .string ⟨want.2.toArray⟩]] w0 (FindPost ls want w0) :=
  ch_find2 ao cp ls want w0 ⟨by omega, ls, hl, fun _ h => h⟩ h hD hz hw
end Go.Proofs.Ytjaplnainlbldaa

/- Roles in slots. -/
namespace Go.Proofs.Ytjaplnainlbldaa
open Go.RowKit

end Go.Proofs.Ytjaplnainlbldaa

/- The contracts of the document's Bytes, bytes and Compare of layer 5. -/
namespace Go.Proofs.Ytjaplnainlbldaa
open Go.RowKit

theorem credShort.mono {c : CredB} {m n : Nat} (h : credShort c m) (hm : m ≤ n) : credShort c n := by
  obtain ⟨s1, s2, s3, s4, s5, s6, s7, s8⟩ := h
  exact ⟨by omega, by omega, by omega, by omega, by omega, by omega, by omega, by omega⟩

end Go.Proofs.Ytjaplnainlbldaa

/- The contract of the document's Set of layer 5. -/
namespace Go.Proofs.Ytjaplnainlbldaa
open Go.RowKit

end Go.Proofs.Ytjaplnainlbldaa

/- Used: the program's, and the document's. -/
namespace Go.Proofs.Ytjaplnainlbldaa
open Go.RowKit

/-- The set of what steps use. -/
def UsedPost (ls : List StepB) (w : World) (e : Ending) (w' : World) : Prop :=
  ∃ out ao cap, e = .returned (.slice ao out.length cap) ∧ SetC (ls.map (·.c)) out ∧ CredsAt (fun k => w.heap.size ≤ k ∧ k < w'.heap.size) w' ao out ∧ Chg (fun _ => False) w w' ∧ (ao = none → cap = 0)

set_option maxRecDepth 100000 in
set_option maxHeartbeats 2000000 in
theorem ch_used {D : Nat → Prop} (ao : Option Addr) (cp : Nat) (ls : List StepB) (w : World) (hn : ls.length ≤ 1048576) (h : StepsAt D w ao ls) :
    Calls Try.prog 18 #[.slice ao ls.length cp] w (UsedPost ls w) := by
  obtain ⟨i0, hi, hz0, hz1, hz2⟩ := info_parts Try.info36
  have HI := hid (And.intro hi (And.intro hz0 (And.intro hz1 hz2)))
  have HX := hid h
  have HSH := hid (steps_short h)
  clear hi hz0 hz1 hz2 h
  go_enter Try.func18, Try.ntmps18
  go_wp2
  go_loopw [3, 8] (fun v i wr => ∃ (k : Nat) (out : List CredB) (ao' : Option Addr) (cap' : Nat), k ≤ ls.length ∧ i = .int .i64 k ∧ v = .slice ao' out.length cap' ∧ Hid (out = (ls.take k).map (·.c)) ∧ out.length ≤ k ∧ OwnC w.heap.size wr (.slice ao' out.length cap') out ∧ Chg (fun _ => False) w wr) (fun _ i _ => ls.length - (intOf i).toNat)
  case atStart => exact ⟨0, [], none, 0, Nat.zero_le _, rfl, rfl, hid rfl, Nat.zero_le _, World.ownsRow_nil _ _ _ _, Chg.refl _ _⟩
  case round =>
    obtain ⟨k, out, ao', cap', hk, rfl, rfl, hout, hol, ho, hc1⟩ := hrel
    by_cases hlt : k < ls.length
    · obtain ⟨b, off, hao, hD, ⟨⟨a0, a1, a2, a3, a4, a5, a6, a7, a8⟩, ⟨b0, b1, b2⟩⟩, hss⟩ := (HX.out.keep hc1 (fun _ _ => id)) k hlt
      have HT : Hid (out ++ [ls[k].c] = (ls.take (k + 1)).map (·.c)) := hid (by rw [List.take_succ_eq_append_getElem hlt, List.map_append, hout.out]; rfl)
      have HKL := hid hlt
      generalize ls[k] = s at *
      change wr.cell? ⟨b, off + k * 12 + 10, none⟩ = _ at b1
      change wr.cell? ⟨b, off + k * 12 + 11, none⟩ = _ at b2
      have hSb : (wr.alloc (.cells #[.int .i64 s.c.kind, .string ⟨s.c.head.1.toArray⟩, .string ⟨s.c.head.2.toArray⟩, .string ⟨s.c.who.toArray⟩, .string ⟨s.c.b.1.toArray⟩, .string ⟨s.c.b.2.toArray⟩, .string ⟨s.c.c.1.toArray⟩, .string ⟨s.c.c.2.toArray⟩, .string ⟨s.c.w2.toArray⟩, .string ⟨s.f.1.1.toArray⟩, .string ⟨s.f.1.2.toArray⟩, .string ⟨s.f.2.toArray⟩] 43)).heap[wr.heap.size]? = some (.cells (stepBox s) 43 (0, 0)) := heap_alloc_new wr _
      have hcA : Chg (fun _ => False) wr (wr.alloc (.cells #[.int .i64 s.c.kind, .string ⟨s.c.head.1.toArray⟩, .string ⟨s.c.head.2.toArray⟩, .string ⟨s.c.who.toArray⟩, .string ⟨s.c.b.1.toArray⟩, .string ⟨s.c.b.2.toArray⟩, .string ⟨s.c.c.1.toArray⟩, .string ⟨s.c.c.2.toArray⟩, .string ⟨s.c.w2.toArray⟩, .string ⟨s.f.1.1.toArray⟩, .string ⟨s.f.1.2.toArray⟩, .string ⟨s.f.2.toArray⟩] 43)) := (Chg.refl _ wr).alloc _
      obtain ⟨r0, r1, r2, r3, r4, r5, r6, r7, r8⟩ := (step_at_blk hSb).c
      simp only [Nat.zero_add] at r0 r1 r2 r3 r4 r5 r6 r7 r8
      have HO := hid (And.intro (World.ownsRow.alloc ho (.cells #[.int .i64 s.c.kind, .string ⟨s.c.head.1.toArray⟩, .string ⟨s.c.head.2.toArray⟩, .string ⟨s.c.who.toArray⟩, .string ⟨s.c.b.1.toArray⟩, .string ⟨s.c.b.2.toArray⟩, .string ⟨s.c.c.1.toArray⟩, .string ⟨s.c.c.2.toArray⟩, .string ⟨s.c.w2.toArray⟩, .string ⟨s.f.1.1.toArray⟩, .string ⟨s.f.1.2.toArray⟩, .string ⟨s.f.2.toArray⟩] 43)) (And.intro (hc1.trans hcA (fun _ _ h => h)) hc1.size))
      subst hao
      clear hSb hcA ho hc1 hout hss hD
      go_wp2_with (at_builtin; refine wpList_append_own_at _ rfl (.tmp 12) (.tmp 15) 22 rfl w.heap.size 36 i0 (.agg #[.int .i64 0, .string ⟨#[]⟩, .string ⟨#[]⟩, .string ⟨#[]⟩, .string ⟨#[]⟩, .string ⟨#[]⟩, .string ⟨#[]⟩, .string ⟨#[]⟩, .string ⟨#[]⟩]) 9 136 Try.underlying22 HI.out.1 HI.out.2.1 HI.out.2.2.1 HI.out.2.2.2 rfl (by decide) _ _ _ rfl (World.ownsRow.alloc HO.out.1 _) ⟨wr.heap.size + 1, 0, none⟩ 1 1 (credCells s.c) rfl rfl ?c1 ?c2 ?c3 ?c4 ?c5 ?_)
      case c1 =>
        intro j u hj
        have hq := cred_cells_new (wr.alloc (.cells #[.int .i64 s.c.kind, .string ⟨s.c.head.1.toArray⟩, .string ⟨s.c.head.2.toArray⟩, .string ⟨s.c.who.toArray⟩, .string ⟨s.c.b.1.toArray⟩, .string ⟨s.c.b.2.toArray⟩, .string ⟨s.c.c.1.toArray⟩, .string ⟨s.c.c.2.toArray⟩, .string ⟨s.c.w2.toArray⟩, .string ⟨s.f.1.1.toArray⟩, .string ⟨s.f.1.2.toArray⟩, .string ⟨s.f.2.toArray⟩] 43)) s.c j u hj
        rw [World.size_alloc] at hq
        exact hq
      case c2 => exact cred_one8 s.c
      case c3 => unfold maxLen; omega
      case c4 => omega
      case c5 => have := HO.out.2.2; simp; omega
      clear a0 a1 a2 a3 a4 a5 a6 a7 a8 b0 b1 b2 r0 r1 r2 r3 r4 r5 r6 r7 r8
      intro v' w3 hown hgrow _ _
      have ho2 : OwnC w.heap.size w3 v' (out ++ [s.c]) := by
        unfold OwnC
        rw [credRow_snoc, List.length_append]
        exact hown
      have hc7 : Chg (fun _ => False) w w3 := (HO.out.2.1.alloc _).grown hgrow (fun k e hk => by have := (ownsRow_lt HO.out.1 k e).1; omega)
      have hl : (out ++ [s.c]).length = out.length + 1 := by simp
      obtain ⟨zs, HZ⟩ : ∃ zs, Hid (zs = out ++ [s.c]) := ⟨_, hid rfl⟩
      rw [← HZ.out] at ho2 hl HT
      obtain ⟨ao5, cap5, hv5⟩ := ho2.shape
      subst hv5
      have HY := hid (And.intro ho2 hc7)
      clear hown hgrow ho2 hc7 HO HZ
      go_wp2
      go_roundw
      case rel => exact ⟨k + 1, zs, ao5, cap5, by have := HKL.out; omega, by go_num, rfl, HT, by omega, HY.out.1, HY.out.2⟩
      case measure => have := HKL.out; simp [intOf]; omega
    · have hk2 : k = ls.length := by omega
      have hh : out = ls.map (·.c) := by have := hout.out; rwa [hk2, List.take_length] at this
      obtain ⟨ao6, cap6, he6, hst6, hz6⟩ := ho.creds (fun x hx => by
        rw [hh] at hx
        obtain ⟨s, hs, rfl⟩ := List.mem_map.1 hx
        exact (HSH.out s hs).1)
      injection he6 with e1 _ e3
      have hq := pcset (D := fun k => w.heap.size ≤ k ∧ k < wr.heap.size) ao' cap' out wr (by omega) (by rw [e1]; exact hst6) (fun i hi => hi.2) (by rw [e1, e3]; exact hz6)
      have HQ := hid hq
      have HC := hid hc1
      have HH := hid hh
      clear hq hc1 hk2 hout ho hst6 hz6 e1 e3 hh
      go_wp2_with fail
      refine HQ.out.mono ?_
      rintro e w5 ⟨o5, ao5, cap5, rfl, h1, h2, h3, h4⟩
      have HRES : Hid (UsedPost ls w (.returned (.slice ao5 o5.length cap5)) w5) := hid ⟨o5, ao5, cap5, rfl, by rw [← HH.out]; exact h1, h2.mono (fun i hi => ⟨Nat.le_trans HC.out.size hi.1, hi.2⟩), HC.out.trans h3 (fun _ _ h => h), h4⟩
      clear h1 h2 h3 h4 HQ
      obtain ⟨ol, hol5⟩ : ∃ ol, ol = o5.length := ⟨_, rfl⟩
      simp only [← hol5] at HRES ⊢
      go_wp2
      go_ret
      exact HRES.out

end Go.Proofs.Ytjaplnainlbldaa
