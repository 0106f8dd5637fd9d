/- Texts that the proof leans on, in one: ChFind, RoleSpec. -/
import Derived.Test.YtjaplnainlbldaaUc38
import Derived.Test.YtjaplnainlbldaaUc41
import Derived.Test.YtjaplnainlbldaaUc7
import Derived.Test.YtjaplnainlbldaaUc5
/- Find: a tight chain of what has grown, if the fact has come. -/
namespace Go.Proofs.Ytjaplnainlbldaa
open Go.RowKit

/-- What is found. -/
def FindIs (ls : List CredB) (want : FactB) (R : List StepB) (b : Bool) : Prop :=
  ∃ cs S, SetC ls cs ∧ GrowTo cs want S ∧ ((want ∈ factsK S ∧ b = true ∧ R = tightG S ((factsK S).idxOf want)) ∨ (want ∉ factsK S ∧ b = false ∧ R = []))
def FindPost (ls : List CredB) (want : FactB) (w : World) (e : Ending) (w' : World) : Prop :=
  ∃ v R b, e = .returned (.tuple #[v, .bool b]) ∧ FindIs ls want R b ∧ OwnSt w.heap.size w' v R ∧ Chg (fun _ => False) w w'

/-- It is one. -/
theorem FindIs.one {ls : List CredB} {want : FactB} {R R' : List StepB} {b b' : Bool} (h : FindIs ls want R b) (k : FindIs ls want R' b') : R = R' ∧ b = b' := by
  obtain ⟨cs, S, h1, h2, h3⟩ := h
  obtain ⟨cs', S', k1, k2, k3⟩ := k
  have e := h1.one k1
  subst e
  have e := h2.one k2
  subst e
  rcases h3 with ⟨q1, rfl, rfl⟩ | ⟨q1, rfl, rfl⟩ <;> rcases k3 with ⟨r1, rfl, rfl⟩ | ⟨r1, rfl, rfl⟩
  · exact ⟨rfl, rfl⟩
  · exact absurd q1 r1
  · exact absurd r1 q1
  · exact ⟨rfl, rfl⟩
/-- Whatever their order, and however often one is told. -/
theorem FindIs.same {ls ls' : List CredB} {want : FactB} {R : List StepB} {b : Bool} (h : FindIs ls want R b) (he : ∀ c, c ∈ ls ↔ c ∈ ls') : FindIs ls' want R b := by
  obtain ⟨cs, S, h1, h2⟩ := h
  exact ⟨cs, S, ⟨h1.1, fun c => (h1.2 c).trans (and_congr_left' (he c))⟩, h2⟩

theorem setC_few2 {ls cs : List CredB} (h : SetC ls cs) (hl : ∃ l0 : List CredB, l0.length ≤ 50 ∧ ∀ c ∈ ls, c ∈ l0) : cs.length ≤ 50 := by
  have hn : cs.Nodup := h.1.nodup ltC_ord
  obtain ⟨l0, h0, h1⟩ := hl
  exact Nat.le_trans (nodup_lengthG cs l0 hn (fun c hc => h1 c ((h.2 c).1 hc).1)) h0
theorem find_big {cs : List CredB} {S : List StepB} (h : Good cs S) (hl : cs.length ≤ 50) : 2 * (S.length + 1) * (S.length + 1) ≤ 33554430 := by
  have h1 := facts_le (rs := cs.map (·.head)) (ns := cs.map (·.who)) h.nd (fun f hf => by
    have hd := h.der f hf
    refine ⟨?_, ?_⟩
    · obtain ⟨c, hc, _, e⟩ := hd.head
      exact List.mem_map.2 ⟨c, hc, e⟩
    · obtain ⟨c, hc, hr, hk, e⟩ := hd.who
      exact List.mem_map.2 ⟨c, hc, e⟩)
  rw [List.length_map, List.length_map, factsK_len] at h1
  have h2 : cs.length * cs.length ≤ 50 * 50 := Nat.mul_le_mul hl hl
  have h3 : S.length + 1 ≤ 2501 := by omega
  have h4 : 2 * (S.length + 1) ≤ 5002 := by omega
  exact Nat.le_trans (Nat.mul_le_mul h4 h3) (by decide)

def Spec.setS (ls : List CredB) : Spec := ⟨fun v w => ∃ cs ao cap, v = .slice ao cs.length cap ∧ SetC ls cs ∧ CredsAt (fun k => k < w.heap.size) w ao cs, fun v w w' hc h => by
  obtain ⟨cs, ao, cap, h1, h2, h3⟩ := h
  exact ⟨cs, ao, cap, h1, h2, (h3.keep hc (fun _ _ => id)).mono (fun _ h => Nat.lt_of_lt_of_le h hc.size)⟩⟩
def Spec.grownS (ls : List CredB) (want : FactB) (B : Nat) : Spec := ⟨fun v w => ∃ cs S T g m3 m4, v = .pointer (some ⟨g, 0, none⟩) ∧ SetC ls cs ∧ GrowTo cs want S ∧ GS T w g m3 m4 S ∧ ∀ b, T b ≠ none → B ≤ b, fun _ _ _ hc ⟨cs, S, T, g, m3, m4, h1, h2, h3, h4, h5⟩ => ⟨cs, S, T, g, m3, m4, h1, h2, h3, h4.quiet hc, h5⟩⟩

set_option maxRecDepth 100000 in
set_option maxHeartbeats 4000000 in
theorem ch_find2 {D : Nat → Prop} (ao : Option Addr) (cp : Nat) (ls : List CredB) (want : FactB) (w0 : World) (hl : ls.length ≤ 1000 ∧ ∃ l0 : List CredB, l0.length ≤ 50 ∧ ∀ c ∈ ls, c ∈ l0) (h : CredsAt D w0 ao ls) (hD : ∀ i, D i → i < w0.heap.size) (hz : ao = none → cp = 0) (hw : factShort want 9223372036854775807) :
    Calls Try.prog 9 #[.slice ao ls.length cp, .agg #[.string ⟨want.1.1.toArray⟩, .string ⟨want.1.2.toArray⟩, .string ⟨want.2.toArray⟩]] w0 (FindPost ls want w0) := by
  have hc1 : Chg (fun _ => False) w0 (w0.alloc (.cells #[.string ⟨want.1.1.toArray⟩, .string ⟨want.1.2.toArray⟩, .string ⟨want.2.toArray⟩] 26)) := (Chg.refl _ w0).alloc _
  have hbA : (w0.alloc (.cells #[.string ⟨want.1.1.toArray⟩, .string ⟨want.1.2.toArray⟩, .string ⟨want.2.toArray⟩] 26)).heap[w0.heap.size]? = some (.cells #[.string ⟨want.1.1.toArray⟩, .string ⟨want.1.2.toArray⟩, .string ⟨want.2.toArray⟩] 26 (0, 0)) := heap_alloc_new w0 _
  have z0 := cell_blk hbA 0
  have z1 := cell_blk hbA 1
  have z2 := cell_blk hbA 2
  simp only [List.getElem?_toArray, List.getElem?_cons_zero, List.getElem?_cons_succ] at z0 z1 z2
  have HX := hid (And.intro z0 (And.intro z1 z2))
  have HC1 := hid hc1
  have HLL := hid hl
  have HWS := hid hw
  have HSET : Hid (∀ w', Chg (fun _ => False) (w0.alloc (.cells #[.string ⟨want.1.1.toArray⟩, .string ⟨want.1.2.toArray⟩, .string ⟨want.2.toArray⟩] 26)) w' → Calls Try.prog 38 #[.slice ao ls.length cp] w' (SetPostC ls w')) := hid (fun w' hc => pcset ao cp ls w' (by omega) (h.keep (hc1.trans hc (fun _ _ h => h)) (fun _ _ => id)) (fun i hi => Nat.lt_of_lt_of_le (hD i hi) (hc1.trans hc (fun _ _ h => h)).size) hz)
  clear hc1 hbA z0 z1 z2 hl h hD hz hw
  go_enter Try.func9, Try.ntmps9
  go_wp2_with fail
  generalize (w0.alloc (.cells #[.string ⟨want.1.1.toArray⟩, .string ⟨want.1.2.toArray⟩, .string ⟨want.2.toArray⟩] 26)) = w1 at *
  generalize hAe : w0.heap.size = A at HX ⊢
  refine wp_region_specs [.eq (.slice ao ls.length cp), .any, .any, .eq (.pointer (some ⟨A, 0, none⟩)), .any, .any, .grownS ls want w0.heap.size, .any, .any, .eq (.slice ao ls.length cp), .setS ls, .eq (.agg #[.string ⟨want.1.1.toArray⟩, .string ⟨want.1.2.toArray⟩, .string ⟨want.2.toArray⟩]), .grownS ls want w0.heap.size, .any, .any, .any, .any, .any, .any, .any, .any, .any, .any, .any, .any, .any, .any] [9, 10, 11, 12, 6] [0, 3] (by kernel_rfl) (by kernel_rfl) (by rfl) (by kernel_rfl) ?start1 ?obs1 ?fin1
  case start1 =>
    simp only [List.forall_mem_cons]; exact ⟨⟨_, rfl, rfl⟩, ⟨_, rfl, rfl⟩, fun _ h => by cases h⟩
  case obs1 =>
    skip
    refine Obs.cons none (by kernel_rfl) ?_ ?_
    · refine Ob.plain fun a w hR hk K k => ?_
      obtain ⟨_, e0, f0⟩ := hk 0 (by decide)
      clear hk
      go_simp
      exact k _ _ (Chg.refl _ _) f0
    refine Obs.cons none (by kernel_rfl) ?_ ?_
    · refine Ob.plain fun a w hR hk K k => ?_
      obtain ⟨_, e9, rfl⟩ := hk 9 (by decide)
      clear hk
      have hq := HSET.out w hR
      clear hR
      go_simp
      refine hq.mono ?_
      rintro e w5 ⟨out, ao5, cap5, rfl, h1, h2, h3, _⟩
      exact k _ _ h3 ⟨out, ao5, cap5, rfl, h1, h2.mono (fun _ h => h.2)⟩
    refine Obs.cons none (by kernel_rfl) ?_ ?_
    · refine Ob.plain fun a w hR hk K k => ?_
      obtain ⟨_, e3, rfl⟩ := hk 3 (by decide)
      clear hk
      have z0 := hR.cell HX.out.1 id
      have z1 := hR.cell HX.out.2.1 id
      have z2 := hR.cell HX.out.2.2 id
      go_simp
      exact k _ _ (Chg.refl _ _) rfl
    refine Obs.cons none (by kernel_rfl) ?_ ?_
    · refine Ob.plain fun a w hR hk K k => ?_
      obtain ⟨_, e10, f10⟩ := hk 10 (by decide)
      obtain ⟨_, e11, rfl⟩ := hk 11 (by decide)
      clear hk
      obtain ⟨cs, ao5, cap5, rfl, h1, h2⟩ := f10
      have hsz := Nat.le_trans HC1.out.size hR.size
      have hl : cs.length ≤ 1000 := Nat.le_trans (setC_few2 h1 HLL.out.2) (by decide)
      have hq := ch_grow ao5 cap5 cs want w (fun c hc => ((h1.2 c).1 hc).2) hl h2 (fun _ h => h) HWS.out
      have H1 := hid h1
      clear h1 h2 hR hl
      obtain ⟨cl, hcl⟩ : ∃ cl, cl = cs.length := ⟨_, rfl⟩
      simp only [← hcl] at *
      clear hcl
      go_simp
      refine hq.mono ?_
      rintro e w5 ⟨S, T, g, m3, m4, rfl, p1, p2, p3, p4⟩
      exact k _ _ p4 ⟨cs, S, T, g, m3, m4, rfl, H1.out, p1, p2, fun b hb => Nat.le_trans hsz (p3 b hb)⟩
    refine Obs.cons none (by kernel_rfl) ?_ ?_
    · refine Ob.plain fun a w hR hk K k => ?_
      obtain ⟨_, e12, f12⟩ := hk 12 (by decide)
      clear hk
      go_simp
      exact k _ _ (Chg.refl _ _) f12
    exact Obs.nil
  case fin1 =>
    intro vals w9 hc9 hv
    obtain ⟨cs, S, T, g, m3, m4, h6, p1, p2, p3, p4⟩ := hv 6 (by decide)
    simp only [putAll, List.setIfInBounds_toArray, List.set_cons_zero, List.set_cons_succ, h6]
    have HC6 := hid (HC1.out.trans hc9 (fun _ _ h => h))
    have hall : ∀ c ∈ cs, isCred c = true := fun c hc => ((p1.2 c).1 hc).2
    obtain ⟨hgood, hiff⟩ := p2.iff hall
    have HGR := hid (And.intro p1 p2)
    have HGS := hid p3
    have HGOOD := hid hgood
    have hbig : 2 * (S.length + 1) * (S.length + 1) ≤ 33554430 := find_big hgood (setC_few2 p1 HLL.out.2)
    have HBIG := hid hbig
    obtain ⟨m1, k1, k2⟩ := p3.place HWS.out
    have HX2 := hid (And.intro k1 (And.intro (hc9.cell HX.out.1 id) (And.intro (hc9.cell HX.out.2.1 id) (hc9.cell HX.out.2.2 id))))
    have hl2 : ∀ w', Chg (fun _ => False) w9 w' → (Instr.lookup 82 (.map (some m1)) (.agg #[.string ⟨want.1.1.toArray⟩, .string ⟨want.1.2.toArray⟩, .string ⟨want.2.toArray⟩]) true).run Try.prog w' = .ok (.tuple #[(atF (factsK S) want).getD (.int .i64 0), .bool (decide (want ∈ factsK S))]) w' := fun w' hc => (k2 w' hc).2
    obtain ⟨w6, hw6⟩ : ∃ w6, w6 = w9 := ⟨_, rfl⟩
    simp only [← hw6] at *
    clear hw6 hv h6 p1 p2 p3 p4 hall hgood hiff hbig k1 k2 HX hc9 HC1
    by_cases hin : want ∈ factsK S
    · obtain ⟨z, hz⟩ : ∃ z, z = (factsK S).idxOf want := ⟨_, rfl⟩
      have hat : (atF (factsK S) want).getD (.int .i64 0) = .int .i64 (z : Nat) := by unfold atF; rw [if_pos hin, ← hz]; rfl
      have hzl : z < S.length := by rw [hz, ← factsK_len]; exact List.idxOf_lt_length_of_mem hin
      rw [hat, decide_eq_true hin] at hl2
      have HL2 := hid hl2
      have HZE := hid hz
      have HZS := hid hzl
      have HIN := hid hin
      clear hin hz hat hzl hl2
      go_wp2_with fail
      refine wp_region_specs [.any, .any, .any, .eq (.pointer (some ⟨A, 0, none⟩)), .any, .any, .eq (.pointer (some ⟨g, 0, none⟩)), .eq ((.int .i64 (z : Nat))), .eq (.bool true), .any, .any, .any, .any, .eq (.tuple #[(.int .i64 (z : Nat)), .bool true]), .eq (.pointer (some ⟨g, 0, none⟩)), .eq (.pointer (some ⟨g, 0, none⟩)), .eq (.pointer (some ⟨g, 1, none⟩)), .eq (.map (some m1)), .eq (.agg #[.string ⟨want.1.1.toArray⟩, .string ⟨want.1.2.toArray⟩, .string ⟨want.2.toArray⟩]), .eq (.tuple #[(.int .i64 (z : Nat)), .bool true]), .eq ((.int .i64 (z : Nat))), .eq (.bool true), .any, .any, .any, .any, .any] [14, 15, 16, 17, 18, 19, 13, 20, 21, 7, 8] [3, 6] (by kernel_rfl) (by kernel_rfl) (by rfl) (by kernel_rfl) ?start2 ?obs2 ?fin2
      case start2 =>
        simp only [List.forall_mem_cons]; exact ⟨⟨_, rfl, rfl⟩, ⟨_, rfl, rfl⟩, fun _ h => by cases h⟩
      case obs2 =>
        clear HC6 HGR HGS HGOOD HZS HBIG HIN HZE
        refine Obs.cons none (by kernel_rfl) ?_ ?_
        · refine Ob.plain fun a w hR hk K k => ?_
          obtain ⟨_, e6, f6⟩ := hk 6 (by decide)
          clear hk
          go_simp
          exact k _ _ (Chg.refl _ _) f6
        refine Obs.cons none (by kernel_rfl) ?_ ?_
        · refine Ob.plain fun a w hR hk K k => ?_
          obtain ⟨_, e14, rfl⟩ := hk 14 (by decide)
          clear hk
          go_simp
          exact k _ _ (Chg.refl _ _) rfl
        refine Obs.cons none (by kernel_rfl) ?_ ?_
        · refine Ob.plain fun a w hR hk K k => ?_
          obtain ⟨_, e15, rfl⟩ := hk 15 (by decide)
          clear hk
          go_simp
          exact k _ _ (Chg.refl _ _) rfl
        refine Obs.cons none (by kernel_rfl) ?_ ?_
        · refine Ob.plain fun a w hR hk K k => ?_
          obtain ⟨_, e16, rfl⟩ := hk 16 (by decide)
          clear hk
          have zz := hR.cell HX2.out.1 id
          go_simp
          exact k _ _ (Chg.refl _ _) rfl
        refine Obs.cons none (by kernel_rfl) ?_ ?_
        · refine Ob.plain fun a w hR hk K k => ?_
          obtain ⟨_, e3, rfl⟩ := hk 3 (by decide)
          clear hk
          have z0 := hR.cell HX2.out.2.1 id
          have z1 := hR.cell HX2.out.2.2.1 id
          have z2 := hR.cell HX2.out.2.2.2 id
          go_simp
          exact k _ _ (Chg.refl _ _) rfl
        refine Obs.cons none (by kernel_rfl) ?_ ?_
        · refine Ob.plain fun a w hR hk K k => ?_
          obtain ⟨_, e17, rfl⟩ := hk 17 (by decide)
          obtain ⟨_, e18, rfl⟩ := hk 18 (by decide)
          clear hk
          have q := HL2.out w hR
          go_simp
          exact k _ _ (Chg.refl _ _) rfl
        refine Obs.cons none (by kernel_rfl) ?_ ?_
        · refine Ob.plain fun a w hR hk K k => ?_
          obtain ⟨_, e19, f19⟩ := hk 19 (by decide)
          clear hk
          go_simp
          exact k _ _ (Chg.refl _ _) f19
        refine Obs.cons none (by kernel_rfl) ?_ ?_
        · refine Ob.plain fun a w hR hk K k => ?_
          obtain ⟨_, e13, rfl⟩ := hk 13 (by decide)
          clear hk
          go_simp
          exact k _ _ (Chg.refl _ _) rfl
        refine Obs.cons none (by kernel_rfl) ?_ ?_
        · refine Ob.plain fun a w hR hk K k => ?_
          obtain ⟨_, e13, rfl⟩ := hk 13 (by decide)
          clear hk
          go_simp
          exact k _ _ (Chg.refl _ _) rfl
        refine Obs.cons none (by kernel_rfl) ?_ ?_
        · refine Ob.plain fun a w hR hk K k => ?_
          obtain ⟨_, e20, f20⟩ := hk 20 (by decide)
          clear hk
          go_simp
          exact k _ _ (Chg.refl _ _) f20
        refine Obs.cons none (by kernel_rfl) ?_ ?_
        · refine Ob.plain fun a w hR hk K k => ?_
          obtain ⟨_, e21, f21⟩ := hk 21 (by decide)
          clear hk
          go_simp
          exact k _ _ (Chg.refl _ _) f21
        exact Obs.nil
      case fin2 =>
        intro vals w9 hc9 hv
        have h7 : vals 7 = .int .i64 (z : Nat) := hv 7 (by decide)
        have h8 : vals 8 = .bool true := hv 8 (by decide)
        simp only [putAll, List.setIfInBounds_toArray, List.set_cons_zero, List.set_cons_succ, h7, h8]
        have hq := ch_tight g m3 m4 S z w9 (HGS.out.quiet hc9) HGOOD.out HZS.out HBIG.out
        have HQ := hid hq
        have HSZ := hid (HC6.out.trans hc9 (fun _ _ h => h))
        clear hc9 hv h7 h8 HX2 HL2 HC6 hq
        go_wp2_with fail
        refine HQ.out.mono ?_
        rintro e w7 ⟨v, rfl, h1, h2⟩
        have HRES : Hid (FindPost ls want w0 (.returned (.tuple #[v, .bool true])) w7) := hid ⟨_, _, _, rfl, ⟨cs, S, HGR.out.1, HGR.out.2, .inl ⟨HIN.out, rfl, by rw [HZE.out]⟩⟩, ownsRow_lowK h1 HSZ.out.size, HSZ.out.trans h2 (fun _ _ h => h)⟩
        clear h1 h2 HQ HSZ HGR HIN
        go_wp2
        go_ret2
        exact HRES.out
    · have hat : (atF (factsK S) want).getD (.int .i64 0) = .int .i64 0 := by unfold atF; rw [if_neg hin]; rfl
      rw [hat, decide_eq_false hin] at hl2
      have HL2 := hid hl2
      have HNIN := hid hin
      clear hin hat hl2
      go_wp2_with fail
      refine wp_region_specs [.any, .any, .any, .eq (.pointer (some ⟨A, 0, none⟩)), .any, .any, .eq (.pointer (some ⟨g, 0, none⟩)), .eq ((.int .i64 0)), .eq (.bool false), .any, .any, .any, .any, .eq (.tuple #[(.int .i64 0), .bool false]), .eq (.pointer (some ⟨g, 0, none⟩)), .eq (.pointer (some ⟨g, 0, none⟩)), .eq (.pointer (some ⟨g, 1, none⟩)), .eq (.map (some m1)), .eq (.agg #[.string ⟨want.1.1.toArray⟩, .string ⟨want.1.2.toArray⟩, .string ⟨want.2.toArray⟩]), .eq (.tuple #[(.int .i64 0), .bool false]), .eq ((.int .i64 0)), .eq (.bool false), .any, .any, .any, .any, .any] [14, 15, 16, 17, 18, 19, 13, 20, 21, 7, 8] [3, 6] (by kernel_rfl) (by kernel_rfl) (by rfl) (by kernel_rfl) ?start2 ?obs2 ?fin2
      case start2 =>
        simp only [List.forall_mem_cons]; exact ⟨⟨_, rfl, rfl⟩, ⟨_, rfl, rfl⟩, fun _ h => by cases h⟩
      case obs2 =>
        clear HC6 HGR HNIN
        refine Obs.cons none (by kernel_rfl) ?_ ?_
        · refine Ob.plain fun a w hR hk K k => ?_
          obtain ⟨_, e6, f6⟩ := hk 6 (by decide)
          clear hk
          go_simp
          exact k _ _ (Chg.refl _ _) f6
        refine Obs.cons none (by kernel_rfl) ?_ ?_
        · refine Ob.plain fun a w hR hk K k => ?_
          obtain ⟨_, e14, rfl⟩ := hk 14 (by decide)
          clear hk
          go_simp
          exact k _ _ (Chg.refl _ _) rfl
        refine Obs.cons none (by kernel_rfl) ?_ ?_
        · refine Ob.plain fun a w hR hk K k => ?_
          obtain ⟨_, e15, rfl⟩ := hk 15 (by decide)
          clear hk
          go_simp
          exact k _ _ (Chg.refl _ _) rfl
        refine Obs.cons none (by kernel_rfl) ?_ ?_
        · refine Ob.plain fun a w hR hk K k => ?_
          obtain ⟨_, e16, rfl⟩ := hk 16 (by decide)
          clear hk
          have zz := hR.cell HX2.out.1 id
          go_simp
          exact k _ _ (Chg.refl _ _) rfl
        refine Obs.cons none (by kernel_rfl) ?_ ?_
        · refine Ob.plain fun a w hR hk K k => ?_
          obtain ⟨_, e3, rfl⟩ := hk 3 (by decide)
          clear hk
          have z0 := hR.cell HX2.out.2.1 id
          have z1 := hR.cell HX2.out.2.2.1 id
          have z2 := hR.cell HX2.out.2.2.2 id
          go_simp
          exact k _ _ (Chg.refl _ _) rfl
        refine Obs.cons none (by kernel_rfl) ?_ ?_
        · refine Ob.plain fun a w hR hk K k => ?_
          obtain ⟨_, e17, rfl⟩ := hk 17 (by decide)
          obtain ⟨_, e18, rfl⟩ := hk 18 (by decide)
          clear hk
          have q := HL2.out w hR
          go_simp
          exact k _ _ (Chg.refl _ _) rfl
        refine Obs.cons none (by kernel_rfl) ?_ ?_
        · refine Ob.plain fun a w hR hk K k => ?_
          obtain ⟨_, e19, f19⟩ := hk 19 (by decide)
          clear hk
          go_simp
          exact k _ _ (Chg.refl _ _) f19
        refine Obs.cons none (by kernel_rfl) ?_ ?_
        · refine Ob.plain fun a w hR hk K k => ?_
          obtain ⟨_, e13, rfl⟩ := hk 13 (by decide)
          clear hk
          go_simp
          exact k _ _ (Chg.refl _ _) rfl
        refine Obs.cons none (by kernel_rfl) ?_ ?_
        · refine Ob.plain fun a w hR hk K k => ?_
          obtain ⟨_, e13, rfl⟩ := hk 13 (by decide)
          clear hk
          go_simp
          exact k _ _ (Chg.refl _ _) rfl
        refine Obs.cons none (by kernel_rfl) ?_ ?_
        · refine Ob.plain fun a w hR hk K k => ?_
          obtain ⟨_, e20, f20⟩ := hk 20 (by decide)
          clear hk
          go_simp
          exact k _ _ (Chg.refl _ _) f20
        refine Obs.cons none (by kernel_rfl) ?_ ?_
        · refine Ob.plain fun a w hR hk K k => ?_
          obtain ⟨_, e21, f21⟩ := hk 21 (by decide)
          clear hk
          go_simp
          exact k _ _ (Chg.refl _ _) f21
        exact Obs.nil
      case fin2 =>
        intro vals w9 hc9 hv
        have h7 : vals 7 = .int .i64 0 := hv 7 (by decide)
        have h8 : vals 8 = .bool false := hv 8 (by decide)
        simp only [putAll, List.setIfInBounds_toArray, List.set_cons_zero, List.set_cons_succ, h7, h8]
        have HRES : Hid (FindPost ls want w0 (.returned (.tuple #[.slice none 0 0, .bool false])) w9) := hid ⟨_, _, _, rfl, ⟨cs, S, HGR.out.1, HGR.out.2, .inr ⟨HNIN.out, rfl, rfl⟩⟩, World.ownsRow_nil _ _ _ _, HC6.out.trans hc9 (fun _ _ h => h)⟩
        clear hc9 hv h7 h8 HX2 HL2 HC6 HGR HNIN
        go_wp2
        go_ret2
        exact HRES.out
theorem ch_find {D : Nat → Prop} (ao : Option Addr) (cp : Nat) (ls : List CredB) (want : FactB) (w0 : World) (hl : ls.length ≤ 50) (h : CredsAt D w0 ao ls) (hD : ∀ i, D i → i < w0.heap.size) (hz : ao = none → cp = 0) (hw : factShort want 9223372036854775807) :
    Calls Try.prog 9 #[.slice ao ls.length cp, .agg #[.string ⟨want.1.1.toArray⟩, .string ⟨want.1.2.toArray⟩, .string ⟨want.2.toArray⟩]] w0 (FindPost ls want w0) :=
  ch_find2 ao cp ls want w0 ⟨by omega, ls, hl, fun _ h => h⟩ h hD hz hw
end Go.Proofs.Ytjaplnainlbldaa

/- Roles in slots. -/
namespace Go.Proofs.Ytjaplnainlbldaa
open Go.RowKit

/-- An operation whose guard was not run. -/
theorem Ob.und {P : Program} {Q : Exit → Act → World → Prop} {R : World → World → Prop} {G : Tmp → Value → World → Prop} {w0 : World} {o : Oper} {t : Tmp} {b : Bool}
    (hb : ∀ v w, G t v w → v = undef) (hrefl : ∀ w, R w w) (hd : ∀ w, R w0 w → Gd G o.dst undef w) : Ob P Q R G w0 (some (t, b)) o := by
  intro a w hR hk K hK
  obtain ⟨v, hv, hg⟩ := hk t (by simp [looks, gTmps])
  have := hb v w hg
  subst this
  have hne : ¬ (says b a.tmps[t]? = true) := by
    rw [hv]
    simp [says, undef]
  simp only [if_neg hne]
  exact hK _ _ (hrefl w) (hd w hR)

end Go.Proofs.Ytjaplnainlbldaa
