/- Texts that the proof leans on, in one: ChFind, RoleSpec, RefCredBytes. -/
import Derived.Test.YtjaplnainlbldaaFc30
import Derived.Test.YtjaplnainlbldaaFc32
import Derived.Test.YtjaplnainlbldaaFc5
import Derived.Test.YtjaplnainlbldaaFc4
import Derived.Test.YtjaplnainlbldaaFc7
/- Find: a tight chain of what has grown, if the fact has come. -/
namespace Go.Proofs.Ytjaplnainlbldaa
open Go.RowKit

/-- What is found. -/
def FindIs (ls : List CredB) (want : FactB) (R : List StepB) (b : Bool) : Prop :=
 ∃ cs S, SetC ls cs ∧ GrowTo cs want S ∧ ((want ∈ factsK S ∧ b = true ∧ R = tightG S ((factsK S).idxOf want)) ∨ (want ∉ factsK S ∧ b = false ∧ R = []))
def FindPost (ls : List CredB) (want : FactB) (w : World) (e : Ending) (w' : World) : Prop :=
 ∃ v R b, e = .returned (.tuple #[v, .bool b]) ∧ FindIs ls want R b ∧ OwnSt w.heap.size w' v R ∧ Chg (fun _ => False) w w'

/-- It is one. -/
theorem FindIs.one {ls : List CredB} {want : FactB} {R R' : List StepB} {b b' : Bool} (h : FindIs ls want R b) (k : FindIs ls want R' b') : R = R' ∧ b = b' := by
 obtain ⟨cs, S, h1, h2, h3⟩ := h
 obtain ⟨cs', S', k1, k2, k3⟩ := k
 have e := h1.one k1
 subst e
 have e := h2.one k2
 subst e
 rcases h3 with ⟨q1, rfl, rfl⟩ | ⟨q1, rfl, rfl⟩ <;> rcases k3 with ⟨r1, rfl, rfl⟩ | ⟨r1, rfl, rfl⟩
 ·exact ⟨rfl, rfl⟩
 ·exact absurd q1 r1
 ·exact absurd r1 q1
 ·exact ⟨rfl, rfl⟩
/-- Whatever their order, and however often one is told. -/
theorem FindIs.same {ls ls' : List CredB} {want : FactB} {R : List StepB} {b : Bool} (h : FindIs ls want R b) (he : ∀ c, c ∈ ls ↔ c ∈ ls') : FindIs ls' want R b := by
 obtain ⟨cs, S, h1, h2⟩ := h
 exact ⟨cs, S, ⟨h1.1, fun c => (h1.2 c).trans (and_congr_left' (he c))⟩, h2⟩

theorem fact_at {S : List StepB} {z : Nat} {f : FactB} (hl : z < S.length) (h : (factsK S)[z]? = some f) : S[z].f = f := by
 unfold factsK at h
 rw [List.getElem?_map, List.getElem?_eq_getElem hl] at h
 exact Option.some.inj h

/-- What is found is a tight chain of these credentials, that ends with the fact; it is found just where the fact follows. -/
theorem FindIs.spec {ls : List CredB} {want : FactB} {R : List StepB} {b : Bool} (h : FindIs ls want R b) : (b = true ↔ Der ls want) ∧ (b = false → R = []) ∧ (b = true → standsK R = true ∧ tightK R = true ∧ (∃ R0 s, R = R0 ++ [s] ∧ s.f = want) ∧ ∀ s ∈ R, s.c ∈ ls ∧ isCred s.c = true) := by
 obtain ⟨cs, S, h1, h2, h3⟩ := h
 have hall : ∀ c ∈ cs, isCred c = true := fun c hc => ((h1.2 c).1 hc).2
 obtain ⟨hgood, hiff⟩ := h2.iff hall
 have hder : want ∈ factsK S ↔ Der ls want := hiff.trans (der_set h1)
 rcases h3 with ⟨q1, rfl, rfl⟩ | ⟨q1, rfl, rfl⟩
 ·refine ⟨⟨fun _ => hder.1 q1, fun _ => rfl⟩, fun h => (by cases h), fun _ => ?_⟩
  have hl : (factsK S).idxOf want < S.length := by rw [← factsK_len]; exact List.idxOf_lt_length_of_mem q1
  have hk := kept_of hgood hl
  have e : tightG S ((factsK S).idxOf want) = stepsOf S (tightI S ((factsK S).idxOf want) ((factsK S).idxOf want + 1)).2.reverse := by
   unfold tightG stepsOf
   rw [List.map_reverse]
  obtain ⟨t1, t2, R0, t3⟩ := kept_tight hgood hl hk
  rw [e]
  refine ⟨t1, t2, ⟨R0, _, t3, ?_⟩, fun s hs => ?_⟩
  ·exact fact_at hl (idx_get q1)
  ·unfold stepsOf at hs
   obtain ⟨i, hi, rfl⟩ := List.mem_map.1 hs
   have hil : i < S.length := Nat.lt_of_le_of_lt (hk.le i hi) hl
   rw [getD_lt hil]
   have hm := hgood.mem _ (List.getElem_mem hil)
   exact ⟨((h1.2 _).1 hm).1, hall _ hm⟩
 ·exact ⟨⟨fun h => (by cases h), fun h => absurd (hder.2 h) q1⟩, fun _ => rfl, fun h => (by cases h)⟩

theorem setC_few {ls cs : List CredB} (h : SetC ls cs) (hl : ls.length ≤ 50) : cs.length ≤ 50 := by
 have hn : cs.Nodup := h.1.nodup ltC_ord
 exact Nat.le_trans (nodup_lengthG cs ls hn (fun c hc => ((h.2 c).1 hc).1)) hl
theorem setC_few2 {ls cs : List CredB} (h : SetC ls cs) (hl : ∃ l0 : List CredB, l0.length ≤ 50 ∧ ∀ c ∈ ls, c ∈ l0) : cs.length ≤ 50 := by
 have hn : cs.Nodup := h.1.nodup ltC_ord
 obtain ⟨l0, h0, h1⟩ := hl
 exact Nat.le_trans (nodup_lengthG cs l0 hn (fun c hc => h1 c ((h.2 c).1 hc).1)) h0
theorem find_big {cs : List CredB} {S : List StepB} (h : Good cs S) (hl : cs.length ≤ 50) : 2 * (S.length + 1) * (S.length + 1) ≤ 33554430 := by
 have h1 := facts_le (rs := cs.map (·.head)) (ns := cs.map (·.who)) h.nd (fun f hf => by
  have hd := h.der f hf
  refine ⟨?_, ?_⟩
  ·obtain ⟨c, hc, _, e⟩ := hd.head
   exact List.mem_map.2 ⟨c, hc, e⟩
  ·obtain ⟨c, hc, hr, hk, e⟩ := hd.who
   exact List.mem_map.2 ⟨c, hc, e⟩)
 rw [List.length_map, List.length_map, factsK_len] at h1
 have h2 : cs.length * cs.length ≤ 50 * 50 := Nat.mul_le_mul hl hl
 have h3 : S.length + 1 ≤ 2501 := by omega
 have h4 : 2 * (S.length + 1) ≤ 5002 := by omega
 exact Nat.le_trans (Nat.mul_le_mul h4 h3) (by decide)

def Spec.setS (ls : List CredB) : Spec := ⟨fun v w => ∃ cs ao cap, v = .slice ao cs.length cap ∧ SetC ls cs ∧ CredsAt (fun k => k < w.heap.size) w ao cs, fun v w w' hc h => by
 obtain ⟨cs, ao, cap, h1, h2, h3⟩ := h
 exact ⟨cs, ao, cap, h1, h2, (h3.keep hc (fun _ _ => id)).mono (fun _ h => Nat.lt_of_lt_of_le h hc.size)⟩⟩
def Spec.grownS (ls : List CredB) (want : FactB) (B : Nat) : Spec := ⟨fun v w => ∃ cs S T g m3 m4, v = .pointer (some ⟨g, 0, none⟩) ∧ SetC ls cs ∧ GrowTo cs want S ∧ GS T w g m3 m4 S ∧ ∀ b, T b ≠ none → B ≤ b, fun _ _ _ hc ⟨cs, S, T, g, m3, m4, h1, h2, h3, h4, h5⟩ => ⟨cs, S, T, g, m3, m4, h1, h2, h3, h4.quiet hc, h5⟩⟩

set_option maxRecDepth 100000 in
set_option maxHeartbeats 4000000 in
theorem ch_find2 {D : Nat → Prop} (ao : Option Addr) (cp : Nat) (ls : List CredB) (want : FactB) (w0 : World) (hl : ls.length ≤ 1000 ∧ ∃ l0 : List CredB, l0.length ≤ 50 ∧ ∀ c ∈ ls, c ∈ l0) (h : CredsAt D w0 ao ls) (hD : ∀ i, D i → i < w0.heap.size) (hz : ao = none → cp = 0) (hw : factShort want 9223372036854775807) :
  Calls Try.prog 9 #[.slice ao ls.length cp, .agg #[.string ⟨want.1.1.toArray⟩, .string ⟨want.1.2.toArray⟩, .string ⟨want.2.toArray⟩]] w0 (FindPost ls want w0) := by
 have hc1 : Chg (fun _ => False) w0 (w0.alloc (.cells #[.string ⟨want.1.1.toArray⟩, .string ⟨want.1.2.toArray⟩, .string ⟨want.2.toArray⟩] 26)) := (Chg.refl _ w0).alloc _
 have hbA : (w0.alloc (.cells #[.string ⟨want.1.1.toArray⟩, .string ⟨want.1.2.toArray⟩, .string ⟨want.2.toArray⟩] 26)).heap[w0.heap.size]? = some (.cells #[.string ⟨want.1.1.toArray⟩, .string ⟨want.1.2.toArray⟩, .string ⟨want.2.toArray⟩] 26 (0, 0)) := heap_alloc_new w0 _
 have z0 := cell_blk hbA 0
 have z1 := cell_blk hbA 1
 have z2 := cell_blk hbA 2
 simp only [List.getElem?_toArray, List.getElem?_cons_zero, List.getElem?_cons_succ] at z0 z1 z2
 have HX := hid (And.intro z0 (And.intro z1 z2))
 have HC1 := hid hc1
 have HLL := hid hl
 have HWS := hid hw
 have HSET : Hid (∀ w', Chg (fun _ => False) (w0.alloc (.cells #[.string ⟨want.1.1.toArray⟩, .string ⟨want.1.2.toArray⟩, .string ⟨want.2.toArray⟩] 26)) w' → Calls Try.prog 38 #[.slice ao ls.length cp] w' (SetPostC ls w')) := hid (fun w' hc => pcset ao cp ls w' (by omega) (h.keep (hc1.trans hc (fun _ _ h => h)) (fun _ _ => id)) (fun i hi => Nat.lt_of_lt_of_le (hD i hi) (hc1.trans hc (fun _ _ h => h)).size) hz)
 clear hc1 hbA z0 z1 z2 hl h hD hz hw
 go_enter Try.func9, Try.ntmps9
 go_wp2_with fail
 generalize (w0.alloc (.cells #[.string ⟨want.1.1.toArray⟩, .string ⟨want.1.2.toArray⟩, .string ⟨want.2.toArray⟩] 26)) = w1 at *
 generalize hAe : w0.heap.size = A at HX ⊢
 refine wp_region_specs [.eq (.slice ao ls.length cp), .any, .any, .eq (.pointer (some ⟨A, 0, none⟩)), .any, .any, .grownS ls want w0.heap.size, .any, .any, .eq (.slice ao ls.length cp), .setS ls, .eq (.agg #[.string ⟨want.1.1.toArray⟩, .string ⟨want.1.2.toArray⟩, .string ⟨want.2.toArray⟩]), .grownS ls want w0.heap.size, .any, .any, .any, .any, .any, .any, .any, .any, .any, .any, .any, .any, .any, .any] [9, 10, 11, 12, 6] [0, 3] (by kernel_rfl) (by kernel_rfl) (by rfl) (by kernel_rfl) ?start1 ?obs1 ?fin1
 case start1 =>
  simp only [List.forall_mem_cons]; exact ⟨⟨_, rfl, rfl⟩, ⟨_, rfl, rfl⟩, fun _ h => by cases h⟩
 case obs1 =>
  skip
  refine Obs.cons none (by kernel_rfl) ?_ ?_
  ·refine Ob.plain fun a w hR hk K k => ?_
   obtain ⟨_, e0, f0⟩ := hk 0 (by decide)
   clear hk
   go_simp
   exact k _ _ (Chg.refl _ _) f0
  refine Obs.cons none (by kernel_rfl) ?_ ?_
  ·refine Ob.plain fun a w hR hk K k => ?_
   obtain ⟨_, e9, rfl⟩ := hk 9 (by decide)
   clear hk
   have hq := HSET.out w hR
   clear hR
   go_simp
   refine hq.mono ?_
   rintro e w5 ⟨out, ao5, cap5, rfl, h1, h2, h3, _⟩
   exact k _ _ h3 ⟨out, ao5, cap5, rfl, h1, h2.mono (fun _ h => h.2)⟩
  refine Obs.cons none (by kernel_rfl) ?_ ?_
  ·refine Ob.plain fun a w hR hk K k => ?_
   obtain ⟨_, e3, rfl⟩ := hk 3 (by decide)
   clear hk
   have z0 := hR.cell HX.out.1 id
   have z1 := hR.cell HX.out.2.1 id
   have z2 := hR.cell HX.out.2.2 id
   go_simp
   exact k _ _ (Chg.refl _ _) rfl
  refine Obs.cons none (by kernel_rfl) ?_ ?_
  ·refine Ob.plain fun a w hR hk K k => ?_
   obtain ⟨_, e10, f10⟩ := hk 10 (by decide)
   obtain ⟨_, e11, rfl⟩ := hk 11 (by decide)
   clear hk
   obtain ⟨cs, ao5, cap5, rfl, h1, h2⟩ := f10
   have hsz := Nat.le_trans HC1.out.size hR.size
   have hl : cs.length ≤ 1000 := Nat.le_trans (setC_few2 h1 HLL.out.2) (by decide)
   have hq := ch_grow ao5 cap5 cs want w (fun c hc => ((h1.2 c).1 hc).2) hl h2 (fun _ h => h) HWS.out
   have H1 := hid h1
   clear h1 h2 hR hl
   obtain ⟨cl, hcl⟩ : ∃ cl, cl = cs.length := ⟨_, rfl⟩
   simp only [← hcl] at *
   clear hcl
   go_simp
   refine hq.mono ?_
   rintro e w5 ⟨S, T, g, m3, m4, rfl, p1, p2, p3, p4⟩
   exact k _ _ p4 ⟨cs, S, T, g, m3, m4, rfl, H1.out, p1, p2, fun b hb => Nat.le_trans hsz (p3 b hb)⟩
  refine Obs.cons none (by kernel_rfl) ?_ ?_
  ·refine Ob.plain fun a w hR hk K k => ?_
   obtain ⟨_, e12, f12⟩ := hk 12 (by decide)
   clear hk
   go_simp
   exact k _ _ (Chg.refl _ _) f12
  exact Obs.nil
 case fin1 =>
  intro vals w9 hc9 hv
  obtain ⟨cs, S, T, g, m3, m4, h6, p1, p2, p3, p4⟩ := hv 6 (by decide)
  simp only [putAll, List.setIfInBounds_toArray, List.set_cons_zero, List.set_cons_succ, h6]
  have HC6 := hid (HC1.out.trans hc9 (fun _ _ h => h))
  have hall : ∀ c ∈ cs, isCred c = true := fun c hc => ((p1.2 c).1 hc).2
  obtain ⟨hgood, hiff⟩ := p2.iff hall
  have HGR := hid (And.intro p1 p2)
  have HGS := hid p3
  have HGOOD := hid hgood
  have hbig : 2 * (S.length + 1) * (S.length + 1) ≤ 33554430 := find_big hgood (setC_few2 p1 HLL.out.2)
  have HBIG := hid hbig
  obtain ⟨m1, k1, k2⟩ := p3.place HWS.out
  have HX2 := hid (And.intro k1 (And.intro (hc9.cell HX.out.1 id) (And.intro (hc9.cell HX.out.2.1 id) (hc9.cell HX.out.2.2 id))))
  have hl2 : ∀ w', Chg (fun _ => False) w9 w' → (Instr.lookup 82 (.map (some m1)) (.agg #[.string ⟨want.1.1.toArray⟩, .string ⟨want.1.2.toArray⟩, .string ⟨want.2.toArray⟩]) true).run Try.prog w' = .ok (.tuple #[(atF (factsK S) want).getD (.int .i64 0), .bool (decide (want ∈ factsK S))]) w' := fun w' hc => (k2 w' hc).2
  obtain ⟨w6, hw6⟩ : ∃ w6, w6 = w9 := ⟨_, rfl⟩
  simp only [← hw6] at *
  clear hw6 hv h6 p1 p2 p3 p4 hall hgood hiff hbig k1 k2 HX hc9 HC1
  by_cases hin : want ∈ factsK S
  ·obtain ⟨z, hz⟩ : ∃ z, z = (factsK S).idxOf want := ⟨_, rfl⟩
   have hat : (atF (factsK S) want).getD (.int .i64 0) = .int .i64 (z : Nat) := by unfold atF; rw [if_pos hin, ← hz]; rfl
   have hzl : z < S.length := by rw [hz, ← factsK_len]; exact List.idxOf_lt_length_of_mem hin
   rw [hat, decide_eq_true hin] at hl2
   have HL2 := hid hl2
   have HZE := hid hz
   have HZS := hid hzl
   have HIN := hid hin
   clear hin hz hat hzl hl2
   go_wp2_with fail
   refine wp_region_specs [.any, .any, .any, .eq (.pointer (some ⟨A, 0, none⟩)), .any, .any, .eq (.pointer (some ⟨g, 0, none⟩)), .eq ((.int .i64 (z : Nat))), .eq (.bool true), .any, .any, .any, .any, .eq (.tuple #[(.int .i64 (z : Nat)), .bool true]), .eq (.pointer (some ⟨g, 0, none⟩)), .eq (.pointer (some ⟨g, 0, none⟩)), .eq (.pointer (some ⟨g, 1, none⟩)), .eq (.map (some m1)), .eq (.agg #[.string ⟨want.1.1.toArray⟩, .string ⟨want.1.2.toArray⟩, .string ⟨want.2.toArray⟩]), .eq (.tuple #[(.int .i64 (z : Nat)), .bool true]), .eq ((.int .i64 (z : Nat))), .eq (.bool true), .any, .any, .any, .any, .any] [14, 15, 16, 17, 18, 19, 13, 20, 21, 7, 8] [3, 6] (by kernel_rfl) (by kernel_rfl) (by rfl) (by kernel_rfl) ?start2 ?obs2 ?fin2
   case start2 =>
    simp only [List.forall_mem_cons]; exact ⟨⟨_, rfl, rfl⟩, ⟨_, rfl, rfl⟩, fun _ h => by cases h⟩
   case obs2 =>
    clear HC6 HGR HGS HGOOD HZS HBIG HIN HZE
    refine Obs.cons none (by kernel_rfl) ?_ ?_
    ·refine Ob.plain fun a w hR hk K k => ?_
     obtain ⟨_, e6, f6⟩ := hk 6 (by decide)
     clear hk
     go_simp
     exact k _ _ (Chg.refl _ _) f6
    refine Obs.cons none (by kernel_rfl) ?_ ?_
    ·refine Ob.plain fun a w hR hk K k => ?_
     obtain ⟨_, e14, rfl⟩ := hk 14 (by decide)
     clear hk
     go_simp
     exact k _ _ (Chg.refl _ _) rfl
    refine Obs.cons none (by kernel_rfl) ?_ ?_
    ·refine Ob.plain fun a w hR hk K k => ?_
     obtain ⟨_, e15, rfl⟩ := hk 15 (by decide)
     clear hk
     go_simp
     exact k _ _ (Chg.refl _ _) rfl
    refine Obs.cons none (by kernel_rfl) ?_ ?_
    ·refine Ob.plain fun a w hR hk K k => ?_
     obtain ⟨_, e16, rfl⟩ := hk 16 (by decide)
     clear hk
     have zz := hR.cell HX2.out.1 id
     go_simp
     exact k _ _ (Chg.refl _ _) rfl
    refine Obs.cons none (by kernel_rfl) ?_ ?_
    ·refine Ob.plain fun a w hR hk K k => ?_
     obtain ⟨_, e3, rfl⟩ := hk 3 (by decide)
     clear hk
     have z0 := hR.cell HX2.out.2.1 id
     have z1 := hR.cell HX2.out.2.2.1 id
     have z2 := hR.cell HX2.out.2.2.2 id
     go_simp
     exact k _ _ (Chg.refl _ _) rfl
    refine Obs.cons none (by kernel_rfl) ?_ ?_
    ·refine Ob.plain fun a w hR hk K k => ?_
     obtain ⟨_, e17, rfl⟩ := hk 17 (by decide)
     obtain ⟨_, e18, rfl⟩ := hk 18 (by decide)
     clear hk
     have q := HL2.out w hR
     go_simp
     exact k _ _ (Chg.refl _ _) rfl
    refine Obs.cons none (by kernel_rfl) ?_ ?_
    ·refine Ob.plain fun a w hR hk K k => ?_
     obtain ⟨_, e19, f19⟩ := hk 19 (by decide)
     clear hk
     go_simp
     exact k _ _ (Chg.refl _ _) f19
    refine Obs.cons none (by kernel_rfl) ?_ ?_
    ·refine Ob.plain fun a w hR hk K k => ?_
     obtain ⟨_, e13, rfl⟩ := hk 13 (by decide)
     clear hk
     go_simp
     exact k _ _ (Chg.refl _ _) rfl
    refine Obs.cons none (by kernel_rfl) ?_ ?_
    ·refine Ob.plain fun a w hR hk K k => ?_
     obtain ⟨_, e13, rfl⟩ := hk 13 (by decide)
     clear hk
     go_simp
     exact k _ _ (Chg.refl _ _) rfl
    refine Obs.cons none (by kernel_rfl) ?_ ?_
    ·refine Ob.plain fun a w hR hk K k => ?_
     obtain ⟨_, e20, f20⟩ := hk 20 (by decide)
     clear hk
     go_simp
     exact k _ _ (Chg.refl _ _) f20
    refine Obs.cons none (by kernel_rfl) ?_ ?_
    ·refine Ob.plain fun a w hR hk K k => ?_
     obtain ⟨_, e21, f21⟩ := hk 21 (by decide)
     clear hk
     go_simp
     exact k _ _ (Chg.refl _ _) f21
    exact Obs.nil
   case fin2 =>
    intro vals w9 hc9 hv
    have h7 : vals 7 = .int .i64 (z : Nat) := hv 7 (by decide)
    have h8 : vals 8 = .bool true := hv 8 (by decide)
    simp only [putAll, List.setIfInBounds_toArray, List.set_cons_zero, List.set_cons_succ, h7, h8]
    have hq := ch_tight g m3 m4 S z w9 (HGS.out.quiet hc9) HGOOD.out HZS.out HBIG.out
    have HQ := hid hq
    have HSZ := hid (HC6.out.trans hc9 (fun _ _ h => h))
    clear hc9 hv h7 h8 HX2 HL2 HC6 hq
    go_wp2_with fail
    refine HQ.out.mono ?_
    rintro e w7 ⟨v, rfl, h1, h2⟩
    have HRES : Hid (FindPost ls want w0 (.returned (.tuple #[v, .bool true])) w7) := hid ⟨_, _, _, rfl, ⟨cs, S, HGR.out.1, HGR.out.2, .inl ⟨HIN.out, rfl, by rw [HZE.out]⟩⟩, ownsRow_lowK h1 HSZ.out.size, HSZ.out.trans h2 (fun _ _ h => h)⟩
    clear h1 h2 HQ HSZ HGR HIN
    go_wp2
    go_ret2
    exact HRES.out
  ·have hat : (atF (factsK S) want).getD (.int .i64 0) = .int .i64 0 := by unfold atF; rw [if_neg hin]; rfl
   rw [hat, decide_eq_false hin] at hl2
   have HL2 := hid hl2
   have HNIN := hid hin
   clear hin hat hl2
   go_wp2_with fail
   refine wp_region_specs [.any, .any, .any, .eq (.pointer (some ⟨A, 0, none⟩)), .any, .any, .eq (.pointer (some ⟨g, 0, none⟩)), .eq ((.int .i64 0)), .eq (.bool false), .any, .any, .any, .any, .eq (.tuple #[(.int .i64 0), .bool false]), .eq (.pointer (some ⟨g, 0, none⟩)), .eq (.pointer (some ⟨g, 0, none⟩)), .eq (.pointer (some ⟨g, 1, none⟩)), .eq (.map (some m1)), .eq (.agg #[.string ⟨want.1.1.toArray⟩, .string ⟨want.1.2.toArray⟩, .string ⟨want.2.toArray⟩]), .eq (.tuple #[(.int .i64 0), .bool false]), .eq ((.int .i64 0)), .eq (.bool false), .any, .any, .any, .any, .any] [14, 15, 16, 17, 18, 19, 13, 20, 21, 7, 8] [3, 6] (by kernel_rfl) (by kernel_rfl) (by rfl) (by kernel_rfl) ?start2 ?obs2 ?fin2
   case start2 =>
    simp only [List.forall_mem_cons]; exact ⟨⟨_, rfl, rfl⟩, ⟨_, rfl, rfl⟩, fun _ h => by cases h⟩
   case obs2 =>
    clear HC6 HGR HNIN
    refine Obs.cons none (by kernel_rfl) ?_ ?_
    ·refine Ob.plain fun a w hR hk K k => ?_
     obtain ⟨_, e6, f6⟩ := hk 6 (by decide)
     clear hk
     go_simp
     exact k _ _ (Chg.refl _ _) f6
    refine Obs.cons none (by kernel_rfl) ?_ ?_
    ·refine Ob.plain fun a w hR hk K k => ?_
     obtain ⟨_, e14, rfl⟩ := hk 14 (by decide)
     clear hk
     go_simp
     exact k _ _ (Chg.refl _ _) rfl
    refine Obs.cons none (by kernel_rfl) ?_ ?_
    ·refine Ob.plain fun a w hR hk K k => ?_
     obtain ⟨_, e15, rfl⟩ := hk 15 (by decide)
     clear hk
     go_simp
     exact k _ _ (Chg.refl _ _) rfl
    refine Obs.cons none (by kernel_rfl) ?_ ?_
    ·refine Ob.plain fun a w hR hk K k => ?_
     obtain ⟨_, e16, rfl⟩ := hk 16 (by decide)
     clear hk
     have zz := hR.cell HX2.out.1 id
     go_simp
     exact k _ _ (Chg.refl _ _) rfl
    refine Obs.cons none (by kernel_rfl) ?_ ?_
    ·refine Ob.plain fun a w hR hk K k => ?_
     obtain ⟨_, e3, rfl⟩ := hk 3 (by decide)
     clear hk
     have z0 := hR.cell HX2.out.2.1 id
     have z1 := hR.cell HX2.out.2.2.1 id
     have z2 := hR.cell HX2.out.2.2.2 id
     go_simp
     exact k _ _ (Chg.refl _ _) rfl
    refine Obs.cons none (by kernel_rfl) ?_ ?_
    ·refine Ob.plain fun a w hR hk K k => ?_
     obtain ⟨_, e17, rfl⟩ := hk 17 (by decide)
     obtain ⟨_, e18, rfl⟩ := hk 18 (by decide)
     clear hk
     have q := HL2.out w hR
     go_simp
     exact k _ _ (Chg.refl _ _) rfl
    refine Obs.cons none (by kernel_rfl) ?_ ?_
    ·refine Ob.plain fun a w hR hk K k => ?_
     obtain ⟨_, e19, f19⟩ := hk 19 (by decide)
     clear hk
     go_simp
     exact k _ _ (Chg.refl _ _) f19
    refine Obs.cons none (by kernel_rfl) ?_ ?_
    ·refine Ob.plain fun a w hR hk K k => ?_
     obtain ⟨_, e13, rfl⟩ := hk 13 (by decide)
     clear hk
     go_simp
     exact k _ _ (Chg.refl _ _) rfl
    refine Obs.cons none (by kernel_rfl) ?_ ?_
    ·refine Ob.plain fun a w hR hk K k => ?_
     obtain ⟨_, e13, rfl⟩ := hk 13 (by decide)
     clear hk
     go_simp
     exact k _ _ (Chg.refl _ _) rfl
    refine Obs.cons none (by kernel_rfl) ?_ ?_
    ·refine Ob.plain fun a w hR hk K k => ?_
     obtain ⟨_, e20, f20⟩ := hk 20 (by decide)
     clear hk
     go_simp
     exact k _ _ (Chg.refl _ _) f20
    refine Obs.cons none (by kernel_rfl) ?_ ?_
    ·refine Ob.plain fun a w hR hk K k => ?_
     obtain ⟨_, e21, f21⟩ := hk 21 (by decide)
     clear hk
     go_simp
     exact k _ _ (Chg.refl _ _) f21
    exact Obs.nil
   case fin2 =>
    intro vals w9 hc9 hv
    have h7 : vals 7 = .int .i64 0 := hv 7 (by decide)
    have h8 : vals 8 = .bool false := hv 8 (by decide)
    simp only [putAll, List.setIfInBounds_toArray, List.set_cons_zero, List.set_cons_succ, h7, h8]
    have HRES : Hid (FindPost ls want w0 (.returned (.tuple #[.slice none 0 0, .bool false])) w9) := hid ⟨_, _, _, rfl, ⟨cs, S, HGR.out.1, HGR.out.2, .inr ⟨HNIN.out, rfl, rfl⟩⟩, World.ownsRow_nil _ _ _ _, HC6.out.trans hc9 (fun _ _ h => h)⟩
    clear hc9 hv h7 h8 HX2 HL2 HC6 HGR HNIN
    go_wp2
    go_ret2
    exact HRES.out
theorem ch_find {D : Nat → Prop} (ao : Option Addr) (cp : Nat) (ls : List CredB) (want : FactB) (w0 : World) (hl : ls.length ≤ 50) (h : CredsAt D w0 ao ls) (hD : ∀ i, D i → i < w0.heap.size) (hz : ao = none → cp = 0) (hw : factShort want 9223372036854775807) :
  Calls Try.prog 9 #[.slice ao ls.length cp, .agg #[.string ⟨want.1.1.toArray⟩, .string ⟨want.1.2.toArray⟩, .string ⟨want.2.toArray⟩]] w0 (FindPost ls want w0) :=
 ch_find2 ao cp ls want w0 ⟨by omega, ls, hl, fun _ h => h⟩ h hD hz hw
end Go.Proofs.Ytjaplnainlbldaa

/- Roles in slots. -/
namespace Go.Proofs.Ytjaplnainlbldaa
open Go.RowKit

/-- An operation whose guard was not run. -/
theorem Ob.und {P : Program} {Q : Exit → Act → World → Prop} {R : World → World → Prop} {G : Tmp → Value → World → Prop} {w0 : World} {o : Oper} {t : Tmp} {b : Bool}
  (hb : ∀ v w, G t v w → v = undef) (hrefl : ∀ w, R w w) (hd : ∀ w, R w0 w → Gd G o.dst undef w) : Ob P Q R G w0 (some (t, b)) o := by
 intro a w hR hk K hK
 obtain ⟨v, hv, hg⟩ := hk t (by simp [looks, gTmps])
 have := hb v w hg
 subst this
 have hne : ¬ (says b a.tmps[t]? = true) := by
  rw [hv]
  simp [says, undef]
 simp only [if_neg hne]
 exact hK _ _ (hrefl w) (hd w hR)

end Go.Proofs.Ytjaplnainlbldaa

/- The contracts of the document's Bytes, bytes and Compare of layer 5. -/
namespace Go.Proofs.Ytjaplnainlbldaa
open Go.RowKit

def cbytesSpecs (A n : Nat) (ho hw : List UInt8) : List Spec :=
 [.any, .eq (.pointer (some ⟨A, 0, none⟩)), .any, .eq (.string ⟨(enc n ++ roleEnc (ho, hw)).toArray⟩), .eq (.pointer (some ⟨A, 0, none⟩)), .eq (.int .i64 n), .eq (.string ⟨(enc n).toArray⟩), .eq (.pointer (some ⟨A, 1, none⟩)), .eq (roleV (ho, hw)), .eq (.string ⟨(roleEnc (ho, hw)).toArray⟩), .eq (.string ⟨(enc n ++ roleEnc (ho, hw)).toArray⟩)]

theorem roleEnc_len (r : RoleB) (h1 : r.1.length ≤ 1048576) (h2 : r.2.length ≤ 1048576) : (roleEnc r).length ≤ 2097200 := by
 have l1 := enc_length9 (n := r.1.length) (by omega)
 have l2 := enc_length9 (n := r.2.length) (by omega)
 simp only [roleEnc, List.length_append]
 omega

theorem encS_len (s : List UInt8) (h1 : s.length ≤ 1048576) : (encS s).length ≤ 1048600 := by
 have l1 := enc_length9 (n := s.length) (by omega)
 simp only [encS, List.length_append]
 omega

set_option maxRecDepth 100000 in
set_option maxHeartbeats 2000000 in
theorem cbytes_ref (c : CredB) (w : World) (n : Nat) (hk : c.kind = n) (hn : n < 9223372036854775808) (hs : credShort c 1048576) :
  Calls Try.prog 114 #[credV c] w fun e w' => e = .returned (.string ⟨(credEnc c).toArray⟩) ∧ Chg (fun _ => False) w w' := by
 have hc0 : Chg (fun _ => False) w (w.alloc (.cells (credBox c) 36)) := (Chg.refl _ w).alloc _
 have hd := cred_at_blk (heap_alloc_new w (.cells (credBox c) 36))
 obtain ⟨k, ⟨ho, hw⟩, who, ⟨bo, bw⟩, ⟨co, cw⟩, w2⟩ := c
 obtain ⟨s1, s2, s3, s4, s5, s6, s7, s8⟩ := hs
 dsimp only at s1 s2 s3 s4 s5 s6 s7 s8 hk
 subst hk
 obtain ⟨a0, a1, a2, a3, a4, a5, a6, a7, a8⟩ := hd
 simp only [Nat.zero_add, credBox] at a0 a1 a2 a3 a4 a5 a6 a7 a8
 simp only [credBox] at hc0
 have hE : Hid (credEnc ⟨(n : Int), (ho, hw), who, (bo, bw), (co, cw), w2⟩ = (enc n ++ roleEnc (ho, hw)) ++ credTail ⟨(n : Int), (ho, hw), who, (bo, bw), (co, cw), w2⟩) := hid (by simp [credEnc])
 have l1 := enc_length9 (n := n) (by omega)
 have l2 := roleEnc_len (ho, hw) s1 s2
 have l3 := roleEnc_len (bo, bw) s4 s5
 have l4 := roleEnc_len (co, cw) s6 s7
 have l5 := encS_len who s3
 have l6 := encS_len w2 s8
 show Calls Try.prog 114 #[.agg #[.int .i64 n, .string ⟨ho.toArray⟩, .string ⟨hw.toArray⟩, .string ⟨who.toArray⟩, .string ⟨bo.toArray⟩, .string ⟨bw.toArray⟩, .string ⟨co.toArray⟩, .string ⟨cw.toArray⟩, .string ⟨w2.toArray⟩]] w _
 go_enter Try.func114, Try.ntmps114
 go_wp2_with fail
 generalize w.alloc (.cells #[.int .i64 (n : Int), .string ⟨ho.toArray⟩, .string ⟨hw.toArray⟩, .string ⟨who.toArray⟩, .string ⟨bo.toArray⟩, .string ⟨bw.toArray⟩, .string ⟨co.toArray⟩, .string ⟨cw.toArray⟩, .string ⟨w2.toArray⟩] 36) = w1 at *
 generalize w.heap.size = A at *
 refine wp_region_specs (cbytesSpecs A n ho hw) [4, 5, 6, 7, 8, 9, 10, 3] [1] (by kernel_rfl) (by kernel_rfl) (by rfl) (by kernel_rfl) ?start ?obs ?fin
 case start =>
  simp only [List.forall_mem_cons]
  exact ⟨⟨_, rfl, rfl⟩, fun _ h => by cases h⟩
 case obs =>
  clear hc0 hE
  refine Obs.cons none (by kernel_rfl) ?_ ?_
  ·refine Ob.plain fun a w hR hk K k => ?_
   obtain ⟨_, e1, rfl⟩ := hk 1 (by decide)
   clear hk
   go_simp
   exact k _ _ (Chg.refl _ _) rfl
  refine Obs.cons none (by kernel_rfl) ?_ ?_
  ·refine Ob.plain fun a w hR hk K k => ?_
   obtain ⟨_, e4, rfl⟩ := hk 4 (by decide)
   clear hk
   have q0 := hR.cell a0 id
   go_simp
   exact k _ _ (Chg.refl _ _) rfl
  refine Obs.cons none (by kernel_rfl) ?_ ?_
  ·refine Ob.plain fun a w hR hk K k => ?_
   obtain ⟨_, e5, rfl⟩ := hk 5 (by decide)
   clear hk
   go_simp
   refine (refnum_any n _ hn).mono ?_
   rintro e w2 ⟨rfl, hc⟩
   exact k _ _ hc rfl
  refine Obs.cons none (by kernel_rfl) ?_ ?_
  ·refine Ob.plain fun a w hR hk K k => ?_
   obtain ⟨_, e1, rfl⟩ := hk 1 (by decide)
   clear hk
   go_simp
   exact k _ _ (Chg.refl _ _) rfl
  refine Obs.cons none (by kernel_rfl) ?_ ?_
  ·refine Ob.plain fun a w hR hk K k => ?_
   obtain ⟨_, e7, rfl⟩ := hk 7 (by decide)
   clear hk
   have q0 := hR.cell a1 id
   have q1 := hR.cell a2 id
   go_simp
   exact k _ _ (Chg.refl _ _) rfl
  refine Obs.cons none (by kernel_rfl) ?_ ?_
  ·refine Ob.plain fun a w hR hk K k => ?_
   obtain ⟨_, e8, rfl⟩ := hk 8 (by decide)
   clear hk
   go_simp
   refine (rbytes_ref (ho, hw) _ s1 s2).mono ?_
   rintro e w2 ⟨rfl, hc⟩
   exact k _ _ hc rfl
  refine Obs.cons none (by kernel_rfl) ?_ ?_
  ·refine Ob.plain fun a w hR hk K k => ?_
   obtain ⟨_, e6, rfl⟩ := hk 6 (by decide)
   obtain ⟨_, e9, rfl⟩ := hk 9 (by decide)
   clear hk
   obtain ⟨u, hu⟩ : ∃ u, u = enc n := ⟨_, rfl⟩
   obtain ⟨v, hv⟩ : ∃ v, v = roleEnc (ho, hw) := ⟨_, rfl⟩
   have hb : ¬ 9223372036854775807 < u.length + v.length := by rw [hu, hv]; omega
   rw [← hu] at e6
   rw [← hv] at e9
   have HU := hid (And.intro hu hv)
   clear hu hv
   go_simp
   exact k _ _ (Chg.refl _ _) (congrArg Value.string ((ByteArray.mk_append_mk u v).trans (by rw [HU.out.1, HU.out.2])))
  refine Obs.cons none (by kernel_rfl) ?_ Obs.nil
  ·refine Ob.plain fun a w hR hk K k => ?_
   obtain ⟨_, e10, rfl⟩ := hk 10 (by decide)
   clear hk
   go_simp
   exact k _ _ (Chg.refl _ _) rfl
 case fin =>
  intro vals w3 hc3 hv
  have h3 : vals 3 = .string ⟨(enc n ++ roleEnc (ho, hw)).toArray⟩ := hv 3 (by decide)
  replace a0 := hc3.cell a0 id
  replace a3 := hc3.cell a3 id
  replace a4 := hc3.cell a4 id
  replace a5 := hc3.cell a5 id
  replace a6 := hc3.cell a6 id
  replace a7 := hc3.cell a7 id
  replace a8 := hc3.cell a8 id
  have HC := hid (hc0.trans hc3 (fun _ _ h => h))
  clear hc0 hc3 hv a1 a2
  simp only [putAll, List.setIfInBounds_toArray, List.set_cons_zero, List.set_cons_succ, h3]
  clear h3
  have l7 : (enc n ++ roleEnc (ho, hw)).length ≤ 2097300 := by rw [List.length_append]; omega
  generalize enc n ++ roleEnc (ho, hw) = eh at *
  clear l1 l2
  by_cases k1 : n = 1
  ·subst k1
   go_wp2_with fail
   refine (reftext_any who _ (by omega)).mono ?_
   rintro e w4 ⟨rfl, hc4⟩
   have HC2 := hid (HC.out.trans hc4 (fun _ _ h => h))
   clear HC hc4
   have hT : Hid (credTail ⟨((1 : Nat) : Int), (ho, hw), who, (bo, bw), (co, cw), w2⟩ = encS who) := hid rfl
   rw [show enc who.length ++ who = encS who from rfl]
   generalize encS who = t at *
   have b1 : ¬ 9223372036854775807 < eh.length + t.length := by omega
   go_wp2
   go_ret
   exact ⟨congrArg (fun b => Ending.returned (.string b)) ((ByteArray.mk_append_mk eh t).trans (by rw [hE.out, hT.out])), HC2.out⟩
  ·have z1 : ((n : Int) == 1) = false := beq_eq_false_iff_ne.2 (by omega)
   go_wp2_with fail
   refine (rbytes_ref (bo, bw) _ s4 s5).mono ?_
   rintro e w4 ⟨rfl, hc4⟩
   replace a0 := hc4.cell a0 id
   replace a6 := hc4.cell a6 id
   replace a7 := hc4.cell a7 id
   replace a8 := hc4.cell a8 id
   have HC2 := hid (HC.out.trans hc4 (fun _ _ h => h))
   clear HC hc4 a3 a4 a5
   have hT : Hid (credTail ⟨(n : Int), (ho, hw), who, (bo, bw), (co, cw), w2⟩ = (if (n : Int) = 3 then roleEnc (bo, bw) ++ encS w2 else if (n : Int) = 4 then roleEnc (bo, bw) ++ roleEnc (co, cw) else roleEnc (bo, bw))) := hid (by rw [credTail, if_neg (by show ¬ (n : Int) = 1; omega)])
   generalize roleEnc (bo, bw) = tb at *
   have b1 : ¬ 9223372036854775807 < eh.length + tb.length := by omega
   by_cases k3 : n = 3
   ·subst k3
    rw [if_pos (by decide)] at hT
    go_wp2_with fail
    refine (reftext_any w2 _ (by omega)).mono ?_
    rintro e w5 ⟨rfl, hc5⟩
    replace a0 := hc5.cell a0 id
    have HC3 := hid (HC2.out.trans hc5 (fun _ _ h => h))
    clear HC2 hc5
    rw [show enc w2.length ++ w2 = encS w2 from rfl]
    generalize encS w2 = t at *
    have b2 : ¬ 9223372036854775807 < eh.length + tb.length + t.length := by omega
    go_wp2
    go_ret
    refine ⟨congrArg (fun b => Ending.returned (.string b)) ?_, HC3.out⟩
    show (⟨eh.toArray⟩ : ByteArray) ++ ⟨tb.toArray⟩ ++ ⟨t.toArray⟩ = _
    rw [ByteArray.mk_append_mk, ByteArray.mk_append_mk, hE.out, hT.out, List.append_assoc]
   ·have z3 : ((n : Int) == 3) = false := beq_eq_false_iff_ne.2 (by omega)
    rw [if_neg (by omega)] at hT
    by_cases k4 : n = 4
    ·subst k4
     rw [if_pos (by decide)] at hT
     go_wp2_with fail
     refine (rbytes_ref (co, cw) _ s6 s7).mono ?_
     rintro e w5 ⟨rfl, hc5⟩
     have HC3 := hid (HC2.out.trans hc5 (fun _ _ h => h))
     clear HC2 hc5
     generalize roleEnc (co, cw) = t at *
     have b2 : ¬ 9223372036854775807 < eh.length + tb.length + t.length := by omega
     go_wp2
     go_ret
     refine ⟨congrArg (fun b => Ending.returned (.string b)) ?_, HC3.out⟩
     show (⟨eh.toArray⟩ : ByteArray) ++ ⟨tb.toArray⟩ ++ ⟨t.toArray⟩ = _
     rw [ByteArray.mk_append_mk, ByteArray.mk_append_mk, hE.out, hT.out, List.append_assoc]
    ·have z4 : ((n : Int) == 4) = false := beq_eq_false_iff_ne.2 (by omega)
     rw [if_neg (by omega)] at hT
     go_wp2
     go_ret
     exact ⟨congrArg (fun b => Ending.returned (.string b)) ((ByteArray.mk_append_mk eh tb).trans (by rw [hE.out, hT.out])), HC2.out⟩

theorem isCred_nat {c : CredB} (h : isCred c = true) : ∃ n : Nat, c.kind = n ∧ n < 9223372036854775808 := by
 refine ⟨c.kind.toNat, ?_, ?_⟩
 ·unfold isCred at h
  by_cases h1 : c.kind = 1
  ·omega
  ·by_cases h2 : c.kind = 2
   ·omega
   ·by_cases h3 : c.kind = 3
    ·omega
    ·rw [if_neg h1, if_neg h2, if_neg h3] at h
     simp only [Bool.and_eq_true, beq_iff_eq] at h
     omega
 ·unfold isCred at h
  by_cases h1 : c.kind = 1
  ·omega
  ·by_cases h2 : c.kind = 2
   ·omega
   ·by_cases h3 : c.kind = 3
    ·omega
    ·rw [if_neg h1, if_neg h2, if_neg h3] at h
     simp only [Bool.and_eq_true, beq_iff_eq] at h
     omega

theorem credShort.mono {c : CredB} {m n : Nat} (h : credShort c m) (hm : m ≤ n) : credShort c n := by
 obtain ⟨s1, s2, s3, s4, s5, s6, s7, s8⟩ := h
 exact ⟨by omega, by omega, by omega, by omega, by omega, by omega, by omega, by omega⟩

set_option maxRecDepth 100000 in
theorem cbytesof_ref (c : CredB) (w : World) (hs : credShort c 1048576) :
  Calls Try.prog 89 #[credV c] w fun e w' => e = .returned (.string ⟨(credBytes c).toArray⟩) ∧ Chg (fun _ => False) w w' := by
 have hc0 : Chg (fun _ => False) w (w.alloc (.cells (credBox c) 36)) := (Chg.refl _ w).alloc _
 have hA := heap_alloc_new w (.cells (credBox c) 36)
 have hr := fun w1 => cright_ref c w1 (hs.mono (by omega))
 cases hi : isCred c with
 | false =>
  have hB : Hid (credBytes c = []) := hid (by simp [credBytes, hi])
  rw [hi] at hr
  obtain ⟨k, ⟨ho, hw⟩, who, ⟨bo, bw⟩, ⟨co, cw⟩, w2⟩ := c
  show Calls Try.prog 89 #[.agg #[.int .i64 k, .string ⟨ho.toArray⟩, .string ⟨hw.toArray⟩, .string ⟨who.toArray⟩, .string ⟨bo.toArray⟩, .string ⟨bw.toArray⟩, .string ⟨co.toArray⟩, .string ⟨cw.toArray⟩, .string ⟨w2.toArray⟩]] w _
  clear hA
  have HH := hid (And.intro hr hc0)
  clear hr hc0
  go_enter Try.func89, Try.ntmps89
  go_wp2_with fail
  refine (HH.out.1 _).mono ?_
  rintro e w1 ⟨rfl, hc1⟩
  have HC := hid (HH.out.2.trans hc1 (fun _ _ h => h))
  clear HH hc1
  go_wp2
  go_ret
  exact ⟨by rw [hB.out]; rfl, HC.out⟩
 | true =>
  have hB : Hid (credBytes c = credEnc c) := hid (by simp [credBytes, hi])
  rw [hi] at hr
  obtain ⟨n, hn1, hn2⟩ := isCred_nat hi
  have hb := fun w1 => cbytes_ref c w1 n hn1 hn2 hs
  clear hn1 hi
  obtain ⟨k, ⟨ho, hw⟩, who, ⟨bo, bw⟩, ⟨co, cw⟩, w2⟩ := c
  show Calls Try.prog 89 #[.agg #[.int .i64 k, .string ⟨ho.toArray⟩, .string ⟨hw.toArray⟩, .string ⟨who.toArray⟩, .string ⟨bo.toArray⟩, .string ⟨bw.toArray⟩, .string ⟨co.toArray⟩, .string ⟨cw.toArray⟩, .string ⟨w2.toArray⟩]] w _
  have HH := hid (And.intro hr (And.intro hb (And.intro hc0 hA)))
  clear hr hc0 hA hb
  go_enter Try.func89, Try.ntmps89
  go_wp2_with fail
  obtain ⟨hr, hb, hc0, hA⟩ := HH.out
  refine (hr _).mono ?_
  rintro e w1 ⟨rfl, hc1⟩
  obtain ⟨a0, a1, a2, a3, a4, a5, a6, a7, a8⟩ := cred_at_blk (blk_keep hA hc1 id)
  simp only [Nat.zero_add] at a0 a1 a2 a3 a4 a5 a6 a7 a8
  have HH2 := hid (And.intro hb (hc0.trans hc1 (fun _ _ h => h)))
  clear HH hr hb hc0 hA hc1
  go_wp2_with fail
  refine (HH2.out.1 _).mono ?_
  rintro e w3 ⟨rfl, hc3⟩
  have HC := hid (HH2.out.2.trans hc3 (fun _ _ h => h))
  clear HH2 hc3
  generalize credEnc _ = u at *
  go_wp2
  go_ret
  exact ⟨by rw [hB.out]; rfl, HC.out⟩

set_option maxRecDepth 100000 in
theorem ccompare_ref (a b : CredB) (w : World) (ha : credShort a 1048576) (hb : credShort b 1048576) :
  Calls Try.prog 47 #[credV a, credV b] w fun e w' => e = .returned (.int .i64 (cmpC a b)) ∧ Chg (fun _ => False) w w' := by
 have hc0 : Chg (fun _ => False) w ((w.alloc (.cells (credBox a) 36)).alloc (.cells (credBox b) 36)) := ((Chg.refl _ w).alloc _).alloc _
 have hA := blk_keep (heap_alloc_new w (.cells (credBox a) 36)) ((Chg.refl (fun _ => False) _).alloc (.cells (credBox b) 36)) id
 have hB := heap_alloc_new (w.alloc (.cells (credBox a) 36)) (.cells (credBox b) 36)
 rw [show (w.alloc (.cells (credBox a) 36)).heap.size = w.heap.size + 1 by simp] at hB
 have hx := fun w1 => cbytesof_ref a w1 ha
 have hy := fun w1 => cbytesof_ref b w1 hb
 have hD : Hid (cmpC a b = if ltS (credBytes a) (credBytes b) then -1 else if ltS (credBytes b) (credBytes a) then 1 else 0) := hid rfl
 generalize credBytes a = x at *
 generalize credBytes b = y at *
 obtain ⟨k, ⟨ho, hw⟩, who, ⟨bo, bw⟩, ⟨co, cw⟩, w2⟩ := a
 obtain ⟨k', ⟨ho', hw'⟩, who', ⟨bo', bw'⟩, ⟨co', cw'⟩, w2'⟩ := b
 clear ha hb
 show Calls Try.prog 47 #[.agg #[.int .i64 k, .string ⟨ho.toArray⟩, .string ⟨hw.toArray⟩, .string ⟨who.toArray⟩, .string ⟨bo.toArray⟩, .string ⟨bw.toArray⟩, .string ⟨co.toArray⟩, .string ⟨cw.toArray⟩, .string ⟨w2.toArray⟩], .agg #[.int .i64 k', .string ⟨ho'.toArray⟩, .string ⟨hw'.toArray⟩, .string ⟨who'.toArray⟩, .string ⟨bo'.toArray⟩, .string ⟨bw'.toArray⟩, .string ⟨co'.toArray⟩, .string ⟨cw'.toArray⟩, .string ⟨w2'.toArray⟩]] w _
 have HH := hid (And.intro hx (And.intro hy (And.intro hc0 (And.intro hA hB))))
 clear hx hy hc0 hA hB
 go_enter Try.func47, Try.ntmps47
 go_wp2_with fail
 obtain ⟨hx, hy, hc0, hA, hB⟩ := HH.out
 refine (hx _).mono ?_
 rintro e w3 ⟨rfl, hc1⟩
 obtain ⟨b0, b1, b2, b3, b4, b5, b6, b7, b8⟩ := cred_at_blk (blk_keep hB hc1 id)
 simp only [Nat.zero_add] at b0 b1 b2 b3 b4 b5 b6 b7 b8
 have H2 := hid (And.intro hy (hc0.trans hc1 (fun _ _ h => h)))
 clear HH hx hy hc0 hA hB hc1
 go_wp2_with fail
 refine (H2.out.1 _).mono ?_
 rintro e w4 ⟨rfl, hc4⟩
 have HC := hid (H2.out.2.trans hc4 (fun _ _ h => h))
 clear H2 hc4 b0 b1 b2 b3 b4 b5 b6 b7 b8
 cases h1 : Op.bytesLess x y with
 | true =>
  have hh : Hid (cmpC ⟨k, (ho, hw), who, (bo, bw), (co, cw), w2⟩ ⟨k', (ho', hw'), who', (bo', bw'), (co', cw'), w2'⟩ = -1) := hid (by rw [hD.out, show ltS x y = true from h1]; rfl)
  go_wp2
  go_ret
  exact ⟨by rw [hh.out]; rfl, HC.out⟩
 | false =>
  cases h2 : (x == y) with
  | false =>
   have hne : x ≠ y := by simpa using h2
   have h3 : ltS y x = true := by
    rcases ltS_ord.tri x y with q | q | q
    ·rw [show ltS x y = false from h1] at q; cases q
    ·exact absurd q hne
    ·exact q
   have hh : Hid (cmpC ⟨k, (ho, hw), who, (bo, bw), (co, cw), w2⟩ ⟨k', (ho', hw'), who', (bo', bw'), (co', cw'), w2'⟩ = 1) := hid (by rw [hD.out, show ltS x y = false from h1, h3]; rfl)
   clear h3 hne
   go_wp2
   go_ret
   exact ⟨by rw [hh.out]; rfl, HC.out⟩
  | true =>
   have he : x = y := by simpa using h2
   have hh : Hid (cmpC ⟨k, (ho, hw), who, (bo, bw), (co, cw), w2⟩ ⟨k', (ho', hw'), who', (bo', bw'), (co', cw'), w2'⟩ = 0) := hid (by rw [hD.out, ← he, ltS_ord.irrefl]; rfl)
   clear he
   go_wp2
   go_ret
   exact ⟨by rw [hh.out]; rfl, HC.out⟩
end Go.Proofs.Ytjaplnainlbldaa
