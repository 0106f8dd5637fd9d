/- A fact is added to those that are known. -/
import Derived.Test.YtjaplnainlbldaaSc14
import Derived.Test.YtjaplnainlbldaaSc44
namespace Go.Proofs.Ytjaplnainlbldaa
open Go.RowKit Go.Maps

def AddPost (T : Nat → Option KTag) (g : Nat) (F : List FactB) (f : FactB) (w : World) (e : Ending) (w' : World) : Prop :=
  e = .returned (.tuple #[]) ∧ ∃ T', KS T' w' g (addK F f) ∧ ExtT T T' w w' ∧ Chg (fun b => T b ≠ none) w w'

theorem addPost_done {T T3 : Nat → Option KTag} {g : Nat} {F : List FactB} {f : FactB} {w1 w3 w4 w' : World} {v3 : Value} {m1 m2 : Nat} {Sl : RoleB → Option Value} (hn : F.Nodup ∧ (∀ x ∈ F, factShort x 9223372036854775807) ∧ f ∉ F ∧ factShort f 9223372036854775807) (hx : ExtT T T3 w1 w3) (hc : Chg (fun b => T b ≠ none) w1 w3) (ha : RowA T3 w3 g F f v3 m1 m2 Sl w4) (he : EntF3 T3 w4 g (F ++ [f]) w') : AddPost T g F f w1 (.returned (.tuple #[])) w' := by
  obtain ⟨n1, n2, n3, n4⟩ := hn
  obtain ⟨_, h1⟩ := ha
  obtain ⟨T', v, m1', m2', Sl', h2, h3, h4⟩ := he
  have hs3 := hc.size
  have hs4 := h1.size
  have e : addK F f = F ++ [f] := if_neg n3
  refine ⟨rfl, T', ⟨⟨v, m1', m2', Sl', by rw [e]; exact h2⟩, h3.lo, addK_nd n1 f, fun x hx => ?_⟩, hx.trans (h3.down hs4) hs3, ?_⟩
  · rcases addK_mem.1 hx with h | h
    · exact n2 x h
    · rw [h]; exact n4
  · refine (hc.trans h1 (fun i hi h => ?_)).trans h4 (fun i hi h => ?_)
    · rcases hx.new i h with h | h
      · exact h
      · omega
    · rcases hx.new i h with h | h
      · exact h
      · omega

def ka3 (T : Nat → Option KTag) (g A : Nat) (f : FactB) (v : Value) : List (SpecR (Chg (fun b => T b ≠ none))) := [.eq (.pointer (some ⟨g, 0, none⟩)), .any, .any, .eq (.pointer (some ⟨A, 0, none⟩)), .any, .any, .any, .any, .any, .any, .any, .any, .any, .eq (.pointer (some ⟨g, 0, none⟩)), .eq (.pointer (some ⟨g, 0, none⟩)), .eq (.pointer (some ⟨g, 0, none⟩)), .eq (.pointer (some ⟨g, 0, none⟩)), .eq (v), .eq (.agg #[.string ⟨f.1.1.toArray⟩, .string ⟨f.1.2.toArray⟩, .string ⟨f.2.toArray⟩]), .exF T f, .any, .eq (.pointer (some ⟨g, 0, none⟩)), .eq (.pointer (some ⟨g, 0, none⟩)), .any, .any, .any, .any, .any, .any, .any, .any, .any, .any, .any, .any, .any, .any, .any, .any, .any, .any]
def ka5 (T3 : Nat → Option KTag) (g A : Nat) (f : FactB) (n m2 : Nat) (u : Value) (st : Nat) : List (SpecR (Chg (fun b => T3 b ≠ none))) := [.eq (.pointer (some ⟨g, 0, none⟩)), .any, .any, .eq (.pointer (some ⟨A, 0, none⟩)), .eq (.int .i64 (n : Nat)), .any, .any, .any, .any, .any, .any, .any, .any, .any, .any, .any, .any, .any, .any, .any, .any, .any, .any, .any, .any, .any, .any, .any, .any, .eq (.pointer (some ⟨g, 0, none⟩)), .eq (.pointer (some ⟨g, 0, none⟩)), .eq (.pointer (some ⟨g, 2, none⟩)), .eq (.map (some m2)), .eq (.pointer (some ⟨A, 0, none⟩)), .eq (.agg #[.string ⟨f.1.1.toArray⟩, .string ⟨f.1.2.toArray⟩]), .eq (u), .eq (.int .i64 (n : Nat)), .exI T3 (n : Nat), .eq (.tuple #[u, goInt st]), .any, .eq (goInt st)]

set_option maxRecDepth 100000 in
set_option maxHeartbeats 2000000 in
theorem kw_add_yes {T : Nat → Option KTag} (g : Nat) (F : List FactB) (f : FactB) (w : World) (h : KS T w g F) (hf : f ∈ F) : Calls Try.prog 52 #[.pointer (some ⟨g, 0, none⟩), .agg #[.string ⟨f.1.1.toArray⟩, .string ⟨f.1.2.toArray⟩, .string ⟨f.2.toArray⟩]] w (AddPost T g F f w) := by
  have hc1 : Chg (fun _ => False) w (w.alloc (.cells #[.string ⟨f.1.1.toArray⟩, .string ⟨f.1.2.toArray⟩, .string ⟨f.2.toArray⟩] 26)) := (Chg.refl _ w).alloc _
  have hb1 : (w.alloc (.cells #[.string ⟨f.1.1.toArray⟩, .string ⟨f.1.2.toArray⟩, .string ⟨f.2.toArray⟩] 26)).heap[w.heap.size]? = some (.cells #[.string ⟨f.1.1.toArray⟩, .string ⟨f.1.2.toArray⟩, .string ⟨f.2.toArray⟩] 26 (0, 0)) := heap_alloc_new w _
  have hh := kw_has g F f _ (h.quiet hc1) (h.sh f hf)
  rw [decide_eq_true hf] at hh
  have HH := hid hh
  have HP : Hid (∀ w', Chg (fun _ => False) (w.alloc (.cells #[.string ⟨f.1.1.toArray⟩, .string ⟨f.1.2.toArray⟩, .string ⟨f.2.toArray⟩] 26)) w' → AddPost T g F f w (.returned (.tuple #[])) w') := hid (fun w' hc => by
    have hcc := hc1.trans hc (fun _ _ h => h)
    exact ⟨rfl, T, by rw [addK, if_pos hf]; exact h.quiet hcc, ExtT.refl h.lo hcc.size, hcc.none9⟩)
  have x1 := cell_blk hb1 0
  have x2 := cell_blk hb1 1
  have x3 := cell_blk hb1 2
  simp only [List.getElem?_toArray, List.getElem?_cons_zero, List.getElem?_cons_succ] at x1 x2 x3
  clear h hf hc1 hb1 hh
  go_enter Try.func52, Try.ntmps52
  go_wp2_with fail
  refine HH.out.mono ?_
  rintro e w' ⟨rfl, hc⟩
  have HQ := hid (HP.out w' hc)
  clear HH HP hc x1 x2 x3
  go_wp2
  go_end0
  exact HQ.out

set_option maxRecDepth 100000 in
set_option maxHeartbeats 4000000 in
theorem kw_add_no {T : Nat → Option KTag} (g : Nat) (F : List FactB) (f : FactB) (w0 : World) (h : KS T w0 g F) (hn : F.length < 33554432) (hf : factShort f 9223372036854775807) (hno : f ∉ F) : Calls Try.prog 52 #[.pointer (some ⟨g, 0, none⟩), .agg #[.string ⟨f.1.1.toArray⟩, .string ⟨f.1.2.toArray⟩, .string ⟨f.2.toArray⟩]] w0 (AddPost T g F f w0) := by
  have hc1 : Chg (fun _ => False) w0 (w0.alloc (.cells #[.string ⟨f.1.1.toArray⟩, .string ⟨f.1.2.toArray⟩, .string ⟨f.2.toArray⟩] 26)) := (Chg.refl _ w0).alloc _
  have hb1 : (w0.alloc (.cells #[.string ⟨f.1.1.toArray⟩, .string ⟨f.1.2.toArray⟩, .string ⟨f.2.toArray⟩] 26)).heap[w0.heap.size]? = some (.cells #[.string ⟨f.1.1.toArray⟩, .string ⟨f.1.2.toArray⟩, .string ⟨f.2.toArray⟩] 26 (0, 0)) := heap_alloc_new w0 _
  have h1 := h.quiet hc1
  have hh := kw_has g F f _ h1 hf
  rw [decide_eq_false hno] at hh
  have HTA : Hid (T w0.heap.size = none) := hid (tag_new h.lo (Nat.le_refl _))
  have HND := hid (And.intro h.nd (And.intro h.sh (And.intro hno hf)))
  have HLEN := hid hn
  have HSH := hid hf
  have HNO := hid hno
  have HH := hid hh
  have HK := hid h1
  have HC := hid hc1
  have HBX := hid hb1
  have HFIN : Hid (∀ w1 e w', Chg (fun _ => False) w0 w1 → AddPost T g F f w1 e w' → AddPost T g F f w0 e w') := hid (fun w1 e w' hc h => by
    obtain ⟨h1, T', h2, h3, h4⟩ := h
    exact ⟨h1, T', h2, h3.down hc.size, hc.none9.trans h4 (fun _ _ h => h)⟩)
  have x1 := cell_blk hb1 0
  have x2 := cell_blk hb1 1
  have x3 := cell_blk hb1 2
  simp only [List.getElem?_toArray, List.getElem?_cons_zero, List.getElem?_cons_succ] at x1 x2 x3
  clear h hno hf hc1 hb1 h1 hh hn
  go_enter Try.func52, Try.ntmps52
  go_wp2_with fail
  refine HH.out.mono ?_
  rintro e w1 ⟨rfl, hc⟩
  have hk := HK.out.quiet hc
  have hbx := blk_keep HBX.out hc id
  have HC1 := hid (HC.out.trans hc (fun _ _ h => h))
  clear HH HK HBX HC hc x1 x2 x3
  generalize w0.heap.size = A at *
  obtain ⟨v, m1, m2, Sl, hp⟩ := hk.ex
  obtain ⟨ao, cap, rfl⟩ := hp.row.shape
  obtain ⟨c0, _, _⟩ := (show BaseK g A f (.slice ao F.length cap) m1 m2 w1 from ⟨hp.blk, hbx⟩).parts
  have HB := hid (show BaseK g A f (.slice ao F.length cap) m1 m2 w1 from ⟨hp.blk, hbx⟩)
  have HLO := hid hk.lo
  have HN : Hid (¬ (Value.slice ao F.length cap).ownBlock = some g ∧ ¬ (Value.slice ao F.length cap).ownBlock = some A) := hid ⟨(fun e => by have := hp.trow _ e; rw [hp.tg] at this; cases this), (fun e => by have := hp.trow _ e; rw [HTA.out] at this; cases this)⟩
  have HP := hid hp
  have HDN : Hid (∀ w', AddPost T g F f w1 (.returned (.tuple #[])) w' → AddPost T g F f w0 (.returned (.tuple #[])) w') := hid (fun w' h => HFIN.out w1 _ w' HC1.out h)
  clear hk hbx hp HFIN HC1
  go_wp2_with fail
  obtain ⟨n, hn⟩ : ∃ n, F.length = n := ⟨_, rfl⟩
  have HNN := hid hn
  obtain ⟨v, hv⟩ : ∃ v, Value.slice ao F.length cap = v := ⟨_, rfl⟩
  rw [hv] at HB HN HP
  simp only [hn]
  clear hn hv c0
  refine wp_region_stateAD (Chg (fun b => T b ≠ none)) (Duo 7 10 20 (fun w => Chg (fun _ => False) w1 w) (RowF1 w1 v F f) (RowF2 T w1 g F f m1 m2 Sl)) (specAtR (ka3 T g A f v)) [13, 14, 15, 16, 17, 18, 19, 20, 21, 22] [0, 3] (by kernel_rfl) (by kernel_rfl) (Duo.start (show (20 : Nat) < 41 by decide) ((Chg.refl _ _).drew)) (fun t v w w' hc h => specAtR_st _ t v w w' hc h) (by rfl) (by kernel_rfl) ?start3 ?obs3 ?fin3
  case start3 =>
    simp only [List.forall_mem_cons]; exact ⟨⟨_, rfl, rfl⟩, ⟨_, rfl, rfl⟩, fun _ h => by cases h⟩
  case obs3 =>
    clear HND
    refine ObsAD.cons none (by kernel_rfl) ?_ ?_
    · refine ObAD.plain fun L a w hi he hD hW hk K k => ?_
      obtain ⟨_, e0, rfl⟩ := hk 0 (by decide)
      clear hk
      have hS := hid (fun (v : Value) (w2 : World) (hc : Chg (fun _ => False) w w2) => hW.step (j := 0) (d := (some 13)) v (by decide) hc (fun _ _ h c => h.trans c (fun _ _ h => h)) (fun _ _ _ h c => h.quiet c) (fun _ _ h c => h.quiet c))
      clear hi he hW hD
      go_simp
      exact k _ _ (Chg.refl _ _) (hS.out _ _ (Chg.refl _ _)) rfl
    refine ObsAD.cons none (by kernel_rfl) ?_ ?_
    · refine ObAD.plain fun L a w hi he hD hW hk K k => ?_
      obtain ⟨_, e0, rfl⟩ := hk 0 (by decide)
      clear hk
      have hS := hid (fun (v : Value) (w2 : World) (hc : Chg (fun _ => False) w w2) => hW.step (j := 1) (d := (some 14)) v (by decide) hc (fun _ _ h c => h.trans c (fun _ _ h => h)) (fun _ _ _ h c => h.quiet c) (fun _ _ h c => h.quiet c))
      clear hi he hW hD
      go_simp
      exact k _ _ (Chg.refl _ _) (hS.out _ _ (Chg.refl _ _)) rfl
    refine ObsAD.cons none (by kernel_rfl) ?_ ?_
    · refine ObAD.plain fun L a w hi he hD hW hk K k => ?_
      obtain ⟨_, e14, rfl⟩ := hk 14 (by decide)
      clear hk
      have hS := hid (fun (v : Value) (w2 : World) (hc : Chg (fun _ => False) w w2) => hW.step (j := 2) (d := (some 15)) v (by decide) hc (fun _ _ h c => h.trans c (fun _ _ h => h)) (fun _ _ _ h c => h.quiet c) (fun _ _ h c => h.quiet c))
      clear hi he hW hD
      go_simp
      exact k _ _ (Chg.refl _ _) (hS.out _ _ (Chg.refl _ _)) rfl
    refine ObsAD.cons none (by kernel_rfl) ?_ ?_
    · refine ObAD.plain fun L a w hi he hD hW hk K k => ?_
      obtain ⟨_, e15, rfl⟩ := hk 15 (by decide)
      clear hk
      have hS := hid (fun (v : Value) (w2 : World) (hc : Chg (fun _ => False) w w2) => hW.step (j := 3) (d := (some 16)) v (by decide) hc (fun _ _ h c => h.trans c (fun _ _ h => h)) (fun _ _ _ h c => h.quiet c) (fun _ _ h c => h.quiet c))
      clear hi he hW hD
      go_simp
      exact k _ _ (Chg.refl _ _) (hS.out _ _ (Chg.refl _ _)) rfl
    refine ObsAD.cons none (by kernel_rfl) ?_ ?_
    · refine ObAD.plain fun L a w hi he hD hW hk K k => ?_
      obtain ⟨_, e16, rfl⟩ := hk 16 (by decide)
      clear hk
      have hB := hW.early (by decide) hi (B := BaseK g A f v m1 m2) (fun w h => HB.out.keep h id id) (fun u w h => HB.out.keep h.2.1 HN.out.1 HN.out.2)
      obtain ⟨z0, _, _⟩ := hB.parts
      have hS := hid (fun (v : Value) (w2 : World) (hc : Chg (fun _ => False) w w2) => hW.step (j := 4) (d := (some 17)) v (by decide) hc (fun _ _ h c => h.trans c (fun _ _ h => h)) (fun _ _ _ h c => h.quiet c) (fun _ _ h c => h.quiet c))
      clear hi he hW hD
      go_simp
      exact k _ _ (Chg.refl _ _) (hS.out _ _ (Chg.refl _ _)) rfl
    refine ObsAD.cons none (by kernel_rfl) ?_ ?_
    · refine ObAD.plain fun L a w hi he hD hW hk K k => ?_
      obtain ⟨_, e3, rfl⟩ := hk 3 (by decide)
      clear hk
      have hB := hW.early (by decide) hi (B := BaseK g A f v m1 m2) (fun w h => HB.out.keep h id id) (fun u w h => HB.out.keep h.2.1 HN.out.1 HN.out.2)
      obtain ⟨z0, z1, z2⟩ := hB.fact
      have hS := hid (fun (v : Value) (w2 : World) (hc : Chg (fun _ => False) w w2) => hW.step (j := 5) (d := (some 18)) v (by decide) hc (fun _ _ h c => h.trans c (fun _ _ h => h)) (fun _ _ _ h c => h.quiet c) (fun _ _ h c => h.quiet c))
      clear hi he hW hD
      go_simp
      exact k _ _ (Chg.refl _ _) (hS.out _ _ (Chg.refl _ _)) rfl
    refine ObsAD.cons none (by kernel_rfl) ?_ ?_
    · refine ObAD.plain fun L a w hi he hD hW hk K k => ?_
      obtain ⟨_, e18, rfl⟩ := hk 18 (by decide)
      clear hk
      have hsz := hW.early (by decide) hi (B := fun w => w1.heap.size ≤ w.heap.size) (fun w h => h.size) (fun u w h => h.2.1.size)
      have hS := hid (fun (v : Value) (w2 : World) (hc : Chg (fun _ => False) w w2) => hW.step (j := 6) (d := (some 19)) v (by decide) hc (fun _ _ h c => h.trans c (fun _ _ h => h)) (fun _ _ _ h c => h.quiet c) (fun _ _ h c => h.quiet c))
      clear hi he hW hD
      go_simp
      exact k _ _ (Chg.none9 ((Chg.refl _ _).alloc _)) (hS.out _ _ ((Chg.refl _ _).alloc _)) ⟨_, rfl, heap_alloc_new _ _, tag_new HLO.out hsz⟩
    refine ObsAD.cons none (by kernel_rfl) ?_ ?_
    · refine ObAD.plain fun L a w hi he hD hW hk K k => ?_
      obtain ⟨_, e17, rfl⟩ := hk 17 (by decide)
      obtain ⟨_, e19, f19⟩ := hk 19 (by decide)
      clear hk
      obtain ⟨b, rfl, hb, hb2⟩ := f19
      have h0 := hW.p0 hi
      obtain ⟨v2, w2, hr, hF, hS⟩ := RowF1.of HP.out (Nat.le_of_lt HLEN.out) h0 hb 33
      clear he hD
      refine ob_appendK 33 rfl e17 e19 hr ?_
      exact k _ _ hS (hW.first (by decide) hi hF) trivial
    refine ObsAD.cons none (by kernel_rfl) ?_ ?_
    · refine ObAD.plain fun L a w hi he hD hW hk K k => ?_
      obtain ⟨_, e13, rfl⟩ := hk 13 (by decide)
      clear hk
      have hS := hid (fun (v : Value) (w2 : World) (hc : Chg (fun _ => False) w w2) => hW.step (j := 8) (d := (some 21)) v (by decide) hc (fun _ _ h c => h.trans c (fun _ _ h => h)) (fun _ _ _ h c => h.quiet c) (fun _ _ h c => h.quiet c))
      clear hi he hW hD
      go_simp
      exact k _ _ (Chg.refl _ _) (hS.out _ _ (Chg.refl _ _)) rfl
    refine ObsAD.cons none (by kernel_rfl) ?_ ?_
    · refine ObAD.plain fun L a w hi he hD hW hk K k => ?_
      obtain ⟨_, e21, rfl⟩ := hk 21 (by decide)
      clear hk
      have hS := hid (fun (v : Value) (w2 : World) (hc : Chg (fun _ => False) w w2) => hW.step (j := 9) (d := (some 22)) v (by decide) hc (fun _ _ h c => h.trans c (fun _ _ h => h)) (fun _ _ _ h c => h.quiet c) (fun _ _ h c => h.quiet c))
      clear hi he hW hD
      go_simp
      exact k _ _ (Chg.refl _ _) (hS.out _ _ (Chg.refl _ _)) rfl
    refine ObsAD.cons none (by kernel_rfl) ?_ ?_
    · refine ObAD.plain fun L a w hi he hD hW hk K k => ?_
      obtain ⟨_, e22, rfl⟩ := hk 22 (by decide)
      clear hk
      have hall := behind_all (n := 10) hD rfl he (by kernel_rfl)
      obtain ⟨v2, e20, hF⟩ := hW.p1 (hall 7 (by decide)) hi
      obtain ⟨ao2, cap2, hv2⟩ := hF.1.shape
      obtain ⟨q, hq⟩ : ∃ q : Nat, q = (F ++ [f]).length := ⟨_, rfl⟩
      rw [← hq] at hv2
      clear hq
      subst hv2
      obtain ⟨hb, hF2, hS⟩ := hF.store HP.out HLO.out
      have zz := cell_blk hb 0
      have zf := froz_blk hb 0
      simp only [List.getElem?_toArray, List.getElem?_cons_zero] at zz
      have HS := hid (And.intro hW (And.intro hall (And.intro hF2 hS)))
      clear hb hF hF2 hS hall he hD hW hi
      go_simp
      exact k undef _ HS.out.2.2.2 (HS.out.1.second (by decide) HS.out.2.1 HS.out.2.2.1) trivial
    exact ObsAD.nil
  case fin3 =>
    intro L vals w3 hL hWL hv
    obtain ⟨T3, v3, hp3, hx3, hc3⟩ := hWL.p2 (hL 10 (by decide))
    clear hL hWL hv
    simp only [putAll, List.setIfInBounds_toArray, List.set_cons_zero, List.set_cons_succ]
    have HDONE4 : Hid (∀ w4 w', RowA T3 w3 g F f v3 m1 m2 Sl w4 → EntF3 T3 w4 g (F ++ [f]) w' → AddPost T g F f w1 (.returned (.tuple #[])) w') := hid (fun w4 w' ha he => addPost_done HND.out hx3 hc3 ha he)
    have HTA3 : Hid (T3 A = none) := hid (by
      cases e : T3 A with
      | none => rfl
      | some x =>
        rcases hx3.new A (by rw [e]; simp) with h | h
        · exact absurd HTA.out h
        · have := lt_blk HB.out.2; omega)
    have hba := blk_keep HB.out.2 hc3 (fun h => h HTA.out)
    clear HB HLO HN HP HTA
    have HB := hid (show BaseK g A f v3 m1 m2 w3 from ⟨hp3.blk, hba⟩)
    have HLO := hid hx3.lo
    have HP := hid hp3
    clear hp3 hx3 hc3 hba
    go_wp2_with fail
    refine wp_region_stateD (Chg (fun b => T3 b ≠ none)) (LastW 6 6 w3 (RowA T3 w3 g F f v3 m1 m2 Sl)) (specAtR [.eq (.pointer (some ⟨g, 0, none⟩)), .any, .any, .eq (.pointer (some ⟨A, 0, none⟩)), .eq (.int .i64 (n : Nat)), .any, .any, .any, .any, .any, .any, .any, .any, .any, .any, .any, .any, .any, .any, .any, .any, .any, .any, .eq (.pointer (some ⟨g, 0, none⟩)), .eq (.pointer (some ⟨g, 0, none⟩)), .eq (.pointer (some ⟨g, 1, none⟩)), .eq (.map (some m1)), .eq (.agg #[.string ⟨f.1.1.toArray⟩, .string ⟨f.1.2.toArray⟩, .string ⟨f.2.toArray⟩]), .eq (.int .i64 (n : Nat)), .any, .any, .any, .any, .any, .any, .any, .any, .any, .any, .any, .any]) [23, 24, 25, 26, 27, 28] [0, 3, 4] (by kernel_rfl) (by kernel_rfl) (LastW.start _ _ _ _ (Chg.refl _ _).drew) (fun t v w w' hc h => specAtR_st _ t v w w' hc h) (by rfl) (by kernel_rfl) ?start4 ?obs4 ?fin4
    case start4 =>
      simp only [List.forall_mem_cons]; exact ⟨⟨_, rfl, rfl⟩, ⟨_, rfl, rfl⟩, ⟨_, rfl, rfl⟩, fun _ h => by cases h⟩
    case obs4 =>
      clear HDONE4
      refine ObsD.cons none (by kernel_rfl) ?_ ?_
      · refine ObD.plain fun L a w hi he hD hW hk K k => ?_
        obtain ⟨_, e0, rfl⟩ := hk 0 (by decide)
        clear hk
        have hR := hW.early (by decide) hi
        have hS := hW.step (by decide) hi (Chg.refl _ _)
        clear hi he hW hD
        go_simp
        exact k _ _ (Chg.refl _ _) hS rfl
      refine ObsD.cons none (by kernel_rfl) ?_ ?_
      · refine ObD.plain fun L a w hi he hD hW hk K k => ?_
        obtain ⟨_, e23, rfl⟩ := hk 23 (by decide)
        clear hk
        have hR := hW.early (by decide) hi
        have hS := hW.step (by decide) hi (Chg.refl _ _)
        clear hi he hW hD
        go_simp
        exact k _ _ (Chg.refl _ _) hS rfl
      refine ObsD.cons none (by kernel_rfl) ?_ ?_
      · refine ObD.plain fun L a w hi he hD hW hk K k => ?_
        obtain ⟨_, e24, rfl⟩ := hk 24 (by decide)
        clear hk
        have hR := hW.early (by decide) hi
        have hS := hW.step (by decide) hi (Chg.refl _ _)
        clear hi he hW hD
        go_simp
        exact k _ _ (Chg.refl _ _) hS rfl
      refine ObsD.cons none (by kernel_rfl) ?_ ?_
      · refine ObD.plain fun L a w hi he hD hW hk K k => ?_
        obtain ⟨_, e25, rfl⟩ := hk 25 (by decide)
        clear hk
        have hR := hW.early (by decide) hi
        have hS := hW.step (by decide) hi (Chg.refl _ _)
        have hB := HB.out.keep hR id id
        obtain ⟨_, z1, _⟩ := hB.parts
        clear hi he hW hD
        go_simp
        exact k _ _ (Chg.refl _ _) hS rfl
      refine ObsD.cons none (by kernel_rfl) ?_ ?_
      · refine ObD.plain fun L a w hi he hD hW hk K k => ?_
        obtain ⟨_, e3, rfl⟩ := hk 3 (by decide)
        clear hk
        have hR := hW.early (by decide) hi
        have hS := hW.step (by decide) hi (Chg.refl _ _)
        have hB := HB.out.keep hR id id
        obtain ⟨z0, z1, z2⟩ := hB.fact
        clear hi he hW hD
        go_simp
        exact k _ _ (Chg.refl _ _) hS rfl
      refine ObsD.cons none (by kernel_rfl) ?_ ?_
      · refine ObD.plain fun L a w hi he hD hW hk K k => ?_
        obtain ⟨_, e4, rfl⟩ := hk 4 (by decide)
        clear hk
        have hR := hW.early (by decide) hi
        have hS := hW.step (by decide) hi (Chg.refl _ _)
        clear hi he hW hD
        go_simp
        exact k _ _ (Chg.refl _ _) hS rfl
      refine ObsD.cons none (by kernel_rfl) ?_ ?_
      · refine ObD.plain fun L a w hi he hD hW hk K k => ?_
        obtain ⟨_, e26, rfl⟩ := hk 26 (by decide)
        obtain ⟨_, e27, rfl⟩ := hk 27 (by decide)
        obtain ⟨_, e28, rfl⟩ := hk 28 (by decide)
        clear hk
        have hR := hW.pre hi
        have hall := behind_all (n := 6) hD rfl he (by kernel_rfl)
        clear he hD
        obtain ⟨w2, hr, hk2, hc2, hS⟩ := HP.out.setAt HLEN.out HSH.out HNO.out hR
        rw [HNN.out] at hr
        have HS := hid (And.intro (hW.last hall (show RowA T3 w3 g F f v3 m1 m2 Sl w2 from ⟨hk2, hc2⟩)) hS)
        clear hi hW hall hR hk2 hc2 hS
        go_simp
        exact k undef _ HS.out.2 HS.out.1 trivial
      exact ObsD.nil
    case fin4 =>
      intro L vals w4 hL hWL hv
      have HEND := hid (hWL.post (hL 6 (by decide)))
      clear hL hWL
      simp only [putAll, List.setIfInBounds_toArray, List.set_cons_zero, List.set_cons_succ]
      obtain ⟨hp, hc⟩ := HEND.out
      have HDONE := hid (fun w' h => HDONE4.out w4 w' ⟨hp, hc⟩ h)
      have HTA := HTA3
      have hba := blk_keep HB.out.2 hc (fun h => h HTA.out)
      have hlo4 : ∀ b, T3 b ≠ none → b < w4.heap.size := fun b hb => Nat.lt_of_lt_of_le (HLO.out b hb) hc.size
      clear hv HB HP HLO HEND HDONE4
      obtain ⟨u, st, o1, q1, q2, q3, q4, q5⟩ := hp.entry hlo4 HLEN.out ⟨HSH.out.1, HSH.out.2.1⟩
      have HB := hid (show BaseK g A f v3 m1 m2 w4 from ⟨hp.blk, hba⟩)
      have HN : Hid (g ≠ m2 ∧ A ≠ m2 ∧ ¬ (g = m2 ∨ u.ownBlock = some g) ∧ ¬ (A = m2 ∨ u.ownBlock = some A)) := hid (by
        have g1 : g ≠ m2 := fun e => by have := hp.tg; rw [e, hp.t2] at this; cases this
        have g2 : ¬ u.ownBlock = some g := fun e => by have := q2 _ e; rw [hp.tg] at this; cases this
        have a1 : A ≠ m2 := fun e => by have := HTA.out; rw [e, hp.t2] at this; cases this
        have a2 : ¬ u.ownBlock = some A := fun e => by have := q2 _ e; rw [HTA.out] at this; cases this
        exact ⟨g1, a1, fun e => e.elim g1 g2, fun e => e.elim a1 a2⟩)
      have HLO := hid hlo4
      have HP := hid hp
      have HE1 := hid q3
      have HE2 := hid q4
      have HE3 := hid q5
      clear hp hc q1 q2 q3 q4 q5 hba hlo4
      go_wp2_with fail
      refine wp_region_stateAD (Chg (fun b => T3 b ≠ none)) (Trio 8 10 12 39 (fun w => Chg (fun _ => False) w4 w) (EntF1 w4 m2 o1) (EntF2 w4 m2 o1 u (placesK F f.1 ++ [F.length])) (EntF3 T3 w4 g (F ++ [f]))) (specAtR (ka5 T3 g A f n m2 u st)) [29, 30, 31, 32, 33, 34, 36, 37, 38, 35, 39, 40] [0, 3, 4] (by kernel_rfl) (by kernel_rfl) (Trio.start (show (39 : Nat) < 41 by decide) ((Chg.refl _ _).drew)) (fun t v w w' hc h => specAtR_st _ t v w w' hc h) (by rfl) (by kernel_rfl) ?start5 ?obs5 ?fin5
      case start5 =>
        simp only [List.forall_mem_cons]; exact ⟨⟨_, rfl, rfl⟩, ⟨_, rfl, rfl⟩, ⟨_, rfl, rfl⟩, fun _ h => by cases h⟩
      case obs5 =>
        clear HDONE
        refine ObsAD.cons none (by kernel_rfl) ?_ ?_
        · refine ObAD.plain fun L a w hi he hD hW hk K k => ?_
          obtain ⟨_, e0, rfl⟩ := hk 0 (by decide)
          clear hk
          have hS := hid (fun (v : Value) (w2 : World) (hc : Chg (fun _ => False) w w2) => hW.step (j := 0) (d := (some 29)) v (by decide) hc (fun _ _ h c => h.trans c (fun _ _ h => h)) (fun _ _ h c => h.quiet c) (fun _ _ _ h c => h.quiet c) (fun _ _ h c => h.quiet c))
          clear hi he hW hD
          go_simp
          exact k _ _ (Chg.refl _ _) (hS.out _ _ (Chg.refl _ _)) rfl
        refine ObsAD.cons none (by kernel_rfl) ?_ ?_
        · refine ObAD.plain fun L a w hi he hD hW hk K k => ?_
          obtain ⟨_, e29, rfl⟩ := hk 29 (by decide)
          clear hk
          have hS := hid (fun (v : Value) (w2 : World) (hc : Chg (fun _ => False) w w2) => hW.step (j := 1) (d := (some 30)) v (by decide) hc (fun _ _ h c => h.trans c (fun _ _ h => h)) (fun _ _ h c => h.quiet c) (fun _ _ _ h c => h.quiet c) (fun _ _ h c => h.quiet c))
          clear hi he hW hD
          go_simp
          exact k _ _ (Chg.refl _ _) (hS.out _ _ (Chg.refl _ _)) rfl
        refine ObsAD.cons none (by kernel_rfl) ?_ ?_
        · refine ObAD.plain fun L a w hi he hD hW hk K k => ?_
          obtain ⟨_, e30, rfl⟩ := hk 30 (by decide)
          clear hk
          have hS := hid (fun (v : Value) (w2 : World) (hc : Chg (fun _ => False) w w2) => hW.step (j := 2) (d := (some 31)) v (by decide) hc (fun _ _ h c => h.trans c (fun _ _ h => h)) (fun _ _ h c => h.quiet c) (fun _ _ _ h c => h.quiet c) (fun _ _ h c => h.quiet c))
          clear hi he hW hD
          go_simp
          exact k _ _ (Chg.refl _ _) (hS.out _ _ (Chg.refl _ _)) rfl
        refine ObsAD.cons none (by kernel_rfl) ?_ ?_
        · refine ObAD.plain fun L a w hi he hD hW hk K k => ?_
          obtain ⟨_, e31, rfl⟩ := hk 31 (by decide)
          clear hk
          have hB := hW.early (by decide) hi (B := BaseK g A f v3 m1 m2) (fun w h => HB.out.keep h id id) (fun w h => HB.out.keep h.1 HN.out.1 HN.out.2.1) (fun x w h => HB.out.keep h.2.2.1 HN.out.2.2.1 HN.out.2.2.2)
          obtain ⟨_, _, z2⟩ := hB.parts
          have hS := hid (fun (v : Value) (w2 : World) (hc : Chg (fun _ => False) w w2) => hW.step (j := 3) (d := (some 32)) v (by decide) hc (fun _ _ h c => h.trans c (fun _ _ h => h)) (fun _ _ h c => h.quiet c) (fun _ _ _ h c => h.quiet c) (fun _ _ h c => h.quiet c))
          clear hi he hW hD
          go_simp
          exact k _ _ (Chg.refl _ _) (hS.out _ _ (Chg.refl _ _)) rfl
        refine ObsAD.cons none (by kernel_rfl) ?_ ?_
        · refine ObAD.plain fun L a w hi he hD hW hk K k => ?_
          obtain ⟨_, e3, rfl⟩ := hk 3 (by decide)
          clear hk
          have hS := hid (fun (v : Value) (w2 : World) (hc : Chg (fun _ => False) w w2) => hW.step (j := 4) (d := (some 33)) v (by decide) hc (fun _ _ h c => h.trans c (fun _ _ h => h)) (fun _ _ h c => h.quiet c) (fun _ _ _ h c => h.quiet c) (fun _ _ h c => h.quiet c))
          clear hi he hW hD
          go_simp
          exact k _ _ (Chg.refl _ _) (hS.out _ _ (Chg.refl _ _)) rfl
        refine ObsAD.cons none (by kernel_rfl) ?_ ?_
        · refine ObAD.plain fun L a w hi he hD hW hk K k => ?_
          obtain ⟨_, e33, rfl⟩ := hk 33 (by decide)
          clear hk
          have hB := hW.early (by decide) hi (B := BaseK g A f v3 m1 m2) (fun w h => HB.out.keep h id id) (fun w h => HB.out.keep h.1 HN.out.1 HN.out.2.1) (fun x w h => HB.out.keep h.2.2.1 HN.out.2.2.1 HN.out.2.2.2)
          obtain ⟨z0, z1, z2⟩ := hB.fact
          have hS := hid (fun (v : Value) (w2 : World) (hc : Chg (fun _ => False) w w2) => hW.step (j := 5) (d := (some 34)) v (by decide) hc (fun _ _ h c => h.trans c (fun _ _ h => h)) (fun _ _ h c => h.quiet c) (fun _ _ _ h c => h.quiet c) (fun _ _ h c => h.quiet c))
          clear hi he hW hD
          go_simp
          exact k _ _ (Chg.refl _ _) (hS.out _ _ (Chg.refl _ _)) rfl
        refine ObsAD.cons none (by kernel_rfl) ?_ ?_
        · refine ObAD.plain fun L a w hi he hD hW hk K k => ?_
          obtain ⟨_, e4, rfl⟩ := hk 4 (by decide)
          clear hk
          have hS := hid (fun (v : Value) (w2 : World) (hc : Chg (fun _ => False) w w2) => hW.step (j := 6) (d := (some 36)) v (by decide) hc (fun _ _ h c => h.trans c (fun _ _ h => h)) (fun _ _ h c => h.quiet c) (fun _ _ _ h c => h.quiet c) (fun _ _ h c => h.quiet c))
          clear hi he hW hD
          go_simp
          exact k _ _ (Chg.refl _ _) (hS.out _ _ (Chg.refl _ _)) rfl
        refine ObsAD.cons none (by kernel_rfl) ?_ ?_
        · refine ObAD.plain fun L a w hi he hD hW hk K k => ?_
          obtain ⟨_, e36, rfl⟩ := hk 36 (by decide)
          clear hk
          have hsz := hW.early (by decide) hi (B := fun w => w4.heap.size ≤ w.heap.size) (fun w h => h.size) (fun w h => h.1.size) (fun x w h => h.2.2.1.size)
          have hS := hid (fun (v : Value) (w2 : World) (hc : Chg (fun _ => False) w w2) => hW.step (j := 7) (d := (some 37)) v (by decide) hc (fun _ _ h c => h.trans c (fun _ _ h => h)) (fun _ _ h c => h.quiet c) (fun _ _ _ h c => h.quiet c) (fun _ _ h c => h.quiet c))
          clear hi he hW hD
          go_simp
          exact k _ _ (Chg.none9 ((Chg.refl _ _).alloc _)) (hS.out _ _ ((Chg.refl _ _).alloc _)) ⟨_, rfl, heap_alloc_new _ _, tag_new HLO.out hsz⟩
        refine ObsAD.cons none (by kernel_rfl) ?_ ?_
        · refine ObAD.plain fun L a w hi he hD hW hk K k => ?_
          obtain ⟨_, e32, rfl⟩ := hk 32 (by decide)
          obtain ⟨_, e34, rfl⟩ := hk 34 (by decide)
          clear hk
          obtain ⟨w2, hr, hF, hS⟩ := HE1.out w (hW.p0 hi)
          have HS := hid (And.intro (hW.zeroth (d := some 38) (v := .tuple #[u, goInt st]) (by decide) (by decide) hi hF) hS)
          clear hi he hD hW hF hS
          go_simp
          exact k _ _ HS.out.2 HS.out.1 rfl
        refine ObsAD.cons none (by kernel_rfl) ?_ ?_
        · refine ObAD.plain fun L a w hi he hD hW hk K k => ?_
          obtain ⟨_, e38, rfl⟩ := hk 38 (by decide)
          clear hk
          have hS := hid (fun (v : Value) (w2 : World) (hc : Chg (fun _ => False) w w2) => hW.step (j := 9) (d := (some 35)) v (by decide) hc (fun _ _ h c => h.trans c (fun _ _ h => h)) (fun _ _ h c => h.quiet c) (fun _ _ _ h c => h.quiet c) (fun _ _ h c => h.quiet c))
          clear hi he hW hD
          go_simp
          exact k _ _ (Chg.refl _ _) (hS.out _ _ (Chg.refl _ _)) rfl
        refine ObsAD.cons none (by kernel_rfl) ?_ ?_
        · refine ObAD.plain fun L a w hi he hD hW hk K k => ?_
          obtain ⟨_, e35, rfl⟩ := hk 35 (by decide)
          obtain ⟨_, e37, f37⟩ := hk 37 (by decide)
          clear hk
          have hall := behind_all (n := 10) hD rfl he (by kernel_rfl)
          obtain ⟨b, rfl, hb, hb2⟩ := f37
          obtain ⟨v2, w2, hr, hF, hS⟩ := HE2.out w b 156 (hW.p1 (hall 8 (by decide)) hi) (by rw [HNN.out]; exact hb)
          clear he hD
          refine ob_appendK 156 rfl e35 e37 hr ?_
          exact k _ _ hS (hW.first (by decide) (by decide) (hall 8 (by decide)) hi hF) trivial
        refine ObsAD.cons none (by kernel_rfl) ?_ ?_
        · refine ObAD.plain fun L a w hi he hD hW hk K k => ?_
          obtain ⟨_, e38, rfl⟩ := hk 38 (by decide)
          clear hk
          have hS := hid (fun (v : Value) (w2 : World) (hc : Chg (fun _ => False) w w2) => hW.step (j := 11) (d := (some 40)) v (by decide) hc (fun _ _ h c => h.trans c (fun _ _ h => h)) (fun _ _ h c => h.quiet c) (fun _ _ _ h c => h.quiet c) (fun _ _ h c => h.quiet c))
          clear hi he hW hD
          go_simp
          exact k _ _ (Chg.refl _ _) (hS.out _ _ (Chg.refl _ _)) rfl
        refine ObsAD.cons none (by kernel_rfl) ?_ ?_
        · refine ObAD.plain fun L a w hi he hD hW hk K k => ?_
          obtain ⟨_, e32, rfl⟩ := hk 32 (by decide)
          obtain ⟨_, e40, rfl⟩ := hk 40 (by decide)
          clear hk
          have hall := behind_all (n := 12) hD rfl he (by kernel_rfl)
          obtain ⟨v2, e39, hF⟩ := hW.p2 (hall 10 (by decide)) hi
          obtain ⟨ao2, cap2, hv2⟩ := hF.1.shape
          obtain ⟨q, hq⟩ : ∃ q : Nat, q = (placesK F f.1 ++ [F.length]).length := ⟨_, rfl⟩
          rw [← hq] at hv2
          clear hq
          subst hv2
          obtain ⟨w2, hr0, hF2, hS⟩ := HE3.out w _ hF
          have hr : (Instr.entryStore 83 (.map (some m2)) (.int .i64 st) (.slice ao2 q cap2)).run Try.prog w = .ok () w2 := hr0
          clear hr0
          have HS := hid (And.intro hW (And.intro hall (And.intro hF2 hS)))
          clear hF hF2 hS hall he hD hW hi
          go_simp
          exact k undef _ HS.out.2.2.2 (HS.out.1.second (by decide) (by decide) HS.out.2.1 HS.out.2.2.1) trivial
        exact ObsAD.nil
      case fin5 =>
        intro L vals w5 hL hWL hv
        have HEND := hid (hWL.p3 (hL 12 (by decide)))
        clear hL hWL hv HE1 HE2 HE3
        simp only [putAll, List.setIfInBounds_toArray, List.set_cons_zero, List.set_cons_succ]
        have HRES := hid (HDN.out w5 (HDONE.out w5 HEND.out))
        clear HEND HDONE HB HLO HN HP
        go_wp2
        go_end0
        exact HRES.out
end Go.Proofs.Ytjaplnainlbldaa
