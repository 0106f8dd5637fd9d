/- Texts that the proof leans on, in one: StepOpen, KindOpen, CondOpen, CheckTellsRow, CheckTight, CheckTightRow. -/
import Derived.Test.YtmmkopdcbiiedaaKb28
import Derived.Test.YtmmkopdcbiiedaaKb19
import Derived.ChangeMaps5
import Derived.ProofKit
import Derived.OpenShut
import Derived.JoinedCond
/- Steps that came in, opened to cells; how much they hold. -/
namespace Go.Proofs.Ytmmkopdcbiiedaa
open Go.ChangeShapes Go.WideShapes Go.ChangeAt Go.RowKit Go.Deep

theorem step_at_cells {w : World} {g o : Nat} {s : StepB} (h : ∀ j, j < 12 → w.cell? ⟨g, o + j, none⟩ = (stepCells s)[j]?) : StepAt w g o s :=
  ⟨⟨h 0 (by omega), h 1 (by omega), h 2 (by omega), h 3 (by omega), h 4 (by omega), h 5 (by omega), h 6 (by omega), h 7 (by omega), h 8 (by omega)⟩, ⟨h 9 (by omega), h 10 (by omega), h 11 (by omega)⟩⟩

section
variable {H : Type} {enc : TypeId × Value → H} {w : World} {base : Nat} {held : Bool} {fuel : Nat}

set_option maxRecDepth 100000 in
/-- Three cells that are read as a fact. -/
theorem open_fact_cells {spare : Nat → Bool} {cs : List Value} {x : DataW H × List MemPlace} (h : DataW.trod enc Try.prog w base spare held fuel 27 cs = some x) :
    ∃ f : FactB, cs = factCells f ∧ factShort f 9223372036854775807 ∧ f.1.1.length + f.1.2.length + f.2.length ≤ Rows.uptoBulk x.1 := by
  obtain ⟨xs, n, _, rfl, hl, hlen, hf⟩ := DataW.trod_struct Try.underlying27 h
  have hc : Try.prog.cellsOf 27 = 3 := by kernel_rfl
  rw [hc] at hl
  match cs, hl, xs, hlen with
  | [c0, c1, c2], _, [y0, y1], _ =>
    have e0 : DataW.trod enc Try.prog w base spare held n 25 [c0, c1] = some y0 := hf 0 _ rfl
    have e1 : DataW.trod enc Try.prog w base spare held n 9 [c2] = some y1 := hf 1 _ rfl
    obtain ⟨r, h1, a1, a2, a3⟩ := open_role_cells e0
    obtain ⟨s2, hs2, rfl, hm2⟩ := DataW.trod_string Try.underlying9 e1
    simp only [roleCells, List.cons.injEq, and_true] at h1 hs2
    obtain ⟨h1a, h1b⟩ := h1
    subst h1a h1b hs2
    unfold maxLen at hm2
    refine ⟨(r, s2.data.toList), rfl, ⟨a1, a2, hm2⟩, ?_⟩
    simp only [Rows.uptoBulk, Rows.uptoBulkAll, List.map_cons, List.map_nil]
    omega

set_option maxRecDepth 100000 in
/-- A fact that came in. -/
theorem open_fact {base0 : Nat} {r : Reach} {v : Value} {d : DataW H} {ps : List MemPlace} {spare : Nat → Bool} (hval : Value.okWide Try.prog w r base0 27 v) (hd : DataW.Trod enc Try.prog w base spare held 27 v d ps) :
    ∃ f : FactB, v = factV f ∧ factShort f 9223372036854775807 := by
  obtain ⟨cs, rfl, _⟩ := okWide_struct Try.underlying27 hval
  obtain ⟨n, hn⟩ := hd
  obtain ⟨x, hx, h1, _⟩ := open_fact_cells hn
  refine ⟨x, ?_, h1⟩
  have : cs.toList = factCells x := hx
  have e : cs = (factCells x).toArray := by rw [← this]
  rw [e]
  rfl

set_option maxRecDepth 100000 in
/-- Twelve cells that are read as a step. -/
theorem open_step_cells {spare : Nat → Bool} {cs : List Value} {x : DataW H × List MemPlace} (h : DataW.trod enc Try.prog w base spare held fuel 34 cs = some x) :
    ∃ s : StepB, cs = stepCells s ∧ stepShort s 9223372036854775807 ∧ sizeSt s ≤ 3 * Rows.uptoBulk x.1 := by
  obtain ⟨xs, n, _, rfl, hl, hlen, hf⟩ := DataW.trod_struct Try.underlying34 h
  have hc : Try.prog.cellsOf 34 = 12 := by kernel_rfl
  rw [hc] at hl
  match cs, hl, xs, hlen with
  | [c0, c1, c2, c3, c4, c5, c6, c7, c8, c9, c10, c11], _, [y0, y1], _ =>
    have e0 : DataW.trod enc Try.prog w base spare held n 32 [c0, c1, c2, c3, c4, c5, c6, c7, c8] = some y0 := hf 0 _ rfl
    have e1 : DataW.trod enc Try.prog w base spare held n 27 [c9, c10, c11] = some y1 := hf 1 _ rfl
    obtain ⟨c, h1, h2, h3⟩ := open_cred_cells e0
    obtain ⟨f, g1, g2, g3⟩ := open_fact_cells e1
    refine ⟨⟨c, f⟩, ?_, ⟨h2, g2⟩, ?_⟩
    · have : [c0, c1, c2, c3, c4, c5, c6, c7, c8] ++ [c9, c10, c11] = credCells c ++ factCells f := by rw [h1, g1]
      exact this
    · simp only [sizeSt, Rows.uptoBulk, Rows.uptoBulkAll, List.map_cons, List.map_nil]
      omega

theorem bulk_steps (D : Nat → DataW H) : ∀ (l : List StepB), (∀ i (h : i < l.length), sizeSt l[i] ≤ 3 * Rows.uptoBulk (D i)) → totalSt l ≤ 3 * Rows.uptoBulkAll ((List.range l.length).map D)
  | [], _ => Nat.zero_le _
  | x :: l, h => by
    have ih := bulk_steps (fun i => D (i + 1)) l (fun i hi => h (i + 1) (by simp only [List.length_cons]; omega))
    rw [List.length_cons, List.range_succ_eq_map, List.map_cons, List.map_map]
    simp only [totalSt, Rows.uptoBulkAll]
    have h0 := h 0 (by simp)
    simp only [List.getElem_cons_zero] at h0
    have e : (List.range l.length).map (D ∘ Nat.succ) = (List.range l.length).map (fun i => D (i + 1)) := rfl
    rw [e]
    omega

set_option maxRecDepth 100000 in
/-- A list of steps that came in. -/
theorem open_steps {cs : List Value} {x : DataW H × List MemPlace} (h : DataW.trod enc Try.prog w base (fun _ => true) held fuel 22 cs = some x) :
    ∃ (ao : Option Addr) (cap : Nat) (ls : List StepB), cs = [.slice ao ls.length cap] ∧ StepsAt (fun k => k < w.heap.size) w ao ls ∧ totalSt ls ≤ 3 * Rows.uptoBulk x.1 ∧ ls.length ≤ cap ∧ cap ≤ 9223372036854775807 := by
  rcases open_slice Try.underlying22 h with ⟨rfl, rfl⟩ | ⟨a, len, cap, m, n, D, Pl, rfl, _, hl, hm, hmm, rfl, hi⟩
  · exact ⟨none, 0, [], rfl, StepsAt.nil _ _ _, Nat.zero_le _, Nat.le_refl _, by omega⟩
  · simp only [if_true] at hmm
    have hc12 : Try.prog.cellsOf 34 = 12 := by kernel_rfl
    have each : ∀ i, i < len → ∃ y : StepB, (∃ b off, some a = some ⟨b, off, none⟩ ∧ b < w.heap.size ∧ StepAt w b (off + i * 12) y ∧ stepShort y 9223372036854775807) ∧ sizeSt y ≤ 3 * Rows.uptoBulk (D i) := by
      intro i hil
      obtain ⟨cs', hcs, ht⟩ := hi i (by omega)
      rw [hc12] at hcs
      obtain ⟨r, hr, h1, h2⟩ := open_step_cells ht
      subst hr
      obtain ⟨_, _, hat⟩ := World.cells?_some hcs
      have hs : a = ⟨a.block, a.off, none⟩ := by
        obtain ⟨cs'', hcs'', ht''⟩ := hi 0 (by omega)
        rw [hc12] at hcs''
        obtain ⟨r'', hr'', _⟩ := open_step_cells ht''
        subst hr''
        obtain ⟨_, _, hat''⟩ := World.cells?_some hcs''
        have q := hat'' 0 (by decide)
        rw [Nat.zero_mul, add_zero, add_zero] at q
        exact spot_none q
      have hall : ∀ j, j < 12 → w.cell? ⟨a.block, a.off + i * 12 + j, none⟩ = (stepCells r)[j]? := fun j hj => by
        have q := hat j (by simpa [stepCells] using hj)
        rw [hs, add_off, add_off] at q
        exact q
      have hat12 := step_at_cells hall
      exact ⟨r, ⟨a.block, a.off, congrArg some hs, World.block_lt_of_cell? w ⟨a.block, a.off + i * 12, none⟩ hat12.c.k0, hat12, h1⟩, h2⟩
    obtain ⟨xs, hlen, hp⟩ := choose_roles len _ each
    subst hlen
    refine ⟨some a, cap, xs, rfl, fun i hi => (hp i hi).1, ?_, hl, hm⟩
    have := bulk_steps D xs (fun i hi => (hp i hi).2)
    simp only [Rows.uptoBulk]
    omega
end
end Go.Proofs.Ytmmkopdcbiiedaa

/- The kinds of credentials and of steps that came in are ints as they can be. -/
namespace Go.Proofs.Ytmmkopdcbiiedaa
open Go.ChangeShapes Go.WideShapes Go.ChangeAt Go.RowKit Go.Deep

section
variable {H : Type} {enc : TypeId × Value → H} {w : World} {base : Nat} {held : Bool} {fuel : Nat}

set_option maxRecDepth 100000 in
theorem cred_kindW {spare : Nat → Bool} {v : Value} {cs : List Value} {x : DataW H × List MemPlace} {k : Int} (h : DataW.trod enc Try.prog w base spare held fuel 32 (v :: cs) = some x) (hv : v = .int .i64 k) : (Lit.int .i64 k).wf = true := by
  obtain ⟨xs, n, _, rfl, hl, hlen, hf⟩ := DataW.trod_struct Try.underlying32 h
  have hc : Try.prog.cellsOf 32 = 9 := by kernel_rfl
  rw [hc] at hl
  match cs, hl, xs, hlen with
  | [c1, c2, c3, c4, c5, c6, c7, c8], _, [y0, y1, y2, y3, y4, y5], _ =>
    have e0 : DataW.trod enc Try.prog w base spare held n 3 [v] = some y0 := hf 0 _ rfl
    obtain ⟨j, hj, rfl, hw⟩ := DataW.trod_int Try.underlying3 e0
    simp only [List.cons.injEq, and_true] at hj
    rw [hv] at hj
    cases hj
    exact hw

set_option maxRecDepth 100000 in
theorem creds_kinds {ao : Option Addr} {cap : Nat} {ls : List CredB} {D : Nat → Prop} {x : DataW H × List MemPlace} (h : DataW.trod enc Try.prog w base (fun _ => true) held fuel 23 [.slice ao ls.length cap] = some x) (hst : CredsAt D w ao ls) : KindsC ls := by
  intro c hcm
  obtain ⟨i, hi0, rfl⟩ := List.getElem_of_mem hcm
  rcases open_slice Try.underlying23 h with ⟨h0, rfl⟩ | ⟨a, len, cap', m, n, D', Pl, h0, _, hl, hm, hmm, rfl, hi⟩
  · simp only [List.cons.injEq, Value.slice.injEq, and_true] at h0
    omega
  · simp only [List.cons.injEq, Value.slice.injEq, and_true] at h0
    obtain ⟨rfl, rfl, rfl⟩ := h0
    simp only [if_true] at hmm
    have hc9 : Try.prog.cellsOf 32 = 9 := by kernel_rfl
    obtain ⟨cs', hcs, ht⟩ := hi i (by omega)
    rw [hc9] at hcs
    obtain ⟨b, off, ha, _, hat, _⟩ := hst i hi0
    cases ha
    obtain ⟨_, hlen, hc⟩ := World.cells?_some hcs
    cases cs' with
    | nil => simp at hlen
    | cons v cs' =>
      have q := hc 0 (by simp)
      rw [add_off, add_off] at q
      simp only [List.getElem?_cons_zero, Nat.add_zero] at q
      have k0 := hat.k0
      rw [q] at k0
      exact cred_kindW ht (by simpa using k0)

set_option maxRecDepth 100000 in
theorem steps_kinds {ao : Option Addr} {cap : Nat} {ls : List StepB} {D : Nat → Prop} {x : DataW H × List MemPlace} (h : DataW.trod enc Try.prog w base (fun _ => true) held fuel 22 [.slice ao ls.length cap] = some x) (hst : StepsAt D w ao ls) : KindsS ls := by
  intro s hsm
  obtain ⟨i, hi0, rfl⟩ := List.getElem_of_mem hsm
  rcases open_slice Try.underlying22 h with ⟨h0, rfl⟩ | ⟨a, len, cap', m, n, D', Pl, h0, _, hl, hm, hmm, rfl, hi⟩
  · simp only [List.cons.injEq, Value.slice.injEq, and_true] at h0
    omega
  · simp only [List.cons.injEq, Value.slice.injEq, and_true] at h0
    obtain ⟨rfl, rfl, rfl⟩ := h0
    simp only [if_true] at hmm
    have hc12 : Try.prog.cellsOf 34 = 12 := by kernel_rfl
    obtain ⟨cs', hcs, ht⟩ := hi i (by omega)
    rw [hc12] at hcs
    obtain ⟨b, off, ha, _, hat, _⟩ := hst i hi0
    cases ha
    obtain ⟨_, hlen, hc⟩ := World.cells?_some hcs
    obtain ⟨xs, n2, _, _, hl2, hlen2, hf⟩ := DataW.trod_struct Try.underlying34 ht
    match cs', hlen, xs, hlen2 with
    | [c0, c1, c2, c3, c4, c5, c6, c7, c8, c9, c10, c11], _, [y0, y1], _ =>
      have e0 : DataW.trod enc Try.prog w base (fun _ => true) held n2 32 [c0, c1, c2, c3, c4, c5, c6, c7, c8] = some y0 := hf 0 _ rfl
      have q := hc 0 (by simp)
      rw [add_off, add_off] at q
      simp only [List.getElem?_cons_zero, Nat.add_zero] at q
      have k0 := hat.c.k0
      rw [q] at k0
      exact cred_kindW e0 (by simpa using k0)
end
end Go.Proofs.Ytmmkopdcbiiedaa

/- A law that bears a condition, over worlds of the program's shape: what is to be shown of the call. (The kit's wrap for a condition throws the shape away.) -/
namespace Go.Proofs.Ytmmkopdcbiiedaa
open Go.ChangeShapes Go.WideShapes Go.ChangeAt Go.RowKit

theorem handed_cond_shaped {H : Type} {enc : TypeId × Value → H} {a : Assume} {C : Checked} {os : Os} {f : FuncId} {fn : Func} {s : OpenSpec} {k : (H : Type) → List (DataW H) → Bool} (hk : s.cond = some k) {F : Stop.Interp} {conds : List PathCond} {apart fresh handsOn again : Bool}
    (own : ownKnob C.prog.godebug = none) (started : os.Started) (noInit : C.prog.inits.idxOf? f = none) (hfn : C.prog.funcs[f]? = some fn)
    (witness : ∃ (w : World) (tape : Tape) (i : Input), w.os = os ∧ (w.forCall tape i).Shaped C.prog ∧ i.vars = [] ∧ Input.okWide C.prog (w.forCall tape i) .any w.heap.size f i ∧
      s.pre6 enc C.prog fn conds apart (w.forCall tape i).memory i.args ∧ a.holds C.prog (lone (Frame.enter C.prog f i.args .normal) [] (w.forCall tape i)))
    (main : ∀ (W : World) (base : Nat) (args : Array Value) (ds gs : List (DataW H)) (before : List MemPlace), W.ShapedOpen C.prog →
      (∀ (j : Nat) t v, fn.params[j]? = some t → args[j]? = some v → Value.okWide C.prog W .any base t v) →
      DataW.Whole enc C.prog fn.params.toList s.vars apart W args.toList ds gs before → k H (ds ++ gs) = true →
      Calls C.prog f args W fun e W' => ∃ v, e = .returned v ∧ (s.at F).post enc C.prog fn apart fresh handsOn again W args v W') :
    ReturnsInHanded a C os f .any (s.pre6 enc C.prog fn conds apart) ((s.at F).post enc C.prog fn apart fresh handsOn again) := by
  refine returnsInHanded_of_calls own started noInit witness fun w tape i _ hsh _ hok hpre _ => ?_
  obtain ⟨_, _, _, fn', hfn', _, _, _, _, hval⟩ := hok
  obtain rfl : fn' = fn := Option.some.inj (hfn'.symm.trans hfn)
  obtain ⟨ds, gs, before, hw, _, hkk⟩ := (OpenSpec.pre_some hk conds apart _ _).1 hpre.1
  refine (main (w.forCall tape i) w.heap.size i.args ds gs before hsh hval (DataW.Whole.of_heap (w' := w.forCall tape i) (by rfl) hw) hkk).mono ?_
  rintro e W' ⟨v, rfl, hp⟩
  exact ChangeSpec.post_blind hp
end Go.Proofs.Ytmmkopdcbiiedaa

/- The law CheckTells of layer 9, at every list of steps, of credentials, and fact that hold together at most 1048576 values and letters. -/
namespace Go.Proofs.Ytmmkopdcbiiedaa
open Go.ChangeShapes Go.WideShapes Go.ChangeAt Go.RowKit

set_option maxRecDepth 100000 in
theorem checkTells_lifted (HC : CK) (hfirst : ∀ w : World, Calls Try.prog 7 #[] w fun e w' => e = .returned (.bool true) ∧ Chg (fun _ => False) w w') (os : Os) (started : os.Started) (H : Type) (enc : TypeId × Value → H) (F : Stop.Interp) :
    ReturnsInHanded {} Try.checked os 3 .any ((Rows.OpenSpec.upto Rows.checkTellsSpec).pre6 enc Try.prog Try.f3 Rows.checkTellsUptoRow.domain false) (((Rows.OpenSpec.upto Rows.checkTellsSpec).at F).post enc Try.prog Try.f3 false true false false) := by
  refine handed_cond_shaped (C := Try.checked) (s := Rows.OpenSpec.upto Rows.checkTellsSpec) (k := Rows.uptoSmall) rfl Try.own started (by kernel_rfl) Try.func3
    (OpenSpec.witness (enc := enc) (C := Try.checked) (s := Rows.OpenSpec.upto Rows.checkTellsSpec) (k := Rows.uptoSmall) rfl false ⟨#[], #[.slice none 0 0, .slice none 0 0, .agg #[.string ⟨#[]⟩, .string ⟨#[]⟩, .string ⟨#[]⟩]], []⟩ 8 (by kernel_rfl) (by kernel_rfl) (by kernel_rfl)
      (x := ([.nil, .nil, .agg [.agg [.lit (.string []), .lit (.string [])], .lit (.string [])]], [], [])) (by kernel_rfl) rfl (by kernel_rfl)) ?_
  intro W base args ds gs before hshp hval0 hW hk
  have hval : ∀ (j : Nat) t v, Try.f3.params[j]? = some t → args[j]? = some v → Value.okWide Try.prog W .any base t v := hval0
  have hW' := hW
  obtain ⟨p, q, hA0, hV, rfl, hfz, hnd⟩ := hW
  have hA : DataW.TrodAll enc Try.prog W 0 (fun _ => true) true Try.f3.params.toList args.toList ds p := hA0
  rw [Try.params3] at hA hval
  obtain ⟨v0, v1, v2, d0, d1, d2, p0, p1, p2, rfl, rfl, rfl, h0, h1, h2⟩ := trodAll_three hA
  obtain ⟨rfl, rfl⟩ := trodVars_none hV
  have k0 := h0
  have k1 := h1
  have k2 := h2
  have lt0 : ∀ x ∈ p0, x.block < W.heap.size := by obtain ⟨m, hm⟩ := k0; exact DataW.trod_lt m _ _ _ hm
  have lt1 : ∀ x ∈ p1, x.block < W.heap.size := by obtain ⟨m, hm⟩ := k1; exact DataW.trod_lt m _ _ _ hm
  have lt2 : ∀ x ∈ p2, x.block < W.heap.size := by obtain ⟨m, hm⟩ := k2; exact DataW.trod_lt m _ _ _ hm
  have hk' := of_decide_eq_true hk
  simp only [List.append_nil, Rows.uptoBulkAll] at hk'
  obtain ⟨a0, len0, cap0, rfl⟩ := okWide_slice Try.underlying22 (hval 0 22 v0 rfl rfl)
  obtain ⟨fuel0, hf0⟩ := h0
  obtain ⟨ao, cap, xs, hcs, hst0, ht0, hl0, hm0⟩ := open_steps hf0
  simp only [Value.cells, List.cons.injEq, and_true, Value.slice.injEq] at hcs
  obtain ⟨rfl, rfl, rfl⟩ := hcs
  have hks : KindsS xs := steps_kinds hf0 hst0
  obtain ⟨a1, len1, cap1, rfl⟩ := okWide_slice Try.underlying23 (hval 1 23 v1 rfl rfl)
  obtain ⟨fuel1, hf1⟩ := h1
  obtain ⟨co, cc, cs, hcs1, hst1, ht1, z1⟩ := open_creds hf1
  simp only [Value.cells, List.cons.injEq, and_true, Value.slice.injEq] at hcs1
  obtain ⟨rfl, rfl, rfl⟩ := hcs1
  have hkc : KindsC cs := creds_kinds hf1 hst1
  obtain ⟨f, rfl, hfs⟩ := open_fact (hval 2 27 v2 rfl rfl) h2
  dsimp only at ht0 ht1
  clear hA0 hval0
  refine (ktells_main HC hfirst _ _ _ _ xs cs f W (by omega) (by omega) hfs hl0 hm0 hst0 hst1 hks hkc).mono fun e W' ⟨he, hc⟩ => ?_
  subst he
  have bel : Below W.heap.size W W' := hc.below (Nat.le_refl _) (fun _ _ => id)
  exact ⟨_, rfl, _, _, _, [], _, [], hW', trodAll_mk1 (shut_bool Try.underlying4 _), (trodAll_cons_mk (Below.trod Try.laidOut (by kernel_rfl) (of_decide_eq_true (by kernel_rfl)) k0 bel lt0) (trodAll_cons_mk (Below.trod Try.laidOut (by kernel_rfl) (of_decide_eq_true (by kernel_rfl)) k1 bel lt1) (trodAll_cons_mk (Below.trod Try.laidOut (by kernel_rfl) (of_decide_eq_true (by kernel_rfl)) k2 bel lt2) trodAll_mk0))), rfl, bel.frame _, fun h => by cases h⟩

theorem checkTells_said (HC : CK) (hfirst : ∀ w : World, Calls Try.prog 7 #[] w fun e w' => e = .returned (.bool true) ∧ Chg (fun _ => False) w w') : Rows.CheckTellsUptoSaid :=
  OpenClaim.holds_of_cond 3 Try.f3 rfl rfl rfl rfl rfl rfl rfl ⟨rfl, rfl, rfl, rfl, rfl⟩ rfl rfl rfl rfl rfl (by kernel_rfl) Try.func3 (by kernel_rfl)
    (of_decide_eq_true (by kernel_rfl)) (by unfold Func.isWrapper; first | (rw [if_pos (by decide +kernel)]; kernel_rfl) | (rw [if_neg (by decide +kernel)]; exact ⟨rfl, rfl⟩))
    (fun os started H enc _ F => checkTells_lifted HC hfirst os started H enc F)
end Go.Proofs.Ytmmkopdcbiiedaa

/- The law CheckTight, walked, over the contracts of CheckK. -/
namespace Go.Proofs.Ytmmkopdcbiiedaa
open Go.RowKit

set_option maxRecDepth 100000 in
set_option maxHeartbeats 4000000 in
theorem ktight_main (HC0 : CK) (hfirst : ∀ w : World, Calls Try.prog 7 #[] w fun e w' => e = .returned (.bool true) ∧ Chg (fun _ => False) w w')
    {D : Nat → Prop} (ao : Option Addr) (cp : Nat) (ls : List StepB) (w : World) (hn : totalSt ls ≤ 4503599627370496) (hcp : ls.length ≤ cp) (hcp2 : cp ≤ 9223372036854775807) (h : StepsAt D w ao ls) (hD : ∀ i, D i → i < w.heap.size) :
    Calls Try.prog 4 #[.slice ao ls.length cp] w fun e w' => e = .returned (.bool true) ∧ Chg (fun _ => False) w w' := by
  have HF := hid hfirst
  have HK := hid HC0
  have HX := hid (And.intro h hD)
  have hl := totalSt_len ls
  clear hfirst HC0 h hD
  go_enter Try.func4, Try.ntmps4
  go_wp2_with fail
  refine (HF.out _).mono ?_
  rintro e w1 ⟨rfl, hc1⟩
  have HC1 := hid hc1
  have HG := hid (great9 ao cp ls w1 hn (HX.out.1.keep hc1 (fun _ _ => id)))
  clear hc1 HF
  go_wp2_with fail
  refine HG.out.mono ?_
  rintro e w2 ⟨rfl, hc2⟩
  have HC2 := hid (HC1.out.trans hc2 (fun _ _ h => h))
  clear hc2 HG HC1
  by_cases hg : totalSt ls ≤ 1500
  · have z1 : decide ((1500 : Int) < (totalSt ls : Int)) = false := decide_eq_false (by omega)
    have HT := hid (HK.out.tight ao cp ls w2 hg hcp hcp2 (HX.out.1.keep HC2.out (fun _ _ => id)) (fun i hi => Nat.lt_of_lt_of_le (HX.out.2 i hi) HC2.out.size))
    go_wp2_with fail
    refine HT.out.mono ?_
    rintro e w3 ⟨rfl, hc3⟩
    have HC3 := hid (HC2.out.trans hc3 (fun _ _ h => h))
    have HT2 := hid (rktight ao cp ls w3 (by omega) hcp hcp2 (HX.out.1.keep HC3.out (fun _ _ => id)) (fun i hi => Nat.lt_of_lt_of_le (HX.out.2 i hi) HC3.out.size))
    clear hc3 HT HC2
    go_wp2_with fail
    refine HT2.out.mono ?_
    rintro e w4 ⟨rfl, hc4⟩
    have HC4 := hid (HC3.out.trans hc4 (fun _ _ h => h))
    have z2 : (tightK ls == tightK ls) = true := beq_self_eq_true _
    clear hc4 HT2 HC3
    go_wp2
    go_ret
    exact ⟨rfl, HC4.out⟩
  · have z1 : decide ((1500 : Int) < (totalSt ls : Int)) = true := decide_eq_true (by omega)
    go_wp2
    go_ret
    exact ⟨rfl, HC2.out⟩
end Go.Proofs.Ytmmkopdcbiiedaa

/- The law CheckTight of layer 9, at every list of steps that holds at most 1048576 values and letters. -/
namespace Go.Proofs.Ytmmkopdcbiiedaa
open Go.ChangeShapes Go.WideShapes Go.ChangeAt Go.RowKit

set_option maxRecDepth 100000 in
theorem checkTight_lifted (HC : CK) (hfirst : ∀ w : World, Calls Try.prog 7 #[] w fun e w' => e = .returned (.bool true) ∧ Chg (fun _ => False) w w') (os : Os) (started : os.Started) (H : Type) (enc : TypeId × Value → H) (F : Stop.Interp) :
    ReturnsInHanded {} Try.checked os 4 .any ((Rows.OpenSpec.upto Rows.checkTightSpec).pre6 enc Try.prog Try.f4 Rows.checkTightUptoRow.domain false) (((Rows.OpenSpec.upto Rows.checkTightSpec).at F).post enc Try.prog Try.f4 false true false false) := by
  refine handed_cond_shaped (C := Try.checked) (s := Rows.OpenSpec.upto Rows.checkTightSpec) (k := Rows.uptoSmall) rfl Try.own started (by kernel_rfl) Try.func4
    (OpenSpec.witness (enc := enc) (C := Try.checked) (s := Rows.OpenSpec.upto Rows.checkTightSpec) (k := Rows.uptoSmall) rfl false ⟨#[], #[.slice none 0 0], []⟩ 8 (by kernel_rfl) (by kernel_rfl) (by kernel_rfl)
      (x := ([.nil], [], [])) (by kernel_rfl) rfl (by kernel_rfl)) ?_
  intro W base args ds gs before hshp hval0 hW hk
  have hval : ∀ (j : Nat) t v, Try.f4.params[j]? = some t → args[j]? = some v → Value.okWide Try.prog W .any base t v := hval0
  have hW' := hW
  obtain ⟨p, q, hA0, hV, rfl, hfz, hnd⟩ := hW
  have hA : DataW.TrodAll enc Try.prog W 0 (fun _ => true) true Try.f4.params.toList args.toList ds p := hA0
  rw [Try.params4] at hA hval
  obtain ⟨v0, d0, rfl, rfl, h0⟩ := trodAll_one hA
  obtain ⟨rfl, rfl⟩ := trodVars_none hV
  have k0 := h0
  have lt0 : ∀ x ∈ p, x.block < W.heap.size := by obtain ⟨m, hm⟩ := k0; exact DataW.trod_lt m _ _ _ hm
  have hk' := of_decide_eq_true hk
  simp only [List.append_nil, Rows.uptoBulkAll] at hk'
  obtain ⟨a0, len0, cap0, rfl⟩ := okWide_slice Try.underlying22 (hval 0 22 v0 rfl rfl)
  obtain ⟨fuel0, hf0⟩ := h0
  obtain ⟨ao, cap, xs, hcs, hst0, ht0, hl0, hm0⟩ := open_steps hf0
  simp only [Value.cells, List.cons.injEq, and_true, Value.slice.injEq] at hcs
  obtain ⟨rfl, rfl, rfl⟩ := hcs
  dsimp only at ht0
  clear hA0 hval0
  refine (ktight_main HC hfirst _ _ xs W (by omega) hl0 hm0 hst0 (fun _ h => h)).mono fun e W' ⟨he, hc⟩ => ?_
  subst he
  have bel : Below W.heap.size W W' := hc.below (Nat.le_refl _) (fun _ _ => id)
  exact ⟨_, rfl, _, _, _, [], _, [], hW', trodAll_mk1 (shut_bool Try.underlying4 _), (trodAll_mk1 (Below.trod Try.laidOut (by kernel_rfl) (of_decide_eq_true (by kernel_rfl)) k0 bel lt0)), rfl, bel.frame _, fun h => by cases h⟩

theorem checkTight_said (HC : CK) (hfirst : ∀ w : World, Calls Try.prog 7 #[] w fun e w' => e = .returned (.bool true) ∧ Chg (fun _ => False) w w') : Rows.CheckTightUptoSaid :=
  OpenClaim.holds_of_cond 4 Try.f4 rfl rfl rfl rfl rfl rfl rfl ⟨rfl, rfl, rfl, rfl, rfl⟩ rfl rfl rfl rfl rfl (by kernel_rfl) Try.func4 (by kernel_rfl)
    (of_decide_eq_true (by kernel_rfl)) (by unfold Func.isWrapper; first | (rw [if_pos (by decide +kernel)]; kernel_rfl) | (rw [if_neg (by decide +kernel)]; exact ⟨rfl, rfl⟩))
    (fun os started H enc _ F => checkTight_lifted HC hfirst os started H enc F)
end Go.Proofs.Ytmmkopdcbiiedaa
