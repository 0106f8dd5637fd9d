/- Texts that the proof leans on, in one: ModelLeastM, CondOpen, CheckSoundRow, CheckSoundFin. -/
import Derived.Test.YtcdjjengkdbngaaKc17
import Derived.Test.YtcdjjengkdbngaaKc2
import Derived.ChangeMaps5
import Derived.ProofKit
import Derived.OpenShut
import Derived.JoinedCond
import Derived.Test.YtcdjjengkdbngaaKc16
import Derived.Test.YtcdjjengkdbngaaKc15
/- Words for the law ModelLeast: a model is there; the region that joins two lists of credentials. -/
namespace Go.Proofs.Ytcdjjengkdbngaa
open Go.RowKit

theorem risingG_ins {α : Type} {lt : α → α → Bool} (o : Ord lt) (x : α) : ∀ out : List α, RisingG lt out → ∃ out', RisingG lt out' ∧ ∀ y, y ∈ out' ↔ y = x ∨ y ∈ out
  | [], _ => ⟨[x], ⟨fun y hy => (by cases hy), trivial⟩, fun y => by simp⟩
  | z :: l, h => by
    rcases o.tri x z with h1 | h1 | h1
    · refine ⟨x :: z :: l, ⟨fun y hy => ?_, h⟩, fun y => by simp⟩
      rcases List.mem_cons.1 hy with rfl | hy
      · exact h1
      · exact o.trans _ _ _ h1 (h.1 y hy)
    · subst h1
      exact ⟨x :: l, h, fun y => by simp⟩
    · obtain ⟨out', h2, h3⟩ := risingG_ins o x l h.2
      refine ⟨z :: out', ⟨fun y hy => ?_, h2⟩, fun y => ?_⟩
      · rcases (h3 y).1 hy with rfl | hy
        · exact h1
        · exact h.1 y hy
      · simp only [List.mem_cons, h3 y]
        constructor
        · rintro (h | h | h)
          · exact .inr (.inl h)
          · exact .inl h
          · exact .inr (.inr h)
        · rintro (h | h | h)
          · exact .inr (.inl h)
          · exact .inl h
          · exact .inr (.inr h)

theorem model_ex (ls : List CredB) : ∃ xs, ModelOf ls xs := by
  have key : ∀ ps : List FactB, ∃ out, RisingG ltF out ∧ ∀ y, y ∈ out ↔ y ∈ ps ∧ Der ls y := by
    intro ps
    induction ps with
    | nil => exact ⟨[], trivial, fun y => by simp⟩
    | cons p l ih =>
      obtain ⟨out, h1, h2⟩ := ih
      by_cases hd : Der ls p
      · obtain ⟨out', h3, h4⟩ := risingG_ins ltF_ord p out h1
        refine ⟨out', h3, fun y => ?_⟩
        rw [h4 y, h2 y, List.mem_cons]
        constructor
        · rintro (rfl | ⟨h, k⟩)
          · exact ⟨.inl rfl, hd⟩
          · exact ⟨.inr h, k⟩
        · rintro ⟨rfl | h, k⟩
          · exact .inl rfl
          · exact .inr ⟨h, k⟩
      · refine ⟨out, h1, fun y => ?_⟩
        rw [h2 y, List.mem_cons]
        constructor
        · rintro ⟨h, k⟩
          exact ⟨.inr h, k⟩
        · rintro ⟨rfl | h, k⟩
          · exact absurd k hd
          · exact ⟨h, k⟩
  obtain ⟨out, h1, h2⟩ := key (pairsF (ls.map (·.head)) (whosOf ls))
  refine ⟨out, h1, fun f => (h2 f).trans ⟨fun h => h.2, fun hd => ⟨?_, hd⟩⟩⟩
  unfold pairsF
  rw [List.mem_flatMap]
  obtain ⟨c, hc, _, e⟩ := hd.head
  obtain ⟨c2, hc2, _, _, e2⟩ := hd.who
  refine ⟨f.1, List.mem_map.2 ⟨c, hc, e⟩, List.mem_map.2 ⟨f.2, ?_, rfl⟩⟩
  rw [← e2]
  exact whosOf_who hc2

/-- What may change amid the joining. -/
def AppR (B : Nat) (ls : List CredB) (mc : CredB) (w w' : World) : Prop :=
  Chg (fun i => B ≤ i ∧ i < B + 3) w w' ∧ RowsK B (max ls.length 1) (ls ++ [mc]) w w'

theorem AppR.refl (B : Nat) (ls : List CredB) (mc : CredB) (w : World) : AppR B ls mc w w := ⟨Chg.refl _ _, RowsK.refl _ _ _ _⟩
theorem AppR.trans {B : Nat} {ls : List CredB} {mc : CredB} {a b c : World} (h : AppR B ls mc a b) (k : AppR B ls mc b c) : AppR B ls mc a c := ⟨h.1.trans k.1 (fun _ _ h => h), h.2.trans k.2⟩
theorem AppR.of_chg {B : Nat} {ls : List CredB} {mc : CredB} {a b : World} (h : Chg (fun _ => False) a b) : AppR B ls mc a b := ⟨h.mono (fun _ _ h => h.elim), RowsK.of_chg h⟩

def bit (b : Bool) : Nat := if b then 1 else 0

/-- What is so amid the joining: the operations 0, 2, 4 make blocks, and 5 may write. -/
structure AppW (B : Nat) (ls : List CredB) (mc : CredB) (w0 : World) (L : Nat → Bool) (w : World) : Prop where
  rel : AppR B ls mc w0 w
  early : L 5 = false → w.heap.size = B + bit (L 0) + (if ls.length = 0 then 0 else bit (L 2)) + bit (L 4)
  late : L 5 = true → B + 3 ≤ w.heap.size ∧ L 0 = true ∧ L 2 = true ∧ L 4 = true
  six : L 6 = true → L 5 = true
  seven : L 7 = true → L 5 = true
  two : L 2 = true → L 0 = true

theorem upd_neM {L : Nat → Bool} {i j : Nat} (h : i ≠ j) : upd L i j = L j := if_neg (Ne.symm h)
theorem upd_eq {L : Nat → Bool} {i : Nat} : upd L i i = true := if_pos rfl

theorem AppW.start {ls : List CredB} {mc : CredB} {w0 : World} : AppW w0.heap.size ls mc w0 (fun _ => false) w0.drew :=
  ⟨AppR.of_chg (Chg.refl _ _).drew, fun _ => (show w0.heap.size = _ by simp [bit]), fun h => (by cases h), fun h => (by cases h), fun h => (by cases h), fun h => (by cases h)⟩

theorem AppW.low {B : Nat} {ls : List CredB} {mc : CredB} {w0 w : World} {L : Nat → Bool} (h : AppW B ls mc w0 L w) (h5 : L 5 = false) : w.heap.size ≤ B + 3 := by
  rw [h.early h5]
  unfold bit
  split <;> split <;> split <;> (try split) <;> omega

theorem AppW.ge {B : Nat} {ls : List CredB} {mc : CredB} {w0 w : World} {L : Nat → Bool} (h : AppW B ls mc w0 L w) (h0 : B ≤ w0.heap.size) : B ≤ w.heap.size := Nat.le_trans h0 h.rel.1.size

theorem AppW.still {B : Nat} {ls : List CredB} {mc : CredB} {w0 w : World} {L : Nat → Bool} {i : Nat} (h : AppW B ls mc w0 L w) (hi : i = 1 ∨ i = 3 ∨ i = 8) : AppW B ls mc w0 (upd L i) w := by
  have e0 : upd L i 0 = L 0 := upd_neM (by omega)
  have e2 : upd L i 2 = L 2 := upd_neM (by omega)
  have e4 : upd L i 4 = L 4 := upd_neM (by omega)
  have e5 : upd L i 5 = L 5 := upd_neM (by omega)
  have e6 : upd L i 6 = L 6 := upd_neM (by omega)
  have e7 : upd L i 7 = L 7 := upd_neM (by omega)
  exact ⟨h.rel, by rw [e0, e2, e4, e5]; exact h.early, by rw [e0, e2, e4, e5]; exact h.late, by rw [e5, e6]; exact h.six, by rw [e5, e7]; exact h.seven, by rw [e2, e0]; exact h.two⟩

theorem AppW.call {B : Nat} {ls : List CredB} {mc : CredB} {w0 w w' : World} {L : Nat → Bool} {i : Nat} (h : AppW B ls mc w0 L w) (hi : i = 6 ∨ i = 7 ∨ i = 8) (h5 : L 5 = true) (hc : Chg (fun _ => False) w w') : AppW B ls mc w0 (upd L i) w' := by
  have e0 : upd L i 0 = L 0 := upd_neM (by omega)
  have e2 : upd L i 2 = L 2 := upd_neM (by omega)
  have e4 : upd L i 4 = L 4 := upd_neM (by omega)
  have e5 : upd L i 5 = L 5 := upd_neM (by omega)
  have hl := h.late h5
  exact ⟨h.rel.trans (AppR.of_chg hc), (fun h' => by rw [e5, h5] at h'; cases h'), by rw [e0, e2, e4]; exact fun _ => ⟨Nat.le_trans hl.1 hc.size, hl.2⟩, fun _ => e5.trans h5, fun _ => e5.trans h5, by rw [e2, e0]; exact h.two⟩

theorem AppW.made {B : Nat} {ls : List CredB} {mc : CredB} {w0 w : World} {L : Nat → Bool} {i : Nat} (h : AppW B ls mc w0 L w) (hi : i = 0 ∨ i = 4) (hL : L i = false) (o : Obj) : AppW B ls mc w0 (upd L i) (w.alloc o) := by
  have h5 : L 5 = false := by
    cases h5 : L 5 with
    | false => rfl
    | true =>
      obtain ⟨_, h1, _, h3⟩ := h.late h5
      rcases hi with rfl | rfl
      · rw [hL] at h1; cases h1
      · rw [hL] at h3; cases h3
  have hc : Chg (fun _ => False) w (w.alloc o) := (Chg.refl _ w).alloc o
  have e5 : upd L i 5 = L 5 := upd_neM (by omega)
  have e2 : upd L i 2 = L 2 := upd_neM (by omega)
  have e6 : upd L i 6 = L 6 := upd_neM (by omega)
  have e7 : upd L i 7 = L 7 := upd_neM (by omega)
  refine ⟨h.rel.trans (AppR.of_chg hc), fun _ => ?_, fun h' => (by rw [e5, h5] at h'; cases h'), by rw [e5, e6]; exact h.six, by rw [e5, e7]; exact h.seven, ?_⟩
  rotate_left
  · rw [e2]
    intro h2
    rcases hi with rfl | rfl
    · exact upd_eq
    · exact (upd_neM (by omega)).trans (h.two h2)
  rw [World.size_alloc, h.early h5, e2]
  rcases hi with rfl | rfl
  · rw [upd_eq, upd_neM (by omega), hL]; simp [bit] <;> omega
  · rw [upd_eq, upd_neM (by omega), hL]; simp [bit] <;> omega

theorem AppW.step {B : Nat} {ls : List CredB} {mc : CredB} {w0 w : World} {L : Nat → Bool} {i : Nat} (h : AppW B ls mc w0 L w) (hi : i = 1 ∨ i = 3 ∨ i = 8) : AppW B ls mc w0 (upd L i) w := h.still hi

end Go.Proofs.Ytcdjjengkdbngaa

/- A law that bears a condition, over worlds of the program's shape: what is to be shown of the call. (The kit's wrap for a condition throws the shape away.) -/
namespace Go.Proofs.Ytcdjjengkdbngaa
open Go.ChangeShapes Go.WideShapes Go.ChangeAt Go.RowKit

theorem handed_cond_shaped {H : Type} {enc : TypeId × Value → H} {a : Assume} {C : Checked} {os : Os} {f : FuncId} {fn : Func} {s : OpenSpec} {k : (H : Type) → List (DataW H) → Bool} (hk : s.cond = some k) {F : Stop.Interp} {conds : List PathCond} {apart fresh handsOn again : Bool}
    (own : ownKnob C.prog.godebug = none) (started : os.Started) (noInit : C.prog.inits.idxOf? f = none) (hfn : C.prog.funcs[f]? = some fn)
    (witness : ∃ (w : World) (tape : Tape) (i : Input), w.os = os ∧ (w.forCall tape i).Shaped C.prog ∧ i.vars = [] ∧ Input.okWide C.prog (w.forCall tape i) .any w.heap.size f i ∧
      s.pre6 enc C.prog fn conds apart (w.forCall tape i).memory i.args ∧ a.holds C.prog (lone (Frame.enter C.prog f i.args .normal) [] (w.forCall tape i)))
    (main : ∀ (W : World) (base : Nat) (args : Array Value) (ds gs : List (DataW H)) (before : List MemPlace), W.ShapedOpen C.prog →
      (∀ (j : Nat) t v, fn.params[j]? = some t → args[j]? = some v → Value.okWide C.prog W .any base t v) →
      DataW.Whole enc C.prog fn.params.toList s.vars apart W args.toList ds gs before → k H (ds ++ gs) = true →
      Calls C.prog f args W fun e W' => ∃ v, e = .returned v ∧ (s.at F).post enc C.prog fn apart fresh handsOn again W args v W') :
    ReturnsInHanded a C os f .any (s.pre6 enc C.prog fn conds apart) ((s.at F).post enc C.prog fn apart fresh handsOn again) := by
  refine returnsInHanded_of_calls own started noInit witness fun w tape i _ hsh _ hok hpre _ => ?_
  obtain ⟨_, _, _, fn', hfn', _, _, _, _, hval⟩ := hok
  obtain rfl : fn' = fn := Option.some.inj (hfn'.symm.trans hfn)
  obtain ⟨ds, gs, before, hw, _, hkk⟩ := (OpenSpec.pre_some hk conds apart _ _).1 hpre.1
  refine (main (w.forCall tape i) w.heap.size i.args ds gs before hsh hval (DataW.Whole.of_heap (w' := w.forCall tape i) (by rfl) hw) hkk).mono ?_
  rintro e W' ⟨v, rfl, hp⟩
  exact ChangeSpec.post_blind hp
end Go.Proofs.Ytcdjjengkdbngaa

/- The law CheckSound of layer 9, at every list of steps and of credentials that hold together at most 1048576 values and letters. -/
namespace Go.Proofs.Ytcdjjengkdbngaa
open Go.ChangeShapes Go.WideShapes Go.ChangeAt Go.RowKit

set_option maxRecDepth 100000 in
theorem checkSound_lifted {MA : (Nat → Prop) → World → Nat → List CredB → Prop} (HK : MKs MA) (HC : CheckC) (hfirst : ∀ w : World, Calls Try.prog 7 #[] w fun e w' => e = .returned (.bool true) ∧ Chg (fun _ => False) w w') (os : Os) (started : os.Started) (H : Type) (enc : TypeId × Value → H) (F : Stop.Interp) :
    ReturnsInHanded {} Try.checked os 3 .any ((Rows.OpenSpec.upto Rows.checkSoundSpec).pre6 enc Try.prog Try.f3 Rows.checkSoundUptoRow.domain false) (((Rows.OpenSpec.upto Rows.checkSoundSpec).at F).post enc Try.prog Try.f3 false true false false) := by
  refine handed_cond_shaped (C := Try.checked) (s := Rows.OpenSpec.upto Rows.checkSoundSpec) (k := Rows.uptoSmall) rfl Try.own started (by kernel_rfl) Try.func3
    (OpenSpec.witness (enc := enc) (C := Try.checked) (s := Rows.OpenSpec.upto Rows.checkSoundSpec) (k := Rows.uptoSmall) rfl false ⟨#[], #[.slice none 0 0, .slice none 0 0], []⟩ 8 (by kernel_rfl) (by kernel_rfl) (by kernel_rfl)
      (x := ([.nil, .nil], [], [])) (by kernel_rfl) rfl (by kernel_rfl)) ?_
  intro W base args ds gs before hshp hval0 hW hk
  have hval : ∀ (j : Nat) t v, Try.f3.params[j]? = some t → args[j]? = some v → Value.okWide Try.prog W .any base t v := hval0
  have hW' := hW
  obtain ⟨p, q, hA0, hV, rfl, hfz, hnd⟩ := hW
  have hA : DataW.TrodAll enc Try.prog W 0 (fun _ => true) true Try.f3.params.toList args.toList ds p := hA0
  rw [Try.params3] at hA hval
  obtain ⟨v0, v1, d0, d1, p0, p1, rfl, rfl, rfl, h0, h1⟩ := trodAll_two hA
  obtain ⟨rfl, rfl⟩ := trodVars_none hV
  have k0 := h0
  have k1 := h1
  have lt0 : ∀ x ∈ p0, x.block < W.heap.size := by obtain ⟨m, hm⟩ := k0; exact DataW.trod_lt m _ _ _ hm
  have lt1 : ∀ x ∈ p1, x.block < W.heap.size := by obtain ⟨m, hm⟩ := k1; exact DataW.trod_lt m _ _ _ hm
  have hk' := of_decide_eq_true hk
  simp only [List.append_nil, Rows.uptoBulkAll] at hk'
  obtain ⟨a0, len0, cap0, rfl⟩ := okWide_slice Try.underlying22 (hval 0 22 v0 rfl rfl)
  obtain ⟨fuel0, hf0⟩ := h0
  obtain ⟨ao, cap, xs, hcs, hst0, ht0, hl0, hm0⟩ := open_steps hf0
  simp only [Value.cells, List.cons.injEq, and_true, Value.slice.injEq] at hcs
  obtain ⟨rfl, rfl, rfl⟩ := hcs
  have hks : KindsS xs := steps_kinds hf0 hst0
  obtain ⟨a1, len1, cap1, rfl⟩ := okWide_slice Try.underlying23 (hval 1 23 v1 rfl rfl)
  obtain ⟨fuel1, hf1⟩ := h1
  obtain ⟨co, cc, cs, hcs1, hst1, ht1, z1⟩ := open_creds hf1
  simp only [Value.cells, List.cons.injEq, and_true, Value.slice.injEq] at hcs1
  obtain ⟨rfl, rfl, rfl⟩ := hcs1
  have hkc : KindsC cs := creds_kinds hf1 hst1
  dsimp only at ht0 ht1
  clear hA0 hval0
  refine (ksound_main HK HC (fun cs => model_ex cs) hfirst _ _ _ _ xs cs W (by omega) (by omega) hl0 hm0 hst0 hst1 z1 (fun _ h => h) hks hkc).mono fun e W' ⟨he, hc⟩ => ?_
  subst he
  have bel : Below W.heap.size W W' := hc.below (Nat.le_refl _) (fun _ _ => id)
  exact ⟨_, rfl, _, _, _, [], _, [], hW', trodAll_mk1 (shut_bool Try.underlying4 _), (trodAll_cons_mk (Below.trod Try.laidOut (by kernel_rfl) (of_decide_eq_true (by kernel_rfl)) k0 bel lt0) (trodAll_cons_mk (Below.trod Try.laidOut (by kernel_rfl) (of_decide_eq_true (by kernel_rfl)) k1 bel lt1) trodAll_mk0)), rfl, bel.frame _, fun h => by cases h⟩

theorem checkSound_said {MA : (Nat → Prop) → World → Nat → List CredB → Prop} (HK : MKs MA) (HC : CheckC) (hfirst : ∀ w : World, Calls Try.prog 7 #[] w fun e w' => e = .returned (.bool true) ∧ Chg (fun _ => False) w w') : Rows.CheckSoundUptoSaid :=
  OpenClaim.holds_of_cond 3 Try.f3 rfl rfl rfl rfl rfl rfl rfl ⟨rfl, rfl, rfl, rfl, rfl⟩ rfl rfl rfl rfl rfl (by kernel_rfl) Try.func3 (by kernel_rfl)
    (of_decide_eq_true (by kernel_rfl)) (by unfold Func.isWrapper; first | (rw [if_pos (by decide +kernel)]; kernel_rfl) | (rw [if_neg (by decide +kernel)]; exact ⟨rfl, rfl⟩))
    (fun os started H enc _ F => checkSound_lifted HK HC hfirst os started H enc F)
end Go.Proofs.Ytcdjjengkdbngaa

/- The law CheckSound of layer 9, over the contracts of the program's check and the model's. -/
namespace Go.Proofs.Ytcdjjengkdbngaa
theorem checkSound_of {MA : (Nat → Prop) → World → Nat → List CredB → Prop} (HK : MKs MA) (HCC : CheckC) (HC : CK) (HG : CG) : Rows.CheckSoundUptoSaid := checkSound_said HK HCC (cfirst HC HG)
end Go.Proofs.Ytcdjjengkdbngaa
