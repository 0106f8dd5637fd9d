/- How much a credential that came in can hold, by the reach of every claim. -/
import Derived.Test.YtjohiggfjpfbeaaTm3
import Derived.SizedLaws
import Derived.Test.YtjohiggfjpfbeaaCm15
namespace Go.Proofs.Ytjohiggfjpfbeaa
open Go.ChangeShapes Go.WideShapes Go.ChangeAt Go.RowKit Go.Deep

/-- Each string and slice of a datum is within the reach. -/
def InReach {H : Type} (t : TypeId) (d : DataW H) : Prop := ∀ n ∈ DataW.weights Try.prog t d, n ≤ reachBytes

theorem InReach.of {H : Type} {ts : List TypeId} {ds : List (DataW H)} (h : (DataW.weightsEach Try.prog ts ds).all (· ≤ reachBytes) = true) {j : Nat} {t : TypeId} {d : DataW H} (ht : ts[j]? = some t) (hd : ds[j]? = some d) : InReach t d := fun n hn => by
  simpa using List.all_eq_true.1 h n (DataW.weights_mem_each ht hd n hn)

theorem InReach.str {H : Type} {t : TypeId} {l : List UInt8} (h : InReach t (DataW.lit (H := H) (.string l))) : l.length ≤ reachBytes := h _ (by simp [DataW.weights])

section
variable {H : Type} {enc : TypeId × Value → H} {w : World} {base : Nat} {held : Bool} {fuel : Nat}

set_option maxRecDepth 100000 in
theorem reach_role_cells {spare : Nat → Bool} {cs : List Value} {x : DataW H × List MemPlace} (h : DataW.trod enc Try.prog w base spare held fuel 23 cs = some x) (hr : InReach 23 x.1) :
    ∃ r : RoleB, cs = roleCells r ∧ r.1.length ≤ reachBytes ∧ r.2.length ≤ reachBytes := by
  obtain ⟨y0, y1, n, rfl, hl, h0, h1⟩ := trod_struct2 Try.underlying23 h
  have hc : Try.prog.cellsOf 23 = 2 := by kernel_rfl
  rw [hc] at hl
  match cs, hl with
  | [c0, c1], _ =>
    have e0 : DataW.trod enc Try.prog w base spare held n 9 [c0] = some y0 := h0
    have e1 : DataW.trod enc Try.prog w base spare held n 9 [c1] = some y1 := h1
    obtain ⟨s0, hs0, rfl, hm0⟩ := DataW.trod_string Try.underlying9 e0
    obtain ⟨s1, hs1, rfl, hm1⟩ := DataW.trod_string Try.underlying9 e1
    simp only [List.cons.injEq, and_true] at hs0 hs1
    subst hs0
    subst hs1
    refine ⟨(s0.data.toList, s1.data.toList), rfl, hr _ ?_, hr _ ?_⟩
    · simp [DataW.weights, DataW.weightsEach, Try.underlying23]
    · simp [DataW.weights, DataW.weightsEach, Try.underlying23]

set_option maxRecDepth 100000 in
theorem reach_cred_cells {spare : Nat → Bool} {cs : List Value} {x : DataW H × List MemPlace} (h : DataW.trod enc Try.prog w base spare held fuel 25 cs = some x) (hr0 : InReach 25 x.1) :
    ∃ c : CredB, cs = credCells c ∧ credShort c reachBytes := by
  obtain ⟨xs, n, _, rfl, hl, hlen, hf⟩ := DataW.trod_struct Try.underlying25 h
  have hc : Try.prog.cellsOf 25 = 9 := by kernel_rfl
  rw [hc] at hl
  match cs, hl, xs, hlen with
  | [c0, c1, c2, c3, c4, c5, c6, c7, c8], _, [y0, y1, y2, y3, y4, y5], _ =>
    have e0 : DataW.trod enc Try.prog w base spare held n 3 [c0] = some y0 := hf 0 _ rfl
    have e1 : DataW.trod enc Try.prog w base spare held n 23 [c1, c2] = some y1 := hf 1 _ rfl
    have e2 : DataW.trod enc Try.prog w base spare held n 9 [c3] = some y2 := hf 2 _ rfl
    have e3 : DataW.trod enc Try.prog w base spare held n 23 [c4, c5] = some y3 := hf 3 _ rfl
    have e4 : DataW.trod enc Try.prog w base spare held n 23 [c6, c7] = some y4 := hf 4 _ rfl
    have e5 : DataW.trod enc Try.prog w base spare held n 9 [c8] = some y5 := hf 5 _ rfl
    have hw : ∀ (j : Nat) (t : TypeId) (d : DataW H), [3, 23, 9, 23, 23, 9][j]? = some t → [y0.1, y1.1, y2.1, y3.1, y4.1, y5.1][j]? = some d → InReach t d := by
      intro j t d ht hd k hk
      refine hr0 k ?_
      have := DataW.weights_mem_each (P := Try.prog) ht hd k hk
      simpa [DataW.weights, Try.underlying25] using this
    obtain ⟨k, hk, rfl, _⟩ := DataW.trod_int Try.underlying3 e0
    obtain ⟨hd, h1, a1, a2⟩ := reach_role_cells e1 (hw 1 _ _ rfl rfl)
    obtain ⟨s2, hs2, hy2, _⟩ := DataW.trod_string Try.underlying9 e2
    obtain ⟨b, h3, b1, b2⟩ := reach_role_cells e3 (hw 3 _ _ rfl rfl)
    obtain ⟨c, h4, d1, d2⟩ := reach_role_cells e4 (hw 4 _ _ rfl rfl)
    obtain ⟨s5, hs5, hy5, _⟩ := DataW.trod_string Try.underlying9 e5
    have r2 := hw 2 9 _ rfl rfl
    have r5 := hw 5 9 _ rfl rfl
    rw [hy2] at r2
    rw [hy5] at r5
    simp only [roleCells, List.cons.injEq, and_true] at hk h1 hs2 h3 h4 hs5
    obtain ⟨h1a, h1b⟩ := h1
    obtain ⟨h3a, h3b⟩ := h3
    obtain ⟨h4a, h4b⟩ := h4
    subst hk h1a h1b hs2 h3a h3b h4a h4b hs5
    exact ⟨⟨k, hd, s2.data.toList, b, c, s5.data.toList⟩, rfl, a1, a2, r2.str, b1, b2, d1, d2, r5.str⟩

theorem sizeC_reach {c : CredB} (h : credShort c reachBytes) : sizeC c ≤ 1125899906842644 := by
  obtain ⟨s1, s2, s3, s4, s5, s6, s7, s8⟩ := h
  unfold reachBytes at *
  unfold sizeC
  omega

set_option maxRecDepth 100000 in
/-- A credential that came in. -/
theorem reach_cred {base0 : Nat} {r : Reach} {v : Value} {d : DataW H} {ps : List MemPlace} {spare : Nat → Bool} (hval : Value.okWide Try.prog w r base0 25 v) (hd : DataW.Trod enc Try.prog w base spare held 25 v d ps) (hr : InReach 25 d) :
    ∃ x : CredB, v = credV x ∧ credShort x 9223372036854775807 ∧ sizeC x ≤ 1125899906842644 := by
  obtain ⟨cs, rfl, _⟩ := okWide_struct Try.underlying25 hval
  obtain ⟨n, hn⟩ := hd
  obtain ⟨x, hx, h1⟩ := reach_cred_cells hn hr
  refine ⟨x, ?_, h1.mono (by decide), sizeC_reach h1⟩
  have : cs.toList = credCells x := hx
  have e : cs = (credCells x).toArray := by rw [← this]
  rw [e]
  rfl
end
end Go.Proofs.Ytjohiggfjpfbeaa
