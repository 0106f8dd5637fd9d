/- Texts that the proof leans on, in one: CredSized, SignSized. -/
import Derived.Test.YtjflmhncgkbdmaaGreatKb29
import Derived.SizedLaws
import Derived.Test.YtjflmhncgkbdmaaGreatKb14
/- How much a credential that came in can hold, by the reach of every claim. -/
namespace Go.Proofs.YtjflmhncgkbdmaaGreat
open Go.ChangeShapes Go.WideShapes Go.ChangeAt Go.RowKit Go.Deep

/-- Each string and slice of a datum is within the reach. -/
def InReach {H : Type} (t : TypeId) (d : DataW H) : Prop := ∀ n ∈ DataW.weights Tryz.prog t d, n ≤ reachBytes

theorem InReach.of {H : Type} {ts : List TypeId} {ds : List (DataW H)} (h : (DataW.weightsEach Tryz.prog ts ds).all (· ≤ reachBytes) = true) {j : Nat} {t : TypeId} {d : DataW H} (ht : ts[j]? = some t) (hd : ds[j]? = some d) : InReach t d := fun n hn => by
  simpa using List.all_eq_true.1 h n (DataW.weights_mem_each ht hd n hn)

theorem InReach.str {H : Type} {t : TypeId} {l : List UInt8} (h : InReach t (DataW.lit (H := H) (.string l))) : l.length ≤ reachBytes := h _ (by simp [DataW.weights])

section
variable {H : Type} {enc : TypeId × Value → H} {w : World} {base : Nat} {held : Bool} {fuel : Nat}

set_option maxRecDepth 100000 in
theorem reach_role_cells {spare : Nat → Bool} {cs : List Value} {x : DataW H × List MemPlace} (h : DataW.trod enc Tryz.prog w base spare held fuel 33 cs = some x) (hr : InReach 33 x.1) :
    ∃ r : RoleB, cs = roleCells r ∧ r.1.length ≤ reachBytes ∧ r.2.length ≤ reachBytes := by
  obtain ⟨y0, y1, n, rfl, hl, h0, h1⟩ := trod_struct2 Tryz.underlying33 h
  have hc : Tryz.prog.cellsOf 33 = 2 := by kernel_rfl
  rw [hc] at hl
  match cs, hl with
  | [c0, c1], _ =>
    have e0 : DataW.trod enc Tryz.prog w base spare held n 9 [c0] = some y0 := h0
    have e1 : DataW.trod enc Tryz.prog w base spare held n 9 [c1] = some y1 := h1
    obtain ⟨s0, hs0, rfl, hm0⟩ := DataW.trod_string Tryz.underlying9 e0
    obtain ⟨s1, hs1, rfl, hm1⟩ := DataW.trod_string Tryz.underlying9 e1
    simp only [List.cons.injEq, and_true] at hs0 hs1
    subst hs0
    subst hs1
    refine ⟨(s0.data.toList, s1.data.toList), rfl, hr _ ?_, hr _ ?_⟩
    · simp [DataW.weights, DataW.weightsEach, Tryz.underlying33]
    · simp [DataW.weights, DataW.weightsEach, Tryz.underlying33]

set_option maxRecDepth 100000 in
theorem reach_cred_cells {spare : Nat → Bool} {cs : List Value} {x : DataW H × List MemPlace} (h : DataW.trod enc Tryz.prog w base spare held fuel 35 cs = some x) (hr0 : InReach 35 x.1) :
    ∃ c : CredB, cs = credCells c ∧ credShort c reachBytes := by
  obtain ⟨xs, n, _, rfl, hl, hlen, hf⟩ := DataW.trod_struct Tryz.underlying35 h
  have hc : Tryz.prog.cellsOf 35 = 9 := by kernel_rfl
  rw [hc] at hl
  match cs, hl, xs, hlen with
  | [c0, c1, c2, c3, c4, c5, c6, c7, c8], _, [y0, y1, y2, y3, y4, y5], _ =>
    have e0 : DataW.trod enc Tryz.prog w base spare held n 3 [c0] = some y0 := hf 0 _ rfl
    have e1 : DataW.trod enc Tryz.prog w base spare held n 33 [c1, c2] = some y1 := hf 1 _ rfl
    have e2 : DataW.trod enc Tryz.prog w base spare held n 9 [c3] = some y2 := hf 2 _ rfl
    have e3 : DataW.trod enc Tryz.prog w base spare held n 33 [c4, c5] = some y3 := hf 3 _ rfl
    have e4 : DataW.trod enc Tryz.prog w base spare held n 33 [c6, c7] = some y4 := hf 4 _ rfl
    have e5 : DataW.trod enc Tryz.prog w base spare held n 9 [c8] = some y5 := hf 5 _ rfl
    have hw : ∀ (j : Nat) (t : TypeId) (d : DataW H), [3, 33, 9, 33, 33, 9][j]? = some t → [y0.1, y1.1, y2.1, y3.1, y4.1, y5.1][j]? = some d → InReach t d := by
      intro j t d ht hd k hk
      refine hr0 k ?_
      have := DataW.weights_mem_each (P := Tryz.prog) ht hd k hk
      simpa [DataW.weights, Tryz.underlying35] using this
    obtain ⟨k, hk, rfl, _⟩ := DataW.trod_int Tryz.underlying3 e0
    obtain ⟨hd, h1, a1, a2⟩ := reach_role_cells e1 (hw 1 _ _ rfl rfl)
    obtain ⟨s2, hs2, hy2, _⟩ := DataW.trod_string Tryz.underlying9 e2
    obtain ⟨b, h3, b1, b2⟩ := reach_role_cells e3 (hw 3 _ _ rfl rfl)
    obtain ⟨c, h4, d1, d2⟩ := reach_role_cells e4 (hw 4 _ _ rfl rfl)
    obtain ⟨s5, hs5, hy5, _⟩ := DataW.trod_string Tryz.underlying9 e5
    have r2 := hw 2 9 _ rfl rfl
    have r5 := hw 5 9 _ rfl rfl
    rw [hy2] at r2
    rw [hy5] at r5
    simp only [roleCells, List.cons.injEq, and_true] at hk h1 hs2 h3 h4 hs5
    obtain ⟨h1a, h1b⟩ := h1
    obtain ⟨h3a, h3b⟩ := h3
    obtain ⟨h4a, h4b⟩ := h4
    subst hk h1a h1b hs2 h3a h3b h4a h4b hs5
    exact ⟨⟨k, hd, s2.data.toList, b, c, s5.data.toList⟩, rfl, a1, a2, r2.str, b1, b2, d1, d2, r5.str⟩

theorem sizeC_reach {c : CredB} (h : credShort c reachBytes) : sizeC c ≤ 1125899906842644 := by
  obtain ⟨s1, s2, s3, s4, s5, s6, s7, s8⟩ := h
  unfold reachBytes at *
  unfold sizeC
  omega

set_option maxRecDepth 100000 in
/-- A credential that came in. -/
theorem reach_cred {base0 : Nat} {r : Reach} {v : Value} {d : DataW H} {ps : List MemPlace} {spare : Nat → Bool} (hval : Value.okWide Tryz.prog w r base0 35 v) (hd : DataW.Trod enc Tryz.prog w base spare held 35 v d ps) (hr : InReach 35 d) :
    ∃ x : CredB, v = credV x ∧ credShort x 9223372036854775807 ∧ sizeC x ≤ 1125899906842644 := by
  obtain ⟨cs, rfl, _⟩ := okWide_struct Tryz.underlying35 hval
  obtain ⟨n, hn⟩ := hd
  obtain ⟨x, hx, h1⟩ := reach_cred_cells hn hr
  refine ⟨x, ?_, h1.mono (by decide), sizeC_reach h1⟩
  have : cs.toList = credCells x := hx
  have e : cs = (credCells x).toArray := by rw [← this]
  rw [e]
  rfl
end
end Go.Proofs.YtjflmhncgkbdmaaGreat

/- How much a signed credential that came in can hold, by the reach of every claim. -/
namespace Go.Proofs.YtjflmhncgkbdmaaGreat
open Go.ChangeShapes Go.WideShapes Go.ChangeAt Go.RowKit Go.Deep

section
variable {H : Type} {enc : TypeId × Value → H} {w : World} {base : Nat} {held : Bool} {fuel : Nat}

theorem reach_bytes {cs : List Value} {x : DataW H × List MemPlace} (h : DataW.trod enc Tryz.prog w base (fun _ => true) held fuel 36 cs = some x) (hr : InReach 36 x.1) :
    ∃ (ao : Option Addr) (cap : Nat) (l : List UInt8), cs = [.slice ao l.length cap] ∧ l.length ≤ reachBytes ∧ BytesAt (fun k => k < w.heap.size) w (.slice ao l.length cap) l := by
  obtain ⟨ao, cap, l, h1, h2, h3⟩ := open_bytes h
  refine ⟨ao, cap, l, h1, ?_, h3⟩
  rcases open_ints Tryz.underlying36 Tryz.underlying5 (by kernel_rfl) h with ⟨e, rfl⟩ | ⟨a, len, cap', zs, e, _, hl, _, hz, rfl, _⟩
  · rw [h1] at e
    simp only [List.cons.injEq, and_true, Value.slice.injEq] at e
    rw [e.2.1]
    exact Nat.zero_le _
  · rw [h1] at e
    simp only [List.cons.injEq, and_true, Value.slice.injEq] at e
    simp only [if_true] at hz
    rw [e.2.1]
    have hb : Tryz.prog.bytesOf 5 = 1 := by kernel_rfl
    have hll : ∀ q : List Int, (lits (H := H) .u8 q).length = q.length := fun q => by
      induction q with
      | nil => rfl
      | cons z r ih => exact congrArg (· + 1) ih
    have := hr (((lits (H := H) .u8 (zs.take len)).length + (lits (H := H) .u8 (zs.drop len)).length) * Tryz.prog.bytesOf 5) (by simp [DataW.weights, Tryz.underlying36])
    rw [hb, hll, hll, List.length_take, List.length_drop] at this
    omega

set_option maxRecDepth 100000 in
theorem reach_sign_cells {cs : List Value} {x : DataW H × List MemPlace} (h : DataW.trod enc Tryz.prog w base (fun _ => true) held fuel 38 cs = some x) (hr0 : InReach 38 x.1) :
    ∃ (s : SignB) (ta : Option Addr) (cap : Nat), cs = credCells s.c ++ [.slice ta s.tag.length cap] ∧ BytesAt (fun i => i < w.heap.size) w (.slice ta s.tag.length cap) s.tag ∧ credShort s.c 9223372036854775807 ∧ sizeS s ≤ 4503599627370496 := by
  obtain ⟨xs, n, _, rfl, hl, hlen, hf⟩ := DataW.trod_struct Tryz.underlying38 h
  have hc : Tryz.prog.cellsOf 38 = 10 := by kernel_rfl
  rw [hc] at hl
  match cs, hl, xs, hlen with
  | [c0, c1, c2, c3, c4, c5, c6, c7, c8, c9], _, [y0, y1], _ =>
    have e0 : DataW.trod enc Tryz.prog w base (fun _ => true) held n 35 [c0, c1, c2, c3, c4, c5, c6, c7, c8] = some y0 := hf 0 _ rfl
    have e1 : DataW.trod enc Tryz.prog w base (fun _ => true) held n 36 [c9] = some y1 := hf 1 _ rfl
    have hw : ∀ (j : Nat) (t : TypeId) (e : DataW H), [35, 36][j]? = some t → [y0.1, y1.1][j]? = some e → InReach t e := by
      intro j t e ht he k hk
      refine hr0 k ?_
      have := DataW.weights_mem_each (P := Tryz.prog) ht he k hk
      simpa [DataW.weights, Tryz.underlying38] using this
    obtain ⟨c, hcc, hsh⟩ := reach_cred_cells e0 (hw 0 _ _ rfl rfl)
    obtain ⟨ta, cap, ys, hcy, hln, hby⟩ := reach_bytes e1 (hw 1 _ _ rfl rfl)
    have hz := sizeC_reach hsh
    simp only [credCells, List.cons.injEq, and_true] at hcc hcy
    obtain ⟨rfl, rfl, rfl, rfl, rfl, rfl, rfl, rfl, rfl⟩ := hcc
    subst hcy
    refine ⟨⟨c, ys⟩, ta, cap, rfl, hby, hsh.mono (by decide), ?_⟩
    unfold reachBytes at hln
    unfold sizeS
    dsimp only
    omega

set_option maxRecDepth 100000 in
/-- A signed credential that came in. -/
theorem reach_sign {base0 : Nat} {r : Reach} {v : Value} {d : DataW H} {ps : List MemPlace} (hval : Value.okWide Tryz.prog w r base0 38 v) (hd : DataW.Trod enc Tryz.prog w base (fun _ => true) held 38 v d ps) (hr0 : InReach 38 d) :
    ∃ (s : SignB) (ta : Option Addr) (cap : Nat), v = signV s.c (.slice ta s.tag.length cap) ∧ BytesAt (fun i => i < w.heap.size) w (.slice ta s.tag.length cap) s.tag ∧ credShort s.c 9223372036854775807 ∧ sizeS s ≤ 4503599627370496 := by
  obtain ⟨cs, rfl, _⟩ := okWide_struct Tryz.underlying38 hval
  obtain ⟨n, hn⟩ := hd
  obtain ⟨s, ta, cap, hx, h1, h2, h3⟩ := reach_sign_cells hn hr0
  refine ⟨s, ta, cap, ?_, h1, h2, h3⟩
  have : cs.toList = credCells s.c ++ [Value.slice ta s.tag.length cap] := hx
  have e : cs = (credCells s.c ++ [Value.slice ta s.tag.length cap]).toArray := by rw [← this]
  rw [e]
  rfl
end
end Go.Proofs.YtjflmhncgkbdmaaGreat
