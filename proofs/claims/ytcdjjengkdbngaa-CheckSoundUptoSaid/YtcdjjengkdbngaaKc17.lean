/- Texts that the proof leans on, in one: CredOpen, StepOpen, KindOpen, FactMap, ModelFound, CredApp. -/
import Derived.Test.YtcdjjengkdbngaaKc16
import Derived.Test.YtcdjjengkdbngaaKc8
import Derived.Test.YtcdjjengkdbngaaKc10
import Derived.Maps.OwnSet
import Derived.DeepKeys4
import Derived.Carry
import Derived.Test.YtcdjjengkdbngaaKc12
import Derived.Test.YtcdjjengkdbngaaKc7
/- Credentials that came in, one or a list, opened to cells; how much they hold. -/
namespace Go.Proofs.Ytcdjjengkdbngaa
open Go.ChangeShapes Go.WideShapes Go.ChangeAt Go.RowKit Go.Deep

theorem cred_at_cells' {w : World} {g o : Nat} {c : CredB} (h : ∀ j, j < 9 → w.cell? ⟨g, o + j, none⟩ = (credCells c)[j]?) : CredAt w g o c :=
  ⟨h 0 (by omega), h 1 (by omega), h 2 (by omega), h 3 (by omega), h 4 (by omega), h 5 (by omega), h 6 (by omega), h 7 (by omega), h 8 (by omega)⟩

section
variable {H : Type} {enc : TypeId × Value → H} {w : World} {base : Nat} {held : Bool} {fuel : Nat}

set_option maxRecDepth 100000 in
/-- Nine cells that are read as a credential. -/
theorem open_cred_cells {spare : Nat → Bool} {cs : List Value} {x : DataW H × List MemPlace} (h : DataW.trod enc Try.prog w base spare held fuel 32 cs = some x) :
    ∃ c : CredB, cs = credCells c ∧ credShort c 9223372036854775807 ∧ sizeC c ≤ 3 * Rows.uptoBulk x.1 := by
  obtain ⟨xs, n, _, rfl, hl, hlen, hf⟩ := DataW.trod_struct Try.underlying32 h
  have hc : Try.prog.cellsOf 32 = 9 := by kernel_rfl
  have hr : Try.prog.cellsOf 30 = 2 := by kernel_rfl
  rw [hc] at hl
  match cs, hl, xs, hlen with
  | [c0, c1, c2, c3, c4, c5, c6, c7, c8], _, [y0, y1, y2, y3, y4, y5], _ =>
    have e0 : DataW.trod enc Try.prog w base spare held n 3 [c0] = some y0 := hf 0 _ rfl
    have e1 : DataW.trod enc Try.prog w base spare held n 30 [c1, c2] = some y1 := hf 1 _ rfl
    have e2 : DataW.trod enc Try.prog w base spare held n 9 [c3] = some y2 := hf 2 _ rfl
    have e3 : DataW.trod enc Try.prog w base spare held n 30 [c4, c5] = some y3 := hf 3 _ rfl
    have e4 : DataW.trod enc Try.prog w base spare held n 30 [c6, c7] = some y4 := hf 4 _ rfl
    have e5 : DataW.trod enc Try.prog w base spare held n 9 [c8] = some y5 := hf 5 _ rfl
    obtain ⟨k, hk, rfl, _⟩ := DataW.trod_int Try.underlying3 e0
    obtain ⟨hd, h1, a1, a2, a3⟩ := open_role_cells e1
    obtain ⟨s2, hs2, rfl, hm2⟩ := DataW.trod_string Try.underlying9 e2
    obtain ⟨b, h3, b1, b2, b3⟩ := open_role_cells e3
    obtain ⟨c, h4, d1, d2, d3⟩ := open_role_cells e4
    obtain ⟨s5, hs5, rfl, hm5⟩ := DataW.trod_string Try.underlying9 e5
    simp only [roleCells, List.cons.injEq, and_true] at hk h1 hs2 h3 h4 hs5
    obtain ⟨h1a, h1b⟩ := h1
    obtain ⟨h3a, h3b⟩ := h3
    obtain ⟨h4a, h4b⟩ := h4
    subst hk h1a h1b hs2 h3a h3b h4a h4b hs5
    unfold maxLen at hm2 hm5
    refine ⟨⟨k, hd, s2.data.toList, b, c, s5.data.toList⟩, rfl, ⟨a1, a2, hm2, b1, b2, d1, d2, hm5⟩, ?_⟩
    simp only [sizeC, Rows.uptoBulk, Rows.uptoBulkAll, List.map_cons, List.map_nil]
    omega

theorem bulk_creds (D : Nat → DataW H) : ∀ (l : List CredB), (∀ i (h : i < l.length), sizeC l[i] ≤ 3 * Rows.uptoBulk (D i)) → totalC l ≤ 3 * Rows.uptoBulkAll ((List.range l.length).map D)
  | [], _ => Nat.zero_le _
  | x :: l, h => by
    have ih := bulk_creds (fun i => D (i + 1)) l (fun i hi => h (i + 1) (by simp only [List.length_cons]; omega))
    rw [List.length_cons, List.range_succ_eq_map, List.map_cons, List.map_map]
    simp only [totalC, Rows.uptoBulkAll]
    have h0 := h 0 (by simp)
    simp only [List.getElem_cons_zero] at h0
    have e : (List.range l.length).map (D ∘ Nat.succ) = (List.range l.length).map (fun i => D (i + 1)) := rfl
    rw [e]
    omega

set_option maxRecDepth 100000 in
/-- A list of credentials that came in. -/
theorem open_creds {cs : List Value} {x : DataW H × List MemPlace} (h : DataW.trod enc Try.prog w base (fun _ => true) held fuel 23 cs = some x) :
    ∃ (ao : Option Addr) (cap : Nat) (ls : List CredB), cs = [.slice ao ls.length cap] ∧ CredsAt (fun k => k < w.heap.size) w ao ls ∧ totalC ls ≤ 3 * Rows.uptoBulk x.1 ∧ (ao = none → cap = 0) := by
  rcases open_slice Try.underlying23 h with ⟨rfl, rfl⟩ | ⟨a, len, cap, m, n, D, Pl, rfl, _, hl, hm, hmm, rfl, hi⟩
  · exact ⟨none, 0, [], rfl, CredsAt.nil _ _ _, Nat.zero_le _, fun _ => rfl⟩
  · simp only [if_true] at hmm
    have hc9 : Try.prog.cellsOf 32 = 9 := by kernel_rfl
    have each : ∀ i, i < len → ∃ y : CredB, (∃ b off, some a = some ⟨b, off, none⟩ ∧ b < w.heap.size ∧ CredAt w b (off + i * 9) y ∧ credShort y 9223372036854775807) ∧ sizeC y ≤ 3 * Rows.uptoBulk (D i) := by
      intro i hil
      obtain ⟨cs', hcs, ht⟩ := hi i (by omega)
      rw [hc9] at hcs
      obtain ⟨r, hr, h1, h2⟩ := open_cred_cells ht
      subst hr
      obtain ⟨_, _, hat⟩ := World.cells?_some hcs
      have hs : a = ⟨a.block, a.off, none⟩ := by
        obtain ⟨cs'', hcs'', ht''⟩ := hi 0 (by omega)
        rw [hc9] at hcs''
        obtain ⟨r'', hr'', _⟩ := open_cred_cells ht''
        subst hr''
        obtain ⟨_, _, hat''⟩ := World.cells?_some hcs''
        have q := hat'' 0 (by decide)
        rw [Nat.zero_mul, add_zero, add_zero] at q
        exact spot_none q
      have hall : ∀ j, j < 9 → w.cell? ⟨a.block, a.off + i * 9 + j, none⟩ = (credCells r)[j]? := fun j hj => by
        have q := hat j (by simpa [credCells] using hj)
        rw [hs, add_off, add_off] at q
        exact q
      have hat9 := cred_at_cells' hall
      exact ⟨r, ⟨a.block, a.off, congrArg some hs, World.block_lt_of_cell? w ⟨a.block, a.off + i * 9, none⟩ hat9.k0, hat9, h1⟩, h2⟩
    obtain ⟨xs, hlen, hp⟩ := choose_roles len _ each
    subst hlen
    refine ⟨some a, cap, xs, rfl, fun i hi => (hp i hi).1, ?_, fun e => by cases e⟩
    have := bulk_creds D xs (fun i hi => (hp i hi).2)
    simp only [Rows.uptoBulk]
    omega
end
end Go.Proofs.Ytcdjjengkdbngaa

/- Steps that came in, opened to cells; how much they hold. -/
namespace Go.Proofs.Ytcdjjengkdbngaa
open Go.ChangeShapes Go.WideShapes Go.ChangeAt Go.RowKit Go.Deep

theorem step_at_cells {w : World} {g o : Nat} {s : StepB} (h : ∀ j, j < 12 → w.cell? ⟨g, o + j, none⟩ = (stepCells s)[j]?) : StepAt w g o s :=
  ⟨⟨h 0 (by omega), h 1 (by omega), h 2 (by omega), h 3 (by omega), h 4 (by omega), h 5 (by omega), h 6 (by omega), h 7 (by omega), h 8 (by omega)⟩, ⟨h 9 (by omega), h 10 (by omega), h 11 (by omega)⟩⟩

section
variable {H : Type} {enc : TypeId × Value → H} {w : World} {base : Nat} {held : Bool} {fuel : Nat}

set_option maxRecDepth 100000 in
/-- Three cells that are read as a fact. -/
theorem open_fact_cells {spare : Nat → Bool} {cs : List Value} {x : DataW H × List MemPlace} (h : DataW.trod enc Try.prog w base spare held fuel 34 cs = some x) :
    ∃ f : FactB, cs = factCells f ∧ factShort f 9223372036854775807 ∧ f.1.1.length + f.1.2.length + f.2.length ≤ Rows.uptoBulk x.1 := by
  obtain ⟨xs, n, _, rfl, hl, hlen, hf⟩ := DataW.trod_struct Try.underlying34 h
  have hc : Try.prog.cellsOf 34 = 3 := by kernel_rfl
  rw [hc] at hl
  match cs, hl, xs, hlen with
  | [c0, c1, c2], _, [y0, y1], _ =>
    have e0 : DataW.trod enc Try.prog w base spare held n 30 [c0, c1] = some y0 := hf 0 _ rfl
    have e1 : DataW.trod enc Try.prog w base spare held n 9 [c2] = some y1 := hf 1 _ rfl
    obtain ⟨r, h1, a1, a2, a3⟩ := open_role_cells e0
    obtain ⟨s2, hs2, rfl, hm2⟩ := DataW.trod_string Try.underlying9 e1
    simp only [roleCells, List.cons.injEq, and_true] at h1 hs2
    obtain ⟨h1a, h1b⟩ := h1
    subst h1a h1b hs2
    unfold maxLen at hm2
    refine ⟨(r, s2.data.toList), rfl, ⟨a1, a2, hm2⟩, ?_⟩
    simp only [Rows.uptoBulk, Rows.uptoBulkAll, List.map_cons, List.map_nil]
    omega

set_option maxRecDepth 100000 in
/-- Twelve cells that are read as a step. -/
theorem open_step_cells {spare : Nat → Bool} {cs : List Value} {x : DataW H × List MemPlace} (h : DataW.trod enc Try.prog w base spare held fuel 36 cs = some x) :
    ∃ s : StepB, cs = stepCells s ∧ stepShort s 9223372036854775807 ∧ sizeSt s ≤ 3 * Rows.uptoBulk x.1 := by
  obtain ⟨xs, n, _, rfl, hl, hlen, hf⟩ := DataW.trod_struct Try.underlying36 h
  have hc : Try.prog.cellsOf 36 = 12 := by kernel_rfl
  rw [hc] at hl
  match cs, hl, xs, hlen with
  | [c0, c1, c2, c3, c4, c5, c6, c7, c8, c9, c10, c11], _, [y0, y1], _ =>
    have e0 : DataW.trod enc Try.prog w base spare held n 32 [c0, c1, c2, c3, c4, c5, c6, c7, c8] = some y0 := hf 0 _ rfl
    have e1 : DataW.trod enc Try.prog w base spare held n 34 [c9, c10, c11] = some y1 := hf 1 _ rfl
    obtain ⟨c, h1, h2, h3⟩ := open_cred_cells e0
    obtain ⟨f, g1, g2, g3⟩ := open_fact_cells e1
    refine ⟨⟨c, f⟩, ?_, ⟨h2, g2⟩, ?_⟩
    · have : [c0, c1, c2, c3, c4, c5, c6, c7, c8] ++ [c9, c10, c11] = credCells c ++ factCells f := by rw [h1, g1]
      exact this
    · simp only [sizeSt, Rows.uptoBulk, Rows.uptoBulkAll, List.map_cons, List.map_nil]
      omega

theorem bulk_steps (D : Nat → DataW H) : ∀ (l : List StepB), (∀ i (h : i < l.length), sizeSt l[i] ≤ 3 * Rows.uptoBulk (D i)) → totalSt l ≤ 3 * Rows.uptoBulkAll ((List.range l.length).map D)
  | [], _ => Nat.zero_le _
  | x :: l, h => by
    have ih := bulk_steps (fun i => D (i + 1)) l (fun i hi => h (i + 1) (by simp only [List.length_cons]; omega))
    rw [List.length_cons, List.range_succ_eq_map, List.map_cons, List.map_map]
    simp only [totalSt, Rows.uptoBulkAll]
    have h0 := h 0 (by simp)
    simp only [List.getElem_cons_zero] at h0
    have e : (List.range l.length).map (D ∘ Nat.succ) = (List.range l.length).map (fun i => D (i + 1)) := rfl
    rw [e]
    omega

set_option maxRecDepth 100000 in
/-- A list of steps that came in. -/
theorem open_steps {cs : List Value} {x : DataW H × List MemPlace} (h : DataW.trod enc Try.prog w base (fun _ => true) held fuel 22 cs = some x) :
    ∃ (ao : Option Addr) (cap : Nat) (ls : List StepB), cs = [.slice ao ls.length cap] ∧ StepsAt (fun k => k < w.heap.size) w ao ls ∧ totalSt ls ≤ 3 * Rows.uptoBulk x.1 ∧ ls.length ≤ cap ∧ cap ≤ 9223372036854775807 := by
  rcases open_slice Try.underlying22 h with ⟨rfl, rfl⟩ | ⟨a, len, cap, m, n, D, Pl, rfl, _, hl, hm, hmm, rfl, hi⟩
  · exact ⟨none, 0, [], rfl, StepsAt.nil _ _ _, Nat.zero_le _, Nat.le_refl _, by omega⟩
  · simp only [if_true] at hmm
    have hc12 : Try.prog.cellsOf 36 = 12 := by kernel_rfl
    have each : ∀ i, i < len → ∃ y : StepB, (∃ b off, some a = some ⟨b, off, none⟩ ∧ b < w.heap.size ∧ StepAt w b (off + i * 12) y ∧ stepShort y 9223372036854775807) ∧ sizeSt y ≤ 3 * Rows.uptoBulk (D i) := by
      intro i hil
      obtain ⟨cs', hcs, ht⟩ := hi i (by omega)
      rw [hc12] at hcs
      obtain ⟨r, hr, h1, h2⟩ := open_step_cells ht
      subst hr
      obtain ⟨_, _, hat⟩ := World.cells?_some hcs
      have hs : a = ⟨a.block, a.off, none⟩ := by
        obtain ⟨cs'', hcs'', ht''⟩ := hi 0 (by omega)
        rw [hc12] at hcs''
        obtain ⟨r'', hr'', _⟩ := open_step_cells ht''
        subst hr''
        obtain ⟨_, _, hat''⟩ := World.cells?_some hcs''
        have q := hat'' 0 (by decide)
        rw [Nat.zero_mul, add_zero, add_zero] at q
        exact spot_none q
      have hall : ∀ j, j < 12 → w.cell? ⟨a.block, a.off + i * 12 + j, none⟩ = (stepCells r)[j]? := fun j hj => by
        have q := hat j (by simpa [stepCells] using hj)
        rw [hs, add_off, add_off] at q
        exact q
      have hat12 := step_at_cells hall
      exact ⟨r, ⟨a.block, a.off, congrArg some hs, World.block_lt_of_cell? w ⟨a.block, a.off + i * 12, none⟩ hat12.c.k0, hat12, h1⟩, h2⟩
    obtain ⟨xs, hlen, hp⟩ := choose_roles len _ each
    subst hlen
    refine ⟨some a, cap, xs, rfl, fun i hi => (hp i hi).1, ?_, hl, hm⟩
    have := bulk_steps D xs (fun i hi => (hp i hi).2)
    simp only [Rows.uptoBulk]
    omega
end
end Go.Proofs.Ytcdjjengkdbngaa

/- The kinds of credentials and of steps that came in are ints as they can be. -/
namespace Go.Proofs.Ytcdjjengkdbngaa
open Go.ChangeShapes Go.WideShapes Go.ChangeAt Go.RowKit Go.Deep

section
variable {H : Type} {enc : TypeId × Value → H} {w : World} {base : Nat} {held : Bool} {fuel : Nat}

set_option maxRecDepth 100000 in
theorem cred_kindW {spare : Nat → Bool} {v : Value} {cs : List Value} {x : DataW H × List MemPlace} {k : Int} (h : DataW.trod enc Try.prog w base spare held fuel 32 (v :: cs) = some x) (hv : v = .int .i64 k) : (Lit.int .i64 k).wf = true := by
  obtain ⟨xs, n, _, rfl, hl, hlen, hf⟩ := DataW.trod_struct Try.underlying32 h
  have hc : Try.prog.cellsOf 32 = 9 := by kernel_rfl
  rw [hc] at hl
  match cs, hl, xs, hlen with
  | [c1, c2, c3, c4, c5, c6, c7, c8], _, [y0, y1, y2, y3, y4, y5], _ =>
    have e0 : DataW.trod enc Try.prog w base spare held n 3 [v] = some y0 := hf 0 _ rfl
    obtain ⟨j, hj, rfl, hw⟩ := DataW.trod_int Try.underlying3 e0
    simp only [List.cons.injEq, and_true] at hj
    rw [hv] at hj
    cases hj
    exact hw

set_option maxRecDepth 100000 in
theorem creds_kinds {ao : Option Addr} {cap : Nat} {ls : List CredB} {D : Nat → Prop} {x : DataW H × List MemPlace} (h : DataW.trod enc Try.prog w base (fun _ => true) held fuel 23 [.slice ao ls.length cap] = some x) (hst : CredsAt D w ao ls) : KindsC ls := by
  intro c hcm
  obtain ⟨i, hi0, rfl⟩ := List.getElem_of_mem hcm
  rcases open_slice Try.underlying23 h with ⟨h0, rfl⟩ | ⟨a, len, cap', m, n, D', Pl, h0, _, hl, hm, hmm, rfl, hi⟩
  · simp only [List.cons.injEq, Value.slice.injEq, and_true] at h0
    omega
  · simp only [List.cons.injEq, Value.slice.injEq, and_true] at h0
    obtain ⟨rfl, rfl, rfl⟩ := h0
    simp only [if_true] at hmm
    have hc9 : Try.prog.cellsOf 32 = 9 := by kernel_rfl
    obtain ⟨cs', hcs, ht⟩ := hi i (by omega)
    rw [hc9] at hcs
    obtain ⟨b, off, ha, _, hat, _⟩ := hst i hi0
    cases ha
    obtain ⟨_, hlen, hc⟩ := World.cells?_some hcs
    cases cs' with
    | nil => simp at hlen
    | cons v cs' =>
      have q := hc 0 (by simp)
      rw [add_off, add_off] at q
      simp only [List.getElem?_cons_zero, Nat.add_zero] at q
      have k0 := hat.k0
      rw [q] at k0
      exact cred_kindW ht (by simpa using k0)

set_option maxRecDepth 100000 in
theorem steps_kinds {ao : Option Addr} {cap : Nat} {ls : List StepB} {D : Nat → Prop} {x : DataW H × List MemPlace} (h : DataW.trod enc Try.prog w base (fun _ => true) held fuel 22 [.slice ao ls.length cap] = some x) (hst : StepsAt D w ao ls) : KindsS ls := by
  intro s hsm
  obtain ⟨i, hi0, rfl⟩ := List.getElem_of_mem hsm
  rcases open_slice Try.underlying22 h with ⟨h0, rfl⟩ | ⟨a, len, cap', m, n, D', Pl, h0, _, hl, hm, hmm, rfl, hi⟩
  · simp only [List.cons.injEq, Value.slice.injEq, and_true] at h0
    omega
  · simp only [List.cons.injEq, Value.slice.injEq, and_true] at h0
    obtain ⟨rfl, rfl, rfl⟩ := h0
    simp only [if_true] at hmm
    have hc12 : Try.prog.cellsOf 36 = 12 := by kernel_rfl
    obtain ⟨cs', hcs, ht⟩ := hi i (by omega)
    rw [hc12] at hcs
    obtain ⟨b, off, ha, _, hat, _⟩ := hst i hi0
    cases ha
    obtain ⟨_, hlen, hc⟩ := World.cells?_some hcs
    obtain ⟨xs, n2, _, _, hl2, hlen2, hf⟩ := DataW.trod_struct Try.underlying36 ht
    match cs', hlen, xs, hlen2 with
    | [c0, c1, c2, c3, c4, c5, c6, c7, c8, c9, c10, c11], _, [y0, y1], _ =>
      have e0 : DataW.trod enc Try.prog w base (fun _ => true) held n2 32 [c0, c1, c2, c3, c4, c5, c6, c7, c8] = some y0 := hf 0 _ rfl
      have q := hc 0 (by simp)
      rw [add_off, add_off] at q
      simp only [List.getElem?_cons_zero, Nat.add_zero] at q
      have k0 := hat.c.k0
      rw [q] at k0
      exact cred_kindW e0 (by simpa using k0)
end
end Go.Proofs.Ytcdjjengkdbngaa

/- A map by facts, of bools, as it lies in memory. -/
namespace Go.Proofs.Ytcdjjengkdbngaa
open Go.RowKit Go.Maps Go.ChangeMaps Go.WideMaps

/-- What a fact is as a map's key. -/
def factLit (f : FactB) : Lit := .string (keyBytes [.string f.1.1, .string f.1.2, .string f.2])
def factVal (f : FactB) : Value := .agg #[.string ⟨f.1.1.toArray⟩, .string ⟨f.1.2.toArray⟩, .string ⟨f.2.toArray⟩]

theorem factBelow : 34 < Try.prog.types.size := of_decide_eq_true (by kernel_rfl)

theorem factKeyed : Keyed Try.prog 34 :=
  Keyed.of_law (deep_law_laid Try.laidOut (m := 4) (by omega) factBelow (by kernel_rfl) (by rw [Try.underlying34]))

theorem factCellsN : Try.prog.cellsOf 34 = 3 := by kernel_rfl
theorem roleCellsN : Try.prog.cellsOf 30 = 2 := by kernel_rfl
theorem strCellsN : Try.prog.cellsOf 9 = 1 := by kernel_rfl

theorem keyStrF (d : Nat) {s : List UInt8} (h : s.length ≤ 9223372036854775807) : Try.prog.keyLits (d + 1) 9 [.string ⟨s.toArray⟩] = some [.string s] := by
  have b1 : (ByteArray.mk s.toArray).size ≤ maxLen := by unfold maxLen; simpa [ByteArray.size] using h
  unfold Program.keyLits
  rw [Try.underlying9]
  simp [b1]

theorem keyRole (d : Nat) {a b : List UInt8} (ha : a.length ≤ 9223372036854775807) (hb : b.length ≤ 9223372036854775807) : Try.prog.keyLits (d + 1 + 1) 30 [.string ⟨a.toArray⟩, .string ⟨b.toArray⟩] = some [.string a, .string b] := by
  unfold Program.keyLits
  rw [Try.underlying30]
  simp [roleCellsN, strCellsN, keyStrF d ha, keyStrF d hb]

theorem keyFact (d : Nat) {f : FactB} (h : factShort f 9223372036854775807) : Try.prog.keyLits (d + 1 + 1 + 1) 34 (factVal f).cells.toList = some [.string f.1.1, .string f.1.2, .string f.2] := by
  obtain ⟨a1, a2, a3⟩ := h
  unfold Program.keyLits
  rw [Try.underlying34]
  simp [factVal, Value.cells, factCellsN, roleCellsN, strCellsN, keyRole d a1 a2, keyStrF (d + 1) a3]

theorem factReads {f : FactB} (h : factShort f 9223372036854775807) : Go.keyOf Try.prog 34 (factVal f) = some (factLit f) := by
  have h3 : 3 ≤ Try.prog.types.size := of_decide_eq_true (by kernel_rfl)
  obtain ⟨n, hn⟩ : ∃ n, Try.prog.types.size = n + 1 + 1 := ⟨Try.prog.types.size - 2, by omega⟩
  have h1 : Try.prog.keyType 34 = true := by kernel_rfl
  have h2 : (factVal f).formed Try.prog 34 = true := by unfold factVal; simp [Value.formed, Try.underlying34, factCellsN]
  unfold Go.keyOf
  rw [Try.underlying34]
  simp only [h1, h2, Bool.and_self, if_true, hn]
  rw [keyFact n h]
  rfl

/-- The map in the block mb holds the facts l. -/
structure FMap (w : World) (mb : Nat) (l : List FactB) : Prop where
  ex : ∃ M : DataW Value, w.ownsMap Try.prog 34 (plainElem Try.prog 4) mb l.length M ∧ (∀ f : FactB, factShort f 9223372036854775807 → Maps.has M (factLit f) = l.contains f) ∧ (∀ f : FactB, f ∈ l → ∀ z, M.atKey (factLit f) z = .lit (.bool true)) ∧ Maps.size M = l.length
  nd : l.Nodup
  sh : ∀ f ∈ l, factShort f 9223372036854775807

theorem FMap.keep {S : Nat → Prop} {w w' : World} {mb : Nat} {l : List FactB} (h : FMap w mb l) (hc : Chg S w w') (hs : ¬ S mb) : FMap w' mb l := by
  obtain ⟨⟨M, h1, h2, h3, h4⟩, h5, h6⟩ := h
  obtain ⟨es, clock, hb, r⟩ := h1
  exact ⟨⟨M, ⟨es, clock, blk_keep hb hc hs, r⟩, h2, h3, h4⟩, h5, h6⟩

theorem FMap.lt {w : World} {mb : Nat} {l : List FactB} (h : FMap w mb l) : mb < w.heap.size := by
  obtain ⟨⟨M, h1, _⟩, _⟩ := h
  exact h1.lt

/-- One more. -/
def addF (l : List FactB) (f : FactB) : List FactB := if l.contains f then l else l ++ [f]

end Go.Proofs.Ytcdjjengkdbngaa

/- The contract of founded, of law ModelLeast: facts that are told one by one. -/
namespace Go.Proofs.Ytcdjjengkdbngaa
open Go.RowKit

/-- Amid a round over the credentials: H are the facts, H0 those at the round's start. -/
structure RoundA (ls : List CredB) (ns : List (List UInt8)) (H0 : List FactB) (k : Nat) (H : List FactB) : Prop where
  der : ∀ f ∈ H, Der ls f
  le : H0.length ≤ H.length
  cl : H.length = H0.length → H = H0 ∧ ∀ c ∈ ls.take k, isCred c = true → ∀ s ∈ ns, stepP (inF H0) c ns s = true → (c.head, s) ∈ H0

/-- Amid the facts that one credential brings. -/
structure InnerA (ls : List CredB) (Hk : List FactB) (hs : List FactB) (j : Nat) (H : List FactB) : Prop where
  der : ∀ f ∈ H, Der ls f
  le : Hk.length ≤ H.length
  cl : H.length = Hk.length → H = Hk ∧ ∀ f ∈ hs.take j, f ∈ Hk

theorem addF_len (l : List FactB) (f : FactB) : l.length ≤ (addF l f).length ∧ (addF l f).length ≤ l.length + 1 := by
  unfold addF
  split <;> simp

theorem InnerA.step {ls : List CredB} {Hk hs H : List FactB} {j : Nat} (h : InnerA ls Hk hs j H) (hj : j < hs.length) (hd : Der ls hs[j]) : InnerA ls Hk hs (j + 1) (addF H hs[j]) := by
  have hl := addF_len H hs[j]
  refine ⟨fun f hf => ?_, Nat.le_trans h.le hl.1, fun e => ?_⟩
  · unfold addF at hf
    split at hf
    · exact h.der f hf
    · rcases List.mem_append.1 hf with h1 | h1
      · exact h.der f h1
      · simp at h1; subst h1; exact hd
  · have h1 := h.le
    have hH : H.length = Hk.length := by omega
    obtain ⟨e1, e2⟩ := h.cl hH
    have hin : H.contains hs[j] = true := by
      unfold addF at e
      split at e
      · assumption
      · simp at e; omega
    refine ⟨by unfold addF; rw [if_pos hin]; exact e1, fun f hf => ?_⟩
    rw [List.take_succ_eq_append_getElem hj] at hf
    rcases List.mem_append.1 hf with h2 | h2
    · exact e2 f h2
    · simp at h2; subst h2; subst e1; simpa using hin

theorem names_all {ns : List (List UInt8)} (h : ∀ x ∈ ns, isName x = true) : ns.filter isName = ns := List.filter_eq_self.2 h

theorem RoundA.next {ls : List CredB} {ns : List (List UInt8)} {H0 Hk hs H : List FactB} {k : Nat} (h : RoundA ls ns H0 k Hk) (hk : k < ls.length) (hn : ∀ x ∈ ns, isName x = true) (_ : ∀ c ∈ ls, isCred c = true → c.kind = 1 → c.who ∈ ns) (hh : HoldsOf (inF Hk) ls[k] ns hs) (hi : InnerA ls Hk hs hs.length H) : RoundA ls ns H0 (k + 1) H := by
  refine ⟨hi.der, Nat.le_trans h.le hi.le, fun e => ?_⟩
  have h1 := h.le
  have h2 := hi.le
  obtain ⟨e1, e2⟩ := hi.cl (by omega)
  obtain ⟨e3, e4⟩ := h.cl (by omega)
  subst e1
  subst e3
  refine ⟨rfl, fun c hc hr s hs' hst => ?_⟩
  rw [List.take_succ_eq_append_getElem hk] at hc
  rcases List.mem_append.1 hc with h3 | h3
  · exact e4 c h3 hr s hs' hst
  · simp at h3
    subst h3
    rw [List.take_length] at e2
    refine e2 _ ((hh.2 _).2 ⟨hr, rfl, by rw [names_all hn]; exact hst, fun _ => ⟨hs', hn s hs'⟩⟩)

/-- The rounds: so many are done, each of which has brought one at least. -/
structure RoundsA (ls : List CredB) (i : Nat) (H : List FactB) : Prop where
  der : ∀ f ∈ H, Der ls f
  ge : i ≤ H.length

theorem RoundsA.start {ls : List CredB} {i : Nat} {H : List FactB} (h : RoundsA ls i H) (ns : List (List UInt8)) : RoundA ls ns H 0 H :=
  ⟨h.der, Nat.le_refl _, fun _ => ⟨rfl, fun c hc => by simp at hc⟩⟩

theorem der_le {ls : List CredB} {xs H : List FactB} (hx : ModelOf ls xs) (hd : ∀ f ∈ H, Der ls f) (hn : H.Nodup) : H.length ≤ xs.length :=
  nodup_lengthG _ _ hn fun f hf => (hx.2 f).2 (hd f hf)

theorem RoundsA.done {ls : List CredB} {xs H : List FactB} (h : RoundsA ls xs.length H) (hx : ModelOf ls xs) (hd : H.Nodup) : H.length = xs.length :=
  Nat.le_antisymm (der_le hx h.der hd) h.ge

end Go.Proofs.Ytcdjjengkdbngaa

/- append of a list of credentials, onto a row of the call's own. -/
namespace Go.Proofs.Ytcdjjengkdbngaa
open Go.RowKit

/-- Rows of n credentials and fewer, and those that hold full, from the block B on, are kept. -/
def RowsK (B n : Nat) (full : List CredB) (w w' : World) : Prop := ∀ v zs, (zs.length ≤ n ∨ zs = full) → OwnC B w v zs → OwnC B w' v zs
theorem RowsK.refl (B n : Nat) (full : List CredB) (w : World) : RowsK B n full w w := fun _ _ _ h => h
theorem RowsK.trans {B n : Nat} {full : List CredB} {a b c : World} (h : RowsK B n full a b) (k : RowsK B n full b c) : RowsK B n full a c := fun v zs hz ho => k v zs hz (h v zs hz ho)
theorem RowsK.of_chg {B n : Nat} {full : List CredB} {a b : World} (h : Chg (fun _ => False) a b) : RowsK B n full a b := fun _ _ _ ho => ho.keep h (fun _ _ => id)

end Go.Proofs.Ytcdjjengkdbngaa
