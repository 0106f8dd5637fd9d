/- Texts that the proof leans on, in one: KeyOpen2, SignSized, OpsOpen. -/
import Derived.Test.YtfpaoaflhbppgaaVm7
import Derived.Test.YtfpaoaflhbppgaaVm16
import Derived.Test.YtfpaoaflhbppgaaVm8
/- Keys and signed credentials that came in, one or a list, opened to cells; how much they hold. -/
namespace Go.Proofs.Ytfpaoaflhbppgaa
open Go.ChangeShapes Go.WideShapes Go.ChangeAt Go.RowKit Go.Deep

section
variable {H : Type} {enc : TypeId × Value → H} {w : World} {base : Nat} {held : Bool} {fuel : Nat}

theorem bulk_lits (k : IntKind) : ∀ zs : List Int, Rows.uptoBulkAll (lits (H := H) k zs) = zs.length
  | [] => rfl
  | z :: r => by
    have ih := bulk_lits k r
    show Rows.uptoBulk (DataW.lit (.int k z)) + Rows.uptoBulkAll (lits (H := H) k r) = _
    rw [ih, List.length_cons]
    simp only [Rows.uptoBulk]
    omega

theorem open_bytesB {cs : List Value} {x : DataW H × List MemPlace} (h : DataW.trod enc Try.prog w base (fun _ => true) held fuel 33 cs = some x) :
    ∃ (ao : Option Addr) (cap : Nat) (l : List UInt8), cs = [.slice ao l.length cap] ∧ l.length ≤ 9223372036854775807 ∧ BytesAt (fun k => k < w.heap.size) w (.slice ao l.length cap) l ∧ l.length < Rows.uptoBulk x.1 := by
  obtain ⟨ao, cap, l, h1, h2, h3⟩ := open_bytes h
  refine ⟨ao, cap, l, h1, h2, h3, ?_⟩
  rcases open_ints Try.underlying33 Try.underlying5 (by kernel_rfl) h with ⟨e, rfl⟩ | ⟨a, len, cap', zs, e, _, hl, _, hz, rfl, _⟩
  · rw [h1] at e
    simp only [List.cons.injEq, and_true, Value.slice.injEq] at e
    rw [e.2.1]
    simp only [Rows.uptoBulk]
    omega
  · rw [h1] at e
    simp only [List.cons.injEq, and_true, Value.slice.injEq] at e
    simp only [if_true] at hz
    rw [e.2.1]
    simp only [Rows.uptoBulk, bulk_lits, List.length_take, List.length_drop]
    omega

set_option maxRecDepth 100000 in
/-- Two cells that are read as a key. -/
theorem open_key_cellsB {cs : List Value} {x : DataW H × List MemPlace} (h : DataW.trod enc Try.prog w base (fun _ => true) held fuel 75 cs = some x) :
    ∃ (k : KeyB) (ka : Option Addr) (cap : Nat), cs = [.string ⟨k.who.toArray⟩, .slice ka k.key.length cap] ∧ BytesAt (fun i => i < w.heap.size) w (.slice ka k.key.length cap) k.key ∧ k.who.length ≤ 9223372036854775807 ∧ k.key.length ≤ 9223372036854775807 ∧ sizeK k ≤ 4 * Rows.uptoBulk x.1 := by
  obtain ⟨y0, y1, n, rfl, hl, h0, h1⟩ := trod_struct2 Try.underlying75 h
  have hc : Try.prog.cellsOf 75 = 2 := by kernel_rfl
  rw [hc] at hl
  match cs, hl with
  | [c0, c1], _ =>
    have e0 : DataW.trod enc Try.prog w base (fun _ => true) held n 9 [c0] = some y0 := h0
    have e1 : DataW.trod enc Try.prog w base (fun _ => true) held n 33 [c1] = some y1 := h1
    obtain ⟨s0, hs0, rfl, hm0⟩ := DataW.trod_string Try.underlying9 e0
    obtain ⟨ka, cap, ys, hcs, hlen, hby, hbu⟩ := open_bytesB e1
    simp only [List.cons.injEq, and_true] at hs0 hcs
    subst hs0 hcs
    unfold maxLen at hm0
    refine ⟨⟨s0.data.toList, ys⟩, ka, cap, rfl, hby, hm0, hlen, ?_⟩
    simp only [sizeK, Rows.uptoBulk, Rows.uptoBulkAll]
    omega

theorem bulk_keys (D : Nat → DataW H) : ∀ (l : List KeyB), (∀ i (h : i < l.length), sizeK l[i] ≤ 4 * Rows.uptoBulk (D i)) → totalK l ≤ 4 * Rows.uptoBulkAll ((List.range l.length).map D)
  | [], _ => Nat.zero_le _
  | x :: l, h => by
    have ih := bulk_keys (fun i => D (i + 1)) l (fun i hi => h (i + 1) (by simp only [List.length_cons]; omega))
    rw [List.length_cons, List.range_succ_eq_map, List.map_cons, List.map_map]
    simp only [totalK, Rows.uptoBulkAll]
    have h0 := h 0 (by simp)
    simp only [List.getElem_cons_zero] at h0
    have e : (List.range l.length).map (D ∘ Nat.succ) = (List.range l.length).map (fun i => D (i + 1)) := rfl
    rw [e]
    omega

set_option maxRecDepth 100000 in
/-- A list of keys that came in. -/
theorem open_keys {cs : List Value} {x : DataW H × List MemPlace} (h : DataW.trod enc Try.prog w base (fun _ => true) held fuel 73 cs = some x) :
    ∃ (ao : Option Addr) (cap : Nat) (ls : List KeyB), cs = [.slice ao ls.length cap] ∧ KeysAt (fun k => k < w.heap.size) w ao ls ∧ totalK ls ≤ 4 * Rows.uptoBulk x.1 ∧ ls.length ≤ cap := by
  rcases open_slice Try.underlying73 h with ⟨rfl, rfl⟩ | ⟨a, len, cap, m, n, D, Pl, rfl, _, hl, hm, hmm, rfl, hi⟩
  · exact ⟨none, 0, [], rfl, KeysAt.nil _ _ _, Nat.zero_le _, Nat.le_refl _⟩
  · simp only [if_true] at hmm
    have hc2 : Try.prog.cellsOf 75 = 2 := by kernel_rfl
    have each : ∀ i, i < len → ∃ y : KeyB, (∃ b off, some a = some ⟨b, off, none⟩ ∧ b < w.heap.size ∧ KeyAt (fun k => k < w.heap.size) w b (off + i * 2) y) ∧ sizeK y ≤ 4 * Rows.uptoBulk (D i) := by
      intro i hil
      obtain ⟨cs', hcs, ht⟩ := hi i (by omega)
      rw [hc2] at hcs
      obtain ⟨r, ka, kc, hr, h1, h2, h3, h4⟩ := open_key_cellsB ht
      subst hr
      obtain ⟨_, _, hat⟩ := World.cells?_some hcs
      have hs : a = ⟨a.block, a.off, none⟩ := by
        obtain ⟨cs'', hcs'', ht''⟩ := hi 0 (by omega)
        rw [hc2] at hcs''
        obtain ⟨r'', ka'', kc'', hr'', _⟩ := open_key_cellsB ht''
        subst hr''
        obtain ⟨_, _, hat''⟩ := World.cells?_some hcs''
        have q := hat'' 0 (by decide)
        rw [Nat.zero_mul, add_zero, add_zero] at q
        exact spot_none q
      have hall : ∀ j, j < 2 → w.cell? ⟨a.block, a.off + i * 2 + j, none⟩ = ([.string ⟨r.who.toArray⟩, .slice ka r.key.length kc] : List Value)[j]? := fun j hj => by
        have q := hat j (by simpa using hj)
        rw [hs, add_off, add_off] at q
        exact q
      have k0 := hall 0 (by decide)
      have k1 := hall 1 (by decide)
      simp only [Nat.add_zero, List.getElem?_cons_zero, List.getElem?_cons_succ] at k0 k1
      exact ⟨r, ⟨a.block, a.off, congrArg some hs, World.block_lt_of_cell? w ⟨a.block, a.off + i * 2, none⟩ k0, ⟨k0, ⟨ka, kc, k1, h1⟩, h2, h3⟩⟩, h4⟩
    obtain ⟨xs, hlen, hp⟩ := choose_roles len _ each
    subst hlen
    refine ⟨some a, cap, xs, rfl, fun i hi => (hp i hi).1, ?_, hl⟩
    have := bulk_keys D xs (fun i hi => (hp i hi).2)
    simp only [Rows.uptoBulk]
    omega

set_option maxRecDepth 100000 in
/-- Ten cells that are read as a signed credential. -/
theorem open_sign_cells {cs : List Value} {x : DataW H × List MemPlace} (h : DataW.trod enc Try.prog w base (fun _ => true) held fuel 35 cs = some x) :
    ∃ (s : SignB) (ta : Option Addr) (cap : Nat), cs = credCells s.c ++ [.slice ta s.tag.length cap] ∧ BytesAt (fun i => i < w.heap.size) w (.slice ta s.tag.length cap) s.tag ∧ credShort s.c 9223372036854775807 ∧ s.tag.length ≤ 9223372036854775807 ∧ sizeS s ≤ 3 * Rows.uptoBulk x.1 := by
  obtain ⟨xs, n, _, rfl, hl, hlen, hf⟩ := DataW.trod_struct Try.underlying35 h
  have hc : Try.prog.cellsOf 35 = 10 := by kernel_rfl
  have hr : Try.prog.cellsOf 32 = 9 := by kernel_rfl
  rw [hc] at hl
  match cs, hl, xs, hlen with
  | [c0, c1, c2, c3, c4, c5, c6, c7, c8, c9], _, [y0, y1], _ =>
    have e0 : DataW.trod enc Try.prog w base (fun _ => true) held n 32 [c0, c1, c2, c3, c4, c5, c6, c7, c8] = some y0 := hf 0 _ rfl
    have e1 : DataW.trod enc Try.prog w base (fun _ => true) held n 33 [c9] = some y1 := hf 1 _ rfl
    obtain ⟨c, hcc, hsh, hsz⟩ := open_cred_cells e0
    obtain ⟨ta, cap, ys, hcs, hln, hby, hbu⟩ := open_bytesB e1
    simp only [credCells, List.cons.injEq, and_true] at hcc hcs
    obtain ⟨rfl, rfl, rfl, rfl, rfl, rfl, rfl, rfl, rfl⟩ := hcc
    subst hcs
    refine ⟨⟨c, ys⟩, ta, cap, rfl, hby, hsh, hln, ?_⟩
    simp only [sizeS, Rows.uptoBulk, Rows.uptoBulkAll, List.map_cons, List.map_nil]
    omega

set_option maxRecDepth 100000 in
/-- A signed credential that came in. -/
theorem open_sign {base0 : Nat} {r : Reach} {v : Value} {d : DataW H} {ps : List MemPlace} (hval : Value.okWide Try.prog w r base0 35 v) (hd : DataW.Trod enc Try.prog w base (fun _ => true) held 35 v d ps) :
    ∃ (s : SignB) (ta : Option Addr) (cap : Nat), v = signV s.c (.slice ta s.tag.length cap) ∧ BytesAt (fun i => i < w.heap.size) w (.slice ta s.tag.length cap) s.tag ∧ credShort s.c 9223372036854775807 ∧ s.tag.length ≤ 9223372036854775807 ∧ sizeS s ≤ 3 * Rows.uptoBulk d := by
  obtain ⟨cs, rfl, _⟩ := okWide_struct Try.underlying35 hval
  obtain ⟨n, hn⟩ := hd
  obtain ⟨s, ta, cap, hx, h1, h2, h3, h4⟩ := open_sign_cells hn
  refine ⟨s, ta, cap, ?_, h1, h2, h3, h4⟩
  have : cs.toList = credCells s.c ++ [Value.slice ta s.tag.length cap] := hx
  have e : cs = (credCells s.c ++ [Value.slice ta s.tag.length cap]).toArray := by rw [← this]
  rw [e]
  rfl

theorem bulk_signs (D : Nat → DataW H) : ∀ (l : List SignB), (∀ i (h : i < l.length), sizeS l[i] ≤ 3 * Rows.uptoBulk (D i)) → totalS l ≤ 3 * Rows.uptoBulkAll ((List.range l.length).map D)
  | [], _ => Nat.zero_le _
  | x :: l, h => by
    have ih := bulk_signs (fun i => D (i + 1)) l (fun i hi => h (i + 1) (by simp only [List.length_cons]; omega))
    rw [List.length_cons, List.range_succ_eq_map, List.map_cons, List.map_map]
    simp only [totalS, Rows.uptoBulkAll]
    have h0 := h 0 (by simp)
    simp only [List.getElem_cons_zero] at h0
    have e : (List.range l.length).map (D ∘ Nat.succ) = (List.range l.length).map (fun i => D (i + 1)) := rfl
    rw [e]
    omega

set_option maxRecDepth 100000 in
/-- A list of signed credentials that came in. -/
theorem open_signs {cs : List Value} {x : DataW H × List MemPlace} (h : DataW.trod enc Try.prog w base (fun _ => true) held fuel 45 cs = some x) :
    ∃ (ao : Option Addr) (cap : Nat) (ls : List SignB), cs = [.slice ao ls.length cap] ∧ SignsAt (fun k => k < w.heap.size) w ao ls ∧ totalS ls ≤ 3 * Rows.uptoBulk x.1 := by
  rcases open_slice Try.underlying45 h with ⟨rfl, rfl⟩ | ⟨a, len, cap, m, n, D, Pl, rfl, _, hl, hm, hmm, rfl, hi⟩
  · exact ⟨none, 0, [], rfl, SignsAt.nil _ _ _, Nat.zero_le _⟩
  · simp only [if_true] at hmm
    have hc10 : Try.prog.cellsOf 35 = 10 := by kernel_rfl
    have each : ∀ i, i < len → ∃ y : SignB, (∃ b off, some a = some ⟨b, off, none⟩ ∧ b < w.heap.size ∧ SignAt (fun k => k < w.heap.size) w b (off + i * 10) y) ∧ sizeS y ≤ 3 * Rows.uptoBulk (D i) := by
      intro i hil
      obtain ⟨cs', hcs, ht⟩ := hi i (by omega)
      rw [hc10] at hcs
      obtain ⟨s, ta, tc, hr, h1, h2, h3, h4⟩ := open_sign_cells ht
      subst hr
      obtain ⟨_, _, hat⟩ := World.cells?_some hcs
      have hs : a = ⟨a.block, a.off, none⟩ := by
        obtain ⟨cs'', hcs'', ht''⟩ := hi 0 (by omega)
        rw [hc10] at hcs''
        obtain ⟨s'', ta'', tc'', hr'', _⟩ := open_sign_cells ht''
        subst hr''
        obtain ⟨_, _, hat''⟩ := World.cells?_some hcs''
        have q := hat'' 0 (by simp [credCells])
        rw [Nat.zero_mul, add_zero, add_zero] at q
        exact spot_none q
      have hall : ∀ j, j < 10 → w.cell? ⟨a.block, a.off + i * 10 + j, none⟩ = (credCells s.c ++ [Value.slice ta s.tag.length tc])[j]? := fun j hj => by
        have q := hat j (by simpa [credCells] using hj)
        rw [hs, add_off, add_off] at q
        exact q
      have hcr : CredAt w a.block (a.off + i * 10) s.c := cred_at_cells' fun j hj => by
        rw [hall j (by omega), List.getElem?_append_left (by simpa [credCells] using hj)]
      have k9 := hall 9 (by decide)
      exact ⟨s, ⟨a.block, a.off, congrArg some hs, World.block_lt_of_cell? w ⟨a.block, a.off + i * 10, none⟩ hcr.k0, ⟨hcr, ⟨ta, tc, k9, h1⟩, h2, h3⟩⟩, h4⟩
    obtain ⟨xs, hlen, hp⟩ := choose_roles len _ each
    subst hlen
    refine ⟨some a, cap, xs, rfl, fun i hi => (hp i hi).1, ?_⟩
    have := bulk_signs D xs (fun i hi => (hp i hi).2)
    simp only [Rows.uptoBulk]
    omega
end
end Go.Proofs.Ytfpaoaflhbppgaa

/- How much a signed credential that came in can hold, by the reach of every claim. -/
namespace Go.Proofs.Ytfpaoaflhbppgaa
open Go.ChangeShapes Go.WideShapes Go.ChangeAt Go.RowKit Go.Deep

section
variable {H : Type} {enc : TypeId × Value → H} {w : World} {base : Nat} {held : Bool} {fuel : Nat}

theorem reach_bytes {cs : List Value} {x : DataW H × List MemPlace} (h : DataW.trod enc Try.prog w base (fun _ => true) held fuel 33 cs = some x) (hr : InReach 33 x.1) :
    ∃ (ao : Option Addr) (cap : Nat) (l : List UInt8), cs = [.slice ao l.length cap] ∧ l.length ≤ reachBytes ∧ BytesAt (fun k => k < w.heap.size) w (.slice ao l.length cap) l := by
  obtain ⟨ao, cap, l, h1, h2, h3⟩ := open_bytes h
  refine ⟨ao, cap, l, h1, ?_, h3⟩
  rcases open_ints Try.underlying33 Try.underlying5 (by kernel_rfl) h with ⟨e, rfl⟩ | ⟨a, len, cap', zs, e, _, hl, _, hz, rfl, _⟩
  · rw [h1] at e
    simp only [List.cons.injEq, and_true, Value.slice.injEq] at e
    rw [e.2.1]
    exact Nat.zero_le _
  · rw [h1] at e
    simp only [List.cons.injEq, and_true, Value.slice.injEq] at e
    simp only [if_true] at hz
    rw [e.2.1]
    have hb : Try.prog.bytesOf 5 = 1 := by kernel_rfl
    have hll : ∀ q : List Int, (lits (H := H) .u8 q).length = q.length := fun q => by
      induction q with
      | nil => rfl
      | cons z r ih => exact congrArg (· + 1) ih
    have := hr (((lits (H := H) .u8 (zs.take len)).length + (lits (H := H) .u8 (zs.drop len)).length) * Try.prog.bytesOf 5) (by simp [DataW.weights, Try.underlying33])
    rw [hb, hll, hll, List.length_take, List.length_drop] at this
    omega

set_option maxRecDepth 100000 in
theorem reach_sign_cells {cs : List Value} {x : DataW H × List MemPlace} (h : DataW.trod enc Try.prog w base (fun _ => true) held fuel 35 cs = some x) (hr0 : InReach 35 x.1) :
    ∃ (s : SignB) (ta : Option Addr) (cap : Nat), cs = credCells s.c ++ [.slice ta s.tag.length cap] ∧ BytesAt (fun i => i < w.heap.size) w (.slice ta s.tag.length cap) s.tag ∧ credShort s.c 9223372036854775807 ∧ sizeS s ≤ 4503599627370496 := by
  obtain ⟨xs, n, _, rfl, hl, hlen, hf⟩ := DataW.trod_struct Try.underlying35 h
  have hc : Try.prog.cellsOf 35 = 10 := by kernel_rfl
  rw [hc] at hl
  match cs, hl, xs, hlen with
  | [c0, c1, c2, c3, c4, c5, c6, c7, c8, c9], _, [y0, y1], _ =>
    have e0 : DataW.trod enc Try.prog w base (fun _ => true) held n 32 [c0, c1, c2, c3, c4, c5, c6, c7, c8] = some y0 := hf 0 _ rfl
    have e1 : DataW.trod enc Try.prog w base (fun _ => true) held n 33 [c9] = some y1 := hf 1 _ rfl
    have hw : ∀ (j : Nat) (t : TypeId) (e : DataW H), [32, 33][j]? = some t → [y0.1, y1.1][j]? = some e → InReach t e := by
      intro j t e ht he k hk
      refine hr0 k ?_
      have := DataW.weights_mem_each (P := Try.prog) ht he k hk
      simpa [DataW.weights, Try.underlying35] using this
    obtain ⟨c, hcc, hsh⟩ := reach_cred_cells e0 (hw 0 _ _ rfl rfl)
    obtain ⟨ta, cap, ys, hcy, hln, hby⟩ := reach_bytes e1 (hw 1 _ _ rfl rfl)
    have hz := sizeC_reach hsh
    simp only [credCells, List.cons.injEq, and_true] at hcc hcy
    obtain ⟨rfl, rfl, rfl, rfl, rfl, rfl, rfl, rfl, rfl⟩ := hcc
    subst hcy
    refine ⟨⟨c, ys⟩, ta, cap, rfl, hby, hsh.mono (by decide), ?_⟩
    unfold reachBytes at hln
    unfold sizeS
    dsimp only
    omega

set_option maxRecDepth 100000 in
/-- A signed credential that came in. -/
theorem reach_sign {base0 : Nat} {r : Reach} {v : Value} {d : DataW H} {ps : List MemPlace} (hval : Value.okWide Try.prog w r base0 35 v) (hd : DataW.Trod enc Try.prog w base (fun _ => true) held 35 v d ps) (hr0 : InReach 35 d) :
    ∃ (s : SignB) (ta : Option Addr) (cap : Nat), v = signV s.c (.slice ta s.tag.length cap) ∧ BytesAt (fun i => i < w.heap.size) w (.slice ta s.tag.length cap) s.tag ∧ credShort s.c 9223372036854775807 ∧ sizeS s ≤ 4503599627370496 := by
  obtain ⟨cs, rfl, _⟩ := okWide_struct Try.underlying35 hval
  obtain ⟨n, hn⟩ := hd
  obtain ⟨s, ta, cap, hx, h1, h2, h3⟩ := reach_sign_cells hn hr0
  refine ⟨s, ta, cap, ?_, h1, h2, h3⟩
  have : cs.toList = credCells s.c ++ [Value.slice ta s.tag.length cap] := hx
  have e : cs = (credCells s.c ++ [Value.slice ta s.tag.length cap]).toArray := by rw [← this]
  rw [e]
  rfl
end
end Go.Proofs.Ytfpaoaflhbppgaa

/- The operations that the law of layer 7 is given, and its two words, opened to cells, with how much they can hold. -/
namespace Go.Proofs.Ytfpaoaflhbppgaa
open Go.ChangeShapes Go.WideShapes Go.ChangeAt Go.RowKit Go.Deep

theorem weights_mem_all {H : Type} {P : Program} {e : TypeId} : ∀ {ds : List (DataW H)} {d : DataW H}, d ∈ ds → ∀ n ∈ d.weights P e, n ∈ DataW.weightsAll P e ds
  | d0 :: ds, d, hd, n, hn => by
    simp only [DataW.weightsAll, List.mem_append]
    rcases List.mem_cons.1 hd with rfl | hd
    · exact .inl hn
    · exact .inr (weights_mem_all hd n hn)

section
variable {H : Type} {enc : TypeId × Value → H} {w : World} {base : Nat} {held : Bool} {fuel : Nat}

set_option maxRecDepth 100000 in
/-- Eleven cells that are read as an operation. -/
theorem reach_op_cells {cs : List Value} {x : DataW H × List MemPlace} (h : DataW.trod enc Try.prog w base (fun _ => true) held fuel 49 cs = some x) (hr0 : InReach 49 x.1) :
    ∃ (o : OpB) (ta : Option Addr) (cap : Nat), cs = .int .i64 o.kind :: (credCells o.s.c ++ [.slice ta o.s.tag.length cap]) ∧ BytesAt (fun i => i < w.heap.size) w (.slice ta o.s.tag.length cap) o.s.tag ∧ credShort o.s.c 9223372036854775807 ∧ sizeS o.s ≤ 4503599627370496 := by
  obtain ⟨xs, n, _, rfl, hl, hlen, hf⟩ := DataW.trod_struct Try.underlying49 h
  have hc : Try.prog.cellsOf 49 = 11 := by kernel_rfl
  rw [hc] at hl
  match cs, hl, xs, hlen with
  | [c0, c1, c2, c3, c4, c5, c6, c7, c8, c9, c10], _, [y0, y1], _ =>
    have e0 : DataW.trod enc Try.prog w base (fun _ => true) held n 3 [c0] = some y0 := hf 0 _ rfl
    have e1 : DataW.trod enc Try.prog w base (fun _ => true) held n 35 [c1, c2, c3, c4, c5, c6, c7, c8, c9, c10] = some y1 := hf 1 _ rfl
    have hw : ∀ (j : Nat) (t : TypeId) (e : DataW H), [3, 35][j]? = some t → [y0.1, y1.1][j]? = some e → InReach t e := by
      intro j t e ht he k hk
      refine hr0 k ?_
      have := DataW.weights_mem_each (P := Try.prog) ht he k hk
      simpa [DataW.weights, Try.underlying49] using this
    obtain ⟨k, hk, _, _⟩ := DataW.trod_int Try.underlying3 e0
    obtain ⟨s, ta, cap, hs, hby, hsh, hsz⟩ := reach_sign_cells e1 (hw 1 _ _ rfl rfl)
    simp only [List.cons.injEq, and_true] at hk
    subst hk
    rw [hs]
    exact ⟨⟨k, s⟩, ta, cap, rfl, hby, hsh, hsz⟩

theorem sizeS_tag (s : SignB) : s.tag.length ≤ sizeS s := by
  unfold sizeS
  omega

set_option maxRecDepth 100000 in
/-- A list of operations that came in. -/
theorem reach_ops {cs : List Value} {x : DataW H × List MemPlace} (h : DataW.trod enc Try.prog w base (fun _ => true) held fuel 22 cs = some x) (hr0 : InReach 22 x.1) :
    ∃ (ao : Option Addr) (cap : Nat) (ls : List OpB), cs = [.slice ao ls.length cap] ∧ OpsAt (fun k => k < w.heap.size) w ao ls ∧ (∀ o ∈ ls, sizeS o.s ≤ 4503599627370496) ∧ ls.length * 168 ≤ reachBytes := by
  rcases open_slice Try.underlying22 h with ⟨rfl, rfl⟩ | ⟨a, len, cap, m, n, D, Pl, rfl, _, hl, hm, hmm, rfl, hi⟩
  · exact ⟨none, 0, [], rfl, fun i hi => by simp at hi, (fun o ho => by cases ho), Nat.zero_le _⟩
  · simp only [if_true] at hmm
    have hc11 : Try.prog.cellsOf 49 = 11 := by kernel_rfl
    have hb : Try.prog.bytesOf 49 = 168 := by kernel_rfl
    have hels : ∀ i, i < len → InReach 49 (D i) := fun i hil k hk => by
      refine hr0 k ?_
      simp only [DataW.weights, Try.underlying22, List.mem_cons, List.mem_append]
      exact .inr (.inl (weights_mem_all (List.mem_map.2 ⟨i, List.mem_range.2 hil, rfl⟩) k hk))
    have hlen : len * 168 ≤ reachBytes := by
      have := hr0 (((List.range len).map D).length * 168 + ((List.range (m - len)).map fun j => D (len + j)).length * 168) (by simp [DataW.weights, Try.underlying22, hb, Nat.add_mul])
      simp only [List.length_map, List.length_range] at this
      omega
    have each : ∀ i, i < len → ∃ y : OpB, (∃ b off, some a = some ⟨b, off, none⟩ ∧ b < w.heap.size ∧ OpAt (fun k => k < w.heap.size) w b (off + i * 11) y) ∧ sizeS y.s ≤ 4503599627370496 := by
      intro i hil
      obtain ⟨cs', hcs, ht⟩ := hi i (by omega)
      rw [hc11] at hcs
      obtain ⟨o, ta, tc, hr, h1, h2, h3⟩ := reach_op_cells ht (hels i hil)
      subst hr
      obtain ⟨_, _, hat⟩ := World.cells?_some hcs
      have hs : a = ⟨a.block, a.off, none⟩ := by
        obtain ⟨cs'', hcs'', ht''⟩ := hi 0 (by omega)
        rw [hc11] at hcs''
        obtain ⟨s'', ta'', tc'', hr'', _⟩ := reach_op_cells ht'' (hels 0 (by omega))
        subst hr''
        obtain ⟨_, _, hat''⟩ := World.cells?_some hcs''
        have q := hat'' 0 (by simp)
        rw [Nat.zero_mul, add_zero, add_zero] at q
        exact spot_none q
      have hall : ∀ j, j < 11 → w.cell? ⟨a.block, a.off + i * 11 + j, none⟩ = (Value.int .i64 o.kind :: (credCells o.s.c ++ [Value.slice ta o.s.tag.length tc]))[j]? := fun j hj => by
        have q := hat j (by simpa [credCells] using hj)
        rw [hs, add_off, add_off] at q
        exact q
      have k0 := hall 0 (by decide)
      have hcr : CredAt w a.block (a.off + i * 11 + 1) o.s.c := cred_at_cells' fun j hj => by
        have q := hall (1 + j) (by omega)
        rw [show 1 + j = j + 1 by omega, List.getElem?_cons_succ, List.getElem?_append_left (by simpa [credCells] using hj)] at q
        rw [← q, show a.off + i * 11 + (j + 1) = a.off + i * 11 + 1 + j by omega]
      have k10 := hall 10 (by decide)
      have hln : o.s.tag.length ≤ 9223372036854775807 := Nat.le_trans (sizeS_tag o.s) (Nat.le_trans h3 (by decide))
      exact ⟨o, ⟨a.block, a.off, congrArg some hs, World.block_lt_of_cell? w ⟨a.block, a.off + i * 11 + 0, none⟩ k0, ⟨k0, ⟨hcr, ⟨ta, tc, k10, h1⟩, h2, hln⟩⟩⟩, h3⟩
    obtain ⟨xs, hxl, hp⟩ := choose_roles len _ each
    subst hxl
    refine ⟨some a, cap, xs, rfl, fun i hi => (hp i hi).1, fun o ho => ?_, hlen⟩
    obtain ⟨i, hil, rfl⟩ := List.getElem_of_mem ho
    exact (hp i hil).2

set_option maxRecDepth 100000 in
/-- Two words that came in. -/
theorem reach_words {base0 : Nat} {r : Reach} {v : Value} {d : DataW H} {ps : List MemPlace} (hval : Value.okWide Try.prog w r base0 23 v) (hd : DataW.Trod enc Try.prog w base (fun _ => true) held 23 v d ps) (hr0 : InReach 23 d) :
    ∃ p : List UInt8 × List UInt8, v = .agg #[.string ⟨p.1.toArray⟩, .string ⟨p.2.toArray⟩] ∧ p.1.length ≤ reachBytes ∧ p.2.length ≤ reachBytes := by
  obtain ⟨cs, rfl, _⟩ := okWide_array Try.underlying23 hval
  obtain ⟨n, hn⟩ := hd
  obtain ⟨xs, n2, _, hx, hl, hlen, hf⟩ := DataW.trod_array Try.underlying23 hn
  have hc : Try.prog.cellsOf 23 = 2 := by kernel_rfl
  have hc9 : Try.prog.cellsOf 9 = 1 := by kernel_rfl
  rw [hc] at hl
  rw [hc9] at hf
  obtain ⟨cl⟩ := cs
  match cl, hl, xs, hlen with
  | [c0, c1], _, [y0, y1], _ =>
    have e0 : DataW.trod enc Try.prog w base (fun _ => true) held n2 9 [c0] = some y0 := hf 0 (by decide)
    have e1 : DataW.trod enc Try.prog w base (fun _ => true) held n2 9 [c1] = some y1 := hf 1 (by decide)
    obtain ⟨s0, hs0, hy0, _⟩ := DataW.trod_string Try.underlying9 e0
    obtain ⟨s1, hs1, hy1, _⟩ := DataW.trod_string Try.underlying9 e1
    have hd : d = .agg [y0.1, y1.1] := (Prod.ext_iff.1 hx).1
    have hw : ∀ e ∈ [y0.1, y1.1], InReach 9 e := fun e he k hk => hr0 k (by
      rw [hd]
      simp only [DataW.weights, Try.underlying23]
      exact weights_mem_all he k hk)
    have w0 := hw y0.1 (by simp)
    have w1 := hw y1.1 (by simp)
    rw [hy0] at w0
    rw [hy1] at w1
    simp only [List.cons.injEq, and_true] at hs0 hs1
    subst hs0 hs1
    exact ⟨(s0.data.toList, s1.data.toList), rfl, w0.str, w1.str⟩
end
end Go.Proofs.Ytfpaoaflhbppgaa
