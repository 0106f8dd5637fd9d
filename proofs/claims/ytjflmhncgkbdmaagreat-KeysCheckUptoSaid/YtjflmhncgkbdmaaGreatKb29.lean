/- Texts that the proof leans on, in one: CredOpen, KeyOpen2. -/
import Derived.Test.YtjflmhncgkbdmaaGreatKb28
import Derived.Test.YtjflmhncgkbdmaaGreatKb27
/- Credentials that came in, one or a list, opened to cells; how much they hold. -/
namespace Go.Proofs.YtjflmhncgkbdmaaGreat
open Go.ChangeShapes Go.WideShapes Go.ChangeAt Go.RowKit Go.Deep

theorem cred_at_cells' {w : World} {g o : Nat} {c : CredB} (h : ∀ j, j < 9 → w.cell? ⟨g, o + j, none⟩ = (credCells c)[j]?) : CredAt w g o c :=
  ⟨h 0 (by omega), h 1 (by omega), h 2 (by omega), h 3 (by omega), h 4 (by omega), h 5 (by omega), h 6 (by omega), h 7 (by omega), h 8 (by omega)⟩

section
variable {H : Type} {enc : TypeId × Value → H} {w : World} {base : Nat} {held : Bool} {fuel : Nat}

set_option maxRecDepth 100000 in
/-- Nine cells that are read as a credential. -/
theorem open_cred_cells {spare : Nat → Bool} {cs : List Value} {x : DataW H × List MemPlace} (h : DataW.trod enc Tryz.prog w base spare held fuel 35 cs = some x) :
    ∃ c : CredB, cs = credCells c ∧ credShort c 9223372036854775807 ∧ sizeC c ≤ 3 * Rows.uptoBulk x.1 := by
  obtain ⟨xs, n, _, rfl, hl, hlen, hf⟩ := DataW.trod_struct Tryz.underlying35 h
  have hc : Tryz.prog.cellsOf 35 = 9 := by kernel_rfl
  have hr : Tryz.prog.cellsOf 33 = 2 := by kernel_rfl
  rw [hc] at hl
  match cs, hl, xs, hlen with
  | [c0, c1, c2, c3, c4, c5, c6, c7, c8], _, [y0, y1, y2, y3, y4, y5], _ =>
    have e0 : DataW.trod enc Tryz.prog w base spare held n 3 [c0] = some y0 := hf 0 _ rfl
    have e1 : DataW.trod enc Tryz.prog w base spare held n 33 [c1, c2] = some y1 := hf 1 _ rfl
    have e2 : DataW.trod enc Tryz.prog w base spare held n 9 [c3] = some y2 := hf 2 _ rfl
    have e3 : DataW.trod enc Tryz.prog w base spare held n 33 [c4, c5] = some y3 := hf 3 _ rfl
    have e4 : DataW.trod enc Tryz.prog w base spare held n 33 [c6, c7] = some y4 := hf 4 _ rfl
    have e5 : DataW.trod enc Tryz.prog w base spare held n 9 [c8] = some y5 := hf 5 _ rfl
    obtain ⟨k, hk, rfl, _⟩ := DataW.trod_int Tryz.underlying3 e0
    obtain ⟨hd, h1, a1, a2, a3⟩ := open_role_cells e1
    obtain ⟨s2, hs2, rfl, hm2⟩ := DataW.trod_string Tryz.underlying9 e2
    obtain ⟨b, h3, b1, b2, b3⟩ := open_role_cells e3
    obtain ⟨c, h4, d1, d2, d3⟩ := open_role_cells e4
    obtain ⟨s5, hs5, rfl, hm5⟩ := DataW.trod_string Tryz.underlying9 e5
    simp only [roleCells, List.cons.injEq, and_true] at hk h1 hs2 h3 h4 hs5
    obtain ⟨h1a, h1b⟩ := h1
    obtain ⟨h3a, h3b⟩ := h3
    obtain ⟨h4a, h4b⟩ := h4
    subst hk h1a h1b hs2 h3a h3b h4a h4b hs5
    unfold maxLen at hm2 hm5
    refine ⟨⟨k, hd, s2.data.toList, b, c, s5.data.toList⟩, rfl, ⟨a1, a2, hm2, b1, b2, d1, d2, hm5⟩, ?_⟩
    simp only [sizeC, Rows.uptoBulk, Rows.uptoBulkAll, List.map_cons, List.map_nil]
    omega

set_option maxRecDepth 100000 in
/-- A credential that came in. -/
theorem open_cred {base0 : Nat} {r : Reach} {v : Value} {d : DataW H} {ps : List MemPlace} {spare : Nat → Bool} (hval : Value.okWide Tryz.prog w r base0 35 v) (hd : DataW.Trod enc Tryz.prog w base spare held 35 v d ps) :
    ∃ x : CredB, v = credV x ∧ credShort x 9223372036854775807 ∧ sizeC x ≤ 3 * Rows.uptoBulk d := by
  obtain ⟨cs, rfl, _⟩ := okWide_struct Tryz.underlying35 hval
  obtain ⟨n, hn⟩ := hd
  obtain ⟨x, hx, h1, h2⟩ := open_cred_cells hn
  refine ⟨x, ?_, h1, h2⟩
  have : cs.toList = credCells x := hx
  have e : cs = (credCells x).toArray := by rw [← this]
  rw [e]
  rfl

theorem bulk_creds (D : Nat → DataW H) : ∀ (l : List CredB), (∀ i (h : i < l.length), sizeC l[i] ≤ 3 * Rows.uptoBulk (D i)) → totalC l ≤ 3 * Rows.uptoBulkAll ((List.range l.length).map D)
  | [], _ => Nat.zero_le _
  | x :: l, h => by
    have ih := bulk_creds (fun i => D (i + 1)) l (fun i hi => h (i + 1) (by simp only [List.length_cons]; omega))
    rw [List.length_cons, List.range_succ_eq_map, List.map_cons, List.map_map]
    simp only [totalC, Rows.uptoBulkAll]
    have h0 := h 0 (by simp)
    simp only [List.getElem_cons_zero] at h0
    have e : (List.range l.length).map (D ∘ Nat.succ) = (List.range l.length).map (fun i => D (i + 1)) := rfl
    rw [e]
    omega

set_option maxRecDepth 100000 in
/-- A list of credentials that came in. -/
theorem open_creds {cs : List Value} {x : DataW H × List MemPlace} (h : DataW.trod enc Tryz.prog w base (fun _ => true) held fuel 41 cs = some x) :
    ∃ (ao : Option Addr) (cap : Nat) (ls : List CredB), cs = [.slice ao ls.length cap] ∧ CredsAt (fun k => k < w.heap.size) w ao ls ∧ totalC ls ≤ 3 * Rows.uptoBulk x.1 ∧ (ao = none → cap = 0) := by
  rcases open_slice Tryz.underlying41 h with ⟨rfl, rfl⟩ | ⟨a, len, cap, m, n, D, Pl, rfl, _, hl, hm, hmm, rfl, hi⟩
  · exact ⟨none, 0, [], rfl, CredsAt.nil _ _ _, Nat.zero_le _, fun _ => rfl⟩
  · simp only [if_true] at hmm
    have hc9 : Tryz.prog.cellsOf 35 = 9 := by kernel_rfl
    have each : ∀ i, i < len → ∃ y : CredB, (∃ b off, some a = some ⟨b, off, none⟩ ∧ b < w.heap.size ∧ CredAt w b (off + i * 9) y ∧ credShort y 9223372036854775807) ∧ sizeC y ≤ 3 * Rows.uptoBulk (D i) := by
      intro i hil
      obtain ⟨cs', hcs, ht⟩ := hi i (by omega)
      rw [hc9] at hcs
      obtain ⟨r, hr, h1, h2⟩ := open_cred_cells ht
      subst hr
      obtain ⟨_, _, hat⟩ := World.cells?_some hcs
      have hs : a = ⟨a.block, a.off, none⟩ := by
        obtain ⟨cs'', hcs'', ht''⟩ := hi 0 (by omega)
        rw [hc9] at hcs''
        obtain ⟨r'', hr'', _⟩ := open_cred_cells ht''
        subst hr''
        obtain ⟨_, _, hat''⟩ := World.cells?_some hcs''
        have q := hat'' 0 (by decide)
        rw [Nat.zero_mul, add_zero, add_zero] at q
        exact spot_none q
      have hall : ∀ j, j < 9 → w.cell? ⟨a.block, a.off + i * 9 + j, none⟩ = (credCells r)[j]? := fun j hj => by
        have q := hat j (by simpa [credCells] using hj)
        rw [hs, add_off, add_off] at q
        exact q
      have hat9 := cred_at_cells' hall
      exact ⟨r, ⟨a.block, a.off, congrArg some hs, World.block_lt_of_cell? w ⟨a.block, a.off + i * 9, none⟩ hat9.k0, hat9, h1⟩, h2⟩
    obtain ⟨xs, hlen, hp⟩ := choose_roles len _ each
    subst hlen
    refine ⟨some a, cap, xs, rfl, fun i hi => (hp i hi).1, ?_, fun e => by cases e⟩
    have := bulk_creds D xs (fun i hi => (hp i hi).2)
    simp only [Rows.uptoBulk]
    omega
end
end Go.Proofs.YtjflmhncgkbdmaaGreat

/- Keys and signed credentials that came in, one or a list, opened to cells; how much they hold. -/
namespace Go.Proofs.YtjflmhncgkbdmaaGreat
open Go.ChangeShapes Go.WideShapes Go.ChangeAt Go.RowKit Go.Deep

section
variable {H : Type} {enc : TypeId × Value → H} {w : World} {base : Nat} {held : Bool} {fuel : Nat}

theorem bulk_lits (k : IntKind) : ∀ zs : List Int, Rows.uptoBulkAll (lits (H := H) k zs) = zs.length
  | [] => rfl
  | z :: r => by
    have ih := bulk_lits k r
    show Rows.uptoBulk (DataW.lit (.int k z)) + Rows.uptoBulkAll (lits (H := H) k r) = _
    rw [ih, List.length_cons]
    simp only [Rows.uptoBulk]
    omega

theorem open_bytesB {cs : List Value} {x : DataW H × List MemPlace} (h : DataW.trod enc Tryz.prog w base (fun _ => true) held fuel 36 cs = some x) :
    ∃ (ao : Option Addr) (cap : Nat) (l : List UInt8), cs = [.slice ao l.length cap] ∧ l.length ≤ 9223372036854775807 ∧ BytesAt (fun k => k < w.heap.size) w (.slice ao l.length cap) l ∧ l.length < Rows.uptoBulk x.1 := by
  obtain ⟨ao, cap, l, h1, h2, h3⟩ := open_bytes h
  refine ⟨ao, cap, l, h1, h2, h3, ?_⟩
  rcases open_ints Tryz.underlying36 Tryz.underlying5 (by kernel_rfl) h with ⟨e, rfl⟩ | ⟨a, len, cap', zs, e, _, hl, _, hz, rfl, _⟩
  · rw [h1] at e
    simp only [List.cons.injEq, and_true, Value.slice.injEq] at e
    rw [e.2.1]
    simp only [Rows.uptoBulk]
    omega
  · rw [h1] at e
    simp only [List.cons.injEq, and_true, Value.slice.injEq] at e
    simp only [if_true] at hz
    rw [e.2.1]
    simp only [Rows.uptoBulk, bulk_lits, List.length_take, List.length_drop]
    omega

set_option maxRecDepth 100000 in
/-- Two cells that are read as a key. -/
theorem open_key_cellsB {cs : List Value} {x : DataW H × List MemPlace} (h : DataW.trod enc Tryz.prog w base (fun _ => true) held fuel 72 cs = some x) :
    ∃ (k : KeyB) (ka : Option Addr) (cap : Nat), cs = [.string ⟨k.who.toArray⟩, .slice ka k.key.length cap] ∧ BytesAt (fun i => i < w.heap.size) w (.slice ka k.key.length cap) k.key ∧ k.who.length ≤ 9223372036854775807 ∧ k.key.length ≤ 9223372036854775807 ∧ sizeK k ≤ 4 * Rows.uptoBulk x.1 := by
  obtain ⟨y0, y1, n, rfl, hl, h0, h1⟩ := trod_struct2 Tryz.underlying72 h
  have hc : Tryz.prog.cellsOf 72 = 2 := by kernel_rfl
  rw [hc] at hl
  match cs, hl with
  | [c0, c1], _ =>
    have e0 : DataW.trod enc Tryz.prog w base (fun _ => true) held n 9 [c0] = some y0 := h0
    have e1 : DataW.trod enc Tryz.prog w base (fun _ => true) held n 36 [c1] = some y1 := h1
    obtain ⟨s0, hs0, rfl, hm0⟩ := DataW.trod_string Tryz.underlying9 e0
    obtain ⟨ka, cap, ys, hcs, hlen, hby, hbu⟩ := open_bytesB e1
    simp only [List.cons.injEq, and_true] at hs0 hcs
    subst hs0 hcs
    unfold maxLen at hm0
    refine ⟨⟨s0.data.toList, ys⟩, ka, cap, rfl, hby, hm0, hlen, ?_⟩
    simp only [sizeK, Rows.uptoBulk, Rows.uptoBulkAll]
    omega

theorem bulk_keys (D : Nat → DataW H) : ∀ (l : List KeyB), (∀ i (h : i < l.length), sizeK l[i] ≤ 4 * Rows.uptoBulk (D i)) → totalK l ≤ 4 * Rows.uptoBulkAll ((List.range l.length).map D)
  | [], _ => Nat.zero_le _
  | x :: l, h => by
    have ih := bulk_keys (fun i => D (i + 1)) l (fun i hi => h (i + 1) (by simp only [List.length_cons]; omega))
    rw [List.length_cons, List.range_succ_eq_map, List.map_cons, List.map_map]
    simp only [totalK, Rows.uptoBulkAll]
    have h0 := h 0 (by simp)
    simp only [List.getElem_cons_zero] at h0
    have e : (List.range l.length).map (D ∘ Nat.succ) = (List.range l.length).map (fun i => D (i + 1)) := rfl
    rw [e]
    omega

set_option maxRecDepth 100000 in
/-- A list of keys that came in. -/
theorem open_keys {cs : List Value} {x : DataW H × List MemPlace} (h : DataW.trod enc Tryz.prog w base (fun _ => true) held fuel 22 cs = some x) :
    ∃ (ao : Option Addr) (cap : Nat) (ls : List KeyB), cs = [.slice ao ls.length cap] ∧ KeysAt (fun k => k < w.heap.size) w ao ls ∧ totalK ls ≤ 4 * Rows.uptoBulk x.1 ∧ ls.length ≤ cap := by
  rcases open_slice Tryz.underlying22 h with ⟨rfl, rfl⟩ | ⟨a, len, cap, m, n, D, Pl, rfl, _, hl, hm, hmm, rfl, hi⟩
  · exact ⟨none, 0, [], rfl, KeysAt.nil _ _ _, Nat.zero_le _, Nat.le_refl _⟩
  · simp only [if_true] at hmm
    have hc2 : Tryz.prog.cellsOf 72 = 2 := by kernel_rfl
    have each : ∀ i, i < len → ∃ y : KeyB, (∃ b off, some a = some ⟨b, off, none⟩ ∧ b < w.heap.size ∧ KeyAt (fun k => k < w.heap.size) w b (off + i * 2) y) ∧ sizeK y ≤ 4 * Rows.uptoBulk (D i) := by
      intro i hil
      obtain ⟨cs', hcs, ht⟩ := hi i (by omega)
      rw [hc2] at hcs
      obtain ⟨r, ka, kc, hr, h1, h2, h3, h4⟩ := open_key_cellsB ht
      subst hr
      obtain ⟨_, _, hat⟩ := World.cells?_some hcs
      have hs : a = ⟨a.block, a.off, none⟩ := by
        obtain ⟨cs'', hcs'', ht''⟩ := hi 0 (by omega)
        rw [hc2] at hcs''
        obtain ⟨r'', ka'', kc'', hr'', _⟩ := open_key_cellsB ht''
        subst hr''
        obtain ⟨_, _, hat''⟩ := World.cells?_some hcs''
        have q := hat'' 0 (by decide)
        rw [Nat.zero_mul, add_zero, add_zero] at q
        exact spot_none q
      have hall : ∀ j, j < 2 → w.cell? ⟨a.block, a.off + i * 2 + j, none⟩ = ([.string ⟨r.who.toArray⟩, .slice ka r.key.length kc] : List Value)[j]? := fun j hj => by
        have q := hat j (by simpa using hj)
        rw [hs, add_off, add_off] at q
        exact q
      have k0 := hall 0 (by decide)
      have k1 := hall 1 (by decide)
      simp only [Nat.add_zero, List.getElem?_cons_zero, List.getElem?_cons_succ] at k0 k1
      exact ⟨r, ⟨a.block, a.off, congrArg some hs, World.block_lt_of_cell? w ⟨a.block, a.off + i * 2, none⟩ k0, ⟨k0, ⟨ka, kc, k1, h1⟩, h2, h3⟩⟩, h4⟩
    obtain ⟨xs, hlen, hp⟩ := choose_roles len _ each
    subst hlen
    refine ⟨some a, cap, xs, rfl, fun i hi => (hp i hi).1, ?_, hl⟩
    have := bulk_keys D xs (fun i hi => (hp i hi).2)
    simp only [Rows.uptoBulk]
    omega

set_option maxRecDepth 100000 in
/-- Ten cells that are read as a signed credential. -/
theorem open_sign_cells {cs : List Value} {x : DataW H × List MemPlace} (h : DataW.trod enc Tryz.prog w base (fun _ => true) held fuel 38 cs = some x) :
    ∃ (s : SignB) (ta : Option Addr) (cap : Nat), cs = credCells s.c ++ [.slice ta s.tag.length cap] ∧ BytesAt (fun i => i < w.heap.size) w (.slice ta s.tag.length cap) s.tag ∧ credShort s.c 9223372036854775807 ∧ s.tag.length ≤ 9223372036854775807 ∧ sizeS s ≤ 3 * Rows.uptoBulk x.1 := by
  obtain ⟨xs, n, _, rfl, hl, hlen, hf⟩ := DataW.trod_struct Tryz.underlying38 h
  have hc : Tryz.prog.cellsOf 38 = 10 := by kernel_rfl
  have hr : Tryz.prog.cellsOf 35 = 9 := by kernel_rfl
  rw [hc] at hl
  match cs, hl, xs, hlen with
  | [c0, c1, c2, c3, c4, c5, c6, c7, c8, c9], _, [y0, y1], _ =>
    have e0 : DataW.trod enc Tryz.prog w base (fun _ => true) held n 35 [c0, c1, c2, c3, c4, c5, c6, c7, c8] = some y0 := hf 0 _ rfl
    have e1 : DataW.trod enc Tryz.prog w base (fun _ => true) held n 36 [c9] = some y1 := hf 1 _ rfl
    obtain ⟨c, hcc, hsh, hsz⟩ := open_cred_cells e0
    obtain ⟨ta, cap, ys, hcs, hln, hby, hbu⟩ := open_bytesB e1
    simp only [credCells, List.cons.injEq, and_true] at hcc hcs
    obtain ⟨rfl, rfl, rfl, rfl, rfl, rfl, rfl, rfl, rfl⟩ := hcc
    subst hcs
    refine ⟨⟨c, ys⟩, ta, cap, rfl, hby, hsh, hln, ?_⟩
    simp only [sizeS, Rows.uptoBulk, Rows.uptoBulkAll, List.map_cons, List.map_nil]
    omega

set_option maxRecDepth 100000 in
/-- A signed credential that came in. -/
theorem open_sign {base0 : Nat} {r : Reach} {v : Value} {d : DataW H} {ps : List MemPlace} (hval : Value.okWide Tryz.prog w r base0 38 v) (hd : DataW.Trod enc Tryz.prog w base (fun _ => true) held 38 v d ps) :
    ∃ (s : SignB) (ta : Option Addr) (cap : Nat), v = signV s.c (.slice ta s.tag.length cap) ∧ BytesAt (fun i => i < w.heap.size) w (.slice ta s.tag.length cap) s.tag ∧ credShort s.c 9223372036854775807 ∧ s.tag.length ≤ 9223372036854775807 ∧ sizeS s ≤ 3 * Rows.uptoBulk d := by
  obtain ⟨cs, rfl, _⟩ := okWide_struct Tryz.underlying38 hval
  obtain ⟨n, hn⟩ := hd
  obtain ⟨s, ta, cap, hx, h1, h2, h3, h4⟩ := open_sign_cells hn
  refine ⟨s, ta, cap, ?_, h1, h2, h3, h4⟩
  have : cs.toList = credCells s.c ++ [Value.slice ta s.tag.length cap] := hx
  have e : cs = (credCells s.c ++ [Value.slice ta s.tag.length cap]).toArray := by rw [← this]
  rw [e]
  rfl

theorem bulk_signs (D : Nat → DataW H) : ∀ (l : List SignB), (∀ i (h : i < l.length), sizeS l[i] ≤ 3 * Rows.uptoBulk (D i)) → totalS l ≤ 3 * Rows.uptoBulkAll ((List.range l.length).map D)
  | [], _ => Nat.zero_le _
  | x :: l, h => by
    have ih := bulk_signs (fun i => D (i + 1)) l (fun i hi => h (i + 1) (by simp only [List.length_cons]; omega))
    rw [List.length_cons, List.range_succ_eq_map, List.map_cons, List.map_map]
    simp only [totalS, Rows.uptoBulkAll]
    have h0 := h 0 (by simp)
    simp only [List.getElem_cons_zero] at h0
    have e : (List.range l.length).map (D ∘ Nat.succ) = (List.range l.length).map (fun i => D (i + 1)) := rfl
    rw [e]
    omega

set_option maxRecDepth 100000 in
/-- A list of signed credentials that came in. -/
theorem open_signs {cs : List Value} {x : DataW H × List MemPlace} (h : DataW.trod enc Tryz.prog w base (fun _ => true) held fuel 23 cs = some x) :
    ∃ (ao : Option Addr) (cap : Nat) (ls : List SignB), cs = [.slice ao ls.length cap] ∧ SignsAt (fun k => k < w.heap.size) w ao ls ∧ totalS ls ≤ 3 * Rows.uptoBulk x.1 := by
  rcases open_slice Tryz.underlying23 h with ⟨rfl, rfl⟩ | ⟨a, len, cap, m, n, D, Pl, rfl, _, hl, hm, hmm, rfl, hi⟩
  · exact ⟨none, 0, [], rfl, SignsAt.nil _ _ _, Nat.zero_le _⟩
  · simp only [if_true] at hmm
    have hc10 : Tryz.prog.cellsOf 38 = 10 := by kernel_rfl
    have each : ∀ i, i < len → ∃ y : SignB, (∃ b off, some a = some ⟨b, off, none⟩ ∧ b < w.heap.size ∧ SignAt (fun k => k < w.heap.size) w b (off + i * 10) y) ∧ sizeS y ≤ 3 * Rows.uptoBulk (D i) := by
      intro i hil
      obtain ⟨cs', hcs, ht⟩ := hi i (by omega)
      rw [hc10] at hcs
      obtain ⟨s, ta, tc, hr, h1, h2, h3, h4⟩ := open_sign_cells ht
      subst hr
      obtain ⟨_, _, hat⟩ := World.cells?_some hcs
      have hs : a = ⟨a.block, a.off, none⟩ := by
        obtain ⟨cs'', hcs'', ht''⟩ := hi 0 (by omega)
        rw [hc10] at hcs''
        obtain ⟨s'', ta'', tc'', hr'', _⟩ := open_sign_cells ht''
        subst hr''
        obtain ⟨_, _, hat''⟩ := World.cells?_some hcs''
        have q := hat'' 0 (by simp [credCells])
        rw [Nat.zero_mul, add_zero, add_zero] at q
        exact spot_none q
      have hall : ∀ j, j < 10 → w.cell? ⟨a.block, a.off + i * 10 + j, none⟩ = (credCells s.c ++ [Value.slice ta s.tag.length tc])[j]? := fun j hj => by
        have q := hat j (by simpa [credCells] using hj)
        rw [hs, add_off, add_off] at q
        exact q
      have hcr : CredAt w a.block (a.off + i * 10) s.c := cred_at_cells' fun j hj => by
        rw [hall j (by omega), List.getElem?_append_left (by simpa [credCells] using hj)]
      have k9 := hall 9 (by decide)
      exact ⟨s, ⟨a.block, a.off, congrArg some hs, World.block_lt_of_cell? w ⟨a.block, a.off + i * 10, none⟩ hcr.k0, ⟨hcr, ⟨ta, tc, k9, h1⟩, h2, h3⟩⟩, h4⟩
    obtain ⟨xs, hlen, hp⟩ := choose_roles len _ each
    subst hlen
    refine ⟨some a, cap, xs, rfl, fun i hi => (hp i hi).1, ?_⟩
    have := bulk_signs D xs (fun i hi => (hp i hi).2)
    simp only [Rows.uptoBulk]
    omega
end
end Go.Proofs.YtjflmhncgkbdmaaGreat
