/- Texts that the proof leans on, in one: OpenB, RoleCells, CredOpen, KeyOpen2, CondOpen. -/
import Derived.Test.YtjflmhncgkbdmaaRows
import Derived.Test.YtjflmhncgkbdmaaKm2
import Derived.ProofKit
import Derived.OpenShut
import Derived.ShutString
import Derived.ChangeOld
import Derived.Deep.Slices
import Derived.Deep.Fields
import Derived.ChangeSame
import Derived.Test.YtjflmhncgkbdmaaKm1
import Derived.Test.YtjflmhncgkbdmaaKm23
import Derived.ChangeMaps5
import Derived.JoinedCond
/- The arguments of laws, opened to cells: bytes, a small array. -/
namespace Go.Proofs.Ytjflmhncgkbdmaa
open Go.ChangeShapes Go.WideShapes Go.ChangeAt Go.RowKit Go.Deep

theorem Try.own : ownKnob Try.prog.godebug = none := by kernel_rfl
theorem Try.laidOut : laidOutB Try.prog = true := by kernel_rfl

theorem spot_none {w : World} {a : Addr} {v : Value} (h : w.cell? a = some v) : a = ⟨a.block, a.off, none⟩ := by
  obtain ⟨b, o, s⟩ := a
  cases s with
  | none => rfl
  | some x =>
    simp only [World.cell?] at h
    split at h
    · simp at h
    · cases h

theorem add_zero (a : Addr) : a.add 0 = a := by
  unfold Addr.add
  simp

theorem wf_u8 {n : Int} (h : (Lit.int .u8 n).wf = true) : 0 ≤ n ∧ n ≤ 255 := by
  have hmin : IntKind.u8.min = 0 := rfl
  have hmax : IntKind.u8.max = 255 := rfl
  simp only [Lit.wf, Bool.and_eq_true, decide_eq_true_eq] at h
  omega

theorem wf_i64 {n : Int} (h : (Lit.int .i64 n).wf = true) : -9223372036854775808 ≤ n ∧ n ≤ 9223372036854775807 := by
  have hmin : IntKind.i64.min = -9223372036854775808 := rfl
  have hmax : IntKind.i64.max = 9223372036854775807 := rfl
  simp only [Lit.wf, Bool.and_eq_true, decide_eq_true_eq] at h
  omega

section
variable {H : Type} {enc : TypeId × Value → H} {w : World} {base : Nat} {held : Bool} {fuel : Nat}

theorem open_bytes {cs : List Value} {x : DataW H × List MemPlace} (h : DataW.trod enc Try.prog w base (fun _ => true) held fuel 34 cs = some x) :
    ∃ (ao : Option Addr) (cap : Nat) (l : List UInt8), cs = [.slice ao l.length cap] ∧ l.length ≤ 9223372036854775807 ∧ BytesAt (fun k => k < w.heap.size) w (.slice ao l.length cap) l := by
  rcases open_ints Try.underlying34 Try.underlying5 (by kernel_rfl) h with ⟨rfl, _⟩ | ⟨a, len, cap, zs, rfl, _, hl, hm, hz, _, hcell, hwz⟩
  · exact ⟨none, 0, [], rfl, by simp, BytesAt.nil _ _⟩
  · simp only [if_true] at hz
    have hlen : ((zs.take len).map fun n => UInt8.ofNat n.toNat).length = len := by simp; omega
    refine ⟨some a, cap, (zs.take len).map fun n => UInt8.ofNat n.toNat, by rw [hlen], by rw [hlen]; unfold maxLen at hm; omega, ?_⟩
    rw [hlen]
    by_cases h0 : len = 0
    · subst h0
      exact .inl ⟨some a, cap, rfl, by simp, fun h => by cases h⟩
    · have h1 := hcell 0 (by omega)
      rw [add_zero] at h1
      have ha := spot_none h1
      have hlt := World.block_lt_of_cell? w _ h1
      refine .inr ⟨a.block, a.off, cap, by rw [hlen]; exact congrArg (fun z => Value.slice (some z) len cap) ha, by rw [hlen]; exact hl, hm, hlt, fun i hi => ?_⟩
      rw [hlen] at hi
      have h2 := hcell i (by omega)
      rw [ha, add_off] at h2
      rw [h2]
      have hget : zs.getD i 0 = zs[i]'(by omega) := by simp [List.getD, show i < zs.length by omega]
      have hb := wf_u8 (hwz _ (List.getElem_mem (show i < zs.length by omega)))
      rw [hget]
      congr 2
      simp only [List.getElem_map, List.getElem_take]
      rw [ofNat_u8 _ (by omega)]
      omega

theorem okWide_array {P : Program} {w : World} {r : Reach} {base : Nat} {t e : TypeId} {n : Nat} {v : Value} (ht : P.underlying t = some (.array n e)) (h : Value.okWide P w r base t v) : ∃ cs, v = .agg cs ∧ cs.size = P.cellsOf t := by
  simp only [Value.okWide, ht] at h
  obtain ⟨cs, h1, h2, _⟩ := h
  exact ⟨cs, h1, h2⟩

end

end Go.Proofs.Ytjflmhncgkbdmaa

/- A role that came in, opened to its cells. -/
namespace Go.Proofs.Ytjflmhncgkbdmaa
open Go.ChangeShapes Go.WideShapes Go.ChangeAt Go.RowKit Go.Deep

theorem choose_roles {α : Type} (n : Nat) (p : Nat → α → Prop) (h : ∀ i, i < n → ∃ x, p i x) : ∃ l : List α, l.length = n ∧ ∀ i (hi : i < l.length), p i l[i] := by
  induction n with
  | zero => exact ⟨[], rfl, fun i hi => by simp at hi⟩
  | succ n ih =>
    obtain ⟨l, hl, hp⟩ := ih (fun i hi => h i (by omega))
    obtain ⟨x, hx⟩ := h n (by omega)
    refine ⟨l ++ [x], by simp [hl], fun i hi => ?_⟩
    by_cases hin : i < l.length
    · rw [List.getElem_append_left hin]
      exact hp i hin
    · have : i = n := by simp [hl] at hi; omega
      subst this
      rw [List.getElem_append_right (by omega)]
      simpa [hl] using hx

section
variable {H : Type} {enc : TypeId × Value → H} {w : World} {base : Nat} {held : Bool} {fuel : Nat}

set_option maxRecDepth 100000 in
/-- Two cells that are read as a role. -/
theorem open_role_cells {spare : Nat → Bool} {cs : List Value} {x : DataW H × List MemPlace} (h : DataW.trod enc Try.prog w base spare held fuel 24 cs = some x) :
    ∃ r : RoleB, cs = roleCells r ∧ r.1.length ≤ 9223372036854775807 ∧ r.2.length ≤ 9223372036854775807 ∧ 1 + r.1.length + r.2.length ≤ Rows.uptoBulk x.1 := by
  obtain ⟨y0, y1, n, rfl, hl, h0, h1⟩ := trod_struct2 Try.underlying24 h
  have hc : Try.prog.cellsOf 24 = 2 := by kernel_rfl
  rw [hc] at hl
  match cs, hl with
  | [c0, c1], _ =>
    have e0 : DataW.trod enc Try.prog w base spare held n 9 [c0] = some y0 := h0
    have e1 : DataW.trod enc Try.prog w base spare held n 9 [c1] = some y1 := h1
    obtain ⟨s0, hs0, rfl, hm0⟩ := DataW.trod_string Try.underlying9 e0
    obtain ⟨s1, hs1, rfl, hm1⟩ := DataW.trod_string Try.underlying9 e1
    simp only [List.cons.injEq, and_true] at hs0 hs1
    subst hs0
    subst hs1
    unfold maxLen at hm0 hm1
    refine ⟨(s0.data.toList, s1.data.toList), rfl, hm0, hm1, ?_⟩
    simp [Rows.uptoBulk, Rows.uptoBulkAll]
    omega

set_option maxRecDepth 100000 in
/-- A role that came in. -/
theorem open_role {base0 : Nat} {r : Reach} {v : Value} {d : DataW H} {ps : List MemPlace} {spare : Nat → Bool} (hval : Value.okWide Try.prog w r base0 24 v) (hd : DataW.Trod enc Try.prog w base spare held 24 v d ps) :
    ∃ x : RoleB, v = roleV x ∧ x.1.length ≤ 9223372036854775807 ∧ x.2.length ≤ 9223372036854775807 ∧ 1 + x.1.length + x.2.length ≤ Rows.uptoBulk d := by
  obtain ⟨cs, rfl, _⟩ := okWide_struct Try.underlying24 hval
  obtain ⟨n, hn⟩ := hd
  obtain ⟨x, hx, h1, h2, h3⟩ := open_role_cells hn
  refine ⟨x, ?_, h1, h2, h3⟩
  have : cs.toList = roleCells x := hx
  have e : cs = (roleCells x).toArray := by rw [← this]
  rw [e]
  rfl
end
end Go.Proofs.Ytjflmhncgkbdmaa

/- Credentials that came in, one or a list, opened to cells; how much they hold. -/
namespace Go.Proofs.Ytjflmhncgkbdmaa
open Go.ChangeShapes Go.WideShapes Go.ChangeAt Go.RowKit Go.Deep

theorem cred_at_cells' {w : World} {g o : Nat} {c : CredB} (h : ∀ j, j < 9 → w.cell? ⟨g, o + j, none⟩ = (credCells c)[j]?) : CredAt w g o c :=
  ⟨h 0 (by omega), h 1 (by omega), h 2 (by omega), h 3 (by omega), h 4 (by omega), h 5 (by omega), h 6 (by omega), h 7 (by omega), h 8 (by omega)⟩

section
variable {H : Type} {enc : TypeId × Value → H} {w : World} {base : Nat} {held : Bool} {fuel : Nat}

set_option maxRecDepth 100000 in
/-- Nine cells that are read as a credential. -/
theorem open_cred_cells {spare : Nat → Bool} {cs : List Value} {x : DataW H × List MemPlace} (h : DataW.trod enc Try.prog w base spare held fuel 26 cs = some x) :
    ∃ c : CredB, cs = credCells c ∧ credShort c 9223372036854775807 ∧ sizeC c ≤ 3 * Rows.uptoBulk x.1 := by
  obtain ⟨xs, n, _, rfl, hl, hlen, hf⟩ := DataW.trod_struct Try.underlying26 h
  have hc : Try.prog.cellsOf 26 = 9 := by kernel_rfl
  have hr : Try.prog.cellsOf 24 = 2 := by kernel_rfl
  rw [hc] at hl
  match cs, hl, xs, hlen with
  | [c0, c1, c2, c3, c4, c5, c6, c7, c8], _, [y0, y1, y2, y3, y4, y5], _ =>
    have e0 : DataW.trod enc Try.prog w base spare held n 3 [c0] = some y0 := hf 0 _ rfl
    have e1 : DataW.trod enc Try.prog w base spare held n 24 [c1, c2] = some y1 := hf 1 _ rfl
    have e2 : DataW.trod enc Try.prog w base spare held n 9 [c3] = some y2 := hf 2 _ rfl
    have e3 : DataW.trod enc Try.prog w base spare held n 24 [c4, c5] = some y3 := hf 3 _ rfl
    have e4 : DataW.trod enc Try.prog w base spare held n 24 [c6, c7] = some y4 := hf 4 _ rfl
    have e5 : DataW.trod enc Try.prog w base spare held n 9 [c8] = some y5 := hf 5 _ rfl
    obtain ⟨k, hk, rfl, _⟩ := DataW.trod_int Try.underlying3 e0
    obtain ⟨hd, h1, a1, a2, a3⟩ := open_role_cells e1
    obtain ⟨s2, hs2, rfl, hm2⟩ := DataW.trod_string Try.underlying9 e2
    obtain ⟨b, h3, b1, b2, b3⟩ := open_role_cells e3
    obtain ⟨c, h4, d1, d2, d3⟩ := open_role_cells e4
    obtain ⟨s5, hs5, rfl, hm5⟩ := DataW.trod_string Try.underlying9 e5
    simp only [roleCells, List.cons.injEq, and_true] at hk h1 hs2 h3 h4 hs5
    obtain ⟨h1a, h1b⟩ := h1
    obtain ⟨h3a, h3b⟩ := h3
    obtain ⟨h4a, h4b⟩ := h4
    subst hk h1a h1b hs2 h3a h3b h4a h4b hs5
    unfold maxLen at hm2 hm5
    refine ⟨⟨k, hd, s2.data.toList, b, c, s5.data.toList⟩, rfl, ⟨a1, a2, hm2, b1, b2, d1, d2, hm5⟩, ?_⟩
    simp only [sizeC, Rows.uptoBulk, Rows.uptoBulkAll, List.map_cons, List.map_nil]
    omega

set_option maxRecDepth 100000 in
/-- A credential that came in. -/
theorem open_cred {base0 : Nat} {r : Reach} {v : Value} {d : DataW H} {ps : List MemPlace} {spare : Nat → Bool} (hval : Value.okWide Try.prog w r base0 26 v) (hd : DataW.Trod enc Try.prog w base spare held 26 v d ps) :
    ∃ x : CredB, v = credV x ∧ credShort x 9223372036854775807 ∧ sizeC x ≤ 3 * Rows.uptoBulk d := by
  obtain ⟨cs, rfl, _⟩ := okWide_struct Try.underlying26 hval
  obtain ⟨n, hn⟩ := hd
  obtain ⟨x, hx, h1, h2⟩ := open_cred_cells hn
  refine ⟨x, ?_, h1, h2⟩
  have : cs.toList = credCells x := hx
  have e : cs = (credCells x).toArray := by rw [← this]
  rw [e]
  rfl

theorem bulk_creds (D : Nat → DataW H) : ∀ (l : List CredB), (∀ i (h : i < l.length), sizeC l[i] ≤ 3 * Rows.uptoBulk (D i)) → totalC l ≤ 3 * Rows.uptoBulkAll ((List.range l.length).map D)
  | [], _ => Nat.zero_le _
  | x :: l, h => by
    have ih := bulk_creds (fun i => D (i + 1)) l (fun i hi => h (i + 1) (by simp only [List.length_cons]; omega))
    rw [List.length_cons, List.range_succ_eq_map, List.map_cons, List.map_map]
    simp only [totalC, Rows.uptoBulkAll]
    have h0 := h 0 (by simp)
    simp only [List.getElem_cons_zero] at h0
    have e : (List.range l.length).map (D ∘ Nat.succ) = (List.range l.length).map (fun i => D (i + 1)) := rfl
    rw [e]
    omega

set_option maxRecDepth 100000 in
/-- A list of credentials that came in. -/
theorem open_creds {cs : List Value} {x : DataW H × List MemPlace} (h : DataW.trod enc Try.prog w base (fun _ => true) held fuel 39 cs = some x) :
    ∃ (ao : Option Addr) (cap : Nat) (ls : List CredB), cs = [.slice ao ls.length cap] ∧ CredsAt (fun k => k < w.heap.size) w ao ls ∧ totalC ls ≤ 3 * Rows.uptoBulk x.1 ∧ (ao = none → cap = 0) := by
  rcases open_slice Try.underlying39 h with ⟨rfl, rfl⟩ | ⟨a, len, cap, m, n, D, Pl, rfl, _, hl, hm, hmm, rfl, hi⟩
  · exact ⟨none, 0, [], rfl, CredsAt.nil _ _ _, Nat.zero_le _, fun _ => rfl⟩
  · simp only [if_true] at hmm
    have hc9 : Try.prog.cellsOf 26 = 9 := by kernel_rfl
    have each : ∀ i, i < len → ∃ y : CredB, (∃ b off, some a = some ⟨b, off, none⟩ ∧ b < w.heap.size ∧ CredAt w b (off + i * 9) y ∧ credShort y 9223372036854775807) ∧ sizeC y ≤ 3 * Rows.uptoBulk (D i) := by
      intro i hil
      obtain ⟨cs', hcs, ht⟩ := hi i (by omega)
      rw [hc9] at hcs
      obtain ⟨r, hr, h1, h2⟩ := open_cred_cells ht
      subst hr
      obtain ⟨_, _, hat⟩ := World.cells?_some hcs
      have hs : a = ⟨a.block, a.off, none⟩ := by
        obtain ⟨cs'', hcs'', ht''⟩ := hi 0 (by omega)
        rw [hc9] at hcs''
        obtain ⟨r'', hr'', _⟩ := open_cred_cells ht''
        subst hr''
        obtain ⟨_, _, hat''⟩ := World.cells?_some hcs''
        have q := hat'' 0 (by decide)
        rw [Nat.zero_mul, add_zero, add_zero] at q
        exact spot_none q
      have hall : ∀ j, j < 9 → w.cell? ⟨a.block, a.off + i * 9 + j, none⟩ = (credCells r)[j]? := fun j hj => by
        have q := hat j (by simpa [credCells] using hj)
        rw [hs, add_off, add_off] at q
        exact q
      have hat9 := cred_at_cells' hall
      exact ⟨r, ⟨a.block, a.off, congrArg some hs, World.block_lt_of_cell? w ⟨a.block, a.off + i * 9, none⟩ hat9.k0, hat9, h1⟩, h2⟩
    obtain ⟨xs, hlen, hp⟩ := choose_roles len _ each
    subst hlen
    refine ⟨some a, cap, xs, rfl, fun i hi => (hp i hi).1, ?_, fun e => by cases e⟩
    have := bulk_creds D xs (fun i hi => (hp i hi).2)
    simp only [Rows.uptoBulk]
    omega
end
end Go.Proofs.Ytjflmhncgkbdmaa

/- Keys and signed credentials that came in, one or a list, opened to cells; how much they hold. -/
namespace Go.Proofs.Ytjflmhncgkbdmaa
open Go.ChangeShapes Go.WideShapes Go.ChangeAt Go.RowKit Go.Deep

section
variable {H : Type} {enc : TypeId × Value → H} {w : World} {base : Nat} {held : Bool} {fuel : Nat}

theorem bulk_lits (k : IntKind) : ∀ zs : List Int, Rows.uptoBulkAll (lits (H := H) k zs) = zs.length
  | [] => rfl
  | z :: r => by
    have ih := bulk_lits k r
    show Rows.uptoBulk (DataW.lit (.int k z)) + Rows.uptoBulkAll (lits (H := H) k r) = _
    rw [ih, List.length_cons]
    simp only [Rows.uptoBulk]
    omega

theorem open_bytesB {cs : List Value} {x : DataW H × List MemPlace} (h : DataW.trod enc Try.prog w base (fun _ => true) held fuel 34 cs = some x) :
    ∃ (ao : Option Addr) (cap : Nat) (l : List UInt8), cs = [.slice ao l.length cap] ∧ l.length ≤ 9223372036854775807 ∧ BytesAt (fun k => k < w.heap.size) w (.slice ao l.length cap) l ∧ l.length < Rows.uptoBulk x.1 := by
  obtain ⟨ao, cap, l, h1, h2, h3⟩ := open_bytes h
  refine ⟨ao, cap, l, h1, h2, h3, ?_⟩
  rcases open_ints Try.underlying34 Try.underlying5 (by kernel_rfl) h with ⟨e, rfl⟩ | ⟨a, len, cap', zs, e, _, hl, _, hz, rfl, _⟩
  · rw [h1] at e
    simp only [List.cons.injEq, and_true, Value.slice.injEq] at e
    rw [e.2.1]
    simp only [Rows.uptoBulk]
    omega
  · rw [h1] at e
    simp only [List.cons.injEq, and_true, Value.slice.injEq] at e
    simp only [if_true] at hz
    rw [e.2.1]
    simp only [Rows.uptoBulk, bulk_lits, List.length_take, List.length_drop]
    omega

set_option maxRecDepth 100000 in
/-- Two cells that are read as a key. -/
theorem open_key_cellsB {cs : List Value} {x : DataW H × List MemPlace} (h : DataW.trod enc Try.prog w base (fun _ => true) held fuel 53 cs = some x) :
    ∃ (k : KeyB) (ka : Option Addr) (cap : Nat), cs = [.string ⟨k.who.toArray⟩, .slice ka k.key.length cap] ∧ BytesAt (fun i => i < w.heap.size) w (.slice ka k.key.length cap) k.key ∧ k.who.length ≤ 9223372036854775807 ∧ k.key.length ≤ 9223372036854775807 ∧ sizeK k ≤ 4 * Rows.uptoBulk x.1 := by
  obtain ⟨y0, y1, n, rfl, hl, h0, h1⟩ := trod_struct2 Try.underlying53 h
  have hc : Try.prog.cellsOf 53 = 2 := by kernel_rfl
  rw [hc] at hl
  match cs, hl with
  | [c0, c1], _ =>
    have e0 : DataW.trod enc Try.prog w base (fun _ => true) held n 9 [c0] = some y0 := h0
    have e1 : DataW.trod enc Try.prog w base (fun _ => true) held n 34 [c1] = some y1 := h1
    obtain ⟨s0, hs0, rfl, hm0⟩ := DataW.trod_string Try.underlying9 e0
    obtain ⟨ka, cap, ys, hcs, hlen, hby, hbu⟩ := open_bytesB e1
    simp only [List.cons.injEq, and_true] at hs0 hcs
    subst hs0 hcs
    unfold maxLen at hm0
    refine ⟨⟨s0.data.toList, ys⟩, ka, cap, rfl, hby, hm0, hlen, ?_⟩
    simp only [sizeK, Rows.uptoBulk, Rows.uptoBulkAll]
    omega

theorem bulk_keys (D : Nat → DataW H) : ∀ (l : List KeyB), (∀ i (h : i < l.length), sizeK l[i] ≤ 4 * Rows.uptoBulk (D i)) → totalK l ≤ 4 * Rows.uptoBulkAll ((List.range l.length).map D)
  | [], _ => Nat.zero_le _
  | x :: l, h => by
    have ih := bulk_keys (fun i => D (i + 1)) l (fun i hi => h (i + 1) (by simp only [List.length_cons]; omega))
    rw [List.length_cons, List.range_succ_eq_map, List.map_cons, List.map_map]
    simp only [totalK, Rows.uptoBulkAll]
    have h0 := h 0 (by simp)
    simp only [List.getElem_cons_zero] at h0
    have e : (List.range l.length).map (D ∘ Nat.succ) = (List.range l.length).map (fun i => D (i + 1)) := rfl
    rw [e]
    omega

set_option maxRecDepth 100000 in
/-- A list of keys that came in. -/
theorem open_keys {cs : List Value} {x : DataW H × List MemPlace} (h : DataW.trod enc Try.prog w base (fun _ => true) held fuel 22 cs = some x) :
    ∃ (ao : Option Addr) (cap : Nat) (ls : List KeyB), cs = [.slice ao ls.length cap] ∧ KeysAt (fun k => k < w.heap.size) w ao ls ∧ totalK ls ≤ 4 * Rows.uptoBulk x.1 ∧ ls.length ≤ cap := by
  rcases open_slice Try.underlying22 h with ⟨rfl, rfl⟩ | ⟨a, len, cap, m, n, D, Pl, rfl, _, hl, hm, hmm, rfl, hi⟩
  · exact ⟨none, 0, [], rfl, KeysAt.nil _ _ _, Nat.zero_le _, Nat.le_refl _⟩
  · simp only [if_true] at hmm
    have hc2 : Try.prog.cellsOf 53 = 2 := by kernel_rfl
    have each : ∀ i, i < len → ∃ y : KeyB, (∃ b off, some a = some ⟨b, off, none⟩ ∧ b < w.heap.size ∧ KeyAt (fun k => k < w.heap.size) w b (off + i * 2) y) ∧ sizeK y ≤ 4 * Rows.uptoBulk (D i) := by
      intro i hil
      obtain ⟨cs', hcs, ht⟩ := hi i (by omega)
      rw [hc2] at hcs
      obtain ⟨r, ka, kc, hr, h1, h2, h3, h4⟩ := open_key_cellsB ht
      subst hr
      obtain ⟨_, _, hat⟩ := World.cells?_some hcs
      have hs : a = ⟨a.block, a.off, none⟩ := by
        obtain ⟨cs'', hcs'', ht''⟩ := hi 0 (by omega)
        rw [hc2] at hcs''
        obtain ⟨r'', ka'', kc'', hr'', _⟩ := open_key_cellsB ht''
        subst hr''
        obtain ⟨_, _, hat''⟩ := World.cells?_some hcs''
        have q := hat'' 0 (by decide)
        rw [Nat.zero_mul, add_zero, add_zero] at q
        exact spot_none q
      have hall : ∀ j, j < 2 → w.cell? ⟨a.block, a.off + i * 2 + j, none⟩ = ([.string ⟨r.who.toArray⟩, .slice ka r.key.length kc] : List Value)[j]? := fun j hj => by
        have q := hat j (by simpa using hj)
        rw [hs, add_off, add_off] at q
        exact q
      have k0 := hall 0 (by decide)
      have k1 := hall 1 (by decide)
      simp only [Nat.add_zero, List.getElem?_cons_zero, List.getElem?_cons_succ] at k0 k1
      exact ⟨r, ⟨a.block, a.off, congrArg some hs, World.block_lt_of_cell? w ⟨a.block, a.off + i * 2, none⟩ k0, ⟨k0, ⟨ka, kc, k1, h1⟩, h2, h3⟩⟩, h4⟩
    obtain ⟨xs, hlen, hp⟩ := choose_roles len _ each
    subst hlen
    refine ⟨some a, cap, xs, rfl, fun i hi => (hp i hi).1, ?_, hl⟩
    have := bulk_keys D xs (fun i hi => (hp i hi).2)
    simp only [Rows.uptoBulk]
    omega

set_option maxRecDepth 100000 in
/-- Ten cells that are read as a signed credential. -/
theorem open_sign_cells {cs : List Value} {x : DataW H × List MemPlace} (h : DataW.trod enc Try.prog w base (fun _ => true) held fuel 36 cs = some x) :
    ∃ (s : SignB) (ta : Option Addr) (cap : Nat), cs = credCells s.c ++ [.slice ta s.tag.length cap] ∧ BytesAt (fun i => i < w.heap.size) w (.slice ta s.tag.length cap) s.tag ∧ credShort s.c 9223372036854775807 ∧ s.tag.length ≤ 9223372036854775807 ∧ sizeS s ≤ 3 * Rows.uptoBulk x.1 := by
  obtain ⟨xs, n, _, rfl, hl, hlen, hf⟩ := DataW.trod_struct Try.underlying36 h
  have hc : Try.prog.cellsOf 36 = 10 := by kernel_rfl
  have hr : Try.prog.cellsOf 26 = 9 := by kernel_rfl
  rw [hc] at hl
  match cs, hl, xs, hlen with
  | [c0, c1, c2, c3, c4, c5, c6, c7, c8, c9], _, [y0, y1], _ =>
    have e0 : DataW.trod enc Try.prog w base (fun _ => true) held n 26 [c0, c1, c2, c3, c4, c5, c6, c7, c8] = some y0 := hf 0 _ rfl
    have e1 : DataW.trod enc Try.prog w base (fun _ => true) held n 34 [c9] = some y1 := hf 1 _ rfl
    obtain ⟨c, hcc, hsh, hsz⟩ := open_cred_cells e0
    obtain ⟨ta, cap, ys, hcs, hln, hby, hbu⟩ := open_bytesB e1
    simp only [credCells, List.cons.injEq, and_true] at hcc hcs
    obtain ⟨rfl, rfl, rfl, rfl, rfl, rfl, rfl, rfl, rfl⟩ := hcc
    subst hcs
    refine ⟨⟨c, ys⟩, ta, cap, rfl, hby, hsh, hln, ?_⟩
    simp only [sizeS, Rows.uptoBulk, Rows.uptoBulkAll, List.map_cons, List.map_nil]
    omega

set_option maxRecDepth 100000 in
/-- A signed credential that came in. -/
theorem open_sign {base0 : Nat} {r : Reach} {v : Value} {d : DataW H} {ps : List MemPlace} (hval : Value.okWide Try.prog w r base0 36 v) (hd : DataW.Trod enc Try.prog w base (fun _ => true) held 36 v d ps) :
    ∃ (s : SignB) (ta : Option Addr) (cap : Nat), v = signV s.c (.slice ta s.tag.length cap) ∧ BytesAt (fun i => i < w.heap.size) w (.slice ta s.tag.length cap) s.tag ∧ credShort s.c 9223372036854775807 ∧ s.tag.length ≤ 9223372036854775807 ∧ sizeS s ≤ 3 * Rows.uptoBulk d := by
  obtain ⟨cs, rfl, _⟩ := okWide_struct Try.underlying36 hval
  obtain ⟨n, hn⟩ := hd
  obtain ⟨s, ta, cap, hx, h1, h2, h3, h4⟩ := open_sign_cells hn
  refine ⟨s, ta, cap, ?_, h1, h2, h3, h4⟩
  have : cs.toList = credCells s.c ++ [Value.slice ta s.tag.length cap] := hx
  have e : cs = (credCells s.c ++ [Value.slice ta s.tag.length cap]).toArray := by rw [← this]
  rw [e]
  rfl

theorem bulk_signs (D : Nat → DataW H) : ∀ (l : List SignB), (∀ i (h : i < l.length), sizeS l[i] ≤ 3 * Rows.uptoBulk (D i)) → totalS l ≤ 3 * Rows.uptoBulkAll ((List.range l.length).map D)
  | [], _ => Nat.zero_le _
  | x :: l, h => by
    have ih := bulk_signs (fun i => D (i + 1)) l (fun i hi => h (i + 1) (by simp only [List.length_cons]; omega))
    rw [List.length_cons, List.range_succ_eq_map, List.map_cons, List.map_map]
    simp only [totalS, Rows.uptoBulkAll]
    have h0 := h 0 (by simp)
    simp only [List.getElem_cons_zero] at h0
    have e : (List.range l.length).map (D ∘ Nat.succ) = (List.range l.length).map (fun i => D (i + 1)) := rfl
    rw [e]
    omega

set_option maxRecDepth 100000 in
/-- A list of signed credentials that came in. -/
theorem open_signs {cs : List Value} {x : DataW H × List MemPlace} (h : DataW.trod enc Try.prog w base (fun _ => true) held fuel 57 cs = some x) :
    ∃ (ao : Option Addr) (cap : Nat) (ls : List SignB), cs = [.slice ao ls.length cap] ∧ SignsAt (fun k => k < w.heap.size) w ao ls ∧ totalS ls ≤ 3 * Rows.uptoBulk x.1 := by
  rcases open_slice Try.underlying57 h with ⟨rfl, rfl⟩ | ⟨a, len, cap, m, n, D, Pl, rfl, _, hl, hm, hmm, rfl, hi⟩
  · exact ⟨none, 0, [], rfl, SignsAt.nil _ _ _, Nat.zero_le _⟩
  · simp only [if_true] at hmm
    have hc10 : Try.prog.cellsOf 36 = 10 := by kernel_rfl
    have each : ∀ i, i < len → ∃ y : SignB, (∃ b off, some a = some ⟨b, off, none⟩ ∧ b < w.heap.size ∧ SignAt (fun k => k < w.heap.size) w b (off + i * 10) y) ∧ sizeS y ≤ 3 * Rows.uptoBulk (D i) := by
      intro i hil
      obtain ⟨cs', hcs, ht⟩ := hi i (by omega)
      rw [hc10] at hcs
      obtain ⟨s, ta, tc, hr, h1, h2, h3, h4⟩ := open_sign_cells ht
      subst hr
      obtain ⟨_, _, hat⟩ := World.cells?_some hcs
      have hs : a = ⟨a.block, a.off, none⟩ := by
        obtain ⟨cs'', hcs'', ht''⟩ := hi 0 (by omega)
        rw [hc10] at hcs''
        obtain ⟨s'', ta'', tc'', hr'', _⟩ := open_sign_cells ht''
        subst hr''
        obtain ⟨_, _, hat''⟩ := World.cells?_some hcs''
        have q := hat'' 0 (by simp [credCells])
        rw [Nat.zero_mul, add_zero, add_zero] at q
        exact spot_none q
      have hall : ∀ j, j < 10 → w.cell? ⟨a.block, a.off + i * 10 + j, none⟩ = (credCells s.c ++ [Value.slice ta s.tag.length tc])[j]? := fun j hj => by
        have q := hat j (by simpa [credCells] using hj)
        rw [hs, add_off, add_off] at q
        exact q
      have hcr : CredAt w a.block (a.off + i * 10) s.c := cred_at_cells' fun j hj => by
        rw [hall j (by omega), List.getElem?_append_left (by simpa [credCells] using hj)]
      have k9 := hall 9 (by decide)
      exact ⟨s, ⟨a.block, a.off, congrArg some hs, World.block_lt_of_cell? w ⟨a.block, a.off + i * 10, none⟩ hcr.k0, ⟨hcr, ⟨ta, tc, k9, h1⟩, h2, h3⟩⟩, h4⟩
    obtain ⟨xs, hlen, hp⟩ := choose_roles len _ each
    subst hlen
    refine ⟨some a, cap, xs, rfl, fun i hi => (hp i hi).1, ?_⟩
    have := bulk_signs D xs (fun i hi => (hp i hi).2)
    simp only [Rows.uptoBulk]
    omega
end
end Go.Proofs.Ytjflmhncgkbdmaa

/- A law that bears a condition, over worlds of the program's shape: what is to be shown of the call. (The kit's wrap for a condition throws the shape away.) -/
namespace Go.Proofs.Ytjflmhncgkbdmaa
open Go.ChangeShapes Go.WideShapes Go.ChangeAt Go.RowKit

theorem handed_cond_shaped {H : Type} {enc : TypeId × Value → H} {a : Assume} {C : Checked} {os : Os} {f : FuncId} {fn : Func} {s : OpenSpec} {k : (H : Type) → List (DataW H) → Bool} (hk : s.cond = some k) {F : Stop.Interp} {conds : List PathCond} {apart fresh handsOn again : Bool}
    (own : ownKnob C.prog.godebug = none) (started : os.Started) (noInit : C.prog.inits.idxOf? f = none) (hfn : C.prog.funcs[f]? = some fn)
    (witness : ∃ (w : World) (tape : Tape) (i : Input), w.os = os ∧ (w.forCall tape i).Shaped C.prog ∧ i.vars = [] ∧ Input.okWide C.prog (w.forCall tape i) .any w.heap.size f i ∧
      s.pre6 enc C.prog fn conds apart (w.forCall tape i).memory i.args ∧ a.holds C.prog (lone (Frame.enter C.prog f i.args .normal) [] (w.forCall tape i)))
    (main : ∀ (W : World) (base : Nat) (args : Array Value) (ds gs : List (DataW H)) (before : List MemPlace), W.ShapedOpen C.prog →
      (∀ (j : Nat) t v, fn.params[j]? = some t → args[j]? = some v → Value.okWide C.prog W .any base t v) →
      DataW.Whole enc C.prog fn.params.toList s.vars apart W args.toList ds gs before → k H (ds ++ gs) = true →
      Calls C.prog f args W fun e W' => ∃ v, e = .returned v ∧ (s.at F).post enc C.prog fn apart fresh handsOn again W args v W') :
    ReturnsInHanded a C os f .any (s.pre6 enc C.prog fn conds apart) ((s.at F).post enc C.prog fn apart fresh handsOn again) := by
  refine returnsInHanded_of_calls own started noInit witness fun w tape i _ hsh _ hok hpre _ => ?_
  obtain ⟨_, _, _, fn', hfn', _, _, _, _, hval⟩ := hok
  obtain rfl : fn' = fn := Option.some.inj (hfn'.symm.trans hfn)
  obtain ⟨ds, gs, before, hw, _, hkk⟩ := (OpenSpec.pre_some hk conds apart _ _).1 hpre.1
  refine (main (w.forCall tape i) w.heap.size i.args ds gs before hsh hval (DataW.Whole.of_heap (w' := w.forCall tape i) (by rfl) hw) hkk).mono ?_
  rintro e W' ⟨v, rfl, hp⟩
  exact ChangeSpec.post_blind hp
end Go.Proofs.Ytjflmhncgkbdmaa
