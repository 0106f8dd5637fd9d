/- Texts that the proof leans on, in one: RoleCells, RoleOpen. -/
import Derived.Test.YtdlpddpdobiebaaBm14
import Derived.Test.YtdlpddpdobiebaaBm5
import Derived.Test.YtdlpddpdobiebaaBm13
/- A role that came in, opened to its cells. -/
namespace Go.Proofs.Ytdlpddpdobiebaa
open Go.ChangeShapes Go.WideShapes Go.ChangeAt Go.RowKit Go.Deep

theorem choose_roles {α : Type} (n : Nat) (p : Nat → α → Prop) (h : ∀ i, i < n → ∃ x, p i x) : ∃ l : List α, l.length = n ∧ ∀ i (hi : i < l.length), p i l[i] := by
  induction n with
  | zero => exact ⟨[], rfl, fun i hi => by simp at hi⟩
  | succ n ih =>
    obtain ⟨l, hl, hp⟩ := ih (fun i hi => h i (by omega))
    obtain ⟨x, hx⟩ := h n (by omega)
    refine ⟨l ++ [x], by simp [hl], fun i hi => ?_⟩
    by_cases hin : i < l.length
    · rw [List.getElem_append_left hin]
      exact hp i hin
    · have : i = n := by simp [hl] at hi; omega
      subst this
      rw [List.getElem_append_right (by omega)]
      simpa [hl] using hx

section
variable {H : Type} {enc : TypeId × Value → H} {w : World} {base : Nat} {held : Bool} {fuel : Nat}

set_option maxRecDepth 100000 in
/-- Two cells that are read as a role. -/
theorem open_role_cells {spare : Nat → Bool} {cs : List Value} {x : DataW H × List MemPlace} (h : DataW.trod enc Try.prog w base spare held fuel 24 cs = some x) :
    ∃ r : RoleB, cs = roleCells r ∧ r.1.length ≤ 9223372036854775807 ∧ r.2.length ≤ 9223372036854775807 ∧ 1 + r.1.length + r.2.length ≤ Rows.uptoBulk x.1 := by
  obtain ⟨y0, y1, n, rfl, hl, h0, h1⟩ := trod_struct2 Try.underlying24 h
  have hc : Try.prog.cellsOf 24 = 2 := by kernel_rfl
  rw [hc] at hl
  match cs, hl with
  | [c0, c1], _ =>
    have e0 : DataW.trod enc Try.prog w base spare held n 9 [c0] = some y0 := h0
    have e1 : DataW.trod enc Try.prog w base spare held n 9 [c1] = some y1 := h1
    obtain ⟨s0, hs0, rfl, hm0⟩ := DataW.trod_string Try.underlying9 e0
    obtain ⟨s1, hs1, rfl, hm1⟩ := DataW.trod_string Try.underlying9 e1
    simp only [List.cons.injEq, and_true] at hs0 hs1
    subst hs0
    subst hs1
    unfold maxLen at hm0 hm1
    refine ⟨(s0.data.toList, s1.data.toList), rfl, hm0, hm1, ?_⟩
    simp [Rows.uptoBulk, Rows.uptoBulkAll]
    omega

set_option maxRecDepth 100000 in
/-- A role that came in. -/
theorem open_role {base0 : Nat} {r : Reach} {v : Value} {d : DataW H} {ps : List MemPlace} {spare : Nat → Bool} (hval : Value.okWide Try.prog w r base0 24 v) (hd : DataW.Trod enc Try.prog w base spare held 24 v d ps) :
    ∃ x : RoleB, v = roleV x ∧ x.1.length ≤ 9223372036854775807 ∧ x.2.length ≤ 9223372036854775807 ∧ 1 + x.1.length + x.2.length ≤ Rows.uptoBulk d := by
  obtain ⟨cs, rfl, _⟩ := okWide_struct Try.underlying24 hval
  obtain ⟨n, hn⟩ := hd
  obtain ⟨x, hx, h1, h2, h3⟩ := open_role_cells hn
  refine ⟨x, ?_, h1, h2, h3⟩
  have : cs.toList = roleCells x := hx
  have e : cs = (roleCells x).toArray := by rw [← this]
  rw [e]
  rfl
end
end Go.Proofs.Ytdlpddpdobiebaa

/- Roles that came in, one or a list, opened to cells; how much they hold. -/
namespace Go.Proofs.Ytdlpddpdobiebaa
open Go.ChangeShapes Go.WideShapes Go.ChangeAt Go.RowKit Go.Deep

section
variable {H : Type} {enc : TypeId × Value → H} {w : World} {base : Nat} {held : Bool} {fuel : Nat}

theorem bulk_roles (D : Nat → DataW H) : ∀ (l : List RoleB), (∀ i (h : i < l.length), 1 + l[i].1.length + l[i].2.length ≤ Rows.uptoBulk (D i)) → totalR l ≤ Rows.uptoBulkAll ((List.range l.length).map D)
  | [], _ => Nat.zero_le _
  | x :: l, h => by
    have ih := bulk_roles (fun i => D (i + 1)) l (fun i hi => h (i + 1) (by simp only [List.length_cons]; omega))
    rw [List.length_cons, List.range_succ_eq_map, List.map_cons, List.map_map]
    simp only [totalR, Rows.uptoBulkAll]
    have h0 := h 0 (by simp)
    simp only [List.getElem_cons_zero] at h0
    have e : (List.range l.length).map (D ∘ Nat.succ) = (List.range l.length).map (fun i => D (i + 1)) := rfl
    rw [e]
    omega

set_option maxRecDepth 100000 in
/-- A list of roles that came in. -/
theorem open_roles {cs : List Value} {x : DataW H × List MemPlace} (h : DataW.trod enc Try.prog w base (fun _ => true) held fuel 22 cs = some x) :
    ∃ (ao : Option Addr) (cap : Nat) (ls : List RoleB), cs = [.slice ao ls.length cap] ∧ RolesAt (fun k => k < w.heap.size) w ao ls ∧ totalR ls ≤ Rows.uptoBulk x.1 ∧ (ao = none → cap = 0) := by
  rcases open_slice Try.underlying22 h with ⟨rfl, rfl⟩ | ⟨a, len, cap, m, n, D, Pl, rfl, _, hl, hm, hmm, rfl, hi⟩
  · exact ⟨none, 0, [], rfl, RolesAt.nil _ _ _, Nat.zero_le _, fun _ => rfl⟩
  · simp only [if_true] at hmm
    have hc2 : Try.prog.cellsOf 24 = 2 := by kernel_rfl
    have each : ∀ i, i < len → ∃ y : RoleB, (∃ b off, some a = some ⟨b, off, none⟩ ∧ b < w.heap.size ∧ RoleAt w b (off + i * 2) y) ∧ 1 + y.1.length + y.2.length ≤ Rows.uptoBulk (D i) := by
      intro i hil
      obtain ⟨cs', hcs, ht⟩ := hi i (by omega)
      rw [hc2] at hcs
      obtain ⟨r, hr, h1, h2, h3⟩ := open_role_cells ht
      subst hr
      obtain ⟨_, _, hat⟩ := World.cells?_some hcs
      have q0 := hat 0 (by decide)
      have q1 := hat 1 (by decide)
      have hs : a = ⟨a.block, a.off, none⟩ := by
        obtain ⟨cs'', hcs'', ht''⟩ := hi 0 (by omega)
        rw [hc2] at hcs''
        obtain ⟨r'', hr'', _⟩ := open_role_cells ht''
        subst hr''
        obtain ⟨_, _, hat''⟩ := World.cells?_some hcs''
        have q := hat'' 0 (by decide)
        rw [Nat.zero_mul, add_zero, add_zero] at q
        exact spot_none q
      rw [hs, add_off, add_off] at q0 q1
      have hlt := World.block_lt_of_cell? w _ (show w.cell? ⟨a.block, a.off + i * 2 + 0, none⟩ = some (.string ⟨r.1.toArray⟩) from q0)
      exact ⟨r, ⟨a.block, a.off, congrArg some hs, hlt, q0, q1, h1, h2⟩, h3⟩
    obtain ⟨xs, hlen, hp⟩ := choose_roles len _ each
    subst hlen
    refine ⟨some a, cap, xs, rfl, fun i hi => (hp i hi).1, ?_, fun e => by cases e⟩
    have := bulk_roles D xs (fun i hi => (hp i hi).2)
    simp only [Rows.uptoBulk]
    omega
end
end Go.Proofs.Ytdlpddpdobiebaa
