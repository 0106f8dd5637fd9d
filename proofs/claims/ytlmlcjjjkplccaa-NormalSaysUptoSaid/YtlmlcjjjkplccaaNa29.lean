/- Texts that the proof leans on, in one: OpenB, RoleCells, RefCredGreat, CredOpen, FmOpen, RoleLong, RoleOpen, CondOpen. -/
import Derived.Test.YtlmlcjjjkplccaaRows
import Derived.Test.YtlmlcjjjkplccaaNa1
import Derived.ProofKit
import Derived.OpenShut
import Derived.ShutString
import Derived.ChangeOld
import Derived.Deep.Slices
import Derived.Deep.Fields
import Derived.ChangeSame
import Derived.Test.YtlmlcjjjkplccaaNa8
import Derived.Test.YtlmlcjjjkplccaaProg
import Derived.Test.YtlmlcjjjkplccaaChecked
import Derived.Deep.QuietTactic
import Derived.BigQuiet
import Derived.Test.YtlmlcjjjkplccaaNa2
import Derived.ChangeMaps5
import Derived.JoinedCond
/- The arguments of laws, opened to cells: bytes, a small array. -/
namespace Go.Proofs.Ytlmlcjjjkplccaa
open Go.ChangeShapes Go.WideShapes Go.ChangeAt Go.RowKit Go.Deep

theorem Try.own : ownKnob Try.prog.godebug = none := by kernel_rfl
theorem Try.laidOut : laidOutB Try.prog = true := by kernel_rfl

theorem spot_none {w : World} {a : Addr} {v : Value} (h : w.cell? a = some v) : a = ⟨a.block, a.off, none⟩ := by
  obtain ⟨b, o, s⟩ := a
  cases s with
  | none => rfl
  | some x =>
    simp only [World.cell?] at h
    split at h
    · simp at h
    · cases h

theorem add_zero (a : Addr) : a.add 0 = a := by
  unfold Addr.add
  simp

section
variable {H : Type} {enc : TypeId × Value → H} {w : World} {base : Nat} {held : Bool} {fuel : Nat}

end

end Go.Proofs.Ytlmlcjjjkplccaa

/- A role that came in, opened to its cells. -/
namespace Go.Proofs.Ytlmlcjjjkplccaa
open Go.ChangeShapes Go.WideShapes Go.ChangeAt Go.RowKit Go.Deep

theorem choose_roles {α : Type} (n : Nat) (p : Nat → α → Prop) (h : ∀ i, i < n → ∃ x, p i x) : ∃ l : List α, l.length = n ∧ ∀ i (hi : i < l.length), p i l[i] := by
  induction n with
  | zero => exact ⟨[], rfl, fun i hi => by simp at hi⟩
  | succ n ih =>
    obtain ⟨l, hl, hp⟩ := ih (fun i hi => h i (by omega))
    obtain ⟨x, hx⟩ := h n (by omega)
    refine ⟨l ++ [x], by simp [hl], fun i hi => ?_⟩
    by_cases hin : i < l.length
    · rw [List.getElem_append_left hin]
      exact hp i hin
    · have : i = n := by simp [hl] at hi; omega
      subst this
      rw [List.getElem_append_right (by omega)]
      simpa [hl] using hx

section
variable {H : Type} {enc : TypeId × Value → H} {w : World} {base : Nat} {held : Bool} {fuel : Nat}

set_option maxRecDepth 100000 in
/-- Two cells that are read as a role. -/
theorem open_role_cells {spare : Nat → Bool} {cs : List Value} {x : DataW H × List MemPlace} (h : DataW.trod enc Try.prog w base spare held fuel 23 cs = some x) :
    ∃ r : RoleB, cs = roleCells r ∧ r.1.length ≤ 9223372036854775807 ∧ r.2.length ≤ 9223372036854775807 ∧ 1 + r.1.length + r.2.length ≤ Rows.uptoBulk x.1 := by
  obtain ⟨y0, y1, n, rfl, hl, h0, h1⟩ := trod_struct2 Try.underlying23 h
  have hc : Try.prog.cellsOf 23 = 2 := by kernel_rfl
  rw [hc] at hl
  match cs, hl with
  | [c0, c1], _ =>
    have e0 : DataW.trod enc Try.prog w base spare held n 9 [c0] = some y0 := h0
    have e1 : DataW.trod enc Try.prog w base spare held n 9 [c1] = some y1 := h1
    obtain ⟨s0, hs0, rfl, hm0⟩ := DataW.trod_string Try.underlying9 e0
    obtain ⟨s1, hs1, rfl, hm1⟩ := DataW.trod_string Try.underlying9 e1
    simp only [List.cons.injEq, and_true] at hs0 hs1
    subst hs0
    subst hs1
    unfold maxLen at hm0 hm1
    refine ⟨(s0.data.toList, s1.data.toList), rfl, hm0, hm1, ?_⟩
    simp [Rows.uptoBulk, Rows.uptoBulkAll]
    omega

end
end Go.Proofs.Ytlmlcjjjkplccaa

/- How great credentials are: the contract of the law's Great. -/
namespace Go.Proofs.Ytlmlcjjjkplccaa
open Go.RowKit

end Go.Proofs.Ytlmlcjjjkplccaa

/- Credentials that came in, one or a list, opened to cells; how much they hold. -/
namespace Go.Proofs.Ytlmlcjjjkplccaa
open Go.ChangeShapes Go.WideShapes Go.ChangeAt Go.RowKit Go.Deep

section
variable {H : Type} {enc : TypeId × Value → H} {w : World} {base : Nat} {held : Bool} {fuel : Nat}

end
end Go.Proofs.Ytlmlcjjjkplccaa

/- A formula that came in, opened to cells, and how much it holds. -/
namespace Go.Proofs.Ytlmlcjjjkplccaa
open Go.ChangeShapes Go.WideShapes Go.ChangeAt Go.RowKit Go.Deep

section
variable {H : Type} {enc : TypeId × Value → H} {w : World} {base : Nat} {held : Bool}

theorem bulk_fms (D : Nat → DataW H) : ∀ (l : List FmB), (∀ i (h : i < l.length), greatF l[i] ≤ Rows.uptoBulk (D i)) → greatL l ≤ Rows.uptoBulkAll ((List.range l.length).map D)
  | [], _ => Nat.zero_le _
  | x :: l, h => by
    have ih := bulk_fms (fun i => D (i + 1)) l (fun i hi => h (i + 1) (by simp only [List.length_cons]; omega))
    rw [List.length_cons, List.range_succ_eq_map, List.map_cons, List.map_map]
    simp only [greatL, Rows.uptoBulkAll]
    have h0 := h 0 (by simp)
    simp only [List.getElem_cons_zero] at h0
    have e : (List.range l.length).map (D ∘ Nat.succ) = (List.range l.length).map (fun i => D (i + 1)) := rfl
    rw [e]
    omega

theorem bulk_one (D : Nat → DataW H) : ∀ (n i : Nat), i < n → Rows.uptoBulk (D i) ≤ Rows.uptoBulkAll ((List.range n).map D)
  | 0, _, h => absurd h (Nat.not_lt_zero _)
  | n + 1, 0, _ => by
    rw [List.range_succ_eq_map, List.map_cons]
    simp only [Rows.uptoBulkAll]
    omega
  | n + 1, i + 1, h => by
    have ih := bulk_one (fun i => D (i + 1)) n i (by omega)
    rw [List.range_succ_eq_map, List.map_cons, List.map_map]
    simp only [Rows.uptoBulkAll]
    have e : (List.range n).map (D ∘ Nat.succ) = (List.range n).map (fun i => D (i + 1)) := rfl
    rw [e]
    omega

def fmCells (f : FmB) (ao : Option Addr) (cp : Nat) : List Value := [.int .i64 f.op, .int .i64 f.k, .string ⟨f.r.1.toArray⟩, .string ⟨f.r.2.toArray⟩, .slice ao f.kids.length cp]

set_option maxRecDepth 100000 in
/-- Five cells that are read as a formula. -/
theorem open_fm : ∀ (N : Nat) {fuel : Nat} {cs : List Value} {x : DataW H × List MemPlace}, Rows.uptoBulk x.1 ≤ N → DataW.trod enc Try.prog w base (fun _ => true) held fuel 26 cs = some x →
    ∃ (f : FmB) (ao : Option Addr) (cp : Nat), cs = fmCells f ao cp ∧ FmsAt (fun k => k < w.heap.size) w N ao f.kids ∧ FmOk f ∧ (ao = none → cp = 0) ∧ greatF f ≤ Rows.uptoBulk x.1 := by
  intro N
  induction N with
  | zero =>
    intro fuel cs x hb h
    obtain ⟨xs, n, _, rfl, _⟩ := DataW.trod_struct Try.underlying26 h
    simp only [Rows.uptoBulk] at hb
    omega
  | succ N ih =>
    intro fuel cs x hb h
    obtain ⟨xs, n, _, rfl, hl, hlen, hf⟩ := DataW.trod_struct Try.underlying26 h
    have hc : Try.prog.cellsOf 26 = 5 := by kernel_rfl
    rw [hc] at hl
    match cs, hl, xs, hlen with
    | [c0, c1, c2, c3, c4], _, [y0, y1, y2, y3], _ =>
      have e0 : DataW.trod enc Try.prog w base (fun _ => true) held n 3 [c0] = some y0 := hf 0 _ rfl
      have e1 : DataW.trod enc Try.prog w base (fun _ => true) held n 3 [c1] = some y1 := hf 1 _ rfl
      have e2 : DataW.trod enc Try.prog w base (fun _ => true) held n 23 [c2, c3] = some y2 := hf 2 _ rfl
      have e3 : DataW.trod enc Try.prog w base (fun _ => true) held n 24 [c4] = some y3 := hf 3 _ rfl
      obtain ⟨op, hop, rfl, _⟩ := DataW.trod_int Try.underlying3 e0
      obtain ⟨k, hk, rfl, _⟩ := DataW.trod_int Try.underlying3 e1
      obtain ⟨r, h1, a1, a2, a3⟩ := open_role_cells e2
      simp only [roleCells, List.cons.injEq, and_true] at hop hk h1
      obtain ⟨h1a, h1b⟩ := h1
      subst hop hk h1a h1b
      simp only [Rows.uptoBulk, Rows.uptoBulkAll, List.map_cons, List.map_nil] at hb ⊢
      rcases open_slice Try.underlying24 e3 with ⟨e4, rfl⟩ | ⟨a, len, cap, m, n2, D, Pl, e4, _, hl, hm, hmm, rfl, hi⟩
      · simp only [List.cons.injEq, and_true] at e4
        subst e4
        refine ⟨.mk op k r [], none, 0, rfl, fun i hi => absurd hi (Nat.not_lt_zero i), ⟨a1, a2⟩, fun _ => rfl, ?_⟩
        simp only [greatF, greatL, Rows.uptoBulk]
        omega
      · simp only [List.cons.injEq, and_true] at e4
        subst e4
        simp only [if_true] at hmm
        simp only [Rows.uptoBulk] at hb
        have each : ∀ i, i < len → ∃ y : FmB, (∃ b off, some a = some ⟨b, off, none⟩ ∧ b < w.heap.size ∧ FmAt (fun k => k < w.heap.size) w (N + 1) b (off + i * 5) y) ∧ greatF y ≤ Rows.uptoBulk (D i) := by
          have op : ∀ i, i < len → ∃ (y : FmB) (ao : Option Addr) (cp : Nat), w.cells? base (a.add (i * 5)) 5 = some (fmCells y ao cp) ∧ FmsAt (fun k => k < w.heap.size) w N ao y.kids ∧ FmOk y ∧ (ao = none → cp = 0) ∧ greatF y ≤ Rows.uptoBulk (D i) := by
            intro i hil
            obtain ⟨cs', hcs, ht⟩ := hi i (by omega)
            rw [hc] at hcs
            have hbi := bulk_one D len i hil
            obtain ⟨y, ao, cp, rfl, q1, q2, q3, q4⟩ := ih (x := (D i, Pl i)) (by dsimp only; omega) ht
            exact ⟨y, ao, cp, hcs, q1, q2, q3, q4⟩
          intro i hil
          obtain ⟨y, ao, cp, hcs, q1, q2, q3, q4⟩ := op i hil
          obtain ⟨_, _, hat⟩ := World.cells?_some hcs
          have hs : a = ⟨a.block, a.off, none⟩ := by
            obtain ⟨y2, ao2, cp2, hcs2, _⟩ := op 0 (by omega)
            obtain ⟨_, _, hat2⟩ := World.cells?_some hcs2
            have q := hat2 0 (by simp)
            rw [Nat.zero_mul, add_zero, add_zero] at q
            exact spot_none q
          have hall : ∀ j, j < 5 → w.cell? ⟨a.block, a.off + i * 5 + j, none⟩ = (fmCells y ao cp)[j]? := fun j hj => by
            have q := hat j (by simpa [fmCells] using hj)
            rw [hs, add_off, add_off] at q
            exact q
          have h0 := hall 0 (by omega)
          exact ⟨y, ⟨a.block, a.off, congrArg some hs, World.block_lt_of_cell? w ⟨a.block, a.off + i * 5, none⟩ h0, h0, hall 1 (by omega), hall 2 (by omega), hall 3 (by omega), q2, ao, cp, hall 4 (by omega), q3, q1⟩, q4⟩
        obtain ⟨xs, hlen, hp⟩ := choose_roles len _ each
        subst hlen
        have hg := bulk_fms D xs (fun i hi => (hp i hi).2)
        refine ⟨.mk op k r xs, some a, cap, rfl, fun i hi => (hp i hi).1, ⟨a1, a2⟩, fun e => (by cases e), ?_⟩
        simp only [greatF, Rows.uptoBulk]
        omega
end
end Go.Proofs.Ytlmlcjjjkplccaa

/- How much roles hold; the contract of law 4's long. -/
namespace Go.Proofs.Ytlmlcjjjkplccaa
open Go.RowKit

/-- Roles and bytes, all together. -/
def totalR : List RoleB → Nat
  | [] => 0
  | x :: l => 1 + x.1.length + x.2.length + totalR l

end Go.Proofs.Ytlmlcjjjkplccaa

/- Roles that came in, one or a list, opened to cells; how much they hold. -/
namespace Go.Proofs.Ytlmlcjjjkplccaa
open Go.ChangeShapes Go.WideShapes Go.ChangeAt Go.RowKit Go.Deep

section
variable {H : Type} {enc : TypeId × Value → H} {w : World} {base : Nat} {held : Bool} {fuel : Nat}

theorem bulk_roles (D : Nat → DataW H) : ∀ (l : List RoleB), (∀ i (h : i < l.length), 1 + l[i].1.length + l[i].2.length ≤ Rows.uptoBulk (D i)) → totalR l ≤ Rows.uptoBulkAll ((List.range l.length).map D)
  | [], _ => Nat.zero_le _
  | x :: l, h => by
    have ih := bulk_roles (fun i => D (i + 1)) l (fun i hi => h (i + 1) (by simp only [List.length_cons]; omega))
    rw [List.length_cons, List.range_succ_eq_map, List.map_cons, List.map_map]
    simp only [totalR, Rows.uptoBulkAll]
    have h0 := h 0 (by simp)
    simp only [List.getElem_cons_zero] at h0
    have e : (List.range l.length).map (D ∘ Nat.succ) = (List.range l.length).map (fun i => D (i + 1)) := rfl
    rw [e]
    omega

set_option maxRecDepth 100000 in
/-- A list of roles that came in. -/
theorem open_roles {cs : List Value} {x : DataW H × List MemPlace} (h : DataW.trod enc Try.prog w base (fun _ => true) held fuel 37 cs = some x) :
    ∃ (ao : Option Addr) (cap : Nat) (ls : List RoleB), cs = [.slice ao ls.length cap] ∧ RolesAt (fun k => k < w.heap.size) w ao ls ∧ totalR ls ≤ Rows.uptoBulk x.1 ∧ (ao = none → cap = 0) := by
  rcases open_slice Try.underlying37 h with ⟨rfl, rfl⟩ | ⟨a, len, cap, m, n, D, Pl, rfl, _, hl, hm, hmm, rfl, hi⟩
  · exact ⟨none, 0, [], rfl, RolesAt.nil _ _ _, Nat.zero_le _, fun _ => rfl⟩
  · simp only [if_true] at hmm
    have hc2 : Try.prog.cellsOf 23 = 2 := by kernel_rfl
    have each : ∀ i, i < len → ∃ y : RoleB, (∃ b off, some a = some ⟨b, off, none⟩ ∧ b < w.heap.size ∧ RoleAt w b (off + i * 2) y) ∧ 1 + y.1.length + y.2.length ≤ Rows.uptoBulk (D i) := by
      intro i hil
      obtain ⟨cs', hcs, ht⟩ := hi i (by omega)
      rw [hc2] at hcs
      obtain ⟨r, hr, h1, h2, h3⟩ := open_role_cells ht
      subst hr
      obtain ⟨_, _, hat⟩ := World.cells?_some hcs
      have q0 := hat 0 (by decide)
      have q1 := hat 1 (by decide)
      have hs : a = ⟨a.block, a.off, none⟩ := by
        obtain ⟨cs'', hcs'', ht''⟩ := hi 0 (by omega)
        rw [hc2] at hcs''
        obtain ⟨r'', hr'', _⟩ := open_role_cells ht''
        subst hr''
        obtain ⟨_, _, hat''⟩ := World.cells?_some hcs''
        have q := hat'' 0 (by decide)
        rw [Nat.zero_mul, add_zero, add_zero] at q
        exact spot_none q
      rw [hs, add_off, add_off] at q0 q1
      have hlt := World.block_lt_of_cell? w _ (show w.cell? ⟨a.block, a.off + i * 2 + 0, none⟩ = some (.string ⟨r.1.toArray⟩) from q0)
      exact ⟨r, ⟨a.block, a.off, congrArg some hs, hlt, q0, q1, h1, h2⟩, h3⟩
    obtain ⟨xs, hlen, hp⟩ := choose_roles len _ each
    subst hlen
    refine ⟨some a, cap, xs, rfl, fun i hi => (hp i hi).1, ?_, fun e => by cases e⟩
    have := bulk_roles D xs (fun i hi => (hp i hi).2)
    simp only [Rows.uptoBulk]
    omega
end
end Go.Proofs.Ytlmlcjjjkplccaa

/- A law that bears a condition, over worlds of the program's shape: what is to be shown of the call. (The kit's wrap for a condition throws the shape away.) -/
namespace Go.Proofs.Ytlmlcjjjkplccaa
open Go.ChangeShapes Go.WideShapes Go.ChangeAt Go.RowKit

theorem handed_cond_shaped {H : Type} {enc : TypeId × Value → H} {a : Assume} {C : Checked} {os : Os} {f : FuncId} {fn : Func} {s : OpenSpec} {k : (H : Type) → List (DataW H) → Bool} (hk : s.cond = some k) {F : Stop.Interp} {conds : List PathCond} {apart fresh handsOn again : Bool}
    (own : ownKnob C.prog.godebug = none) (started : os.Started) (noInit : C.prog.inits.idxOf? f = none) (hfn : C.prog.funcs[f]? = some fn)
    (witness : ∃ (w : World) (tape : Tape) (i : Input), w.os = os ∧ (w.forCall tape i).Shaped C.prog ∧ i.vars = [] ∧ Input.okWide C.prog (w.forCall tape i) .any w.heap.size f i ∧
      s.pre6 enc C.prog fn conds apart (w.forCall tape i).memory i.args ∧ a.holds C.prog (lone (Frame.enter C.prog f i.args .normal) [] (w.forCall tape i)))
    (main : ∀ (W : World) (base : Nat) (args : Array Value) (ds gs : List (DataW H)) (before : List MemPlace), W.ShapedOpen C.prog →
      (∀ (j : Nat) t v, fn.params[j]? = some t → args[j]? = some v → Value.okWide C.prog W .any base t v) →
      DataW.Whole enc C.prog fn.params.toList s.vars apart W args.toList ds gs before → k H (ds ++ gs) = true →
      Calls C.prog f args W fun e W' => ∃ v, e = .returned v ∧ (s.at F).post enc C.prog fn apart fresh handsOn again W args v W') :
    ReturnsInHanded a C os f .any (s.pre6 enc C.prog fn conds apart) ((s.at F).post enc C.prog fn apart fresh handsOn again) := by
  refine returnsInHanded_of_calls own started noInit witness fun w tape i _ hsh _ hok hpre _ => ?_
  obtain ⟨_, _, _, fn', hfn', _, _, _, _, hval⟩ := hok
  obtain rfl : fn' = fn := Option.some.inj (hfn'.symm.trans hfn)
  obtain ⟨ds, gs, before, hw, _, hkk⟩ := (OpenSpec.pre_some hk conds apart _ _).1 hpre.1
  refine (main (w.forCall tape i) w.heap.size i.args ds gs before hsh hval (DataW.Whole.of_heap (w' := w.forCall tape i) (by rfl) hw) hkk).mono ?_
  rintro e W' ⟨v, rfl, hp⟩
  exact ChangeSpec.post_blind hp
end Go.Proofs.Ytlmlcjjjkplccaa
