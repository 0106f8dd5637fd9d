/- Texts that the proof leans on, in one: RoleCells, CredOpen, StepOpen, FactOpen, CondOpen. -/
import Derived.Test.YtjaplnainlbldaaFc11
import Derived.Test.YtjaplnainlbldaaFc1
import Derived.Test.YtjaplnainlbldaaFc35
import Derived.Test.YtjaplnainlbldaaFc36
import Derived.ChangeMaps5
import Derived.ProofKit
import Derived.OpenShut
import Derived.JoinedCond
/- A role that came in, opened to its cells. -/
namespace Go.Proofs.Ytjaplnainlbldaa
open Go.ChangeShapes Go.WideShapes Go.ChangeAt Go.RowKit Go.Deep

theorem choose_roles {α : Type} (n : Nat) (p : Nat → α → Prop) (h : ∀ i, i < n → ∃ x, p i x) : ∃ l : List α, l.length = n ∧ ∀ i (hi : i < l.length), p i l[i] := by
 induction n with
 | zero => exact ⟨[], rfl, fun i hi => by simp at hi⟩
 | succ n ih =>
  obtain ⟨l, hl, hp⟩ := ih (fun i hi => h i (by omega))
  obtain ⟨x, hx⟩ := h n (by omega)
  refine ⟨l ++ [x], by simp [hl], fun i hi => ?_⟩
  by_cases hin : i < l.length
  ·rw [List.getElem_append_left hin]
   exact hp i hin
  ·have : i = n := by simp [hl] at hi; omega
   subst this
   rw [List.getElem_append_right (by omega)]
   simpa [hl] using hx

section
variable {H : Type} {enc : TypeId × Value → H} {w : World} {base : Nat} {held : Bool} {fuel : Nat}

set_option maxRecDepth 100000 in
/-- Two cells that are read as a role. -/
theorem open_role_cells {spare : Nat → Bool} {cs : List Value} {x : DataW H × List MemPlace} (h : DataW.trod enc Try.prog w base spare held fuel 24 cs = some x) :
  ∃ r : RoleB, cs = roleCells r ∧ r.1.length ≤ 9223372036854775807 ∧ r.2.length ≤ 9223372036854775807 ∧ 1 + r.1.length + r.2.length ≤ Rows.uptoBulk x.1 := by
 obtain ⟨y0, y1, n, rfl, hl, h0, h1⟩ := trod_struct2 Try.underlying24 h
 have hc : Try.prog.cellsOf 24 = 2 := by kernel_rfl
 rw [hc] at hl
 match cs, hl with
 | [c0, c1], _ =>
  have e0 : DataW.trod enc Try.prog w base spare held n 9 [c0] = some y0 := h0
  have e1 : DataW.trod enc Try.prog w base spare held n 9 [c1] = some y1 := h1
  obtain ⟨s0, hs0, rfl, hm0⟩ := DataW.trod_string Try.underlying9 e0
  obtain ⟨s1, hs1, rfl, hm1⟩ := DataW.trod_string Try.underlying9 e1
  simp only [List.cons.injEq, and_true] at hs0 hs1
  subst hs0
  subst hs1
  unfold maxLen at hm0 hm1
  refine ⟨(s0.data.toList, s1.data.toList), rfl, hm0, hm1, ?_⟩
  simp [Rows.uptoBulk, Rows.uptoBulkAll]
  omega

end
end Go.Proofs.Ytjaplnainlbldaa

/- Credentials that came in, one or a list, opened to cells; how much they hold. -/
namespace Go.Proofs.Ytjaplnainlbldaa
open Go.ChangeShapes Go.WideShapes Go.ChangeAt Go.RowKit Go.Deep

theorem cred_at_cells' {w : World} {g o : Nat} {c : CredB} (h : ∀ j, j < 9 → w.cell? ⟨g, o + j, none⟩ = (credCells c)[j]?) : CredAt w g o c :=
 ⟨h 0 (by omega), h 1 (by omega), h 2 (by omega), h 3 (by omega), h 4 (by omega), h 5 (by omega), h 6 (by omega), h 7 (by omega), h 8 (by omega)⟩

section
variable {H : Type} {enc : TypeId × Value → H} {w : World} {base : Nat} {held : Bool} {fuel : Nat}

set_option maxRecDepth 100000 in
/-- Nine cells that are read as a credential. -/
theorem open_cred_cells {spare : Nat → Bool} {cs : List Value} {x : DataW H × List MemPlace} (h : DataW.trod enc Try.prog w base spare held fuel 36 cs = some x) :
  ∃ c : CredB, cs = credCells c ∧ credShort c 9223372036854775807 ∧ sizeC c ≤ 3 * Rows.uptoBulk x.1 := by
 obtain ⟨xs, n, _, rfl, hl, hlen, hf⟩ := DataW.trod_struct Try.underlying36 h
 have hc : Try.prog.cellsOf 36 = 9 := by kernel_rfl
 have hr : Try.prog.cellsOf 24 = 2 := by kernel_rfl
 rw [hc] at hl
 match cs, hl, xs, hlen with
 | [c0, c1, c2, c3, c4, c5, c6, c7, c8], _, [y0, y1, y2, y3, y4, y5], _ =>
  have e0 : DataW.trod enc Try.prog w base spare held n 3 [c0] = some y0 := hf 0 _ rfl
  have e1 : DataW.trod enc Try.prog w base spare held n 24 [c1, c2] = some y1 := hf 1 _ rfl
  have e2 : DataW.trod enc Try.prog w base spare held n 9 [c3] = some y2 := hf 2 _ rfl
  have e3 : DataW.trod enc Try.prog w base spare held n 24 [c4, c5] = some y3 := hf 3 _ rfl
  have e4 : DataW.trod enc Try.prog w base spare held n 24 [c6, c7] = some y4 := hf 4 _ rfl
  have e5 : DataW.trod enc Try.prog w base spare held n 9 [c8] = some y5 := hf 5 _ rfl
  obtain ⟨k, hk, rfl, _⟩ := DataW.trod_int Try.underlying3 e0
  obtain ⟨hd, h1, a1, a2, a3⟩ := open_role_cells e1
  obtain ⟨s2, hs2, rfl, hm2⟩ := DataW.trod_string Try.underlying9 e2
  obtain ⟨b, h3, b1, b2, b3⟩ := open_role_cells e3
  obtain ⟨c, h4, d1, d2, d3⟩ := open_role_cells e4
  obtain ⟨s5, hs5, rfl, hm5⟩ := DataW.trod_string Try.underlying9 e5
  simp only [roleCells, List.cons.injEq, and_true] at hk h1 hs2 h3 h4 hs5
  obtain ⟨h1a, h1b⟩ := h1
  obtain ⟨h3a, h3b⟩ := h3
  obtain ⟨h4a, h4b⟩ := h4
  subst hk h1a h1b hs2 h3a h3b h4a h4b hs5
  unfold maxLen at hm2 hm5
  refine ⟨⟨k, hd, s2.data.toList, b, c, s5.data.toList⟩, rfl, ⟨a1, a2, hm2, b1, b2, d1, d2, hm5⟩, ?_⟩
  simp only [sizeC, Rows.uptoBulk, Rows.uptoBulkAll, List.map_cons, List.map_nil]
  omega

theorem bulk_creds (D : Nat → DataW H) : ∀ (l : List CredB), (∀ i (h : i < l.length), sizeC l[i] ≤ 3 * Rows.uptoBulk (D i)) → totalC l ≤ 3 * Rows.uptoBulkAll ((List.range l.length).map D)
 | [], _ => Nat.zero_le _
 | x :: l, h => by
  have ih := bulk_creds (fun i => D (i + 1)) l (fun i hi => h (i + 1) (by simp only [List.length_cons]; omega))
  rw [List.length_cons, List.range_succ_eq_map, List.map_cons, List.map_map]
  simp only [totalC, Rows.uptoBulkAll]
  have h0 := h 0 (by simp)
  simp only [List.getElem_cons_zero] at h0
  have e : (List.range l.length).map (D ∘ Nat.succ) = (List.range l.length).map (fun i => D (i + 1)) := rfl
  rw [e]
  omega

set_option maxRecDepth 100000 in
/-- A list of credentials that came in. -/
theorem open_creds {cs : List Value} {x : DataW H × List MemPlace} (h : DataW.trod enc Try.prog w base (fun _ => true) held fuel 22 cs = some x) :
  ∃ (ao : Option Addr) (cap : Nat) (ls : List CredB), cs = [.slice ao ls.length cap] ∧ CredsAt (fun k => k < w.heap.size) w ao ls ∧ totalC ls ≤ 3 * Rows.uptoBulk x.1 ∧ (ao = none → cap = 0) := by
 rcases open_slice Try.underlying22 h with ⟨rfl, rfl⟩ | ⟨a, len, cap, m, n, D, Pl, rfl, _, hl, hm, hmm, rfl, hi⟩
 ·exact ⟨none, 0, [], rfl, CredsAt.nil _ _ _, Nat.zero_le _, fun _ => rfl⟩
 ·simp only [if_true] at hmm
  have hc9 : Try.prog.cellsOf 36 = 9 := by kernel_rfl
  have each : ∀ i, i < len → ∃ y : CredB, (∃ b off, some a = some ⟨b, off, none⟩ ∧ b < w.heap.size ∧ CredAt w b (off + i * 9) y ∧ credShort y 9223372036854775807) ∧ sizeC y ≤ 3 * Rows.uptoBulk (D i) := by
   intro i hil
   obtain ⟨cs', hcs, ht⟩ := hi i (by omega)
   rw [hc9] at hcs
   obtain ⟨r, hr, h1, h2⟩ := open_cred_cells ht
   subst hr
   obtain ⟨_, _, hat⟩ := World.cells?_some hcs
   have hs : a = ⟨a.block, a.off, none⟩ := by
    obtain ⟨cs'', hcs'', ht''⟩ := hi 0 (by omega)
    rw [hc9] at hcs''
    obtain ⟨r'', hr'', _⟩ := open_cred_cells ht''
    subst hr''
    obtain ⟨_, _, hat''⟩ := World.cells?_some hcs''
    have q := hat'' 0 (by decide)
    rw [Nat.zero_mul, add_zero, add_zero] at q
    exact spot_none q
   have hall : ∀ j, j < 9 → w.cell? ⟨a.block, a.off + i * 9 + j, none⟩ = (credCells r)[j]? := fun j hj => by
    have q := hat j (by simpa [credCells] using hj)
    rw [hs, add_off, add_off] at q
    exact q
   have hat9 := cred_at_cells' hall
   exact ⟨r, ⟨a.block, a.off, congrArg some hs, World.block_lt_of_cell? w ⟨a.block, a.off + i * 9, none⟩ hat9.k0, hat9, h1⟩, h2⟩
  obtain ⟨xs, hlen, hp⟩ := choose_roles len _ each
  subst hlen
  refine ⟨some a, cap, xs, rfl, fun i hi => (hp i hi).1, ?_, fun e => by cases e⟩
  have := bulk_creds D xs (fun i hi => (hp i hi).2)
  simp only [Rows.uptoBulk]
  omega
end
end Go.Proofs.Ytjaplnainlbldaa

/- Steps that came in, opened to cells; how much they hold. -/
namespace Go.Proofs.Ytjaplnainlbldaa
open Go.ChangeShapes Go.WideShapes Go.ChangeAt Go.RowKit Go.Deep

section
variable {H : Type} {enc : TypeId × Value → H} {w : World} {base : Nat} {held : Bool} {fuel : Nat}

set_option maxRecDepth 100000 in
/-- Three cells that are read as a fact. -/
theorem open_fact_cells {spare : Nat → Bool} {cs : List Value} {x : DataW H × List MemPlace} (h : DataW.trod enc Try.prog w base spare held fuel 26 cs = some x) :
  ∃ f : FactB, cs = factCells f ∧ factShort f 9223372036854775807 ∧ f.1.1.length + f.1.2.length + f.2.length ≤ Rows.uptoBulk x.1 := by
 obtain ⟨xs, n, _, rfl, hl, hlen, hf⟩ := DataW.trod_struct Try.underlying26 h
 have hc : Try.prog.cellsOf 26 = 3 := by kernel_rfl
 rw [hc] at hl
 match cs, hl, xs, hlen with
 | [c0, c1, c2], _, [y0, y1], _ =>
  have e0 : DataW.trod enc Try.prog w base spare held n 24 [c0, c1] = some y0 := hf 0 _ rfl
  have e1 : DataW.trod enc Try.prog w base spare held n 9 [c2] = some y1 := hf 1 _ rfl
  obtain ⟨r, h1, a1, a2, a3⟩ := open_role_cells e0
  obtain ⟨s2, hs2, rfl, hm2⟩ := DataW.trod_string Try.underlying9 e1
  simp only [roleCells, List.cons.injEq, and_true] at h1 hs2
  obtain ⟨h1a, h1b⟩ := h1
  subst h1a h1b hs2
  unfold maxLen at hm2
  refine ⟨(r, s2.data.toList), rfl, ⟨a1, a2, hm2⟩, ?_⟩
  simp only [Rows.uptoBulk, Rows.uptoBulkAll, List.map_cons, List.map_nil]
  omega

end
end Go.Proofs.Ytjaplnainlbldaa

/- Facts that came in, a list of them, and how much they hold. -/
namespace Go.Proofs.Ytjaplnainlbldaa
open Go.ChangeShapes Go.WideShapes Go.ChangeAt Go.RowKit Go.Deep

def sizeF (f : FactB) : Nat := f.1.1.length + f.1.2.length + f.2.length
section
variable {H : Type} {enc : TypeId × Value → H} {w : World} {base : Nat} {held : Bool} {fuel : Nat}

set_option maxRecDepth 100000 in
/-- A fact that came in, and how much it holds. -/
theorem open_factB {base0 : Nat} {r : Reach} {v : Value} {d : DataW H} {ps : List MemPlace} {spare : Nat → Bool} (hval : Value.okWide Try.prog w r base0 26 v) (hd : DataW.Trod enc Try.prog w base spare held 26 v d ps) :
  ∃ f : FactB, v = factV f ∧ factShort f 9223372036854775807 ∧ sizeF f ≤ Rows.uptoBulk d := by
 obtain ⟨cs, rfl, _⟩ := okWide_struct Try.underlying26 hval
 obtain ⟨n, hn⟩ := hd
 obtain ⟨x, hx, h1, h2⟩ := open_fact_cells hn
 refine ⟨x, ?_, h1, h2⟩
 have : cs.toList = factCells x := hx
 have e : cs = (factCells x).toArray := by rw [← this]
 rw [e]
 rfl

end
end Go.Proofs.Ytjaplnainlbldaa

/- A law that bears a condition, over worlds of the program's shape: what is to be shown of the call. (The kit's wrap for a condition throws the shape away.) -/
namespace Go.Proofs.Ytjaplnainlbldaa
open Go.ChangeShapes Go.WideShapes Go.ChangeAt Go.RowKit

theorem handed_cond_shaped {H : Type} {enc : TypeId × Value → H} {a : Assume} {C : Checked} {os : Os} {f : FuncId} {fn : Func} {s : OpenSpec} {k : (H : Type) → List (DataW H) → Bool} (hk : s.cond = some k) {F : Stop.Interp} {conds : List PathCond} {apart fresh handsOn again : Bool}
  (own : ownKnob C.prog.godebug = none) (started : os.Started) (noInit : C.prog.inits.idxOf? f = none) (hfn : C.prog.funcs[f]? = some fn)
  (witness : ∃ (w : World) (tape : Tape) (i : Input), w.os = os ∧ (w.forCall tape i).Shaped C.prog ∧ i.vars = [] ∧ Input.okWide C.prog (w.forCall tape i) .any w.heap.size f i ∧
   s.pre6 enc C.prog fn conds apart (w.forCall tape i).memory i.args ∧ a.holds C.prog (lone (Frame.enter C.prog f i.args .normal) [] (w.forCall tape i)))
  (main : ∀ (W : World) (base : Nat) (args : Array Value) (ds gs : List (DataW H)) (before : List MemPlace), W.ShapedOpen C.prog →
   (∀ (j : Nat) t v, fn.params[j]? = some t → args[j]? = some v → Value.okWide C.prog W .any base t v) →
   DataW.Whole enc C.prog fn.params.toList s.vars apart W args.toList ds gs before → k H (ds ++ gs) = true →
   Calls C.prog f args W fun e W' => ∃ v, e = .returned v ∧ (s.at F).post enc C.prog fn apart fresh handsOn again W args v W') :
  ReturnsInHanded a C os f .any (s.pre6 enc C.prog fn conds apart) ((s.at F).post enc C.prog fn apart fresh handsOn again) := by
 refine returnsInHanded_of_calls own started noInit witness fun w tape i _ hsh _ hok hpre _ => ?_
 obtain ⟨_, _, _, fn', hfn', _, _, _, _, hval⟩ := hok
 obtain rfl : fn' = fn := Option.some.inj (hfn'.symm.trans hfn)
 obtain ⟨ds, gs, before, hw, _, hkk⟩ := (OpenSpec.pre_some hk conds apart _ _).1 hpre.1
 refine (main (w.forCall tape i) w.heap.size i.args ds gs before hsh hval (DataW.Whole.of_heap (w' := w.forCall tape i) (by rfl) hw) hkk).mono ?_
 rintro e W' ⟨v, rfl, hp⟩
 exact ChangeSpec.post_blind hp
end Go.Proofs.Ytjaplnainlbldaa
