/- Texts that the proof leans on, in one: NpPairD, OpenB, RoleCells, RefCredGreat, CredOpen, FmOpen, FmOpenZ. -/
import Derived.Test.YtcbfieodjbfjdaaNc14
import Derived.Test.YtcbfieodjbfjdaaRows
import Derived.Test.YtcbfieodjbfjdaaNc1
import Derived.ProofKit
import Derived.OpenShut
import Derived.ShutString
import Derived.ChangeOld
import Derived.Deep.Slices
import Derived.Deep.Fields
import Derived.ChangeSame
import Derived.Test.YtcbfieodjbfjdaaNc10
import Derived.Test.YtcbfieodjbfjdaaProg
import Derived.Test.YtcbfieodjbfjdaaChecked
import Derived.Deep.QuietTactic
import Derived.BigQuiet
import Derived.Test.YtcbfieodjbfjdaaNc2
import Derived.ChangeArms
/- Maps whose keys are pairs of pointers, the first into what came in, the second one of the call's own: a look-up of a new key may take draws. -/
namespace Go.Proofs.Ytcbfieodjbfjdaa
open Go.RowKit

/-- A cell that can be compared by its place. -/
def Thaw (w : World) (a : Addr) : Prop := (∃ cs ty z, w.heap[a.block]? = some (.cells cs ty z)) ∧ w.frozen? a = false
theorem Thaw.heap {w w' : World} {a : Addr} (h : Thaw w a) (hh : w'.heap = w.heap) : Thaw w' a := by
  unfold Thaw World.frozen? at *
  rw [hh]
  exact h
/-- A world that differs by draws alone. -/
def Drew (w w' : World) : Prop := Chg (fun _ => False) w w' ∧ w'.heap = w.heap
theorem Drew.refl (w : World) : Drew w w := ⟨Chg.refl _ w, rfl⟩
theorem Drew.trans {a b c : World} (h : Drew a b) (k : Drew b c) : Drew a c := ⟨h.1.trans k.1 (fun _ _ h => h), k.2.trans h.2⟩
theorem Drew.one (w : World) : Drew w w.drew := ⟨⟨rfl, rfl, rfl, Nat.le_refl _, Nat.le_succ _, fun _ _ _ => rfl⟩, rfl⟩

theorem sameAddr_any (w : World) {a b : Addr} (ha : Thaw w a) (hb : Thaw w b) : ∃ r w1, (sameAddr a b).run Try.prog w = .ok r w1 ∧ Drew w w1 := by
  obtain ⟨⟨ca, ta, za, ha⟩, fa⟩ := ha
  obtain ⟨⟨cb, tb, zb, hb⟩, fb⟩ := hb
  by_cases hbl : a.block = b.block
  · exact ⟨a == b, w, by simp [sameAddr, hbl], Drew.refl w⟩
  · obtain ⟨x, hx⟩ : ∃ x, w.frozen? ⟨a.block, ca.size, none⟩ = x := ⟨_, rfl⟩
    obtain ⟨y, hy⟩ : ∃ y, w.frozen? ⟨b.block, cb.size, none⟩ = y := ⟨_, rfl⟩
    have fr : ∀ (c : Addr), (frozen c).run Try.prog w = .ok (w.frozen? c) w := fun c => by simp
    have key : (sameAddr a b).run Try.prog w = (if ((x && y) || (x && (ca.size == 0)) || (y && (cb.size == 0))) = true then (choose (.extern "sameAddr.stringBytes" 2) >>= fun n => pure (n == 1) : Sem Bool) else pure false).run Try.prog w := by
      simp [sameAddr, hbl, fa, fb, noView, viewAt, World.shape?, mayBeOne, stringish, ha, hb, hx, hy]
      cases x <;> cases y <;> simp
      · cases hcb : cb.size with
        | zero => rw [if_pos (Array.size_eq_zero_iff.1 hcb)]; rfl
        | succ n => rw [if_neg (show ¬ cb = #[] by rintro rfl; cases hcb)]; rfl
      · cases hca : ca.size with
        | zero => rw [if_pos (Array.size_eq_zero_iff.1 hca)]; rfl
        | succ n => rw [if_neg (show ¬ ca = #[] by rintro rfl; cases hca)]; rfl
    rw [key]
    split
    · have hf : (Question.extern "sameAddr.stringBytes" 2).forced = false := by decide
      simp only [Sem.run_bind, run_choose_drew, hf, Bool.false_eq_true, if_false, Result.andThen_ok]
      exact ⟨_, _, rfl, Drew.one w⟩
    · exact ⟨false, w, rfl, Drew.refl w⟩

theorem eq_ptrD (d : Nat) (w : World) {a a' : Addr} (ha : Thaw w a) (hb : Thaw w a') :
    ∃ r w1, (Op.equalIn (d + 1) 67 (.pointer (some a)) (.pointer (some a'))).run Try.prog w = .ok r w1 ∧ Drew w w1 := by
  obtain ⟨r, w1, h1, h2⟩ := sameAddr_any w ha hb
  exact ⟨r, w1, by simp [Op.equalIn, run_underlying Try.underlying67, h1], h2⟩

theorem eq_pairD (d : Nat) (w : World) {a a' b b' : Addr} {cb cb' : Array Value} {tb tb' : TypeId} (ha : Thaw w a) (ha' : Thaw w a') (hne : b ≠ b') (hb : w.heap[b.block]? = some (.cells cb tb (0, 0))) (hb' : w.heap[b'.block]? = some (.cells cb' tb' (0, 0))) :
    ∃ w1, (Op.equalIn (d + 2) 69 (.agg #[.pointer (some a), .pointer (some b)]) (.agg #[.pointer (some a'), .pointer (some b')])).run Try.prog w = .ok false w1 ∧ Drew w w1 := by
  obtain ⟨r, w1, h1, h2⟩ := eq_ptrD d w ha ha'
  have h3 := eq_ptrK d w1 hne (by rw [h2.2]; exact hb) (by rw [h2.2]; exact hb')
  refine ⟨w1, ?_, h2⟩
  rw [run_equalIn_struct w (d + 1) _ _ _ (by kernel_rfl) (by kernel_rfl)]
  have hf : (Try.prog.fieldsOf 69).toList.map (fun f => (f.name, f.type, f.offset)) = [("a", 67, 0), ("b", 67, 1)] := by kernel_rfl
  generalize (Try.prog.fieldsOf 69).toList = fs at hf ⊢
  have p1 : ∀ (x y : Addr) (w : World), (part 67 #[.pointer (some x), .pointer (some y)] 0).run Try.prog w = .ok (.pointer (some x)) w := fun x y w => by kernel_rfl
  have p2 : ∀ (x y : Addr) (w : World), (part 67 #[.pointer (some x), .pointer (some y)] 1).run Try.prog w = .ok (.pointer (some y)) w := fun x y w => by kernel_rfl
  rcases fs with _ | ⟨f1, _ | ⟨f2, _ | ⟨f3, fs⟩⟩⟩
  · simp at hf
  · simp at hf
  · simp only [List.map_cons, List.map_nil, List.cons.injEq, Prod.mk.injEq, and_true] at hf
    obtain ⟨⟨n1, t1, o1⟩, ⟨n2, t2, o2⟩⟩ := hf
    cases r <;> simp [Op.eqFields, n1, t1, o1, n2, t2, o2, p1, p2, h1, h3]
  · simp at hf

/-- The keys that a map of pairs has: none of them has b's second place. -/
def NewK (w : World) (b : Addr) (es : List MapEntry) : Prop := ∀ e ∈ es, ∃ a' b' : Addr, e.key = .agg #[.pointer (some a'), .pointer (some b')] ∧ Thaw w a' ∧ b ≠ b' ∧ (∃ ca ta, w.heap[b'.block]? = some (.cells ca ta (0, 0)))
theorem NewK.heap {w w' : World} {b : Addr} {es : List MapEntry} (h : NewK w b es) (hh : w'.heap = w.heap) : NewK w' b es := fun e he => by
  obtain ⟨a', b', h1, h2, h3, h4⟩ := h e he
  exact ⟨a', b', h1, h2.heap hh, h3, by rw [hh]; exact h4⟩
theorem find_noneD (a b : Addr) : ∀ (es : List MapEntry) (i : Nat) (w : World), NewK w b es → Thaw w a → (∃ ca ta, w.heap[b.block]? = some (.cells ca ta (0, 0))) →
    ∃ w1, (Instr.findAsking 69 (.agg #[.pointer (some a), .pointer (some b)]) es i).run Try.prog w = .ok none w1 ∧ Drew w w1 := by
  intro es
  induction es with
  | nil => intro i w _ _ _; exact ⟨w, rfl, Drew.refl w⟩
  | cons e es ih =>
    intro i w h ha hb
    obtain ⟨a', b', hk, ht, hne, ca', ta', ha'⟩ := h e (by simp)
    obtain ⟨cb, tb, hb2⟩ := hb
    obtain ⟨w1, h1, h2⟩ : ∃ w1, (Op.equal 69 (.agg #[.pointer (some a), .pointer (some b)]) e.key).run Try.prog w = .ok false w1 ∧ Drew w w1 := by
      rw [hk]
      exact eq_pairD 9998 w ha ht hne hb2 ha'
    obtain ⟨w2, h3, h4⟩ := ih (i + 1) w1 (NewK.heap (fun e he => h e (by simp [he])) h2.2) (ha.heap h2.2) ⟨cb, tb, by rw [h2.2]; exact hb2⟩
    refine ⟨w2, ?_, h2.trans h4⟩
    unfold Instr.findAsking
    simp only [Sem.run_bind, h1, Result.andThen_ok, Bool.false_eq_true, if_false]
    exact h3
theorem find_noneKD (w : World) (a b : Addr) (es : List MapEntry) (h : NewK w b es) (ha : Thaw w a) (hb : ∃ ca ta, w.heap[b.block]? = some (.cells ca ta (0, 0))) :
    ∃ w1, (Instr.findKey 69 (.agg #[.pointer (some a), .pointer (some b)]) es).run Try.prog w = .ok none w1 ∧ Drew w w1 := by
  unfold Instr.findKey
  simp only [Sem.run_bind, run_underlying Try.underlying69, Result.andThen_ok]
  cases es with
  | nil => exact ⟨w, rfl, Drew.refl w⟩
  | cons e es =>
    obtain ⟨w1, h1, h2⟩ := find_noneD a b (e :: es) 0 w h ha hb
    obtain ⟨a', b', hk, _⟩ := h e (by simp)
    refine ⟨w1, ?_, h2⟩
    simp only [Instr.findNow, Instr.sameNow]
    exact h1
/-- A look-up of a pair that isn't there. -/
theorem look_pairD (w : World) (M : Nat) (es : Array MapEntry) (clock : Nat) (a b : Addr) (hM : w.heap[M]? = some (.map es clock)) (h : NewK w b es.toList) (ha : Thaw w a) (hb : ∃ ca ta, w.heap[b.block]? = some (.cells ca ta (0, 0))) :
    ∃ w1, (Instr.lookup 71 (.map (some M)) (.agg #[.pointer (some a), .pointer (some b)]) true).run Try.prog w = .ok (.tuple #[.agg #[], .bool false]) w1 ∧ Drew w w1 := by
  obtain ⟨w1, h1, h2⟩ := find_noneKD w a b es.toList h ha hb
  have hc := check_pairK es.isEmpty a b w
  refine ⟨w1, ?_, h2⟩
  unfold Instr.lookup
  have hz : ∀ w, (zeroValue 65).run Try.prog w = .ok (.agg #[]) w := fun w => by kernel_rfl
  have hg : (getObj M).run Try.prog w = .ok (.map es clock) w := MapKept.run_getObj_map hM
  simp [run_underlying Try.underlying71, hg, h1, hc, hz]
/-- A pair is entered. -/
theorem put_pairD (w : World) (M : Nat) (es : Array MapEntry) (clock : Nat) (a b : Addr) (hM : w.heap[M]? = some (.map es clock)) (h : NewK w b es.toList) (ha : Thaw w a) (hb : ∃ ca ta, w.heap[b.block]? = some (.cells ca ta (0, 0))) :
    ∃ w', (Instr.mapUpdate 71 (.map (some M)) (.agg #[.pointer (some a), .pointer (some b)]) (.agg #[])).run Try.prog w = .ok () w' ∧ w'.heap[M]? = some (.map (es.push ⟨.agg #[.pointer (some a), .pointer (some b)], .agg #[], clock⟩) (clock + 1)) ∧ Chg (· = M) w w' := by
  obtain ⟨w1, h1, h2⟩ := find_noneKD w a b es.toList h ha hb
  have hc := check_pairK false a b w
  have hM1 : w1.heap[M]? = some (.map es clock) := by rw [h2.2]; exact hM
  have hg : ∀ w, w.heap[M]? = some (.map es clock) → (getObj M).run Try.prog w = .ok (.map es clock) w := fun w hM => MapKept.run_getObj_map hM
  have hs := MapKept.run_setObj_map (P := Try.prog) (.map (es.push ⟨.agg #[.pointer (some a), .pointer (some b)], .agg #[], clock⟩) (clock + 1)) hM1
  have hh := MapKept.heap_set (o' := .map (es.push ⟨.agg #[.pointer (some a), .pointer (some b)], .agg #[], clock⟩) (clock + 1)) hM1
  unfold Instr.mapUpdate
  simp [run_underlying Try.underlying71, hg w hM, h1, hc, hs]
  exact ⟨hh.1, (h2.1.mono (T := (· = M)) (fun _ _ h => h.elim)).trans ⟨rfl, rfl, rfl, by simp, Nat.le_refl _, fun i hi hne => hh.2 i hne⟩ (fun _ _ h => h)⟩
end Go.Proofs.Ytcbfieodjbfjdaa

/- The arguments of laws, opened to cells: bytes, a small array. -/
namespace Go.Proofs.Ytcbfieodjbfjdaa
open Go.ChangeShapes Go.WideShapes Go.ChangeAt Go.RowKit Go.Deep

theorem Try.own : ownKnob Try.prog.godebug = none := by kernel_rfl
theorem Try.laidOut : laidOutB Try.prog = true := by kernel_rfl

theorem spot_none {w : World} {a : Addr} {v : Value} (h : w.cell? a = some v) : a = ⟨a.block, a.off, none⟩ := by
  obtain ⟨b, o, s⟩ := a
  cases s with
  | none => rfl
  | some x =>
    simp only [World.cell?] at h
    split at h
    · simp at h
    · cases h

theorem add_zero (a : Addr) : a.add 0 = a := by
  unfold Addr.add
  simp

section
variable {H : Type} {enc : TypeId × Value → H} {w : World} {base : Nat} {held : Bool} {fuel : Nat}

end

end Go.Proofs.Ytcbfieodjbfjdaa

/- A role that came in, opened to its cells. -/
namespace Go.Proofs.Ytcbfieodjbfjdaa
open Go.ChangeShapes Go.WideShapes Go.ChangeAt Go.RowKit Go.Deep

theorem choose_roles {α : Type} (n : Nat) (p : Nat → α → Prop) (h : ∀ i, i < n → ∃ x, p i x) : ∃ l : List α, l.length = n ∧ ∀ i (hi : i < l.length), p i l[i] := by
  induction n with
  | zero => exact ⟨[], rfl, fun i hi => by simp at hi⟩
  | succ n ih =>
    obtain ⟨l, hl, hp⟩ := ih (fun i hi => h i (by omega))
    obtain ⟨x, hx⟩ := h n (by omega)
    refine ⟨l ++ [x], by simp [hl], fun i hi => ?_⟩
    by_cases hin : i < l.length
    · rw [List.getElem_append_left hin]
      exact hp i hin
    · have : i = n := by simp [hl] at hi; omega
      subst this
      rw [List.getElem_append_right (by omega)]
      simpa [hl] using hx

section
variable {H : Type} {enc : TypeId × Value → H} {w : World} {base : Nat} {held : Bool} {fuel : Nat}

set_option maxRecDepth 100000 in
/-- Two cells that are read as a role. -/
theorem open_role_cells {spare : Nat → Bool} {cs : List Value} {x : DataW H × List MemPlace} (h : DataW.trod enc Try.prog w base spare held fuel 23 cs = some x) :
    ∃ r : RoleB, cs = roleCells r ∧ r.1.length ≤ 9223372036854775807 ∧ r.2.length ≤ 9223372036854775807 ∧ 1 + r.1.length + r.2.length ≤ Rows.uptoBulk x.1 := by
  obtain ⟨y0, y1, n, rfl, hl, h0, h1⟩ := trod_struct2 Try.underlying23 h
  have hc : Try.prog.cellsOf 23 = 2 := by kernel_rfl
  rw [hc] at hl
  match cs, hl with
  | [c0, c1], _ =>
    have e0 : DataW.trod enc Try.prog w base spare held n 9 [c0] = some y0 := h0
    have e1 : DataW.trod enc Try.prog w base spare held n 9 [c1] = some y1 := h1
    obtain ⟨s0, hs0, rfl, hm0⟩ := DataW.trod_string Try.underlying9 e0
    obtain ⟨s1, hs1, rfl, hm1⟩ := DataW.trod_string Try.underlying9 e1
    simp only [List.cons.injEq, and_true] at hs0 hs1
    subst hs0
    subst hs1
    unfold maxLen at hm0 hm1
    refine ⟨(s0.data.toList, s1.data.toList), rfl, hm0, hm1, ?_⟩
    simp [Rows.uptoBulk, Rows.uptoBulkAll]
    omega

end
end Go.Proofs.Ytcbfieodjbfjdaa

/- How great credentials are: the contract of the law's Great. -/
namespace Go.Proofs.Ytcbfieodjbfjdaa
open Go.RowKit

end Go.Proofs.Ytcbfieodjbfjdaa

/- Credentials that came in, one or a list, opened to cells; how much they hold. -/
namespace Go.Proofs.Ytcbfieodjbfjdaa
open Go.ChangeShapes Go.WideShapes Go.ChangeAt Go.RowKit Go.Deep

section
variable {H : Type} {enc : TypeId × Value → H} {w : World} {base : Nat} {held : Bool} {fuel : Nat}

end
end Go.Proofs.Ytcbfieodjbfjdaa

/- A formula that came in, opened to cells, and how much it holds. -/
namespace Go.Proofs.Ytcbfieodjbfjdaa
open Go.ChangeShapes Go.WideShapes Go.ChangeAt Go.RowKit Go.Deep

section
variable {H : Type} {enc : TypeId × Value → H} {w : World} {base : Nat} {held : Bool}

theorem bulk_fms (D : Nat → DataW H) : ∀ (l : List FmB), (∀ i (h : i < l.length), greatF l[i] ≤ Rows.uptoBulk (D i)) → greatL l ≤ Rows.uptoBulkAll ((List.range l.length).map D)
  | [], _ => Nat.zero_le _
  | x :: l, h => by
    have ih := bulk_fms (fun i => D (i + 1)) l (fun i hi => h (i + 1) (by simp only [List.length_cons]; omega))
    rw [List.length_cons, List.range_succ_eq_map, List.map_cons, List.map_map]
    simp only [greatL, Rows.uptoBulkAll]
    have h0 := h 0 (by simp)
    simp only [List.getElem_cons_zero] at h0
    have e : (List.range l.length).map (D ∘ Nat.succ) = (List.range l.length).map (fun i => D (i + 1)) := rfl
    rw [e]
    omega

theorem bulk_one (D : Nat → DataW H) : ∀ (n i : Nat), i < n → Rows.uptoBulk (D i) ≤ Rows.uptoBulkAll ((List.range n).map D)
  | 0, _, h => absurd h (Nat.not_lt_zero _)
  | n + 1, 0, _ => by
    rw [List.range_succ_eq_map, List.map_cons]
    simp only [Rows.uptoBulkAll]
    omega
  | n + 1, i + 1, h => by
    have ih := bulk_one (fun i => D (i + 1)) n i (by omega)
    rw [List.range_succ_eq_map, List.map_cons, List.map_map]
    simp only [Rows.uptoBulkAll]
    have e : (List.range n).map (D ∘ Nat.succ) = (List.range n).map (fun i => D (i + 1)) := rfl
    rw [e]
    omega

def fmCells (f : FmB) (ao : Option Addr) (cp : Nat) : List Value := [.int .i64 f.op, .int .i64 f.k, .string ⟨f.r.1.toArray⟩, .string ⟨f.r.2.toArray⟩, .slice ao f.kids.length cp]

set_option maxRecDepth 100000 in
/-- Five cells that are read as a formula. -/
theorem open_fm : ∀ (N : Nat) {fuel : Nat} {cs : List Value} {x : DataW H × List MemPlace}, Rows.uptoBulk x.1 ≤ N → DataW.trod enc Try.prog w base (fun _ => true) held fuel 26 cs = some x →
    ∃ (f : FmB) (ao : Option Addr) (cp : Nat), cs = fmCells f ao cp ∧ FmsAt (fun k => k < w.heap.size) w N ao f.kids ∧ FmOk f ∧ (ao = none → cp = 0) ∧ greatF f ≤ Rows.uptoBulk x.1 := by
  intro N
  induction N with
  | zero =>
    intro fuel cs x hb h
    obtain ⟨xs, n, _, rfl, _⟩ := DataW.trod_struct Try.underlying26 h
    simp only [Rows.uptoBulk] at hb
    omega
  | succ N ih =>
    intro fuel cs x hb h
    obtain ⟨xs, n, _, rfl, hl, hlen, hf⟩ := DataW.trod_struct Try.underlying26 h
    have hc : Try.prog.cellsOf 26 = 5 := by kernel_rfl
    rw [hc] at hl
    match cs, hl, xs, hlen with
    | [c0, c1, c2, c3, c4], _, [y0, y1, y2, y3], _ =>
      have e0 : DataW.trod enc Try.prog w base (fun _ => true) held n 3 [c0] = some y0 := hf 0 _ rfl
      have e1 : DataW.trod enc Try.prog w base (fun _ => true) held n 3 [c1] = some y1 := hf 1 _ rfl
      have e2 : DataW.trod enc Try.prog w base (fun _ => true) held n 23 [c2, c3] = some y2 := hf 2 _ rfl
      have e3 : DataW.trod enc Try.prog w base (fun _ => true) held n 24 [c4] = some y3 := hf 3 _ rfl
      obtain ⟨op, hop, rfl, _⟩ := DataW.trod_int Try.underlying3 e0
      obtain ⟨k, hk, rfl, _⟩ := DataW.trod_int Try.underlying3 e1
      obtain ⟨r, h1, a1, a2, a3⟩ := open_role_cells e2
      simp only [roleCells, List.cons.injEq, and_true] at hop hk h1
      obtain ⟨h1a, h1b⟩ := h1
      subst hop hk h1a h1b
      simp only [Rows.uptoBulk, Rows.uptoBulkAll, List.map_cons, List.map_nil] at hb ⊢
      rcases open_slice Try.underlying24 e3 with ⟨e4, rfl⟩ | ⟨a, len, cap, m, n2, D, Pl, e4, _, hl, hm, hmm, rfl, hi⟩
      · simp only [List.cons.injEq, and_true] at e4
        subst e4
        refine ⟨.mk op k r [], none, 0, rfl, fun i hi => absurd hi (Nat.not_lt_zero i), ⟨a1, a2⟩, fun _ => rfl, ?_⟩
        simp only [greatF, greatL, Rows.uptoBulk]
        omega
      · simp only [List.cons.injEq, and_true] at e4
        subst e4
        simp only [if_true] at hmm
        simp only [Rows.uptoBulk] at hb
        have each : ∀ i, i < len → ∃ y : FmB, (∃ b off, some a = some ⟨b, off, none⟩ ∧ b < w.heap.size ∧ FmAt (fun k => k < w.heap.size) w (N + 1) b (off + i * 5) y) ∧ greatF y ≤ Rows.uptoBulk (D i) := by
          have op : ∀ i, i < len → ∃ (y : FmB) (ao : Option Addr) (cp : Nat), w.cells? base (a.add (i * 5)) 5 = some (fmCells y ao cp) ∧ FmsAt (fun k => k < w.heap.size) w N ao y.kids ∧ FmOk y ∧ (ao = none → cp = 0) ∧ greatF y ≤ Rows.uptoBulk (D i) := by
            intro i hil
            obtain ⟨cs', hcs, ht⟩ := hi i (by omega)
            rw [hc] at hcs
            have hbi := bulk_one D len i hil
            obtain ⟨y, ao, cp, rfl, q1, q2, q3, q4⟩ := ih (x := (D i, Pl i)) (by dsimp only; omega) ht
            exact ⟨y, ao, cp, hcs, q1, q2, q3, q4⟩
          intro i hil
          obtain ⟨y, ao, cp, hcs, q1, q2, q3, q4⟩ := op i hil
          obtain ⟨_, _, hat⟩ := World.cells?_some hcs
          have hs : a = ⟨a.block, a.off, none⟩ := by
            obtain ⟨y2, ao2, cp2, hcs2, _⟩ := op 0 (by omega)
            obtain ⟨_, _, hat2⟩ := World.cells?_some hcs2
            have q := hat2 0 (by simp)
            rw [Nat.zero_mul, add_zero, add_zero] at q
            exact spot_none q
          have hall : ∀ j, j < 5 → w.cell? ⟨a.block, a.off + i * 5 + j, none⟩ = (fmCells y ao cp)[j]? := fun j hj => by
            have q := hat j (by simpa [fmCells] using hj)
            rw [hs, add_off, add_off] at q
            exact q
          have h0 := hall 0 (by omega)
          exact ⟨y, ⟨a.block, a.off, congrArg some hs, World.block_lt_of_cell? w ⟨a.block, a.off + i * 5, none⟩ h0, h0, hall 1 (by omega), hall 2 (by omega), hall 3 (by omega), q2, ao, cp, hall 4 (by omega), q3, q1⟩, q4⟩
        obtain ⟨xs, hlen, hp⟩ := choose_roles len _ each
        subst hlen
        have hg := bulk_fms D xs (fun i hi => (hp i hi).2)
        refine ⟨.mk op k r xs, some a, cap, rfl, fun i hi => (hp i hi).1, ⟨a1, a2⟩, fun e => (by cases e), ?_⟩
        simp only [greatF, Rows.uptoBulk]
        omega
end
end Go.Proofs.Ytcbfieodjbfjdaa

/- A formula that came in: the places of its Kids are not frozen. -/
namespace Go.Proofs.Ytcbfieodjbfjdaa
open Go.ChangeShapes Go.WideShapes Go.ChangeAt Go.RowKit Go.Deep

/-- Neither its place nor those of its Kids, n deep, are frozen. -/
def FzAt (w : World) : Nat → Nat → Nat → FmB → Prop
  | 0, _, _, _ => True
  | n + 1, b, o, f => w.frozen? ⟨b, o, none⟩ = false ∧ ∀ ao cp, w.cell? ⟨b, o + 4, none⟩ = some (.slice ao f.kids.length cp) → ∀ i (h : i < f.kids.length) b' off, ao = some ⟨b', off, none⟩ → FzAt w n b' (off + i * 5) f.kids[i]

section
variable {H : Type} {enc : TypeId × Value → H} {w : World} {base : Nat} {held : Bool}
theorem mem_row {a : Addr} {n i : Nat} (h : i < n) : MemPlace.cell a.block (a.off + i) ∈ MemPlace.row a n := List.mem_map.2 ⟨i, List.mem_range.2 h, rfl⟩
set_option maxRecDepth 100000 in
theorem open_fz {D : Nat → Prop} : ∀ (n N : Nat) {fuel : Nat} {cs : List Value} {x : DataW H × List MemPlace} (f : FmB) (ao : Option Addr) (cp : Nat), cs = fmCells f ao cp → FmsAt D w N ao f.kids → DataW.trod enc Try.prog w base (fun _ => true) held fuel 26 cs = some x → w.noneFrozen x.2 →
    ∀ i (h : i < f.kids.length) b' off, ao = some ⟨b', off, none⟩ → FzAt w n b' (off + i * 5) f.kids[i] := by
  intro n
  induction n with
  | zero => intro N fuel cs x f ao cp _ _ _ _ i h b' off _; trivial
  | succ n ih =>
    intro N fuel cs x f ao cp hcs hfm h hz i hi b' off hao
    obtain ⟨xs, m, _, rfl, hl, hlen, hf⟩ := DataW.trod_struct Try.underlying26 h
    subst hcs hao
    match xs, hlen with
    | [y0, y1, y2, y3], _ =>
      have e3 : DataW.trod enc Try.prog w base (fun _ => true) held m 24 [.slice (some ⟨b', off, none⟩) f.kids.length cp] = some y3 := hf 3 _ rfl
      have hz3 : ∀ p ∈ y3.2, p ∈ List.flatMap (fun z => z.2) [y0, y1, y2, y3] := fun p hp => List.mem_flatMap.2 ⟨y3, by simp, hp⟩
      rcases DataW.trod_slice Try.underlying24 e3 with ⟨e4, _⟩ | ⟨a, len, cap, elems, rest, m2, _, e4, e5, _, _, _, q1, q2, _, _⟩
      · cases e4
      · cases e4
        have hc : Try.prog.cellsOf 26 = 5 := by kernel_rfl
        rw [hc] at e5 q2
        have hie : i < elems.length := by rw [q1]; exact hi
        have q3 := q2 i hi
        rw [List.getElem?_eq_getElem hie] at q3
        obtain ⟨cs', h1, h2⟩ := Option.bind_eq_some_iff.1 q3
        obtain ⟨_, hl5, hat⟩ := World.cells?_some h1
        obtain ⟨b2, off2, k1, _, k3⟩ := hfm i hi
        cases k1
        obtain ⟨M, ao2, cp2, _, ⟨c0, c1, c2, c3, c4⟩, _, _, k7⟩ := k3.open_
        have hread : ∀ j, j < 5 → w.cell? ⟨b', off + i * 5 + j, none⟩ = cs'[j]? := fun j hj => by
          have q := hat j (by omega)
          rw [add_off, add_off] at q
          exact q
        have hcs' : cs' = fmCells f.kids[i] ao2 cp2 := by
          apply List.ext_getElem?
          intro j
          by_cases hj : j < 5
          · rw [← hread j hj]
            rcases (show j = 0 ∨ j = 1 ∨ j = 2 ∨ j = 3 ∨ j = 4 by omega) with rfl | rfl | rfl | rfl | rfl
            · exact c0
            · exact c1
            · exact c2
            · exact c3
            · exact c4
          · rw [List.getElem?_eq_none (by omega), List.getElem?_eq_none (by simp [fmCells]; omega)]
        have hzz : ∀ p ∈ elems[i].2, p ∈ y3.2 := fun p hp => by
          rw [e5]
          exact List.mem_append_right _ (List.mem_flatMap.2 ⟨elems[i], List.mem_append_left _ (List.getElem_mem hie), hp⟩)
        have hr : MemPlace.cell b' (off + i * 5) ∈ y3.2 := by
          rw [e5]
          exact List.mem_append_left _ (mem_row (a := ⟨b', off, none⟩) (by omega))
        refine ⟨hz _ _ (hz3 _ hr), fun ao3 cp3 hc3 j hj b4 off4 hao3 => ?_⟩
        rw [c4] at hc3
        simp only [Option.some.injEq, Value.slice.injEq, true_and] at hc3
        obtain ⟨rfl, rfl⟩ := hc3
        exact ih M f.kids[i] ao2 cp2 hcs' k7 h2 (fun b o hp => hz b o (hz3 _ (hzz _ hp))) j hj b4 off4 hao3
end
end Go.Proofs.Ytcbfieodjbfjdaa
