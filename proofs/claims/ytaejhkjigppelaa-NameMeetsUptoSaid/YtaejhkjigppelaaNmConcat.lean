/- The contracts of slices.Concat, at two lists, and of the program's Union. -/
import Derived.Test.YtaejhkjigppelaaNmSet
import Derived.Laws.AppendOwnNone
namespace Go.Proofs.Ytaejhkjigppelaa
open Go.RowKit

theorem strV_get (ls : List (List UInt8)) (i : Nat) (u : Value) (h : (ls.map strV)[i]? = some u) : ∃ hi : i < ls.length, u = .string ⟨(ls[i]).toArray⟩ := by
  have hi : i < ls.length := by
    have := (List.getElem?_eq_some_iff.1 h).1
    simpa using this
  refine ⟨hi, ?_⟩
  simp [hi] at h
  exact h.symm

/-- append of a list of texts, onto a row of the call's own. -/
theorem wpList_append_strs {D : Nat → Prop} {ops : Array Oper} {rest : List Oper} {o : Oper} {a : Act} {w : World} {Q : Exit → Act → World → Prop} (hgd : o.guard = none) (s x : Operand)
    (ho : o.op = .call { callee := .builtin .append, args := #[s, x], argTypes := #[60, 60] }) (B : Nat) (v : Value) (zs : List (List UInt8)) (hs : a.eval s = v) (hown : OwnS B w v zs)
    (ao : Option Addr) (cp : Nat) (ls : List (List UInt8)) (hx : a.eval x = .slice ao ls.length cp) (hst : StrsAt D w ao ls) (h0 : ao = none → cp = 0)
    (hlen : zs.length + ls.length ≤ 33554432) (hB : B ≤ w.heap.size)
    (h : ∀ v' w', OwnS B w' v' (zs ++ ls) → (∀ S : Nat → Prop, (∀ k, B ≤ k → S k) → Chg S w w') → wpList Try.prog ops Q rest (a.put o.dst v') w') : wpList Try.prog ops Q (o :: rest) a w := by
  obtain ⟨i0, hi, hz0, hz1, hz2⟩ := info_parts Try.info9
  cases hao : ao with
  | none =>
    subst hao
    have hl : ls = [] := by
      cases ls with
      | nil => rfl
      | cons y l => obtain ⟨_, _, e, _⟩ := hst 0 (by simp); cases e
    subst hl
    have hcp := h0 rfl
    subst hcp
    exact wpList_append_own_none hgd s x 60 ho B 9 i0 1 Try.underlying60 hi v _ _ hs hown hx (h v w (by rw [List.append_nil]; exact hown) fun S _ => Chg.refl S w)
  | some ad =>
    subst hao
    refine wpList_append_own_at w hgd s x 60 ho B 9 i0 (.string ⟨#[]⟩) 1 16 Try.underlying60 hi hz0 hz1 hz2 rfl (by decide) v _ _ hs hown ad ls.length cp (ls.map strV) hx (by simp) (fun j u hj => ?_) (fun u hu => ?_) (by unfold maxLen; omega) (by omega) hB ?_
    · obtain ⟨hj1, rfl⟩ := strV_get ls j u hj
      obtain ⟨b, off, e, _, c, _⟩ := hst j hj1
      cases e
      rw [add_off]
      exact c
    · obtain ⟨y, _, rfl⟩ := List.mem_map.1 hu
      rfl
    · intro v' w' hown' hgr _ _
      refine h v' w' (by unfold OwnS; rw [List.map_append, List.length_append]; exact hown') fun S hS => (Chg.refl S w).grown hgr fun k e _ => ?_
      rcases hown.2 with ⟨hx', _⟩ | ⟨g, cap', cur, hx', hg, _⟩
      · rw [hx'] at e; cases e
      · rw [hx'] at e; cases e; exact hS _ hg

theorem OwnS.shape {B : Nat} {w : World} {v : Value} {ls : List (List UInt8)} (h : OwnS B w v ls) : ∃ ao cap, v = .slice ao ls.length cap ∧ (ao = none → cap = 0) := by
  rcases h.2 with ⟨rfl, h0⟩ | ⟨g, cap, cur, rfl, _⟩
  · exact ⟨none, 0, by rw [h0], fun _ => rfl⟩
  · exact ⟨_, _, rfl, fun e => by cases e⟩

/-- Room for n texts. -/
theorem grow_own (n : Nat) (w : World) (hn : n ≤ 33554432) :
    Calls Try.prog 84 #[.slice none 0 0, .int .i64 n] w fun e w' => (∃ v, e = .returned v ∧ OwnS w.heap.size w' v []) ∧ Chg (fun _ => False) w w' := by
  obtain ⟨i0, hi, hz0, hz1, hz2⟩ := info_parts Try.info9
  by_cases h0 : n = 0
  · subst h0
    refine (Any8.slices_Grow_room Try.growS none 0 0 0 w (by omega) (by omega) (by omega) (by omega)).mono ?_
    rintro e w' ⟨rfl, rfl⟩
    exact ⟨⟨_, rfl, World.ownsRow_nil _ _ _ _⟩, Chg.refl _ _⟩
  · refine (Any8.slices_Grow_grow Try.growS i0 (.string ⟨#[]⟩) hi hz0 (by rw [hz1]; decide) none 0 0 n [] w (by omega) (by omega) (by rw [hz2]; omega) (by omega) (by simp) (fun _ => rfl) (fun a e => by cases e)).mono ?_
    rintro e w' ⟨rfl, rfl⟩
    have hge := grownCap_ge w (0 + n) 0 9
    refine ⟨⟨_, rfl, ⟨rfl, .inr ⟨w.heap.size, _, _, rfl, Nat.le_refl _, heap_alloc_new _ _, Nat.zero_le _, grownCap_le_maxLen w (0 + n) 0 9 (by unfold maxLen; omega), ?_, by simp⟩⟩⟩, ((Chg.refl _ w).drew).alloc _⟩
    have hs : ∀ k, (Builtin.zeroCells (Value.string ⟨#[]⟩).cells k).size = k := fun k => by rw [size_zeroCells]; simp [Value.cells]
    show (_ : Array Value).size = _
    simp only [Array.size_append, hs]
    show 0 + (0 + n - 0) + (grownCap w (0 + n) 0 9 - (0 + n)) = grownCap w (0 + n) 0 9 * 1
    omega

set_option maxRecDepth 100000 in
set_option maxHeartbeats 2000000 in
theorem concat_any {D : Nat → Prop} (gb : Nat) (a1 a2 : Option Addr) (c1 c2 : Nat) (l1 l2 : List (List UInt8)) (w : World) (hn1 : l1.length ≤ 4194304) (hn2 : l2.length ≤ 4194304)
    (q1 : w.cell? ⟨gb, 0, none⟩ = some (.slice a1 l1.length c1)) (q2 : w.cell? ⟨gb, 1, none⟩ = some (.slice a2 l2.length c2)) (h1 : StrsAt D w a1 l1) (h2 : StrsAt D w a2 l2) (z1 : a1 = none → c1 = 0) (z2 : a2 = none → c2 = 0) :
    Calls Try.prog 79 #[.slice (some ⟨gb, 0, none⟩) 2 2] w fun e w' => ∃ ao cap, e = .returned (.slice ao (l1 ++ l2).length cap) ∧ StrsAt (fun k => w.heap.size ≤ k ∧ k < w'.heap.size) w' ao (l1 ++ l2) ∧ Chg (fun _ => False) w w' := by
  have hbd : ∀ x ∈ l1 ++ l2, x.length ≤ 9223372036854775807 := fun x hx => by
    rcases List.mem_append.1 hx with k | k
    · obtain ⟨i, hi, rfl⟩ := List.getElem_of_mem k; obtain ⟨_, _, _, _, _, h⟩ := h1 i hi; exact h
    · obtain ⟨i, hi, rfl⟩ := List.getElem_of_mem k; obtain ⟨_, _, _, _, _, h⟩ := h2 i hi; exact h
  go_enter Try.func79, Try.ntmps79
  go_wp2
  go_loop [3, 11] (fun n i => (n = .int .i64 0 ∧ i = .int .i64 0) ∨ (n = .int .i64 (l1.length : Nat) ∧ i = .int .i64 1) ∨ (n = .int .i64 ((l1.length + l2.length : Nat) : Int) ∧ i = .int .i64 2)) (fun _ i => 2 - (intOf i).toNat)
  case atStart => exact .inl ⟨rfl, rfl⟩
  case round =>
    rcases hrel with ⟨rfl, rfl⟩ | ⟨rfl, rfl⟩ | ⟨rfl, rfl⟩
    · clear h1 h2
      go_wp2
      go_round
      case rel => exact .inr (.inl ⟨by go_num, rfl⟩)
      case measure => simp [intOf]
    · clear h1 h2
      have d1 : decide ((l1.length : Int) + (l2.length : Int) < 0) = false := by simp; omega
      go_wp2
      go_round
      case rel => exact .inr (.inr ⟨by go_num, rfl⟩)
      case measure => simp [intOf]
    · go_wp2_with (go_at_call 84; refine (grow_own (l1.length + l2.length) _ (by omega)).mono ?_; rintro e w1 ⟨⟨v, rfl, hv⟩, hch1⟩)
      go_loopw [6, 27] (fun v i wr => Chg (fun _ => False) w wr ∧ ((i = .int .i64 0 ∧ OwnS w.heap.size wr v []) ∨ (i = .int .i64 1 ∧ OwnS w.heap.size wr v l1) ∨ (i = .int .i64 2 ∧ OwnS w.heap.size wr v (l1 ++ l2)))) (fun _ i _ => 2 - (intOf i).toNat)
      case atStart => exact ⟨hch1, .inl ⟨rfl, hv⟩⟩
      case round =>
        obtain ⟨hc, hrel⟩ := hrel
        have hsz := hc.size
        have q1' := hc.cell q1 id
        have q2' := hc.cell q2 id
        rcases hrel with ⟨rfl, ho⟩ | ⟨rfl, ho⟩ | ⟨rfl, ho⟩
        · have hs1 := h1.keep hc (fun _ _ => id)
          clear h1 h2 q1 q2
          go_wp2_with (at_builtin; refine wpList_append_strs rfl (.tmp 31) (.tmp 32) rfl w.heap.size _ _ rfl ho a1 c1 l1 rfl hs1 z1 ?c1 ?c2 ?_)
          case c1 => simp; omega
          case c2 => omega
          intro v' w2 ho2 hch2
          have hc2 : Chg (fun _ => False) w w2 := hc.trans (hch2 (fun k => w.heap.size ≤ k) (fun _ h => h)) (fun i hi hk => by omega)
          clear hch2 ho hc
          go_wp2
          go_roundw
          case rel => exact ⟨hc2, .inr (.inl ⟨rfl, ho2⟩)⟩
          case measure => simp [intOf]
        · have hs1 := h2.keep hc (fun _ _ => id)
          clear h1 h2 q1 q2
          go_wp2_with (at_builtin; refine wpList_append_strs rfl (.tmp 31) (.tmp 32) rfl w.heap.size _ _ rfl ho a2 c2 l2 rfl hs1 z2 ?c1 ?c2 ?_)
          case c1 => omega
          case c2 => omega
          intro v' w2 ho2 hch2
          have hc2 : Chg (fun _ => False) w w2 := hc.trans (hch2 (fun k => w.heap.size ≤ k) (fun _ h => h)) (fun i hi hk => by omega)
          clear hch2 ho hc
          go_wp2
          go_roundw
          case rel => exact ⟨hc2, .inr (.inr ⟨rfl, ho2⟩)⟩
          case measure => simp [intOf]
        · obtain ⟨ao, cap, rfl, hst⟩ := ho.strs hbd
          clear h1 h2 q1 q2
          go_wp2
          go_ret
          exact ⟨ao, cap, rfl, hst, hc⟩

set_option maxRecDepth 100000 in
theorem union_any {D : Nat → Prop} (a1 a2 : Option Addr) (c1 c2 : Nat) (l1 l2 : List (List UInt8)) (w : World) (hn1 : l1.length ≤ 4194304) (hn2 : l2.length ≤ 4194304)
    (h1 : StrsAt D w a1 l1) (h2 : StrsAt D w a2 l2) (z1 : a1 = none → c1 = 0) (z2 : a2 = none → c2 = 0) :
    Calls Try.prog 53 #[.slice a1 l1.length c1, .slice a2 l2.length c2] w (SetPost (l1 ++ l2) w) := by
  have hc := (Chg.refl (fun _ => False) w).alloc (.cells #[.slice a1 l1.length c1, .slice a2 l2.length c2] 60)
  have hB := heap_alloc_new w (.cells #[.slice a1 l1.length c1, .slice a2 l2.length c2] 60)
  have hl : (l1 ++ l2).length ≤ 16777216 := by rw [List.length_append]; omega
  have hcon := concat_any (D := D) w.heap.size a1 a2 c1 c2 l1 l2 (w.alloc (.cells #[.slice a1 l1.length c1, .slice a2 l2.length c2] 60)) hn1 hn2 (by rw [cell_blk hB]; rfl) (by rw [cell_blk hB]; rfl) (h1.keep hc (fun _ _ => id)) (h2.keep hc (fun _ _ => id)) z1 z2
  obtain ⟨cc, hcc⟩ : ∃ cc, cc = l1 ++ l2 := ⟨_, rfl⟩
  rw [← hcc] at hcon hl ⊢
  have HCC := hid hcc
  clear hcc
  go_enter Try.func53, Try.ntmps53
  go_wp2_with (first
    | (go_at_call 79; refine hcon.mono ?_; rintro e w1 ⟨ao, cap, rfl, hst, hch⟩)
    | (go_at_call 49; refine (set_any ao cap cc _ hl hst (fun i hi => hi.2)).mono ?_; rintro e w2 ⟨out, ao2, cap2, rfl, hso, hst2, hch2⟩))
  have hc1 := hc.trans hch (fun _ _ h => h)
  have hc2 := hc1.trans hch2 (fun _ _ h => h)
  go_ret
  exact ⟨out, ao2, cap2, rfl, hso, hst2.mono (fun i hi => ⟨by have := hc1.size; omega, hi.2⟩), hc2⟩
end Go.Proofs.Ytaejhkjigppelaa
