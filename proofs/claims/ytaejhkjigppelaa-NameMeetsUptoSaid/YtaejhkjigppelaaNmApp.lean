/- append of texts onto a row of the call's own, under a guard too; texts that are kept. -/
import Derived.Test.YtaejhkjigppelaaNmConcat
import Derived.Test.YtaejhkjigppelaaOpenS
namespace Go.Proofs.Ytaejhkjigppelaa
open Go.RowKit

theorem run_append_strs {D : Nat → Prop} {B : Nat} {w : World} {v : Value} {zs : List (List UInt8)} (ty : TypeId) (hown : OwnS B w v zs)
    {ao : Option Addr} {cp : Nat} {ls : List (List UInt8)} (hst : StrsAt D w ao ls) (h0 : ao = none → cp = 0) (hlen : zs.length + ls.length ≤ 33554432) (hB : B ≤ w.heap.size) :
    ∃ v' w', (Builtin.append_ #[60, 60] ty #[v, .slice ao ls.length cp]).run Try.prog w = .ok v' w' ∧ OwnS B w' v' (zs ++ ls) ∧ (∀ S : Nat → Prop, (∀ k, B ≤ k → S k) → Chg S w w') := by
  obtain ⟨i0, hi, hz0, hz1, hz2⟩ := info_parts Try.info9
  cases ao with
  | none =>
    have hl : ls = [] := by
      cases ls with
      | nil => rfl
      | cons y l => obtain ⟨_, _, e, _⟩ := hst 0 (by simp); cases e
    subst hl
    have hcp := h0 rfl
    subst hcp
    exact ⟨v, w, run_append_owned_none (P := Try.prog) (w := w) B 60 ty 9 i0 1 Try.underlying60 hi v _ _ hown, by rw [List.append_nil]; exact hown, fun S _ => Chg.refl S w⟩
  | some ad =>
    obtain ⟨v', w', h1, h2, h3, _⟩ := run_append_own_at (P := Try.prog) w B 60 ty 9 i0 (.string ⟨#[]⟩) 1 16 Try.underlying60 hi hz0 hz1 hz2 rfl (by decide) v _ _ hown ad ls.length cp (ls.map strV) (by simp)
      (fun j u hj => by
        obtain ⟨hj1, rfl⟩ := strV_get ls j u hj
        obtain ⟨b, off, e, _, c, _⟩ := hst j hj1
        cases e
        rw [add_off]
        exact c)
      (fun u hu => by obtain ⟨y, _, rfl⟩ := List.mem_map.1 hu; rfl) (by unfold maxLen; omega) (by omega) hB
    refine ⟨v', w', h1, by unfold OwnS; rw [List.map_append, List.length_append]; exact h2, fun S hS => (Chg.refl S w).grown h3 fun k e _ => ?_⟩
    rcases hown.2 with ⟨hx', _⟩ | ⟨g, cap', cur, hx', hg, _⟩
    · rw [hx'] at e; cases e
    · rw [hx'] at e; cases e; exact hS _ hg

theorem wpList_append_strs_w {D : Nat → Prop} {ops : Array Oper} {rest : List Oper} {o : Oper} {a : Act} {w : World} {Q : Exit → Act → World → Prop} (hw : Region.wanted o (yielded ops a.tmps) = true) (s x : Operand)
    (ho : o.op = .call { callee := .builtin .append, args := #[s, x], argTypes := #[60, 60] }) (B : Nat) (v : Value) (zs : List (List UInt8)) (hs : a.eval s = v) (hown : OwnS B w v zs)
    (ao : Option Addr) (cp : Nat) (ls : List (List UInt8)) (hx : a.eval x = .slice ao ls.length cp) (hst : StrsAt D w ao ls) (h0 : ao = none → cp = 0)
    (hlen : zs.length + ls.length ≤ 33554432) (hB : B ≤ w.heap.size)
    (h : ∀ v' w', OwnS B w' v' (zs ++ ls) → (∀ S : Nat → Prop, (∀ k, B ≤ k → S k) → Chg S w w') → wpList Try.prog ops Q rest (a.put o.dst v') w') : wpList Try.prog ops Q (o :: rest) a w :=
  wpList_step fun K hK => by
    rw [if_pos hw]
    obtain ⟨v', w', hr, h2, h3⟩ := run_append_strs o.type hown hst h0 hlen hB
    unfold Oper.wp execOp
    simp only [ho, resolve, invoke, builtin, Sem.run_bind, Sem.run_pure, Result.andThen_ok, List.map_toArray, List.map_cons, List.map_nil, hs, hx, hr]
    exact hK _ _ (h v' w' h2 h3)

theorem chg_drewN (S : Nat → Prop) (w : World) (q : Nat) : Chg S w (w.drewN q) := ⟨rfl, rfl, rfl, Nat.le_refl _, fun _ _ _ => rfl⟩

/-- Four lists, as they were, and nothing turned since W. -/
structure Four (W : World) (a0 a1 a2 a3 : Option Addr) (l0 l1 l2 l3 : List (List UInt8)) (w : World) : Prop where
  chg : Chg (fun _ => False) W w
  s0 : StrsAt (fun _ => True) w a0 l0
  s1 : StrsAt (fun _ => True) w a1 l1
  s2 : StrsAt (fun _ => True) w a2 l2
  s3 : StrsAt (fun _ => True) w a3 l3

theorem Four.go {W : World} {a0 a1 a2 a3 : Option Addr} {l0 l1 l2 l3 : List (List UInt8)} {w w' : World} (h : Four W a0 a1 a2 a3 l0 l1 l2 l3 w) (c : Chg (fun _ => False) w w') : Four W a0 a1 a2 a3 l0 l1 l2 l3 w' :=
  ⟨h.chg.trans c (fun _ _ h => h), h.s0.keep c (fun _ _ => id), h.s1.keep c (fun _ _ => id), h.s2.keep c (fun _ _ => id), h.s3.keep c (fun _ _ => id)⟩

section
open Go.ChangeShapes Go.WideShapes Go.ChangeAt Go.RowKit Go.Deep
variable {H : Type} {enc : TypeId × Value → H} {w : World} {base : Nat} {held : Bool} {fuel : Nat}

/-- As open_strsAt; of a nil slice: that it has no places. -/
theorem open_strsZ {cs : List Value} {x : DataW H × List MemPlace} (h : DataW.trod enc Try.prog w base (fun _ => true) held fuel 60 cs = some x) :
    ∃ (ao : Option Addr) (cap : Nat) (ls : List (List UInt8)), cs = [.slice ao ls.length cap] ∧ ls.length ≤ 9223372036854775807 ∧ StrsAt (fun k => k < w.heap.size) w ao ls ∧ totalS ls ≤ Rows.uptoBulk x.1 ∧ (ao = none → cap = 0) := by
  rcases open_strings Try.underlying60 Try.underlying9 (by kernel_rfl) h with ⟨rfl, rfl⟩ | ⟨a, len, cap, ss, rfl, _, _, _, _, _, _, _⟩
  · exact ⟨none, 0, [], rfl, by simp, StrsAt.nil _ _ _, Nat.zero_le _, fun _ => rfl⟩
  · obtain ⟨ao, cap', ls, h1, h2, h3, h4⟩ := open_strsAt h
    refine ⟨ao, cap', ls, h1, h2, h3, h4, fun e => ?_⟩
    subst e
    simp at h1
end
end Go.Proofs.Ytaejhkjigppelaa
