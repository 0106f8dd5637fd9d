/- Maps whose keys are pairs of pointers, or pointers: what a look-up of a new key gives, and an entry. -/
import Derived.Test.YtojbhlbknjnioaaGreatDoorPa7
import Derived.LaidEql
import Derived.MapKept
namespace Go.Proofs.YtojbhlbknjnioaaGreatDoor
open Go.RowKit

theorem sizeOf_fm (w : World) : (sizeOf 26).run Tryz.prog w = .ok 5 w := by kernel_rfl

theorem eq_ptrK (d : Nat) (w : World) {a a' : Addr} {ca cb : Array Value} {ta tb : TypeId} (hne : a ≠ a') (ha : w.heap[a.block]? = some (.cells ca ta (0, 0))) (hb : w.heap[a'.block]? = some (.cells cb tb (0, 0))) :
    (Op.equalIn (d + 1) 54 (.pointer (some a)) (.pointer (some a'))).run Tryz.prog w = .ok false w := by
  have h1 := run_sameAddr_other (P := Tryz.prog) w hne ha hb
  simp [Op.equalIn, run_underlying Tryz.underlying54, h1]

theorem eq_pairK (d : Nat) (w : World) {a a' b b' : Addr} {ca cb : Array Value} {ta tb : TypeId} (hne : a ≠ a') (ha : w.heap[a.block]? = some (.cells ca ta (0, 0))) (hb : w.heap[a'.block]? = some (.cells cb tb (0, 0))) :
    (Op.equalIn (d + 2) 56 (.agg #[.pointer (some a), .pointer (some b)]) (.agg #[.pointer (some a'), .pointer (some b')])).run Tryz.prog w = .ok false w := by
  have h1 := eq_ptrK d w hne ha hb
  rw [run_equalIn_struct w (d + 1) _ _ _ (by kernel_rfl) (by kernel_rfl)]
  have hf : (Tryz.prog.fieldsOf 56).toList.map (fun f => (f.name, f.type, f.offset)) = [("a", 54, 0), ("b", 54, 1)] := by kernel_rfl
  generalize (Tryz.prog.fieldsOf 56).toList = fs at hf ⊢
  have p1 : ∀ x y : Addr, (part 54 #[.pointer (some x), .pointer (some y)] 0).run Tryz.prog w = .ok (.pointer (some x)) w := fun x y => by kernel_rfl
  rcases fs with _ | ⟨f1, _ | ⟨f2, _ | ⟨f3, fs⟩⟩⟩
  · simp at hf
  · simp at hf
  · simp only [List.map_cons, List.map_nil, List.cons.injEq, Prod.mk.injEq, and_true] at hf
    obtain ⟨⟨n1, t1, o1⟩, ⟨n2, t2, o2⟩⟩ := hf
    simp [Op.eqFields, n1, t1, o1, p1, h1]
  · simp at hf

/-- The keys that a map of pairs has: none of them is a's. -/
theorem find_none (w : World) (a b : Addr) : ∀ (es : List MapEntry) (i : Nat), (∀ e ∈ es, ∃ a' b' : Addr, e.key = .agg #[.pointer (some a'), .pointer (some b')] ∧ a ≠ a' ∧ (∃ ca ta, w.heap[a'.block]? = some (.cells ca ta (0, 0)))) → (∃ ca ta, w.heap[a.block]? = some (.cells ca ta (0, 0))) →
    (Instr.findAsking 56 (.agg #[.pointer (some a), .pointer (some b)]) es i).run Tryz.prog w = .ok none w := by
  intro es
  induction es with
  | nil => intro i _ _; rfl
  | cons e es ih =>
    intro i h ha
    obtain ⟨a', b', hk, hne, ca', ta', ha'⟩ := h e (by simp)
    obtain ⟨ca, ta, ha2⟩ := ha
    have h1 : (Op.equal 56 (.agg #[.pointer (some a), .pointer (some b)]) e.key).run Tryz.prog w = .ok false w := by
      rw [hk]
      exact eq_pairK 9998 w hne ha2 ha'
    unfold Instr.findAsking
    simp only [Sem.run_bind, h1, Result.andThen_ok, Bool.false_eq_true, if_false]
    exact ih (i + 1) (fun e he => h e (by simp [he])) ⟨ca, ta, ha2⟩

theorem find_noneK (w : World) (a b : Addr) (es : List MapEntry) (h : ∀ e ∈ es, ∃ a' b' : Addr, e.key = .agg #[.pointer (some a'), .pointer (some b')] ∧ a ≠ a' ∧ (∃ ca ta, w.heap[a'.block]? = some (.cells ca ta (0, 0)))) (ha : ∃ ca ta, w.heap[a.block]? = some (.cells ca ta (0, 0))) :
    (Instr.findKey 56 (.agg #[.pointer (some a), .pointer (some b)]) es).run Tryz.prog w = .ok none w := by
  unfold Instr.findKey
  simp only [Sem.run_bind, run_underlying Tryz.underlying56, Result.andThen_ok]
  cases es with
  | nil => rfl
  | cons e es =>
    have h1 := find_none w a b (e :: es) 0 h ha
    obtain ⟨a', b', hk, _⟩ := h e (by simp)
    simp only [Instr.findNow, Instr.sameNow]
    exact h1

theorem check_pairK (empty : Bool) (a b : Addr) (w : World) : (Instr.checkKey empty 10000 56 (.agg #[.pointer (some a), .pointer (some b)])).run Tryz.prog w = .ok () w := by
  cases empty <;> kernel_rfl

/-- A look-up of a pair that isn't there. -/
theorem look_pair (w : World) (M : Nat) (es : Array MapEntry) (clock : Nat) (a b : Addr) (hM : w.heap[M]? = some (.map es clock)) (h : ∀ e ∈ es.toList, ∃ a' b' : Addr, e.key = .agg #[.pointer (some a'), .pointer (some b')] ∧ a ≠ a' ∧ (∃ ca ta, w.heap[a'.block]? = some (.cells ca ta (0, 0)))) (ha : ∃ ca ta, w.heap[a.block]? = some (.cells ca ta (0, 0))) :
    (Instr.lookup 58 (.map (some M)) (.agg #[.pointer (some a), .pointer (some b)]) true).run Tryz.prog w = .ok (.tuple #[.agg #[], .bool false]) w := by
  have h1 := find_noneK w a b es.toList h ha
  have h2 := check_pairK es.isEmpty a b w
  unfold Instr.lookup
  have hz : (zeroValue 59).run Tryz.prog w = .ok (.agg #[]) w := by kernel_rfl
  have hg : (getObj M).run Tryz.prog w = .ok (.map es clock) w := MapKept.run_getObj_map hM
  simp [run_underlying Tryz.underlying58, hg, h1, h2, hz]

/-- A pair is entered. -/
theorem put_pair (w : World) (M : Nat) (es : Array MapEntry) (clock : Nat) (a b : Addr) (hM : w.heap[M]? = some (.map es clock)) (h : ∀ e ∈ es.toList, ∃ a' b' : Addr, e.key = .agg #[.pointer (some a'), .pointer (some b')] ∧ a ≠ a' ∧ (∃ ca ta, w.heap[a'.block]? = some (.cells ca ta (0, 0)))) (ha : ∃ ca ta, w.heap[a.block]? = some (.cells ca ta (0, 0))) :
    ∃ w', (Instr.mapUpdate 58 (.map (some M)) (.agg #[.pointer (some a), .pointer (some b)]) (.agg #[])).run Tryz.prog w = .ok () w' ∧ w'.heap[M]? = some (.map (es.push ⟨.agg #[.pointer (some a), .pointer (some b)], .agg #[], clock⟩) (clock + 1)) ∧ Chg (· = M) w w' := by
  have h1 := find_noneK w a b es.toList h ha
  have h2 := check_pairK false a b w
  unfold Instr.mapUpdate
  have hg : (getObj M).run Tryz.prog w = .ok (.map es clock) w := MapKept.run_getObj_map hM
  have hs := MapKept.run_setObj_map (P := Tryz.prog) (.map (es.push ⟨.agg #[.pointer (some a), .pointer (some b)], .agg #[], clock⟩) (clock + 1)) hM
  simp [run_underlying Tryz.underlying58, hg, h1, h2, hs]
  have hh := MapKept.heap_set (o' := .map (es.push ⟨.agg #[.pointer (some a), .pointer (some b)], .agg #[], clock⟩) (clock + 1)) hM
  exact ⟨hh.1, ⟨rfl, rfl, rfl, by simp, fun i hi hne => hh.2 i hne⟩⟩
end Go.Proofs.YtojbhlbknjnioaaGreatDoor
