/- Texts that the proof leans on, in one: PbNumM, ShelfTl. -/
import Derived.Test.YtojbhlbknjnioaaGreatDoorPt11
import Derived.Lib.AtoiAll
import Derived.Lib.ItoaNum
import Derived.Shelf.Strings.SlTrimAscii
import Derived.Test.YtojbhlbknjnioaaGreatDoorProg
/- Words of one or two digits: strconv.Atoi's value of them. Plain words of layer 12. -/
namespace Go.Proofs.YtojbhlbknjnioaaGreatDoor
open Go.RowKit

def digN (n : Nat) : Tok := if n < 10 then [UInt8.ofNat (48 + n)] else [UInt8.ofNat (48 + n / 10), UInt8.ofNat (48 + n % 10)]
theorem dec_small (n : Nat) (h : n < 100) : Lib.decDigits n = digN n := by
  unfold digN
  rw [Lib.decDigits]
  by_cases h1 : n < 10
  · rw [dif_pos h1, if_pos h1]
  · rw [dif_neg h1, if_neg h1, Lib.decDigits, dif_pos (by omega)]
    rfl
theorem digN_tab : (List.range 100).all (fun n => (numW (digN n) == some (n : Int)) && (match Lib.atoiAll (digN n) with | .ok v => v == (n : Int) | _ => false)) = true := by decide +kernel
theorem digN_num {n : Nat} (h : n < 100) : numW (digN n) = some (n : Int) ∧ Lib.atoiAll (digN n) = .ok (n : Int) := by
  have := List.all_eq_true.1 digN_tab n (List.mem_range.2 h)
  rw [Bool.and_eq_true] at this
  refine ⟨by simpa using this.1, ?_⟩
  have h2 := this.2
  cases e : Lib.atoiAll (digN n) with
  | ok v => rw [e] at h2; simp only [beq_iff_eq] at h2; rw [h2]
  | «syntax» => rw [e] at h2; cases h2
  | range => rw [e] at h2; cases h2
theorem numW_inv {k : Tok} {x : Int} (h : numW k = some x) : ∃ n : Nat, n < 100 ∧ k = digN n ∧ x = (n : Int) := by
  unfold numW at h
  split at h
  · next hc =>
    have hx := Option.some.inj h
    subst hx
    simp only [Bool.and_eq_true, decide_eq_true_eq, List.all_eq_true, Bool.not_eq_true', Bool.and_eq_false_iff, decide_eq_false_iff_not, ne_eq] at hc
    obtain ⟨h1, h2, h3, h4⟩ := hc
    match k, h1, h2, h3, h4 with
    | [], _, h2, _, _ => exact absurd rfl h2
    | [a], h1, _, _, _ =>
      have ha := h1 a (by simp)
      refine ⟨a.toNat - 48, by omega, ?_, ?_⟩
      · unfold digN
        rw [if_pos (by omega), show 48 + (a.toNat - 48) = a.toNat by omega, UInt8.ofNat_toNat]
      · simp only [List.foldl_cons, List.foldl_nil]; omega
    | [a, b], h1, _, _, h4 =>
      have ha := h1 a (by simp)
      have hb := h1 b (by simp)
      have hn : a.toNat ≠ 48 := by
        rcases h4 with h4 | h4
        · exact absurd rfl h4
        · intro e
          have : a = 48 := UInt8.toNat_inj.1 e
          subst this
          cases h4
      refine ⟨10 * (a.toNat - 48) + (b.toNat - 48), by omega, ?_, ?_⟩
      · unfold digN
        rw [if_neg (by omega), show 48 + (10 * (a.toNat - 48) + (b.toNat - 48)) / 10 = a.toNat by omega, show 48 + (10 * (a.toNat - 48) + (b.toNat - 48)) % 10 = b.toNat by omega, UInt8.ofNat_toNat, UInt8.ofNat_toNat]
      · simp only [List.foldl_cons, List.foldl_nil]; omega
    | _ :: _ :: _ :: _, _, _, h3, _ => simp at h3
  · cases h
/-- Atoi's value is the number, if it is told again by the same digits. -/
theorem num_ok {k : Tok} {v : Int} (_ : Lib.atoiAll k = .ok v) (h0 : 0 ≤ v) (h1 : v ≤ 99) : numW k = if Lib.decDigits v.toNat = k then some v else none := by
  obtain ⟨n, rfl⟩ : ∃ n : Nat, v = (n : Int) := ⟨v.toNat, by omega⟩
  rw [Int.toNat_natCast, dec_small n (by omega)]
  split
  · next e => rw [← e]; exact (digN_num (by omega)).1
  · next e =>
    cases hk : numW k with
    | none => rfl
    | some x =>
      obtain ⟨m, hm, he, rfl⟩ := numW_inv hk
      have := (digN_num hm).2
      rw [← he] at this
      rename_i h
      rw [h] at this
      injection this with this
      exact absurd (by rw [he]; congr 1; omega) e
theorem num_no {k : Tok} (h : ∀ v, Lib.atoiAll k = .ok v → ¬ (0 ≤ v ∧ v ≤ 99)) : numW k = none := by
  cases hk : numW k with
  | none => rfl
  | some x =>
    obtain ⟨m, hm, he, rfl⟩ := numW_inv hk
    have := (digN_num hm).2
    rw [← he] at this
    exact absurd ⟨by omega, by omega⟩ (h _ this)
end Go.Proofs.YtojbhlbknjnioaaGreatDoor

/-
  DERIVED: THE SHELF's CONTRACTS AT THIS DUMP, IN PLAIN WORDS (tools/lay-plain.mjs out of 'TryzShelfTl.lean', which tools/lay-shelf.mjs wrote): THE SAME DECLARATIONS UNDER THE SAME NAMES: 'import', 'namespace', 'open', 'def', 'theorem' AND NOTHING ELSE: no command of the shelf's: FOR A HAND-IN. Each laying: the table of numbers ('.._ren') and one theorem, a field a fact of the dump's own or the kernel's comparison; each contract: ONE APPLICATION.
-/
namespace Go.Proofs
open Go.Shelf
def Tryz.lays161_ren : Go.Shelf.Ren := ⟨fun | 161 => 45 | 231 => 55 | 227 => 56 | 233 => 57 | 235 => 58 | 228 => 68 | 197 => 69 | 151 => 70 | 260 => 80 | 152 => 81 | 137 => 88 | 119 => 89 | 224 => 90 | 225 => 91 | 217 => 100 | 266 => 109 | n => n, fun | 9 => 9 | 4 => 4 | 3 => 3 | 5 => 5 | 117 => 89 | 116 => 88 | 0 => 0 | 124 => 92 | 105 => 98 | 21 => 21 | 119 => 114 | 46 => 115 | 139 => 118 | 138 => 117 | n => n, fun | 3 => 1 | 4 => 2 | n => n⟩
theorem Tryz.lays161 : Go.Proofs.Lays.n161 Tryz.prog Tryz.lays161_ren := {
  mixed := by kernel_rfl
  f119 := Tryz.func89.trans (congrArg some (by kernel_rfl))
  f137 := Tryz.func88.trans (congrArg some (by kernel_rfl))
  f151 := Tryz.func70.trans (congrArg some (by kernel_rfl))
  f152 := Tryz.func81.trans (congrArg some (by kernel_rfl))
  f161 := Tryz.func45.trans (congrArg some (by kernel_rfl))
  f197 := Tryz.func69.trans (congrArg some (by kernel_rfl))
  f217 := Tryz.func100.trans (congrArg some (by kernel_rfl))
  f224 := Tryz.func90.trans (congrArg some (by kernel_rfl))
  f225 := Tryz.func91.trans (congrArg some (by kernel_rfl))
  f227 := Tryz.func56.trans (congrArg some (by kernel_rfl))
  f228 := Tryz.func68.trans (congrArg some (by kernel_rfl))
  f231 := Tryz.func55.trans (congrArg some (by kernel_rfl))
  f233 := Tryz.func57.trans (congrArg some (by kernel_rfl))
  f235 := Tryz.func58.trans (congrArg some (by kernel_rfl))
  f260 := Tryz.func80.trans (congrArg some (by kernel_rfl))
  f266 := Tryz.func109.trans (congrArg some (by kernel_rfl))
  t0 := Tryz.underlying0
  a0 := Tryz.isAgg0
  z0 := Tryz.sizeOf0
  v0 := Tryz.zeroValue0
  t3 := Tryz.underlying3
  a3 := Tryz.isAgg3
  z3 := Tryz.sizeOf3
  v3 := Tryz.zeroValue3
  t4 := Tryz.underlying4
  a4 := Tryz.isAgg4
  z4 := Tryz.sizeOf4
  v4 := Tryz.zeroValue4
  t5 := Tryz.underlying5
  a5 := Tryz.isAgg5
  z5 := Tryz.sizeOf5
  v5 := Tryz.zeroValue5
  t9 := Tryz.underlying9
  a9 := Tryz.isAgg9
  z9 := Tryz.sizeOf9
  v9 := Tryz.zeroValue9
  t21 := Tryz.underlying21
  a21 := Tryz.isAgg21
  z21 := Tryz.sizeOf21
  v21 := Tryz.zeroValue21
  t46 := Tryz.underlying115
  a46 := Tryz.isAgg115
  z46 := Tryz.sizeOf115
  v46 := Tryz.zeroValue115
  t105 := Tryz.underlying98
  a105 := Tryz.isAgg98
  z105 := Tryz.sizeOf98
  v105 := Tryz.zeroValue98
  t116 := Tryz.underlying88
  a116 := Tryz.isAgg88
  z116 := Tryz.sizeOf88
  t117 := Tryz.underlying89
  a117 := Tryz.isAgg89
  z117 := Tryz.sizeOf89
  v117 := Tryz.zeroValue89
  t119 := Tryz.underlying114
  a119 := Tryz.isAgg114
  z119 := Tryz.sizeOf114
  t124 := Tryz.underlying92
  a124 := Tryz.isAgg92
  z124 := Tryz.sizeOf92
  v124 := Tryz.zeroValue92
  t138 := Tryz.underlying117
  a138 := Tryz.isAgg117
  z138 := Tryz.sizeOf117
  v138 := Tryz.zeroValue117
  t139 := Tryz.underlying118
  a139 := Tryz.isAgg118
  z139 := Tryz.sizeOf118
  v139 := Tryz.zeroValue118
  g3 := by kernel_rfl
  g4 := by kernel_rfl }
end Go.Proofs
