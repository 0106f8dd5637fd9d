/- Texts that the proof leans on, in one: Math, CredMath, Row, Conv, RefNum, RefRight, EndOf. -/
import Derived.Test.YtjflmhncgkbdmaaGreatKb1
import Derived.Maps.AppendAt
import Derived.Test.YtjflmhncgkbdmaaGreatRows
import Derived.Lib.SlBytesConst
/- Plain arithmetic of layer 1's numbers: nothing of the program's text. -/
namespace Go.Proofs.YtjflmhncgkbdmaaGreat
open Go.RowKit

/-- The number that the bytes begin with, how many bytes it has, and the error. -/
def numN : Nat → List UInt8 → Nat → Nat → Nat × Nat × Nat
  | 0, _, _, _ => (0, 0, 11)
  | _ + 1, [], _, _ => (0, 0, 10)
  | f + 1, d :: l, k, n =>
    if d.toNat = 0 ∧ 0 < k then (0, 0, 11)
    else if d.toNat < 128 then (n + d.toNat * 128 ^ k, k + 1, 0)
    else numN f l (k + 1) (n + (d.toNat - 128) * 128 ^ k)

theorem bits_and_u8_127 (d : Nat) (h : d < 256) : bits .and .u8 (d : Int) 127 = ((d % 128 : Nat) : Int) := by
  have h1 : (BitVec.ofInt 8 (d : Int)).toNat = d := by
    rw [BitVec.ofInt_natCast, BitVec.toNat_ofNat]; exact Nat.mod_eq_of_lt (by omega)
  show IntKind.u8.wrap ((BitVec.ofInt 8 (d : Int) &&& BitVec.ofInt 8 127).toNat : Int) = _
  rw [BitVec.toNat_and, h1]
  have h2 : (BitVec.ofInt 8 127).toNat = 2 ^ 7 - 1 := by decide
  rw [h2, Nat.and_two_pow_sub_one_eq_mod]
  simp [IntKind.wrap, IntKind.bits, IntKind.signed]
  omega

theorem bits_or_i64 (a b : Nat) (ha : a < 9223372036854775808) (hb : b < 9223372036854775808) : bits .or .i64 (a : Int) (b : Int) = ((a ||| b : Nat) : Int) := by
  have h1 : (BitVec.ofInt 64 (a : Int)).toNat = a := by
    rw [BitVec.ofInt_natCast, BitVec.toNat_ofNat]; exact Nat.mod_eq_of_lt (by omega)
  have h2 : (BitVec.ofInt 64 (b : Int)).toNat = b := by
    rw [BitVec.ofInt_natCast, BitVec.toNat_ofNat]; exact Nat.mod_eq_of_lt (by omega)
  have hx : a ||| b < 2 ^ 63 := Nat.or_lt_two_pow (by omega) (by omega)
  show IntKind.i64.wrap ((BitVec.ofInt 64 (a : Int) ||| BitVec.ofInt 64 (b : Int)).toNat : Int) = _
  rw [BitVec.toNat_or, h1, h2]
  exact IntWalk.i64_in _ (by omega)

theorem pow_le9 (k : Nat) (h : k ≤ 8) : 128 ^ k ≤ 72057594037927936 := by
  have : 128 ^ k ≤ 128 ^ 8 := Nat.pow_le_pow_right (by omega) h
  simpa using this

theorem two7 (k : Nat) : 2 ^ (7 * k) = 128 ^ k := by rw [Nat.pow_mul]

theorem digit_or (k m d : Nat) (hk : k < 9) (hm : m < 128 ^ k) (hd : d < 256) :
    bits .or .i64 (m : Int) (wrap64 (wrap64 (bits .and .u8 (d : Int) 127) * 2 ^ (7 * k))) = ((m + d % 128 * 128 ^ k : Nat) : Int) := by
  have hp := pow_le9 k (by omega)
  have hc : d % 128 < 128 := Nat.mod_lt _ (by decide)
  have e1 : wrap64 ((d % 128 : Nat) : Int) = ((d % 128 : Nat) : Int) := by unfold wrap64; omega
  have hb : d % 128 * 128 ^ k ≤ 127 * 72057594037927936 := Nat.mul_le_mul (by omega) hp
  have e2 : ((d % 128 : Nat) : Int) * 2 ^ (7 * k) = ((d % 128 * 128 ^ k : Nat) : Int) := by
    rw [Int.natCast_mul, ← two7 k, Int.natCast_pow]; rfl
  have e3 : wrap64 ((d % 128 * 128 ^ k : Nat) : Int) = ((d % 128 * 128 ^ k : Nat) : Int) := by unfold wrap64; omega
  rw [bits_and_u8_127 d hd, e1, e2, e3, bits_or_i64 _ _ (by omega) (by omega)]
  congr 1
  rw [← two7 k, ← Nat.shiftLeft_eq, Nat.or_comm, ← Nat.shiftLeft_add_eq_or_of_lt (by rw [two7]; exact hm)]
  omega

/-- One byte of a number. -/
theorem numN_step (l : List UInt8) (k m : Nat) (hk : k < 9) (hl : k < l.length) :
    numN (9 - k) (l.drop k) k m = if l[k].toNat = 0 ∧ 0 < k then (0, 0, 11) else if l[k].toNat < 128 then (m + l[k].toNat * 128 ^ k, k + 1, 0) else numN (9 - (k + 1)) (l.drop (k + 1)) (k + 1) (m + (l[k].toNat - 128) * 128 ^ k) := by
  have e : 9 - k = (9 - (k + 1)) + 1 := by omega
  rw [e, List.drop_eq_getElem_cons hl]
  rfl

theorem numN_end (l : List UInt8) (k m : Nat) (hk : k < 9) (hl : l.length ≤ k) : numN (9 - k) (l.drop k) k m = (0, 0, 10) := by
  have e : 9 - k = (9 - (k + 1)) + 1 := by omega
  rw [e, List.drop_eq_nil_of_le hl]
  rfl

theorem num_lt (k m c : Nat) (hm : m < 128 ^ k) (hc : c < 128) : m + c * 128 ^ k < 128 ^ (k + 1) := by
  have : c * 128 ^ k ≤ 127 * 128 ^ k := Nat.mul_le_mul_right _ (by omega)
  rw [Nat.pow_succ]
  omega

/-- What a number's reading comes to. -/
theorem numN_facts : ∀ (f : Nat) (l : List UInt8) (k n : Nat), n < 128 ^ k →
    ((numN f l k n).2.2 = 0 ∧ k < (numN f l k n).2.1 ∧ (numN f l k n).2.1 ≤ k + l.length ∧ (numN f l k n).2.1 ≤ k + f ∧ (numN f l k n).1 < 128 ^ (numN f l k n).2.1) ∨
    (((numN f l k n).2.2 = 10 ∨ (numN f l k n).2.2 = 11) ∧ (numN f l k n).1 = 0 ∧ (numN f l k n).2.1 = 0)
  | 0, _, _, _, _ => .inr ⟨.inr rfl, rfl, rfl⟩
  | _ + 1, [], _, _, _ => .inr ⟨.inl rfl, rfl, rfl⟩
  | f + 1, d :: l, k, n, hn => by
    unfold numN
    by_cases h1 : d.toNat = 0 ∧ 0 < k
    · rw [if_pos h1]
      exact .inr ⟨.inr rfl, rfl, rfl⟩
    · rw [if_neg h1]
      by_cases h2 : d.toNat < 128
      · rw [if_pos h2]
        exact .inl ⟨rfl, by simp, by simp only [List.length_cons]; omega, by simp only []; omega, num_lt k n _ hn h2⟩
      · rw [if_neg h2]
        have hd := UInt8.toNat_lt d
        rcases numN_facts f l (k + 1) (n + (d.toNat - 128) * 128 ^ k) (num_lt k n _ hn (by omega)) with ⟨a, b, c, e, g⟩ | h
        · exact .inl ⟨a, by omega, by simp only [List.length_cons]; omega, by omega, g⟩
        · exact .inr h

theorem numN_ok {l : List UInt8} (h : (numN 9 l 0 0).2.2 = 0) : 0 < (numN 9 l 0 0).2.1 ∧ (numN 9 l 0 0).2.1 ≤ l.length ∧ (numN 9 l 0 0).1 < 9223372036854775808 := by
  rcases numN_facts 9 l 0 0 (by decide) with ⟨_, b, c, d, e⟩ | ⟨h1, _⟩
  · refine ⟨b, by omega, Nat.lt_of_lt_of_le e ?_⟩
    have : 128 ^ (numN 9 l 0 0).2.1 ≤ 128 ^ 9 := Nat.pow_le_pow_right (by omega) (by omega)
    simpa using this
  · omega

theorem numN_bad {l : List UInt8} (h : (numN 9 l 0 0).2.2 ≠ 0) : ((numN 9 l 0 0).2.2 = 10 ∨ (numN 9 l 0 0).2.2 = 11) ∧ (numN 9 l 0 0).1 = 0 ∧ (numN 9 l 0 0).2.1 = 0 := by
  rcases numN_facts 9 l 0 0 (by decide) with ⟨a, _⟩ | h1
  · exact absurd a h
  · exact h1

/-- The error of a number that is read. -/
def errNum (l : List UInt8) (most : Int) : Nat :=
  if (numN 9 l 0 0).2.2 = 0 then (if most < ((numN 9 l 0 0).1 : Int) then 12 else 0) else (numN 9 l 0 0).2.2

/-- The error of a text that is read. -/
def errText (l : List UInt8) (most : Int) : Nat :=
  if (numN 9 l 0 0).2.2 = 0 then
    (if most < ((numN 9 l 0 0).1 : Int) then 12 else if l.length - (numN 9 l 0 0).2.1 < (numN 9 l 0 0).1 then 10 else 0)
  else (numN 9 l 0 0).2.2

/-- A number's bytes: one that isn't the last; the last. -/
def dg (n : Nat) : UInt8 := UInt8.ofNat (128 + n % 128)
def ds (n : Nat) : UInt8 := UInt8.ofNat n
def enc (n : Nat) : List UInt8 := if n < 128 then [ds n] else dg n :: enc (n / 128)
  termination_by n
  decreasing_by omega

theorem enc_small {n : Nat} (h : n < 128) : enc n = [ds n] := by rw [enc, if_pos h]
theorem enc_big {n : Nat} (h : 128 ≤ n) : enc n = dg n :: enc (n / 128) := by rw [enc, if_neg (by omega)]

theorem enc_length : ∀ (k n : Nat), n < 128 ^ (k + 1) → (enc n).length ≤ k + 1
  | 0, n, h => by rw [enc_small (by omega)]; simp
  | k + 1, n, h => by
    by_cases h1 : n < 128
    · rw [enc_small h1]; simp
    · rw [enc_big (by omega)]
      have := enc_length k (n / 128) (by rw [Nat.pow_succ] at h; omega)
      simp only [List.length_cons]
      omega

theorem enc_length9 {n : Nat} (h : n < 9223372036854775808) : (enc n).length ≤ 9 := enc_length 8 n (by simpa using h)

theorem enc_pos (n : Nat) : 0 < (enc n).length := by
  by_cases h1 : n < 128
  · rw [enc_small h1]; simp
  · rw [enc_big (by omega)]; simp

theorem bits_and_i64_127 (n : Nat) (h : n < 9223372036854775808) : bits .and .i64 (n : Int) 127 = ((n % 128 : Nat) : Int) := by
  have h1 : (BitVec.ofInt 64 (n : Int)).toNat = n := by
    rw [BitVec.ofInt_natCast, BitVec.toNat_ofNat]; exact Nat.mod_eq_of_lt (by omega)
  show IntKind.i64.wrap ((BitVec.ofInt 64 (n : Int) &&& BitVec.ofInt 64 127).toNat : Int) = _
  rw [BitVec.toNat_and, h1]
  have h2 : (BitVec.ofInt 64 127).toNat = 2 ^ 7 - 1 := by decide
  rw [h2, Nat.and_two_pow_sub_one_eq_mod]
  exact IntWalk.i64_in _ (by omega)

theorem bits_or_u8_128 (d : Nat) (h : d < 128) : bits .or .u8 (d : Int) 128 = ((128 + d : Nat) : Int) := by
  have h1 : (BitVec.ofInt 8 (d : Int)).toNat = d := by
    rw [BitVec.ofInt_natCast, BitVec.toNat_ofNat]; exact Nat.mod_eq_of_lt (by omega)
  show IntKind.u8.wrap ((BitVec.ofInt 8 (d : Int) ||| BitVec.ofInt 8 128).toNat : Int) = _
  rw [BitVec.toNat_or, h1]
  have h2 : (BitVec.ofInt 8 128).toNat = 1 <<< 7 := by decide
  rw [h2, Nat.or_comm, ← Nat.shiftLeft_add_eq_or_of_lt (by simpa using h)]
  simp only [Nat.shiftLeft_eq]
  exact IntWalk.u8_in _ (by omega)

theorem dg_toNat (n : Nat) : (dg n).toNat = 128 + n % 128 := ofNat_u8 _ (by omega)
theorem ds_toNat {n : Nat} (h : n < 128) : (ds n).toNat = n := ofNat_u8 _ (by omega)

theorem digit_of (n : Nat) (h : n < 9223372036854775808) : bits .or .u8 (bits .and .i64 (n : Int) 127 % 256) 128 = ((dg n).toNat : Int) := by
  have e : ((n % 128 : Nat) : Int) % 256 = ((n % 128 : Nat) : Int) := by omega
  rw [bits_and_i64_127 n h, e, bits_or_u8_128 _ (Nat.mod_lt _ (by decide)), dg_toNat]

end Go.Proofs.YtjflmhncgkbdmaaGreat

/- Credentials: which are right, their bytes, their order; how they lie in memory: plain words. -/
namespace Go.Proofs.YtjflmhncgkbdmaaGreat
open Go.RowKit

/-- A credential. -/
structure CredB where
  kind : Int
  head : RoleB
  who : List UInt8
  b : RoleB
  c : RoleB
  w2 : List UInt8
  deriving DecidableEq, Inhabited

def noneR : RoleB := ([], [])
def noCred : CredB := ⟨0, noneR, [], noneR, noneR, []⟩

/-- The right ones, kind by kind. -/
def isCred (c : CredB) : Bool :=
  isRole c.head &&
    (if c.kind = 1 then isName c.who && (c.b == noneR && (c.c == noneR && c.w2 == []))
     else (c.who == [] && isRole c.b) &&
      (if c.kind = 2 then c.c == noneR && c.w2 == []
       else if c.kind = 3 then c.c == noneR && (c.b.1 == c.head.1 && isName c.w2)
       else c.kind == 4 && (c.w2 == [] && (isRole c.c && ltR c.b c.c))))

/-- A credential, as the program holds it. -/
def credCells (c : CredB) : List Value :=
  [.int .i64 c.kind, .string ⟨c.head.1.toArray⟩, .string ⟨c.head.2.toArray⟩, .string ⟨c.who.toArray⟩, .string ⟨c.b.1.toArray⟩, .string ⟨c.b.2.toArray⟩, .string ⟨c.c.1.toArray⟩, .string ⟨c.c.2.toArray⟩, .string ⟨c.w2.toArray⟩]
def credBox (c : CredB) : Array Value :=
  #[.int .i64 c.kind, .string ⟨c.head.1.toArray⟩, .string ⟨c.head.2.toArray⟩, .string ⟨c.who.toArray⟩, .string ⟨c.b.1.toArray⟩, .string ⟨c.b.2.toArray⟩, .string ⟨c.c.1.toArray⟩, .string ⟨c.c.2.toArray⟩, .string ⟨c.w2.toArray⟩]
def credV (c : CredB) : Value := .agg (credBox c)

/-- No field is longer than any text can be. -/
def credShort (c : CredB) (n : Nat) : Prop :=
  c.head.1.length ≤ n ∧ c.head.2.length ≤ n ∧ c.who.length ≤ n ∧ c.b.1.length ≤ n ∧ c.b.2.length ≤ n ∧ c.c.1.length ≤ n ∧ c.c.2.length ≤ n ∧ c.w2.length ≤ n

/-- The credential c lies at the nine cells from o on. -/
structure CredAt (w : World) (b o : Nat) (c : CredB) : Prop where
  k0 : w.cell? ⟨b, o, none⟩ = some (.int .i64 c.kind)
  k1 : w.cell? ⟨b, o + 1, none⟩ = some (.string ⟨c.head.1.toArray⟩)
  k2 : w.cell? ⟨b, o + 2, none⟩ = some (.string ⟨c.head.2.toArray⟩)
  k3 : w.cell? ⟨b, o + 3, none⟩ = some (.string ⟨c.who.toArray⟩)
  k4 : w.cell? ⟨b, o + 4, none⟩ = some (.string ⟨c.b.1.toArray⟩)
  k5 : w.cell? ⟨b, o + 5, none⟩ = some (.string ⟨c.b.2.toArray⟩)
  k6 : w.cell? ⟨b, o + 6, none⟩ = some (.string ⟨c.c.1.toArray⟩)
  k7 : w.cell? ⟨b, o + 7, none⟩ = some (.string ⟨c.c.2.toArray⟩)
  k8 : w.cell? ⟨b, o + 8, none⟩ = some (.string ⟨c.w2.toArray⟩)

/-- The credentials ls can be read from the address ao on. -/
def CredsAt (D : Nat → Prop) (w : World) (ao : Option Addr) (ls : List CredB) : Prop :=
  ∀ i (h : i < ls.length), ∃ b off, ao = some ⟨b, off, none⟩ ∧ D b ∧ CredAt w b (off + i * 9) ls[i] ∧ credShort ls[i] 9223372036854775807

theorem CredAt.keep {S : Nat → Prop} {w w' : World} {b o : Nat} {c : CredB} (h : CredAt w b o c) (hc : Chg S w w') (hS : ¬ S b) : CredAt w' b o c :=
  ⟨hc.cell h.k0 hS, hc.cell h.k1 hS, hc.cell h.k2 hS, hc.cell h.k3 hS, hc.cell h.k4 hS, hc.cell h.k5 hS, hc.cell h.k6 hS, hc.cell h.k7 hS, hc.cell h.k8 hS⟩

theorem CredsAt.keep {S D : Nat → Prop} {w w' : World} {ao : Option Addr} {ls : List CredB} (h : CredsAt D w ao ls) (hc : Chg S w w') (hS : ∀ i, D i → ¬ S i) : CredsAt D w' ao ls := fun i hi =>
  let ⟨b, off, h1, h2, h3, h4⟩ := h i hi
  ⟨b, off, h1, h2, h3.keep hc (hS b h2), h4⟩

theorem CredsAt.mono {D D' : Nat → Prop} {w : World} {ao : Option Addr} {ls : List CredB} (h : CredsAt D w ao ls) (hD : ∀ i, D i → D' i) : CredsAt D' w ao ls := fun i hi =>
  let ⟨b, off, h1, h2, h3⟩ := h i hi
  ⟨b, off, h1, hD b h2, h3⟩

theorem CredsAt.nil (D : Nat → Prop) (w : World) (ao : Option Addr) : CredsAt D w ao [] := fun i hi => by simp at hi

theorem CredsAt.low {D : Nat → Prop} {w : World} {ao : Option Addr} {ls : List CredB} (h : CredsAt D w ao ls) : CredsAt (fun k => k < w.heap.size) w ao ls := fun i hi =>
  let ⟨b, off, h1, _, h3⟩ := h i hi
  ⟨b, off, h1, World.block_lt_of_cell? w _ h3.1.k0, h3⟩

theorem cred_at_blk {w : World} {g : Nat} {c : CredB} {ty : TypeId} {f : Nat × Nat} (h : w.heap[g]? = some (.cells (credBox c) ty f)) : CredAt w g 0 c :=
  ⟨cell_blk h 0, cell_blk h 1, cell_blk h 2, cell_blk h 3, cell_blk h 4, cell_blk h 5, cell_blk h 6, cell_blk h 7, cell_blk h 8⟩

/-- Is c in the list? Are two lists the same? Are two the same? (Behind names: the walk's simp leaves them.) -/
def hasC (ls : List CredB) (c : CredB) : Bool := ls.contains c
def sameC (a b : List CredB) : Bool := a == b
def eqC (a b : CredB) : Bool := a == b

theorem hasC_take (ls : List CredB) (s : CredB) (k : Nat) (h : k < ls.length) (hc : hasC (ls.take k) s = false) (hn : ls[k] ≠ s) : hasC (ls.take (k + 1)) s = false := by
  unfold hasC at hc ⊢
  rw [List.take_succ_eq_append_getElem h]
  simp only [List.contains_eq_mem, List.mem_append, List.mem_singleton, decide_eq_false_iff_not, not_or] at hc ⊢
  exact ⟨hc, fun e => hn e.symm⟩
end Go.Proofs.YtjflmhncgkbdmaaGreat

/- A row of bytes of the call's own, that is written in place. -/
namespace Go.Proofs.YtjflmhncgkbdmaaGreat
open Go.RowKit

/-- The block g holds the bytes l at its head, T being a byte's type. -/
def RowAt (T : TypeId) (w : World) (g cap : Nat) (l : List UInt8) : Prop :=
  l.length ≤ cap ∧ cap ≤ maxLen ∧ ∃ cs : Array Value, w.heap[g]? = some (.cells cs T (0, 0)) ∧ ∀ j (h : j < l.length), cs[j]? = some (cb l[j])

theorem row_of_owns {T : TypeId} {B : Nat} {w : World} {v : Value} {l : List UInt8} (h : w.ownsRow B T 1 v l.length (l.map cb)) (hl : 0 < l.length) :
    ∃ g cap, v = .slice (some ⟨g, 0, none⟩) l.length cap ∧ B ≤ g ∧ RowAt T w g cap l := by
  rcases h.2 with ⟨rfl, h0⟩ | ⟨g, cap, cur, rfl, hg, hh, h1, h2, h3, h4⟩
  · omega
  · refine ⟨g, cap, rfl, hg, h1, h2, cur, hh, fun j hj => ?_⟩
    have := congrArg (fun l : List Value => l[j]?) h4
    simp only [Nat.mul_one, List.getElem?_take, List.getElem?_map] at this
    rw [if_pos hj, List.getElem?_eq_getElem hj] at this
    simpa using this

theorem RowAt.bytes {T : TypeId} {w : World} {g cap : Nat} {l : List UInt8} (h : RowAt T w g cap l) : BytesAt (fun k => k = g) w (.slice (some ⟨g, 0, none⟩) l.length cap) l := by
  obtain ⟨h1, h2, cs, h3, h4⟩ := h
  refine .inr ⟨g, 0, cap, rfl, h1, h2, rfl, fun i hi => ?_⟩
  rw [cell_blk h3, Nat.zero_add]
  exact h4 i hi

theorem RowAt.cell {T : TypeId} {w : World} {g cap : Nat} {l : List UInt8} (h : RowAt T w g cap l) (i : Nat) (hi : i < l.length) : w.cell? ⟨g, i, none⟩ = some (.int .u8 (l[i].toNat : Int)) := by
  obtain ⟨h1, h2, cs, h3, h4⟩ := h
  rw [cell_blk h3]
  exact h4 i hi

theorem RowAt.frozen {T : TypeId} {w : World} {g cap : Nat} {l : List UInt8} (h : RowAt T w g cap l) (i : Nat) : w.frozen? ⟨g, i, none⟩ = false := by
  obtain ⟨h1, h2, cs, h3, h4⟩ := h
  exact froz_blk h3 i

theorem RowAt.set {T : TypeId} {w : World} {g cap : Nat} {l : List UInt8} (h : RowAt T w g cap l) (i : Nat) (y : UInt8) : RowAt T (w.setCell ⟨g, i, none⟩ (cb y)) g cap (l.set i y) := by
  obtain ⟨h1, h2, cs, h3, h4⟩ := h
  refine ⟨by simpa using h1, h2, _, set_blk h3 i (cb y), fun j hj => ?_⟩
  have hj' : j < l.length := by simpa using hj
  have hjc : j < cs.size := (Array.getElem?_eq_some_iff.1 (h4 j hj')).1
  rw [List.getElem_set]
  by_cases hij : i = j
  · subst hij
    rw [if_pos rfl]
    simp [hjc]
  · rw [if_neg hij, Array.getElem?_setIfInBounds_ne hij]
    exact h4 j hj'

theorem RowAt.keep {T : TypeId} {S : Nat → Prop} {w w' : World} {g cap : Nat} {l : List UInt8} (h : RowAt T w g cap l) (hc : Chg S w w') (hs : ¬ S g) : RowAt T w' g cap l := by
  obtain ⟨h1, h2, cs, h3, h4⟩ := h
  exact ⟨h1, h2, cs, blk_keep h3 hc hs, h4⟩

theorem cb_getElem? (l : List UInt8) (i : Nat) (u : Value) (h : (l.map cb)[i]? = some u) : ∃ hi : i < l.length, u = .int .u8 (l[i].toNat : Int) := by
  have hi : i < l.length := by
    have := (List.getElem?_eq_some_iff.1 h).1
    simpa using this
  refine ⟨hi, ?_⟩
  simp [hi] at h
  exact h.symm

theorem cb_one (l : List UInt8) : ∀ u ∈ l.map cb, u.oneCell' = true := by
  intro u hu
  simp at hu
  obtain ⟨x, _, rfl⟩ := hu
  rfl

/-- Bytes that can be read, as the cells from an address on (where there are some). -/
theorem BytesAt.addr {D : Nat → Prop} {w : World} {ao : Option Addr} {cp n : Nat} {l : List UInt8} (h : BytesAt D w (.slice ao n cp) l) (hl : 0 < l.length) :
    ∃ b off, ao = some ⟨b, off, none⟩ ∧ b < w.heap.size ∧ D b ∧ ∀ i (h : i < l.length), w.cell? ⟨b, off + i, none⟩ = some (.int .u8 (l[i].toNat : Int)) := by
  rcases h with ⟨_, _, _, h2, _⟩ | ⟨b, off, cap, h1, _, _, h4, h5⟩
  · subst h2
    simp at hl
  · cases h1
    exact ⟨b, off, rfl, World.block_lt_of_cell? w _ (h5 0 hl), h4, h5⟩

theorem add_off (b off i : Nat) : (⟨b, off, none⟩ : Addr).add i = ⟨b, off + i, none⟩ := by
  unfold Addr.add
  split <;> simp_all

end Go.Proofs.YtjflmhncgkbdmaaGreat

/- Conversions between strings and bytes; blocks of bytes. -/
namespace Go.Proofs.YtjflmhncgkbdmaaGreat
open Go.RowKit

theorem Tryz.info5 : (Tryz.prog.info? 5).map (fun i => (i.zero, i.size, i.bytes)) = some (some (.int .u8 0), 1, 1) := by kernel_rfl

theorem conv_bytes {D : Nat → Prop} {v : Value} {l : List UInt8} {w : World} (h : BytesAt D w v l) : (convert 36 9 v).run Tryz.prog w = .ok (.string ⟨l.toArray⟩) w := by
  rcases h with ⟨ao, cp, rfl, rfl, h0⟩ | ⟨b, off, cap, rfl, h1, h2, h3, h4⟩
  · cases ao with
    | none => exact run_convert_bytes_nil w 36 5 Tryz.underlying36 Tryz.underlying5 0 cp 9 Tryz.underlying9
    | some x => exact run_convert_bytes_back w 36 9 5 x cp [] Tryz.underlying36 Tryz.underlying5 Tryz.underlying9 (fun j hj => by simp at hj)
  · refine run_convert_bytes_back w 36 9 5 ⟨b, off, none⟩ cap l Tryz.underlying36 Tryz.underlying5 Tryz.underlying9 (fun j hj => ?_)
    rw [add_off]
    exact h4 j hj

theorem conv_one (d : UInt8) (x : Int) (w : World) (hx : x = (d.toNat : Int)) : (convert 36 9 (.slice (some ⟨w.heap.size, 0, none⟩) 1 1)).run Tryz.prog (w.alloc (.cells #[.int .u8 x] 5)) = .ok (.string ⟨#[d]⟩) (w.alloc (.cells #[.int .u8 x] 5)) := by
  subst hx
  refine conv_bytes (D := fun _ => True) (l := [d]) (.inr ⟨_, 0, 1, rfl, Nat.le_refl 1, by decide, trivial, fun i hi => ?_⟩)
  rw [cell_blk (heap_alloc_new w _)]
  match i, hi with
  | 0, _ => rfl

/-- A block of one byte. -/
theorem bytes_one {w : World} {B : Nat} {T : TypeId} {f : Nat × Nat} (n : Nat) (hn : n < 256) (h : w.heap[B]? = some (.cells #[.int .u8 (n : Int)] T f)) : BytesAt (fun k => k = B) w (.slice (some ⟨B, 0, none⟩) 1 1) [UInt8.ofNat n] := by
  refine .inr ⟨B, 0, 1, rfl, by simp, by decide, rfl, fun i hi => ?_⟩
  have : i = 0 := by simp at hi; omega
  subst this
  rw [cell_blk h]
  simp only [List.getElem_cons_zero, ofNat_u8 n hn]
  rfl

/-- A block of bytes. -/
theorem bytes_blk {w : World} {B : Nat} {T : TypeId} {f : Nat × Nat} (l : List UInt8) (hl : l.length ≤ maxLen) (h : w.heap[B]? = some (.cells (l.map cb).toArray T f)) : BytesAt (fun k => k = B) w (.slice (some ⟨B, 0, none⟩) l.length l.length) l := by
  refine .inr ⟨B, 0, l.length, rfl, Nat.le_refl _, hl, rfl, fun i hi => ?_⟩
  rw [cell_blk h, Nat.zero_add]
  simp [hi, cb]

theorem one_le_maxLen : 1 ≤ maxLen := by decide

theorem two_le_maxLen : 2 ≤ maxLen := by decide

theorem bytes_lit1 (x : Int) (y : UInt8) (f : Nat × Nat) (h : x = (y.toNat : Int)) (w : World) : BytesAt (fun _ => True) (w.alloc (.cells #[.int .u8 x] 5 f)) (.slice (some ⟨w.heap.size, 0, none⟩) 1 1) [y] := by
  subst h
  exact (bytes_blk [y] one_le_maxLen (heap_alloc_new w _)).mono (fun _ _ => trivial)

theorem bytes_lit2 (x x' : Int) (y y' : UInt8) (f : Nat × Nat) (h : x = (y.toNat : Int)) (h' : x' = (y'.toNat : Int)) (w : World) : BytesAt (fun _ => True) (w.alloc (.cells #[.int .u8 x, .int .u8 x'] 5 f)) (.slice (some ⟨w.heap.size, 0, none⟩) 2 2) [y, y'] := by
  subst h
  subst h'
  exact (bytes_blk [y, y'] two_le_maxLen (heap_alloc_new w _)).mono (fun _ _ => trivial)

theorem kconv_at (w : World) (g : Nat) (C : Array Value) (n c : Nat) (hg : g = w.heap.size) : (convert 36 36 (.slice (some ⟨g, 0, none⟩) n c)).run Tryz.prog (w.alloc (.cells C 5)) = .ok (.slice (some ⟨g, 0, none⟩) n c) (w.alloc (.cells C 5 (C.size, C.size + 1))) := by
  subst hg
  exact Lib.run_convert_bytes_const (P := Tryz.prog) w 36 5 C n c Tryz.underlying36 Tryz.underlying5

theorem bytesRow_list (acc : List UInt8) (cap : Nat) (i : Nat) (h : i < acc.length) : (bytesRow ⟨acc.toArray⟩ cap)[i]? = some (.int .u8 (acc[i].toNat : Int)) := by
  have := bytesRow_at ⟨acc.toArray⟩ cap i (by simpa using h)
  simpa using this

/-- '[]byte(s)'. -/
theorem bytes_of (acc : List UInt8) (w : World) (c : Nat) (hc : acc.length ≤ c) (hm : c ≤ maxLen) (f : Nat × Nat) :
    BytesAt (fun k => k = w.heap.size) (w.alloc (.cells (bytesRow ⟨acc.toArray⟩ c) 5 f)) (.slice (some ⟨w.heap.size, 0, none⟩) acc.length c) acc := by
  refine .inr ⟨_, 0, c, rfl, hc, hm, rfl, fun i hi => ?_⟩
  rw [cell_blk (heap_alloc_new w _), Nat.zero_add]
  exact bytesRow_list acc c i hi

theorem conv_str (acc : List UInt8) (w : World) : (convert 9 36 (.string ⟨acc.toArray⟩)).run Tryz.prog w = .ok (.slice (some ⟨w.heap.size, 0, none⟩) acc.length (grownCap w acc.length 0 5))
      (w.drew.alloc (.cells (bytesRow ⟨acc.toArray⟩ (grownCap w acc.length 0 5)) 5 ((bytesRow ⟨acc.toArray⟩ (grownCap w acc.length 0 5)).size, (bytesRow ⟨acc.toArray⟩ (grownCap w acc.length 0 5)).size + 1))) := by
  have := run_bytes_of_string (P := Tryz.prog) w 9 36 5 ⟨acc.toArray⟩ Tryz.underlying9 Tryz.underlying36 Tryz.underlying5
  exact this

end Go.Proofs.YtjflmhncgkbdmaaGreat

/- The contracts of the document's Number and Text. -/
namespace Go.Proofs.YtjflmhncgkbdmaaGreat
open Go.RowKit

set_option maxRecDepth 100000 in
theorem refnum_any (n : Nat) (w : World) (hn : n < 9223372036854775808) :
    Calls Tryz.prog 73 #[.int .i64 n] w fun e w' => e = .returned (.string ⟨(enc n).toArray⟩) ∧ Chg (fun _ => False) w w' := by
  go_enter Tryz.func73, Tryz.ntmps73
  go_wp2
  go_loopw [0, 3] (fun i s wr => ∃ (m : Nat) (ys : List UInt8), i = .int .i64 m ∧ m < 9223372036854775808 ∧ s = .string ⟨ys.toArray⟩ ∧ Chg (fun _ => False) w wr ∧ Hid (ys ++ enc m = enc n)) (fun i _ _ => (intOf i).toNat)
  case atStart => exact ⟨n, [], rfl, hn, rfl, Chg.refl _ _, rfl⟩
  case round =>
    obtain ⟨m, ys, rfl, hm, rfl, hch, HS⟩ := hrel
    have hyl : ys.length ≤ 9 := by
      have h1 := congrArg List.length HS.out
      have h2 := enc_length9 hn
      simp only [List.length_append] at h1
      omega
    by_cases h128 : 128 ≤ m
    · have hcv := conv_one (dg m) (128 + (m : Int) % 128) wr (by rw [dg_toNat]; omega)
      go_wp2
      go_roundw
      case rel => exact ⟨m / 128, ys ++ [dg m], congrArg (Value.int .i64) (by omega), by omega, congrArg Value.string (ByteArray.mk_append_mk ys [dg m]), hch.alloc _, hid (by rw [← HS.out, enc_big h128]; simp)⟩
      case measure => simp [intOf]; omega
    · have h128' : m < 128 := by omega
      have hcv := conv_one (ds m) m wr (by rw [ds_toNat h128'])
      have HF : Hid ((ys ++ [ds m]).toArray = (enc n).toArray) := hid (by rw [← HS.out, enc_small h128'])
      clear HS
      go_wp2
      go_ret
      refine ⟨?_, hch.alloc _⟩
      have h := ByteArray.mk_append_mk ys [ds m]
      rw [← HF.out, ← h]
      rfl

theorem reftext_any (l : List UInt8) (w : World) (hl : l.length ≤ 140737488355328) :
    Calls Tryz.prog 46 #[.string ⟨l.toArray⟩] w fun e w' => e = .returned (.string ⟨(enc l.length ++ l).toArray⟩) ∧ Chg (fun _ => False) w w' := by
  have h1 := refnum_any l.length w (by omega)
  have he := enc_length9 (n := l.length) (by omega)
  go_enter Tryz.func46, Tryz.ntmps46
  go_wp2_with (go_at_call 73; refine h1.mono ?_; rintro e w1 ⟨rfl, hc⟩)
  go_ret
  refine ⟨?_, hc⟩
  rw [← ByteArray.mk_append_mk]
  rfl

end Go.Proofs.YtjflmhncgkbdmaaGreat

/- The contracts of the document's Right. -/
namespace Go.Proofs.YtjflmhncgkbdmaaGreat
open Go.RowKit
theorem refright_any (l : List UInt8) (w : World) (hs : l.length ≤ 9223372036854775807) :
    Calls Tryz.prog 32 #[.string ⟨l.toArray⟩] w fun e w' => e = .returned (.bool (isName l)) ∧ w = w' := by
  by_cases h0 : l.length = 0
  · have he : l = [] := List.eq_nil_of_length_eq_zero h0
    subst he
    go_enter Tryz.func32, Tryz.ntmps32
    go_wp2
    go_ret
    exact ⟨rfl, rfl⟩
  · have hpos : 0 < l.length := by omega
    have hem : l.isEmpty = false := by cases l with | nil => simp at h0 | cons _ _ => rfl
    have gx := ba_get l
    by_cases h16 : 16 < l.length
    · have hx : Hid (isName l = false) := isName_long h16
      have d1 : decide (16 < (l.length : Int)) = true := by simp; omega
      go_enter Tryz.func32, Tryz.ntmps32
      go_wp2
      go_ret
      exact ⟨by rw [hx.out]; rfl, rfl⟩
    · have d1 : decide (16 < (l.length : Int)) = false := by simp; omega
      by_cases h97 : l[0].toNat < 97
      · have hx : Hid (isName l = false) := isName_first hpos (by simp [okFirst]; omega)
        have d2 : decide ((l[0].toNat : Int) < 97) = true := by simp; omega
        go_enter Tryz.func32, Tryz.ntmps32
        go_wp2
        go_ret
        exact ⟨by rw [hx.out]; rfl, rfl⟩
      · have d2 : decide ((l[0].toNat : Int) < 97) = false := by simp; omega
        by_cases h122 : 122 < l[0].toNat
        · have hx : Hid (isName l = false) := isName_first hpos (by simp [okFirst]; omega)
          have d3 : decide (122 < (l[0].toNat : Int)) = true := by simp; omega
          go_enter Tryz.func32, Tryz.ntmps32
          go_wp2
          go_ret
          exact ⟨by rw [hx.out]; rfl, rfl⟩
        · have d3 : decide (122 < (l[0].toNat : Int)) = false := by simp; omega
          have hx : Hid (isName l = l.all okByte) := isName_all hpos (by simp [okFirst]; omega) (by omega)
          go_enter Tryz.func32, Tryz.ntmps32
          go_wp2
          clear d1 d2 d3 hem
          go_loop [3] (fun i => ∃ k : Nat, k ≤ l.length ∧ i = .int .i64 k ∧ Hid ((l.take k).all okByte = true)) (fun i => l.length - (intOf i).toNat)
          case atStart => exact ⟨0, Nat.zero_le _, rfl, rfl⟩
          case round =>
            obtain ⟨k, hk, rfl, ha⟩ := hrel
            by_cases hlt : k < l.length
            · by_cases hok : okByte l[k] = true
              · have hn : Hid ((l.take (k + 1)).all okByte = true) := hid (by rw [all_take_succ _ k hlt ha.out, hok])
                clear ha
                rcases okByte_yes hok with hc | hc | hc
                · have p1 : decide ((l[k].toNat : Int) < 97) = false := by simp; omega
                  have p2 : decide (122 < (l[k].toNat : Int)) = false := by simp; omega
                  clear hok
                  have HC := hid hc
                  clear hc
                  go_wp2
                  go_round
                  case rel => exact ⟨k + 1, by omega, by go_num, hn⟩
                  case measure => simp [intOf]; omega
                · have p1 : decide ((l[k].toNat : Int) < 97) = true := by simp; omega
                  have p3 : decide ((l[k].toNat : Int) < 48) = false := by simp; omega
                  have p4 : decide (57 < (l[k].toNat : Int)) = false := by simp; omega
                  clear hok
                  have HC := hid hc
                  clear hc
                  go_wp2
                  go_round
                  case rel => exact ⟨k + 1, by omega, by go_num, hn⟩
                  case measure => simp [intOf]; omega
                · have p1 : decide ((l[k].toNat : Int) < 97) = true := by simp; omega
                  have p3 : decide ((l[k].toNat : Int) < 48) = true := by simp; omega
                  have p5 : ((l[k].toNat : Int) != 45) = false := by simp; omega
                  clear hok
                  have HC := hid hc
                  clear hc
                  go_wp2
                  go_round
                  case rel => exact ⟨k + 1, by omega, by go_num, hn⟩
                  case measure => simp [intOf]; omega
              · have hn : Hid (l.all okByte = false) := hid (all_of_bad l k hlt (by simpa using hok))
                clear ha
                rcases okByte_no (by simpa using hok) with hc | hc | hc
                · have p1 : decide ((l[k].toNat : Int) < 97) = true := by simp; omega
                  have p3 : decide ((l[k].toNat : Int) < 48) = true := by simp; omega
                  have p5 : ((l[k].toNat : Int) != 45) = true := by simp; omega
                  clear hok
                  have HC := hid hc
                  clear hc
                  go_wp2
                  go_ret
                  exact ⟨by rw [hx.out, hn.out]; rfl, rfl⟩
                · have p1 : decide ((l[k].toNat : Int) < 97) = true := by simp; omega
                  have p3 : decide ((l[k].toNat : Int) < 48) = false := by simp; omega
                  have p4 : decide (57 < (l[k].toNat : Int)) = true := by simp; omega
                  have p5 : ((l[k].toNat : Int) != 45) = true := by simp; omega
                  clear hok
                  have HC := hid hc
                  clear hc
                  go_wp2
                  go_ret
                  exact ⟨by rw [hx.out, hn.out]; rfl, rfl⟩
                · have p1 : decide ((l[k].toNat : Int) < 97) = false := by simp; omega
                  have p2 : decide (122 < (l[k].toNat : Int)) = true := by simp; omega
                  have p3 : decide ((l[k].toNat : Int) < 48) = false := by simp; omega
                  have p4 : decide (57 < (l[k].toNat : Int)) = true := by simp; omega
                  have p5 : ((l[k].toNat : Int) != 45) = true := by simp; omega
                  clear hok
                  have HC := hid hc
                  clear hc
                  go_wp2
                  go_ret
                  exact ⟨by rw [hx.out, hn.out]; rfl, rfl⟩
            · have hk2 : k = l.length := by omega
              subst hk2
              have hn : Hid (l.all okByte = true) := hid (by have := ha.out; rwa [List.take_of_length_le (Nat.le_refl _)] at this)
              go_wp2
              go_ret
              exact ⟨by rw [hx.out, hn.out]; rfl, rfl⟩
end Go.Proofs.YtjflmhncgkbdmaaGreat

/- What a reading comes to. -/
namespace Go.Proofs.YtjflmhncgkbdmaaGreat
open Go.RowKit

/-- What a Read answers, of the error and what is left. -/
def endOf (flt : Int) (n : Nat) : Int := if flt = 0 then (if 0 < n then 13 else 0) else flt

end Go.Proofs.YtjflmhncgkbdmaaGreat
