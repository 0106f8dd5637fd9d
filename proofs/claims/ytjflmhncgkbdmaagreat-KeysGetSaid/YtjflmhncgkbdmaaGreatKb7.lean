/- Texts that the proof leans on, in one: RoleBytes, CredText, TagMath, KeyMath, TapeBad, RoleGet, RoleRef, RoleParse. -/
import Derived.Test.YtjflmhncgkbdmaaGreatKb1
import Derived.Test.YtjflmhncgkbdmaaGreatKb2
import Derived.Test.YtjflmhncgkbdmaaGreatKb5
import Derived.Test.YtjflmhncgkbdmaaGreatKb6
import Derived.Deep.QuietTactic
import Derived.BigQuiet
/- The contracts of the document's Bytes and Get of layer 4. -/
namespace Go.Proofs.YtjflmhncgkbdmaaGreat
open Go.RowKit

/-- A role's bytes. -/
def roleEnc (r : RoleB) : List UInt8 := (enc r.1.length ++ r.1) ++ (enc r.2.length ++ r.2)

def bytesSpecs (A : Nat) (o x : List UInt8) : List Spec := [.any, .eq (.pointer (some ⟨A, 0, none⟩)), .eq (.string ⟨(roleEnc (o, x)).toArray⟩), .eq (.pointer (some ⟨A, 0, none⟩)), .eq (.string ⟨o.toArray⟩), .eq (.string ⟨(enc o.length ++ o).toArray⟩), .eq (.pointer (some ⟨A, 1, none⟩)), .eq (.string ⟨x.toArray⟩), .eq (.string ⟨(enc x.length ++ x).toArray⟩), .eq (.string ⟨(roleEnc (o, x)).toArray⟩)]

set_option maxRecDepth 100000 in
theorem rbytes_ref (r : RoleB) (w : World) (h1 : r.1.length ≤ 1048576) (h2 : r.2.length ≤ 1048576) :
    Calls Tryz.prog 74 #[roleV r] w fun e w' => e = .returned (.string ⟨(roleEnc r).toArray⟩) ∧ Chg (fun _ => False) w w' := by
  obtain ⟨o, x⟩ := r
  dsimp only at h1 h2
  have hc : Chg (fun _ => False) w (w.alloc (.cells #[.string ⟨o.toArray⟩, .string ⟨x.toArray⟩] 33)) := (Chg.refl _ w).alloc _
  have hA := heap_alloc_new w (.cells #[.string ⟨o.toArray⟩, .string ⟨x.toArray⟩] 33)
  have a0 := cell_blk hA 0
  have a1 := cell_blk hA 1
  simp only [List.getElem?_toArray, List.getElem?_cons_zero, List.getElem?_cons_succ] at a0 a1
  have l1 := enc_length9 (n := o.length) (by omega)
  have l2 := enc_length9 (n := x.length) (by omega)
  show Calls Tryz.prog 74 #[.agg #[.string ⟨o.toArray⟩, .string ⟨x.toArray⟩]] w _
  go_enter Tryz.func74, Tryz.ntmps74
  go_wp2_with fail
  clear hA
  generalize w.alloc (.cells #[.string ⟨o.toArray⟩, .string ⟨x.toArray⟩] 33) = w1 at *
  generalize w.heap.size = A at *
  refine wp_region_specs (bytesSpecs A o x) [3, 4, 5, 6, 7, 8, 9, 2] [1] (by kernel_rfl) (by kernel_rfl) (by rfl) (by kernel_rfl) ?start ?obs ?fin
  case start =>
    simp only [List.forall_mem_cons]
    exact ⟨⟨_, rfl, rfl⟩, fun _ h => by cases h⟩
  case obs =>
    clear hc
    refine Obs.cons none (by kernel_rfl) ?_ ?_
    · refine Ob.plain fun a w hR hk K k => ?_
      obtain ⟨_, e1, rfl⟩ := hk 1 (by decide)
      clear hk
      go_simp
      exact k _ _ (Chg.refl _ _) rfl
    refine Obs.cons none (by kernel_rfl) ?_ ?_
    · refine Ob.plain fun a w hR hk K k => ?_
      obtain ⟨_, e3, rfl⟩ := hk 3 (by decide)
      clear hk
      have q0 := hR.cell a0 id
      go_simp
      exact k _ _ (Chg.refl _ _) rfl
    refine Obs.cons none (by kernel_rfl) ?_ ?_
    · refine Ob.plain fun a w hR hk K k => ?_
      obtain ⟨_, e4, rfl⟩ := hk 4 (by decide)
      clear hk
      go_simp
      refine (reftext_any o _ (by omega)).mono ?_
      rintro e w2 ⟨rfl, hc⟩
      exact k _ _ hc rfl
    refine Obs.cons none (by kernel_rfl) ?_ ?_
    · refine Ob.plain fun a w hR hk K k => ?_
      obtain ⟨_, e1, rfl⟩ := hk 1 (by decide)
      clear hk
      go_simp
      exact k _ _ (Chg.refl _ _) rfl
    refine Obs.cons none (by kernel_rfl) ?_ ?_
    · refine Ob.plain fun a w hR hk K k => ?_
      obtain ⟨_, e6, rfl⟩ := hk 6 (by decide)
      clear hk
      have q0 := hR.cell a1 id
      go_simp
      exact k _ _ (Chg.refl _ _) rfl
    refine Obs.cons none (by kernel_rfl) ?_ ?_
    · refine Ob.plain fun a w hR hk K k => ?_
      obtain ⟨_, e7, rfl⟩ := hk 7 (by decide)
      clear hk
      go_simp
      refine (reftext_any x _ (by omega)).mono ?_
      rintro e w2 ⟨rfl, hc⟩
      exact k _ _ hc rfl
    refine Obs.cons none (by kernel_rfl) ?_ ?_
    · refine Ob.plain fun a w hR hk K k => ?_
      obtain ⟨_, e5, rfl⟩ := hk 5 (by decide)
      obtain ⟨_, e8, rfl⟩ := hk 8 (by decide)
      clear hk
      obtain ⟨u, hu⟩ : ∃ u, u = enc o.length ++ o := ⟨_, rfl⟩
      obtain ⟨v, hv⟩ : ∃ v, v = enc x.length ++ x := ⟨_, rfl⟩
      have hul : ¬ 9223372036854775807 < u.length + v.length := by rw [hu, hv, List.length_append, List.length_append]; omega
      rw [← hu] at e5
      rw [← hv] at e8
      have HU := hid (And.intro hu hv)
      clear hu hv
      go_simp
      exact k _ _ (Chg.refl _ _) (congrArg Value.string ((ByteArray.mk_append_mk u v).trans (by rw [HU.out.1, HU.out.2]; rfl)))
    refine Obs.cons none (by kernel_rfl) ?_ ?_
    · refine Ob.plain fun a w hR hk K k => ?_
      obtain ⟨_, e9, f9⟩ := hk 9 (by decide)
      clear hk
      go_simp
      exact k _ _ (Chg.refl _ _) f9
    exact Obs.nil
  case fin =>
    intro vals w9 hc9 hv
    have h6 : vals 2 = .string ⟨(roleEnc (o, x)).toArray⟩ := hv 2 (by decide)
    simp only [putAll, List.setIfInBounds_toArray, List.set_cons_zero, List.set_cons_succ, h6]
    go_wp2
    go_ret
    exact ⟨rfl, hc.trans hc9 (fun _ _ h => h)⟩
end Go.Proofs.YtjflmhncgkbdmaaGreat

/- A credential's text, and its bytes; a text cut at each place where another one stands: plain words. -/
namespace Go.Proofs.YtjflmhncgkbdmaaGreat
open Go.RowKit

/-- What stands behind a credential's head. -/
def credBody (c : CredB) : List UInt8 :=
  if c.kind = 1 then c.who else if c.kind = 3 then roleText c.b ++ 46 :: c.w2 else if c.kind = 4 then roleText c.b ++ ([32, 38, 32] ++ roleText c.c) else roleText c.b
def credText (c : CredB) : List UInt8 := roleText c.head ++ ([32, 60, 45, 32] ++ credBody c)

/-- A text's bytes. -/
def encS (s : List UInt8) : List UInt8 := enc s.length ++ s
def credTail (c : CredB) : List UInt8 :=
  if c.kind = 1 then encS c.who else if c.kind = 3 then roleEnc c.b ++ encS c.w2 else if c.kind = 4 then roleEnc c.b ++ roleEnc c.c else roleEnc c.b
def credEnc (c : CredB) : List UInt8 := enc c.kind.toNat ++ (roleEnc c.head ++ credTail c)

/-- The bytes of a right one; none of others. -/
def credBytes (c : CredB) : List UInt8 := if isCred c then credEnc c else []

/-- The order: that of the bytes. -/
def cmpC (a b : CredB) : Int := if ltS (credBytes a) (credBytes b) then -1 else if ltS (credBytes b) (credBytes a) then 1 else 0

/-- A text, cut wherever 'at' stands; k: how many signs of such a place are still to come. -/
def splitGo (sep : List UInt8) : List UInt8 → Nat → List UInt8 → List (List UInt8)
  | [], _, acc => [acc]
  | _ :: r, k + 1, acc => splitGo sep r k acc
  | c :: r, 0, acc => if sep.isPrefixOf (c :: r) then acc :: splitGo sep r (sep.length - 1) [] else splitGo sep r 0 (acc ++ [c])
def splitL (sep s : List UInt8) : List (List UInt8) := splitGo sep s 0 []

theorem splitGo_skip (sep : List UInt8) : ∀ (k : Nat) (l acc : List UInt8), k ≤ l.length → splitGo sep l k acc = splitGo sep (l.drop k) 0 acc
  | 0, _, _, _ => rfl
  | k + 1, [], _, h => by simp at h
  | k + 1, c :: r, acc, h => by
    rw [splitGo, List.drop_succ_cons]
    exact splitGo_skip sep k r acc (by simpa using h)

theorem splitGo_at (sep l acc : List UInt8) (h0 : 0 < sep.length) (h : sep.isPrefixOf l = true) : splitGo sep l 0 acc = acc :: splitGo sep (l.drop sep.length) 0 [] := by
  match l, h with
  | [], h =>
    cases sep with
    | nil => simp at h0
    | cons a s => simp at h
  | c :: r, h =>
    have hp : sep.length ≤ (c :: r).length := by
      have := List.isPrefixOf_iff_prefix.1 h
      exact this.length_le
    rw [splitGo, if_pos h, splitGo_skip sep _ _ _ (by simp at hp; omega)]
    obtain ⟨n, hn⟩ : ∃ n, sep.length = n + 1 := ⟨sep.length - 1, by omega⟩
    rw [hn, List.drop_succ_cons]
    rfl

theorem splitGo_step (sep l acc : List UInt8) (i : Nat) (hi : i < l.length) (h : sep.isPrefixOf (l.drop i) = false) : splitGo sep (l.drop i) 0 acc = splitGo sep (l.drop (i + 1)) 0 (acc ++ [l[i]]) := by
  rw [List.drop_eq_getElem_cons hi] at h ⊢
  rw [splitGo, if_neg (by rw [h]; decide)]

theorem splitGo_len (sep : List UInt8) : ∀ (l : List UInt8) (k : Nat) (acc : List UInt8), ∀ x ∈ splitGo sep l k acc, x.length ≤ acc.length + l.length
  | [], _, acc, x, h => by
    rw [splitGo, List.mem_singleton] at h
    subst h
    omega
  | _ :: r, k + 1, acc, x, h => by
    rw [splitGo] at h
    have := splitGo_len sep r k acc x h
    rw [List.length_cons]
    omega
  | c :: r, 0, acc, x, h => by
    rw [splitGo] at h
    rw [List.length_cons]
    by_cases hp : sep.isPrefixOf (c :: r) = true
    · rw [if_pos hp] at h
      rcases List.mem_cons.1 h with rfl | h
      · omega
      · have := splitGo_len sep r (sep.length - 1) [] x h
        rw [List.length_nil] at this
        omega
    · rw [if_neg hp] at h
      have := splitGo_len sep r 0 (acc ++ [c]) x h
      rw [List.length_append, List.length_singleton] at this
      omega

theorem splitL_len {sep s x : List UInt8} (h : x ∈ splitL sep s) : x.length ≤ s.length := by
  have := splitGo_len sep s 0 [] x h
  rw [List.length_nil] at this
  omega

theorem splitGo_pos (sep : List UInt8) : ∀ (l : List UInt8) (k : Nat) (acc : List UInt8), 0 < (splitGo sep l k acc).length
  | [], _, acc => by simp [splitGo]
  | _ :: r, k + 1, acc => by rw [splitGo]; exact splitGo_pos sep r k acc
  | c :: r, 0, acc => by
    rw [splitGo]
    by_cases hp : sep.isPrefixOf (c :: r) = true
    · rw [if_pos hp]; simp
    · rw [if_neg hp]; exact splitGo_pos sep r 0 (acc ++ [c])

theorem splitL_pos (sep s : List UInt8) : 0 < (splitL sep s).length := splitGo_pos sep s 0 []
end Go.Proofs.YtjflmhncgkbdmaaGreat

/- Plain arithmetic of layer 2's sums and tags: nothing of the program's text. -/
namespace Go.Proofs.YtjflmhncgkbdmaaGreat
open Go.RowKit

def two64 : Nat := 18446744073709551616
def fnvPrime : Nat := 1099511628211
def fnvBasis : Nat := 14695981039346656037
/-- The sum behind one byte more. -/
def fnvStep (h : Nat) (x : UInt8) : Nat := (h ^^^ x.toNat) * fnvPrime % two64
def fnv (h : Nat) (l : List UInt8) : Nat := l.foldl fnvStep h
/-- The sum of bytes. -/
def sumOf (l : List UInt8) : Nat := fnv fnvBasis l

theorem foldl_snoc' {α β : Type} (f : α → β → α) (h : α) (a : List β) (x : β) : (a ++ [x]).foldl f h = f (a.foldl f h) x := by simp
theorem foldl_take' {α β : Type} (f : α → β → α) (h : α) (l : List β) (k : Nat) (hk : k < l.length) : (l.take (k + 1)).foldl f h = f ((l.take k).foldl f h) l[k] := by
  rw [List.take_succ_eq_append_getElem hk, foldl_snoc']
theorem foldl_all {α β : Type} (f : α → β → α) (p : α → Prop) (hf : ∀ a b, p (f a b)) (l : List β) : ∀ h, p h → p (l.foldl f h) := by
  induction l with
  | nil => intro h hh; exact hh
  | cons x l ih => intro h _; exact ih _ (hf h x)
theorem fnv_nil (h : Nat) : fnv h [] = h := List.foldl_nil
theorem fnv_append (h : Nat) (a b : List UInt8) : fnv h (a ++ b) = fnv (fnv h a) b := List.foldl_append
theorem fnv_take (h : Nat) (l : List UInt8) (k : Nat) (hk : k < l.length) : fnv h (l.take (k + 1)) = fnvStep (fnv h (l.take k)) l[k] := foldl_take' fnvStep h l k hk

theorem two64_pos : 0 < two64 := by unfold two64; omega
theorem fnvStep_lt (h : Nat) (x : UInt8) : fnvStep h x < two64 := by unfold fnvStep; exact Nat.mod_lt _ two64_pos
theorem fnv_lt (l : List UInt8) (h : Nat) (hh : h < two64) : fnv h l < two64 := foldl_all fnvStep (· < two64) fnvStep_lt l h hh
theorem sumOf_lt (l : List UInt8) : sumOf l < two64 := fnv_lt l _ (by unfold fnvBasis two64; omega)
theorem sumOf_lt' (l : List UInt8) : sumOf l < 18446744073709551616 := sumOf_lt l

theorem bits_xor_u64 (a b : Nat) (ha : a < two64) (hb : b < two64) : bits .xor .u64 (a : Int) (b : Int) = ((a ^^^ b : Nat) : Int) := by
  unfold two64 at ha hb
  have h1 : (BitVec.ofInt 64 (a : Int)).toNat = a := by
    rw [BitVec.ofInt_natCast, BitVec.toNat_ofNat]; exact Nat.mod_eq_of_lt (by omega)
  have h2 : (BitVec.ofInt 64 (b : Int)).toNat = b := by
    rw [BitVec.ofInt_natCast, BitVec.toNat_ofNat]; exact Nat.mod_eq_of_lt (by omega)
  have hx : a ^^^ b < 2 ^ 64 := Nat.xor_lt_two_pow (by omega) (by omega)
  show IntKind.u64.wrap ((BitVec.ofInt 64 (a : Int) ^^^ BitVec.ofInt 64 (b : Int)).toNat : Int) = _
  rw [BitVec.toNat_xor, h1, h2]
  simp [IntKind.wrap, IntKind.bits, IntKind.signed]
  omega

/-- One byte of a sum, as the code reckons it. -/
theorem fnvStep_of (h : Nat) (x : UInt8) (hh : h < two64) : bits .xor .u64 (h : Int) (x.toNat : Int) * 1099511628211 % 18446744073709551616 = ((fnvStep h x : Nat) : Int) := by
  have hx := UInt8.toNat_lt x
  rw [bits_xor_u64 h x.toNat hh (by unfold two64; omega)]
  unfold fnvStep fnvPrime two64
  generalize h ^^^ x.toNat = y
  omega

theorem fnvStep_walk (h : Nat) (x : UInt8) (hh : h < two64) : IntKind.u64.wrap (bits .xor .u64 (h : Int) (IntKind.u64.wrap (x.toNat : Int)) * 1099511628211) = ((fnvStep h x : Nat) : Int) := by
  have hx := UInt8.toNat_lt x
  have e1 : IntKind.u64.wrap (x.toNat : Int) = (x.toNat : Int) := IntWalk.u64_in _ (by omega)
  rw [e1, ← fnvStep_of h x hh]
  simp [IntKind.wrap, IntKind.bits, IntKind.signed]

/-- The eight bytes of a number, the greatest one first. -/
def bytes8 (h : Nat) : List UInt8 := (List.range 8).map fun i => UInt8.ofNat (h / 2 ^ (8 * (7 - i)) % 256)
/-- The tag of bytes with a key. -/
def tagSum (key b : List UInt8) : Nat := sumOf ([UInt8.ofNat key.length] ++ key ++ b ++ key)
theorem tagSum_lt (key b : List UInt8) : tagSum key b < 18446744073709551616 := sumOf_lt' _
def tagOf (key b : List UInt8) : List UInt8 := bytes8 (tagSum key b)

theorem byte8_int (n m : Nat) : ((n / 2 ^ m % 256 : Nat) : Int) = (n : Int) / 2 ^ m % 256 := by
  rw [Int.natCast_emod, Int.natCast_ediv, Int.natCast_pow]
  rfl
theorem bytes8_length (h : Nat) : (bytes8 h).length = 8 := by simp [bytes8]
theorem tagOf_length (key b : List UInt8) : (tagOf key b).length = 8 := bytes8_length _

end Go.Proofs.YtjflmhncgkbdmaaGreat

/- Keys and signed credentials: plain words. -/
namespace Go.Proofs.YtjflmhncgkbdmaaGreat
open Go.RowKit

/-- Somebody's key. -/
structure KeyB where
  who : List UInt8
  key : List UInt8
  deriving DecidableEq, Inhabited

/-- A credential with its tag. -/
structure SignB where
  c : CredB
  tag : List UInt8
  deriving DecidableEq, Inhabited

def noSign : SignB := ⟨noCred, []⟩

/-- Has somebody a key already? -/
def hasWho (l : List KeyB) (o : List UInt8) : Bool := l.any (·.who == o)
def keySize (k : KeyB) : Bool := decide (1 ≤ k.key.length ∧ k.key.length ≤ 32)

/-- What is wrong with the key k behind the keys l (0: nothing). -/
def keyErr (l : List KeyB) (k : KeyB) : Nat := if isName k.who then (if keySize k then (if hasWho l k.who then 41 else 0) else 21) else 30

/-- The error of the first that is wrong. -/
def newGo : List KeyB → List KeyB → Nat
  | _, [] => 0
  | pre, k :: r => if keyErr pre k = 0 then newGo (pre ++ [k]) r else keyErr pre k
def newErr (l : List KeyB) : Nat := newGo [] l

theorem newGo_at : ∀ (r pre : List KeyB) (i : Nat), i ≤ r.length → (∀ j (h : j < i), (hr : j < r.length) → keyErr (pre ++ r.take j) r[j] = 0) → newGo pre r = newGo (pre ++ r.take i) (r.drop i)
  | r, pre, 0, _, _ => by simp
  | [], pre, i + 1, h, _ => by simp at h
  | k :: r, pre, i + 1, h, hj => by
    have h0 := hj 0 (by omega) (by simp)
    simp only [List.take_zero, List.append_nil, List.getElem_cons_zero] at h0
    rw [newGo, if_pos h0, newGo_at r (pre ++ [k]) i (by simpa using h) (fun j h1 h2 => by
      have := hj (j + 1) (by omega) (by simpa using h2)
      simpa using this)]
    simp

/-- Up to k nothing is wrong. -/
def okUpto (l : List KeyB) (k : Nat) : Prop := ∀ j, j < k → (h : j < l.length) → keyErr (l.take j) l[j] = 0
theorem okUpto_zero (l : List KeyB) : okUpto l 0 := fun j h => by omega
theorem okUpto_succ {l : List KeyB} {k : Nat} (h : okUpto l k) (hk : k < l.length) (h0 : keyErr (l.take k) l[k] = 0) : okUpto l (k + 1) := fun j hj hl => by
  by_cases e : j = k
  · subst e; exact h0
  · exact h j (by omega) hl
theorem newErr_bad {l : List KeyB} {k : Nat} (h : okUpto l k) (hk : k < l.length) (h0 : keyErr (l.take k) l[k] ≠ 0) : newErr l = keyErr (l.take k) l[k] := by
  rw [newErr, newGo_at l [] k (by omega) (fun j hj hl => by simpa using h j hj hl), List.nil_append, List.drop_eq_getElem_cons hk, newGo, if_neg h0]
theorem newErr_ok {l : List KeyB} (h : okUpto l l.length) : newErr l = 0 := by
  rw [newErr, newGo_at l [] l.length (Nat.le_refl _) (fun j hj hl => by simpa using h j hj hl), List.drop_length]
  rfl

/-- Whose error is none: all are right. -/
theorem newGo_ok : ∀ (r pre : List KeyB), newGo pre r = 0 → ∀ j (h : j < r.length), keyErr (pre ++ r.take j) r[j] = 0
  | [], _, _, j, h => by simp at h
  | k :: r, pre, h0, j, hj => by
    rw [newGo] at h0
    by_cases hk : keyErr pre k = 0
    · rw [if_pos hk] at h0
      cases j with
      | zero => simpa using hk
      | succ j =>
        have := newGo_ok r (pre ++ [k]) h0 j (by simpa using hj)
        simpa using this
    · rw [if_neg hk] at h0
      exact absurd h0 hk
theorem newErr_all {l : List KeyB} (h : newErr l = 0) : okUpto l l.length := fun j _ hl => by
  have := newGo_ok l [] h j hl
  simpa using this

theorem keyErr_zero {l : List KeyB} {k : KeyB} (h : keyErr l k = 0) : isName k.who = true ∧ keySize k = true ∧ hasWho l k.who = false := by
  unfold keyErr at h
  by_cases h1 : isName k.who = true
  · rw [if_pos h1] at h
    by_cases h2 : keySize k = true
    · rw [if_pos h2] at h
      by_cases h3 : hasWho l k.who = true
      · rw [if_pos h3] at h; cases h
      · exact ⟨h1, h2, by simpa using h3⟩
    · rw [if_neg h2] at h; cases h
  · rw [if_neg h1] at h; cases h

theorem reg_mem {l : List KeyB} (h : newErr l = 0) {k : KeyB} (hk : k ∈ l) : isName k.who = true ∧ 1 ≤ k.key.length ∧ k.key.length ≤ 32 := by
  obtain ⟨j, hj, rfl⟩ := List.getElem_of_mem hk
  obtain ⟨h1, h2, _⟩ := keyErr_zero (newErr_all h j hj hj)
  exact ⟨h1, (of_decide_eq_true h2).1, (of_decide_eq_true h2).2⟩

/-- The first key of somebody's. -/
def keyAt (l : List KeyB) (o : List UInt8) : Option (List UInt8) := (l.find? (·.who == o)).map (·.key)
def keyOf (l : List KeyB) (o : List UInt8) : List UInt8 := (keyAt l o).getD []
def hasKey (l : List KeyB) (o : List UInt8) : Bool := hasWho l o

theorem keyAt_none {l : List KeyB} {o : List UInt8} (h : hasWho l o = false) : keyAt l o = none := by
  rw [hasWho, List.any_eq_false] at h
  rw [keyAt, List.find?_eq_none.2 (fun x hx => by simpa using h x hx)]
  rfl

theorem keyAt_first {l : List KeyB} {o : List UInt8} {k : Nat} (hn : hasWho (l.take k) o = false) (hk : k < l.length) (he : l[k].who = o) : keyAt l o = some l[k].key ∧ hasWho l o = true := by
  have hs : l = l.take k ++ l[k] :: l.drop (k + 1) := by rw [← List.drop_eq_getElem_cons hk, List.take_append_drop]
  rw [hasWho, List.any_eq_false] at hn
  constructor
  · rw [keyAt]
    conv => lhs; rw [hs]
    rw [List.find?_append, List.find?_eq_none.2 (fun x hx => by simpa using hn x hx), Option.none_or, List.find?_cons_of_pos (by simpa using he)]
    rfl
  · rw [hasWho, List.any_eq_true]
    exact ⟨_, List.getElem_mem hk, by simpa using he⟩

theorem hasWho_take {l : List KeyB} {o : List UInt8} {k : Nat} (hk : k < l.length) (hn : hasWho (l.take k) o = false) (he : l[k].who ≠ o) : hasWho (l.take (k + 1)) o = false := by
  rw [hasWho, List.take_succ_eq_append_getElem hk, List.any_append, show (l.take k).any (·.who == o) = false from hn]
  simpa using he

/-- What Sign tells, and what it makes. -/
def signErr (l : List KeyB) (c : CredB) : Nat := if isCred c then (if hasWho l c.head.1 then 0 else 21) else 11
def signTag (l : List KeyB) (c : CredB) : List UInt8 := tagOf (keyOf l c.head.1) (credEnc c)
def signed (l : List KeyB) (c : CredB) : SignB := if signErr l c = 0 then ⟨c, signTag l c⟩ else noSign
def checkErr (l : List KeyB) (s : SignB) : Nat := if signErr l s.c = 0 then (if signTag l s.c = s.tag then 0 else 20) else signErr l s.c

/-- The credentials of those that are taken. -/
def goodC (l : List KeyB) (ss : List SignB) : List CredB := (ss.filter fun s => checkErr l s == 0).map (·.c)

theorem goodC_take (l : List KeyB) (ss : List SignB) (k : Nat) (h : k < ss.length) : goodC l (ss.take (k + 1)) = goodC l (ss.take k) ++ (if checkErr l ss[k] = 0 then [ss[k].c] else []) := by
  rw [goodC, List.take_succ_eq_append_getElem h, List.filter_append, List.map_append]
  congr 1
  by_cases h0 : checkErr l ss[k] = 0
  · rw [if_pos h0, List.filter_cons_of_pos (by simpa using h0)]; rfl
  · rw [if_neg h0, List.filter_cons_of_neg (by simpa using h0)]; rfl

/-- Right, its bytes; what any bytes are. -/
def isSign (s : SignB) : Bool := isCred s.c && decide (s.tag.length = 8)
def signBytes (s : SignB) : List UInt8 := credEnc s.c ++ encS s.tag
end Go.Proofs.YtjflmhncgkbdmaaGreat

/- The document's tape behind an error: nothing more comes; its Get of a name, told by nameOk. -/
namespace Go.Proofs.YtjflmhncgkbdmaaGreat
open Go.RowKit

theorem tnum_bad (X : Nat) (l : List UInt8) (e most : Int) (w : World) (he : e ≠ 0) (hX : TapeAt w X l e) :
    Calls Tryz.prog 85 #[.pointer (some ⟨X, 0, none⟩), .int .i64 most] w fun en w' => en = .returned (.int .i64 0) ∧ w = w' := by
  have x1 := cell_blk hX 1
  simp only [List.getElem?_toArray, List.getElem?_cons_zero, List.getElem?_cons_succ] at x1
  have z1 : (e != 0) = true := by rw [bne_iff_ne]; exact he
  clear he
  go_enter Tryz.func85, Tryz.ntmps85
  go_wp2
  go_ret
  exact ⟨rfl, rfl⟩

theorem ttext_bad (X : Nat) (l : List UInt8) (e most : Int) (w : World) (he : e ≠ 0) (hX : TapeAt w X l e) :
    Calls Tryz.prog 57 #[.pointer (some ⟨X, 0, none⟩), .int .i64 most] w fun en w' => en = .returned (.string ⟨#[]⟩) ∧ w = w' := by
  have x1 := cell_blk hX 1
  simp only [List.getElem?_toArray, List.getElem?_cons_zero, List.getElem?_cons_succ] at x1
  have z1 : (e != 0) = true := by rw [bne_iff_ne]; exact he
  have h1 := tnum_bad X l e 9223372036854775807 w he hX
  clear he
  go_enter Tryz.func57, Tryz.ntmps57
  go_wp2_with fail
  refine h1.mono ?_
  rintro en w' ⟨rfl, rfl⟩
  go_wp2
  go_ret
  exact ⟨rfl, rfl⟩

theorem nget_bad (X : Nat) (l : List UInt8) (e : Int) (w : World) (he : e ≠ 0) (hX : TapeAt w X l e) :
    Calls Tryz.prog 87 #[.pointer (some ⟨X, 0, none⟩)] w fun en w' => en = .returned (.string ⟨#[]⟩) ∧ w = w' := by
  have x1 := cell_blk hX 1
  simp only [List.getElem?_toArray, List.getElem?_cons_zero, List.getElem?_cons_succ] at x1
  have z1 : (e != 0) = true := by rw [bne_iff_ne]; exact he
  have z2 : (e == 0) = false := beq_eq_false_iff_ne.2 he
  have h1 := ttext_bad X l e 16 w he hX
  clear he
  go_enter Tryz.func87, Tryz.ntmps87
  go_wp2_with fail
  refine h1.mono ?_
  rintro en w' ⟨rfl, rfl⟩
  go_wp2
  go_ret
  exact ⟨rfl, rfl⟩

theorem nget_ok (X : Nat) (l : List UInt8) (w : World) (hl : l.length ≤ 9223372036854775807) (hX : TapeAt w X l 0) (hok : nameOk l = true) :
    Calls Tryz.prog 87 #[.pointer (some ⟨X, 0, none⟩)] w fun e w' => e = .returned (.string ⟨(nameOf l).toArray⟩) ∧ TapeAt w' X (nameRest l) 0 ∧ Chg (· = X) w w' := by
  have hok' : errText l 16 = 0 ∧ isName (nameOf l) = true := by simpa [nameOk] using hok
  refine (refget_any X l w hl hX).mono ?_
  rintro e w' (⟨_, _, rfl, h4, h5⟩ | ⟨_, h2, _⟩ | ⟨h1, _⟩)
  · exact ⟨rfl, h4, h5⟩
  · have := hok'.2
    rw [show isName (nameOf l) = false from h2] at this
    cases this
  · exact absurd hok'.1 h1

theorem nget_no (X : Nat) (l : List UInt8) (w : World) (hl : l.length ≤ 9223372036854775807) (hX : TapeAt w X l 0) (hok : nameOk l = false) :
    Calls Tryz.prog 87 #[.pointer (some ⟨X, 0, none⟩)] w fun e w' => e = .returned (.string ⟨#[]⟩) ∧ (∃ l', TapeAt w' X l' (nameBad l)) ∧ Chg (· = X) w w' := by
  refine (refget_any X l w hl hX).mono ?_
  rintro e w' (⟨h1, h2, _⟩ | ⟨h1, _, rfl, h4, h5⟩ | ⟨h1, rfl, h4, h5⟩)
  · rw [nameOk, decide_eq_true h1, show isName (nameOf l) = true from h2] at hok
    cases hok
  · exact ⟨rfl, by rw [nameBad, if_pos h1]; exact h4, h5⟩
  · exact ⟨rfl, by rw [nameBad, if_neg h1]; exact h4, h5⟩

end Go.Proofs.YtjflmhncgkbdmaaGreat

/- The contract of the document's Get of layer 4. -/
namespace Go.Proofs.YtjflmhncgkbdmaaGreat
open Go.RowKit

/-- The role that comes next, what is left behind it, the error there. -/
def roleOk (l : List UInt8) : Bool := nameOk l && nameOk (nameRest l)
def roleOf (l : List UInt8) : RoleB := (nameOf l, nameOf (nameRest l))
def roleRest (l : List UInt8) : List UInt8 := nameRest (nameRest l)
def roleBad (l : List UInt8) : Nat := if nameOk l = true then nameBad (nameRest l) else nameBad l
def roleErr (l : List UInt8) : Int := if roleOk l = true then endOf 0 (roleRest l).length else roleBad l
def roleGot (l : List UInt8) (z : RoleB) : RoleB := if roleOk l = true then roleOf l else z

theorem roleBad_ne (l : List UInt8) : ¬ ((roleBad l : Int) = 0) := by
  unfold roleBad
  split
  · exact nameBad_ne _
  · exact nameBad_ne _

theorem nameRest_len (l : List UInt8) : (nameRest l).length ≤ l.length := by
  unfold nameRest
  simp

set_option maxRecDepth 100000 in
theorem rget_ok (X : Nat) (l : List UInt8) (w : World) (hl : l.length ≤ 9223372036854775807) (hX : TapeAt w X l 0) (hok : roleOk l = true) :
    Calls Tryz.prog 86 #[.pointer (some ⟨X, 0, none⟩)] w fun e w' => e = .returned (roleV (roleOf l)) ∧ TapeAt w' X (roleRest l) 0 ∧ Chg (· = X) w w' := by
  have hok' : nameOk l = true ∧ nameOk (nameRest l) = true := by simpa [roleOk] using hok
  have hl1 := nameRest_len l
  clear hok
  go_enter Tryz.func86, Tryz.ntmps86
  have hc0 : Chg (fun _ => False) w (w.alloc (.cells #[.string ⟨#[]⟩, .string ⟨#[]⟩] 33)) := (Chg.refl _ w).alloc _
  have hC := heap_alloc_new w (.cells #[.string ⟨#[]⟩, .string ⟨#[]⟩] 33)
  have hX0 : TapeAt _ X l 0 := blk_keep hX hc0 id
  have hXC : X < w.heap.size := lt_blk hX
  go_wp2_with fail
  generalize w.alloc (.cells #[.string ⟨#[]⟩, .string ⟨#[]⟩] 33) = w1 at *
  generalize hCC : w.heap.size = C at *
  refine (nget_ok X l w1 hl hX0 hok'.1).mono ?_
  rintro e w2 ⟨rfl, hX2, hc2⟩
  have hC2 := blk_keep hC hc2 (by omega)
  go_wp2_with fail
  refine (nget_ok X (nameRest l) w2 (by omega) hX2 hok'.2).mono ?_
  rintro e w3 ⟨rfl, hX3, hc3⟩
  have hC3 := blk_keep hC2 hc3 (by omega)
  have x1 := cell_blk hX3 1
  have q0 := cell_blk hC3 0
  have q1 := cell_blk hC3 1
  have f0 := froz_blk hC3 0
  have f1 := froz_blk hC3 1
  simp only [List.getElem?_toArray, List.getElem?_cons_zero, List.getElem?_cons_succ] at x1 q0 q1
  have hcw : Chg (· = X) w w3 := ((hc0.mono (fun _ _ h => h.elim)).trans hc2 (fun _ _ h => h)).trans hc3 (fun _ _ h => h)
  have HR : Hid (roleOf l = (nameOf l, nameOf (nameRest l))) := rfl
  clear hX0 hc0 hC hX2 hc2 hC2 hc3 hok'
  generalize nameOf l = o at *
  generalize nameOf (nameRest l) = x at *
  have hs1 := setCell_chg w3 C 0 (.string ⟨o.toArray⟩)
  have hs2 := setCell_chg (w3.setCell ⟨C, 0, none⟩ (.string ⟨o.toArray⟩)) C 1 (.string ⟨x.toArray⟩)
  have hsX : TapeAt ((w3.setCell ⟨C, 0, none⟩ (.string ⟨o.toArray⟩)).setCell ⟨C, 1, none⟩ (.string ⟨x.toArray⟩)) X (nameRest (nameRest l)) 0 := blk_keep (blk_keep hX3 hs1 (by omega)) hs2 (by omega)
  have hch : Chg (· = X) w ((w3.setCell ⟨C, 0, none⟩ (.string ⟨o.toArray⟩)).setCell ⟨C, 1, none⟩ (.string ⟨x.toArray⟩)) := (hcw.trans hs1 (fun i hi h => by omega)).trans hs2 (fun i hi h => by omega)
  have hD : ((w3.setCell ⟨C, 0, none⟩ (.string ⟨o.toArray⟩)).setCell ⟨C, 1, none⟩ (.string ⟨x.toArray⟩)).heap[C]? = some (.cells #[.string ⟨o.toArray⟩, .string ⟨x.toArray⟩] 33 (0, 0)) := set_blk (set_blk hC3 0 (.string ⟨o.toArray⟩)) 1 (.string ⟨x.toArray⟩)
  have HH := hid (And.intro hD (And.intro hsX hch))
  clear hs1 hs2 hsX hch hcw hX3 hC3 hD
  go_wp2
  refine bodyPost_ret (results_cell_row (P := Tryz.prog) rfl _ _ C 33 _ (0, 0) _ rfl HH.out.1 Tryz.underlying33 rfl (by kernel_rfl)) rfl ?_
  exact ⟨by rw [HR.out]; rfl, HH.out.2.1, HH.out.2.2⟩

/-- A role of nothing. -/
def noRole : RoleB := ([], [])

set_option maxRecDepth 100000 in
theorem rget_no (X : Nat) (l : List UInt8) (w : World) (hl : l.length ≤ 9223372036854775807) (hX : TapeAt w X l 0) (hok : roleOk l = false) :
    Calls Tryz.prog 86 #[.pointer (some ⟨X, 0, none⟩)] w fun e w' => e = .returned (roleV noRole) ∧ (∃ l', TapeAt w' X l' (roleBad l)) ∧ Chg (· = X) w w' := by
  have hl1 := nameRest_len l
  go_enter Tryz.func86, Tryz.ntmps86
  have hc0 : Chg (fun _ => False) w (w.alloc (.cells #[.string ⟨#[]⟩, .string ⟨#[]⟩] 33)) := (Chg.refl _ w).alloc _
  have hC := heap_alloc_new w (.cells #[.string ⟨#[]⟩, .string ⟨#[]⟩] 33)
  have hX0 : TapeAt _ X l 0 := blk_keep hX hc0 id
  have hXC : X < w.heap.size := lt_blk hX
  go_wp2_with fail
  generalize w.alloc (.cells #[.string ⟨#[]⟩, .string ⟨#[]⟩] 33) = w1 at *
  generalize hCC : w.heap.size = C at *
  have tail : ∀ (w3 : World) (l' : List UInt8) (bad : Nat), TapeAt w3 X l' bad → w3.heap[C]? = some (.cells #[.string ⟨#[]⟩, .string ⟨#[]⟩] 33 (0, 0)) → Chg (· = X) w w3 →
      ((w3.setCell ⟨C, 0, none⟩ (.string ⟨#[]⟩)).setCell ⟨C, 1, none⟩ (.string ⟨#[]⟩)).heap[C]? = some (.cells #[.string ⟨#[]⟩, .string ⟨#[]⟩] 33 (0, 0)) ∧ (∃ l', TapeAt ((w3.setCell ⟨C, 0, none⟩ (.string ⟨#[]⟩)).setCell ⟨C, 1, none⟩ (.string ⟨#[]⟩)) X l' bad) ∧ Chg (· = X) w ((w3.setCell ⟨C, 0, none⟩ (.string ⟨#[]⟩)).setCell ⟨C, 1, none⟩ (.string ⟨#[]⟩)) := fun w3 l' bad h1 h2 h3 => by
    have hs1 := setCell_chg w3 C 0 (.string ⟨#[]⟩)
    have hs2 := setCell_chg (w3.setCell ⟨C, 0, none⟩ (.string ⟨#[]⟩)) C 1 (.string ⟨#[]⟩)
    exact ⟨set_blk (set_blk h2 0 (.string ⟨#[]⟩)) 1 (.string ⟨#[]⟩), ⟨l', blk_keep (blk_keep h1 hs1 (by omega)) hs2 (by omega)⟩, (h3.trans hs1 (fun i hi h => by omega)).trans hs2 (fun i hi h => by omega)⟩
  cases h1 : nameOk l with
  | false =>
    have hb : Hid (roleBad l = nameBad l) := hid (by rw [roleBad, if_neg (by rw [h1]; decide)])
    have hne : (nameBad l : Int) ≠ 0 := nameBad_ne l
    refine (nget_no X l w1 hl hX0 h1).mono ?_
    rintro e w2 ⟨rfl, ⟨l2, hX2⟩, hc2⟩
    rw [← hb.out] at hX2 hne
    have hC2 := blk_keep hC hc2 (by omega)
    go_wp2_with fail
    refine (nget_bad X l2 (roleBad l) w2 hne hX2).mono ?_
    rintro e w' ⟨rfl, rfl⟩
    have HH := hid (tail w2 l2 (roleBad l) hX2 hC2 ((hc0.mono (fun _ _ h => h.elim)).trans hc2 (fun _ _ h => h)))
    have x1 := cell_blk hX2 1
    have q0 := cell_blk hC2 0
    have q1 := cell_blk hC2 1
    have f0 := froz_blk hC2 0
    have f1 := froz_blk hC2 1
    have z2 : ((roleBad l : Int) != 0) = true := by rw [bne_iff_ne]; exact hne
    simp only [List.getElem?_toArray, List.getElem?_cons_zero, List.getElem?_cons_succ] at x1 q0 q1
    clear hX0 hc0 hC hX2 hc2 hC2 h1 hok hne tail
    generalize hbb : roleBad l = bad at *
    have HB := hid hbb
    clear hbb
    go_wp2
    refine bodyPost_ret (results_cell_row (P := Tryz.prog) rfl _ _ C 33 _ (0, 0) _ rfl HH.out.1 Tryz.underlying33 rfl (by kernel_rfl)) rfl ?_
    exact ⟨rfl, by rw [HB.out]; exact HH.out.2⟩
  | true =>
    have h2 : nameOk (nameRest l) = false := by simpa [roleOk, h1] using hok
    have hb : Hid (roleBad l = nameBad (nameRest l)) := hid (by rw [roleBad, if_pos h1])
    have hne : (nameBad (nameRest l) : Int) ≠ 0 := nameBad_ne _
    refine (nget_ok X l w1 hl hX0 h1).mono ?_
    rintro e w2 ⟨rfl, hX2, hc2⟩
    have hC2 := blk_keep hC hc2 (by omega)
    go_wp2_with fail
    refine (nget_no X (nameRest l) w2 (by omega) hX2 h2).mono ?_
    rintro e w3 ⟨rfl, ⟨l3, hX3⟩, hc3⟩
    rw [← hb.out] at hX3 hne
    have hC3 := blk_keep hC2 hc3 (by omega)
    have HH := hid (tail w3 l3 (roleBad l) hX3 hC3 (((hc0.mono (fun _ _ h => h.elim)).trans hc2 (fun _ _ h => h)).trans hc3 (fun _ _ h => h)))
    have x1 := cell_blk hX3 1
    have q0 := cell_blk hC3 0
    have q1 := cell_blk hC3 1
    have f0 := froz_blk hC3 0
    have f1 := froz_blk hC3 1
    have z2 : ((roleBad l : Int) != 0) = true := by rw [bne_iff_ne]; exact hne
    simp only [List.getElem?_toArray, List.getElem?_cons_zero, List.getElem?_cons_succ] at x1 q0 q1
    clear hX0 hc0 hC hX2 hc2 hC2 hX3 hc3 hC3 h1 h2 hok hne tail
    generalize hbb : roleBad l = bad at *
    have HB := hid hbb
    clear hbb
    generalize nameOf l = o at *
    go_wp2
    refine bodyPost_ret (results_cell_row (P := Tryz.prog) rfl _ _ C 33 _ (0, 0) _ rfl HH.out.1 Tryz.underlying33 rfl (by kernel_rfl)) rfl ?_
    exact ⟨rfl, by rw [HB.out]; exact HH.out.2⟩

/-- The document's Get of a role, and what End says then. -/
theorem rget_end (X : Nat) (l : List UInt8) (w : World) (hl : l.length ≤ 9223372036854775807) (hX : TapeAt w X l 0) :
    Calls Tryz.prog 86 #[.pointer (some ⟨X, 0, none⟩)] w fun e w' => e = .returned (roleV (roleGot l noRole)) ∧ (∃ l' e', TapeAt w' X l' e' ∧ tapeEnd l' e' = roleErr l) ∧ Chg (· = X) w w' := by
  cases hok : roleOk l with
  | true =>
    refine (rget_ok X l w hl hX hok).mono ?_
    rintro e w' ⟨rfl, h1, h2⟩
    exact ⟨by rw [roleGot, if_pos hok], ⟨_, _, h1, by rw [roleErr, if_pos hok]; rfl⟩, h2⟩
  | false =>
    have hne : ¬ (roleOk l = true) := by rw [hok]; decide
    refine (rget_no X l w hl hX hok).mono ?_
    rintro e w' ⟨rfl, ⟨l', h1⟩, h2⟩
    exact ⟨by rw [roleGot, if_neg hne], ⟨_, _, h1, by rw [roleErr, if_neg hne, tapeEnd, endOf, if_neg (roleBad_ne l)]⟩, h2⟩

end Go.Proofs.YtjflmhncgkbdmaaGreat

/- The contracts of the document's Right of layer 4. -/
namespace Go.Proofs.YtjflmhncgkbdmaaGreat
open Go.RowKit

theorem rright_ref (r : RoleB) (w : World) (h1 : r.1.length ≤ 9223372036854775807) (h2 : r.2.length ≤ 9223372036854775807) :
    Calls Tryz.prog 76 #[roleV r] w fun e w' => e = .returned (.bool (isRole r)) ∧ Chg (fun _ => False) w w' := by
  obtain ⟨o, x⟩ := r
  have hc : Chg (fun _ => False) w (w.alloc (.cells #[.string ⟨o.toArray⟩, .string ⟨x.toArray⟩] 33)) := (Chg.refl _ w).alloc _
  have HC := hid hc
  clear hc
  cases ho : isName o with
  | false =>
    have hh : Hid (isRole (o, x) = false) := hid (by simp [isRole, ho])
    show Calls Tryz.prog 76 #[.agg #[.string ⟨o.toArray⟩, .string ⟨x.toArray⟩]] w _
    go_enter Tryz.func76, Tryz.ntmps76
    go_wp2_with (go_at_call 32; refine (refright_any o _ h1).mono ?_; rintro e w' ⟨rfl, rfl⟩; rw [ho])
    go_ret
    exact ⟨by rw [hh.out]; rfl, HC.out⟩
  | true =>
    have hh : Hid (isRole (o, x) = isName x) := hid (by simp [isRole, ho])
    show Calls Tryz.prog 76 #[.agg #[.string ⟨o.toArray⟩, .string ⟨x.toArray⟩]] w _
    go_enter Tryz.func76, Tryz.ntmps76
    go_wp2_with fail
    refine (refright_any o _ h1).mono ?_
    rintro e w' ⟨rfl, rfl⟩
    rw [ho]
    go_wp2_with fail
    refine (refright_any x _ h2).mono ?_
    rintro e w' ⟨rfl, rfl⟩
    go_wp2
    go_ret
    exact ⟨by rw [hh.out]; rfl, HC.out⟩
end Go.Proofs.YtjflmhncgkbdmaaGreat

/- Which role a text is. -/
namespace Go.Proofs.YtjflmhncgkbdmaaGreat
open Go.RowKit

/-- The text ahead of the first full stop, and the one behind it. -/
def cutDot : List UInt8 → Option (List UInt8 × List UInt8)
  | [] => none
  | c :: l => if c.toNat = 46 then some ([], l) else (cutDot l).map fun p => (c :: p.1, p.2)
def parseR (s : List UInt8) : Option RoleB := match cutDot s with
  | none => none
  | some r => if isRole r = true then some r else none

theorem results_row_tmp {fn : Func} {p u : Tmp} {ty : TypeId} (h : fn.results = #[.cell p ty, .tmp u]) (tmps : Array Value) (w : World) (g : Nat) (cs : Array Value)
    (hp : tmps.getD p undef = .pointer (some ⟨g, 0, none⟩)) (hl : (loadVar ty ⟨g, 0, none⟩).run Tryz.prog w = .ok (.agg cs) w) :
    (results fn tmps).run Tryz.prog w = .ok (.tuple #[.agg cs, tmps.getD u undef]) w := by
  rw [results_cell_tmp h, hp]
  simp [asAddr, Result.andThen, hl]

theorem cutDot_none : ∀ (s : List UInt8), (∀ c ∈ s, c.toNat ≠ 46) → cutDot s = none
  | [], _ => rfl
  | c :: l, h => by
    rw [cutDot, if_neg (h c (by simp)), cutDot_none l (fun d hd => h d (List.mem_cons_of_mem _ hd))]
    rfl

theorem cutDot_at : ∀ (s : List UInt8) (k : Nat) (hk : k < s.length), (∀ c ∈ s.take k, c.toNat ≠ 46) → s[k].toNat = 46 → cutDot s = some (s.take k, s.drop (k + 1))
  | c :: l, 0, _, _, h => by
    have : c.toNat = 46 := h
    rw [cutDot, if_pos this]
    rfl
  | c :: l, k + 1, hk, hn, h => by
    rw [cutDot, if_neg (hn c (by simp)), cutDot_at l k (by simpa using hk) (fun d hd => hn d (by rw [List.take_succ_cons]; exact List.mem_cons_of_mem _ hd)) (by simpa using h)]
    rfl

def ParsePost (s : List UInt8) (w : World) (e : Ending) (w' : World) : Prop :=
  e = .returned (.tuple #[roleV ((parseR s).getD noRole), .bool (parseR s).isSome]) ∧ Chg (fun _ => False) w w'
end Go.Proofs.YtjflmhncgkbdmaaGreat
