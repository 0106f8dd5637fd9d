/- Texts that the proof leans on, in one: CredText, TagMath, KeyMath, TapeBad, RoleGet, RoleRef, RoleParse, BackNum, RoleBackMath, CredGet, CredOrd. -/
import Derived.Test.YtjflmhncgkbdmaaKm2
import Derived.Test.YtjflmhncgkbdmaaKm5
import Derived.Test.YtjflmhncgkbdmaaKm1
import Derived.Test.YtjflmhncgkbdmaaKm4
import Derived.Deep.QuietTactic
import Derived.BigQuiet
/- A credential's text, and its bytes; a text cut at each place where another one stands: plain words. -/
namespace Go.Proofs.Ytjflmhncgkbdmaa
open Go.RowKit

/-- What stands behind a credential's head. -/
def credBody (c : CredB) : List UInt8 :=
  if c.kind = 1 then c.who else if c.kind = 3 then roleText c.b ++ 46 :: c.w2 else if c.kind = 4 then roleText c.b ++ ([32, 38, 32] ++ roleText c.c) else roleText c.b
def credText (c : CredB) : List UInt8 := roleText c.head ++ ([32, 60, 45, 32] ++ credBody c)

/-- A text's bytes. -/
def encS (s : List UInt8) : List UInt8 := enc s.length ++ s
def credTail (c : CredB) : List UInt8 :=
  if c.kind = 1 then encS c.who else if c.kind = 3 then roleEnc c.b ++ encS c.w2 else if c.kind = 4 then roleEnc c.b ++ roleEnc c.c else roleEnc c.b
def credEnc (c : CredB) : List UInt8 := enc c.kind.toNat ++ (roleEnc c.head ++ credTail c)

/-- The bytes of a right one; none of others. -/
def credBytes (c : CredB) : List UInt8 := if isCred c then credEnc c else []

/-- The order: that of the bytes. -/
def cmpC (a b : CredB) : Int := if ltS (credBytes a) (credBytes b) then -1 else if ltS (credBytes b) (credBytes a) then 1 else 0

/-- A text, cut wherever 'at' stands; k: how many signs of such a place are still to come. -/
def splitGo (sep : List UInt8) : List UInt8 → Nat → List UInt8 → List (List UInt8)
  | [], _, acc => [acc]
  | _ :: r, k + 1, acc => splitGo sep r k acc
  | c :: r, 0, acc => if sep.isPrefixOf (c :: r) then acc :: splitGo sep r (sep.length - 1) [] else splitGo sep r 0 (acc ++ [c])
def splitL (sep s : List UInt8) : List (List UInt8) := splitGo sep s 0 []

theorem splitGo_skip (sep : List UInt8) : ∀ (k : Nat) (l acc : List UInt8), k ≤ l.length → splitGo sep l k acc = splitGo sep (l.drop k) 0 acc
  | 0, _, _, _ => rfl
  | k + 1, [], _, h => by simp at h
  | k + 1, c :: r, acc, h => by
    rw [splitGo, List.drop_succ_cons]
    exact splitGo_skip sep k r acc (by simpa using h)

theorem splitGo_at (sep l acc : List UInt8) (h0 : 0 < sep.length) (h : sep.isPrefixOf l = true) : splitGo sep l 0 acc = acc :: splitGo sep (l.drop sep.length) 0 [] := by
  match l, h with
  | [], h =>
    cases sep with
    | nil => simp at h0
    | cons a s => simp at h
  | c :: r, h =>
    have hp : sep.length ≤ (c :: r).length := by
      have := List.isPrefixOf_iff_prefix.1 h
      exact this.length_le
    rw [splitGo, if_pos h, splitGo_skip sep _ _ _ (by simp at hp; omega)]
    obtain ⟨n, hn⟩ : ∃ n, sep.length = n + 1 := ⟨sep.length - 1, by omega⟩
    rw [hn, List.drop_succ_cons]
    rfl

theorem splitGo_step (sep l acc : List UInt8) (i : Nat) (hi : i < l.length) (h : sep.isPrefixOf (l.drop i) = false) : splitGo sep (l.drop i) 0 acc = splitGo sep (l.drop (i + 1)) 0 (acc ++ [l[i]]) := by
  rw [List.drop_eq_getElem_cons hi] at h ⊢
  rw [splitGo, if_neg (by rw [h]; decide)]

theorem splitGo_len (sep : List UInt8) : ∀ (l : List UInt8) (k : Nat) (acc : List UInt8), ∀ x ∈ splitGo sep l k acc, x.length ≤ acc.length + l.length
  | [], _, acc, x, h => by
    rw [splitGo, List.mem_singleton] at h
    subst h
    omega
  | _ :: r, k + 1, acc, x, h => by
    rw [splitGo] at h
    have := splitGo_len sep r k acc x h
    rw [List.length_cons]
    omega
  | c :: r, 0, acc, x, h => by
    rw [splitGo] at h
    rw [List.length_cons]
    by_cases hp : sep.isPrefixOf (c :: r) = true
    · rw [if_pos hp] at h
      rcases List.mem_cons.1 h with rfl | h
      · omega
      · have := splitGo_len sep r (sep.length - 1) [] x h
        rw [List.length_nil] at this
        omega
    · rw [if_neg hp] at h
      have := splitGo_len sep r 0 (acc ++ [c]) x h
      rw [List.length_append, List.length_singleton] at this
      omega

theorem splitL_len {sep s x : List UInt8} (h : x ∈ splitL sep s) : x.length ≤ s.length := by
  have := splitGo_len sep s 0 [] x h
  rw [List.length_nil] at this
  omega

theorem splitGo_pos (sep : List UInt8) : ∀ (l : List UInt8) (k : Nat) (acc : List UInt8), 0 < (splitGo sep l k acc).length
  | [], _, acc => by simp [splitGo]
  | _ :: r, k + 1, acc => by rw [splitGo]; exact splitGo_pos sep r k acc
  | c :: r, 0, acc => by
    rw [splitGo]
    by_cases hp : sep.isPrefixOf (c :: r) = true
    · rw [if_pos hp]; simp
    · rw [if_neg hp]; exact splitGo_pos sep r 0 (acc ++ [c])

theorem splitL_pos (sep s : List UInt8) : 0 < (splitL sep s).length := splitGo_pos sep s 0 []
end Go.Proofs.Ytjflmhncgkbdmaa

/- Plain arithmetic of layer 2's sums and tags: nothing of the program's text. -/
namespace Go.Proofs.Ytjflmhncgkbdmaa
open Go.RowKit

def two64 : Nat := 18446744073709551616
def fnvPrime : Nat := 1099511628211
def fnvBasis : Nat := 14695981039346656037
/-- The sum behind one byte more. -/
def fnvStep (h : Nat) (x : UInt8) : Nat := (h ^^^ x.toNat) * fnvPrime % two64
def fnv (h : Nat) (l : List UInt8) : Nat := l.foldl fnvStep h
/-- The sum of bytes. -/
def sumOf (l : List UInt8) : Nat := fnv fnvBasis l

theorem foldl_snoc' {α β : Type} (f : α → β → α) (h : α) (a : List β) (x : β) : (a ++ [x]).foldl f h = f (a.foldl f h) x := by simp
theorem foldl_take' {α β : Type} (f : α → β → α) (h : α) (l : List β) (k : Nat) (hk : k < l.length) : (l.take (k + 1)).foldl f h = f ((l.take k).foldl f h) l[k] := by
  rw [List.take_succ_eq_append_getElem hk, foldl_snoc']
theorem foldl_all {α β : Type} (f : α → β → α) (p : α → Prop) (hf : ∀ a b, p (f a b)) (l : List β) : ∀ h, p h → p (l.foldl f h) := by
  induction l with
  | nil => intro h hh; exact hh
  | cons x l ih => intro h _; exact ih _ (hf h x)
theorem fnv_nil (h : Nat) : fnv h [] = h := List.foldl_nil
theorem fnv_append (h : Nat) (a b : List UInt8) : fnv h (a ++ b) = fnv (fnv h a) b := List.foldl_append
theorem fnv_take (h : Nat) (l : List UInt8) (k : Nat) (hk : k < l.length) : fnv h (l.take (k + 1)) = fnvStep (fnv h (l.take k)) l[k] := foldl_take' fnvStep h l k hk

theorem two64_pos : 0 < two64 := by unfold two64; omega
theorem fnvStep_lt (h : Nat) (x : UInt8) : fnvStep h x < two64 := by unfold fnvStep; exact Nat.mod_lt _ two64_pos
theorem fnv_lt (l : List UInt8) (h : Nat) (hh : h < two64) : fnv h l < two64 := foldl_all fnvStep (· < two64) fnvStep_lt l h hh
theorem sumOf_lt (l : List UInt8) : sumOf l < two64 := fnv_lt l _ (by unfold fnvBasis two64; omega)
theorem sumOf_lt' (l : List UInt8) : sumOf l < 18446744073709551616 := sumOf_lt l

theorem bits_xor_u64 (a b : Nat) (ha : a < two64) (hb : b < two64) : bits .xor .u64 (a : Int) (b : Int) = ((a ^^^ b : Nat) : Int) := by
  unfold two64 at ha hb
  have h1 : (BitVec.ofInt 64 (a : Int)).toNat = a := by
    rw [BitVec.ofInt_natCast, BitVec.toNat_ofNat]; exact Nat.mod_eq_of_lt (by omega)
  have h2 : (BitVec.ofInt 64 (b : Int)).toNat = b := by
    rw [BitVec.ofInt_natCast, BitVec.toNat_ofNat]; exact Nat.mod_eq_of_lt (by omega)
  have hx : a ^^^ b < 2 ^ 64 := Nat.xor_lt_two_pow (by omega) (by omega)
  show IntKind.u64.wrap ((BitVec.ofInt 64 (a : Int) ^^^ BitVec.ofInt 64 (b : Int)).toNat : Int) = _
  rw [BitVec.toNat_xor, h1, h2]
  simp [IntKind.wrap, IntKind.bits, IntKind.signed]
  omega

/-- One byte of a sum, as the code reckons it. -/
theorem fnvStep_of (h : Nat) (x : UInt8) (hh : h < two64) : bits .xor .u64 (h : Int) (x.toNat : Int) * 1099511628211 % 18446744073709551616 = ((fnvStep h x : Nat) : Int) := by
  have hx := UInt8.toNat_lt x
  rw [bits_xor_u64 h x.toNat hh (by unfold two64; omega)]
  unfold fnvStep fnvPrime two64
  generalize h ^^^ x.toNat = y
  omega

theorem fnvStep_walk (h : Nat) (x : UInt8) (hh : h < two64) : IntKind.u64.wrap (bits .xor .u64 (h : Int) (IntKind.u64.wrap (x.toNat : Int)) * 1099511628211) = ((fnvStep h x : Nat) : Int) := by
  have hx := UInt8.toNat_lt x
  have e1 : IntKind.u64.wrap (x.toNat : Int) = (x.toNat : Int) := IntWalk.u64_in _ (by omega)
  rw [e1, ← fnvStep_of h x hh]
  simp [IntKind.wrap, IntKind.bits, IntKind.signed]

/-- The eight bytes of a number, the greatest one first. -/
def bytes8 (h : Nat) : List UInt8 := (List.range 8).map fun i => UInt8.ofNat (h / 2 ^ (8 * (7 - i)) % 256)
/-- The tag of bytes with a key. -/
def tagSum (key b : List UInt8) : Nat := sumOf ([UInt8.ofNat key.length] ++ key ++ b ++ key)
theorem tagSum_lt (key b : List UInt8) : tagSum key b < 18446744073709551616 := sumOf_lt' _
def tagOf (key b : List UInt8) : List UInt8 := bytes8 (tagSum key b)

theorem byte8_int (n m : Nat) : ((n / 2 ^ m % 256 : Nat) : Int) = (n : Int) / 2 ^ m % 256 := by
  rw [Int.natCast_emod, Int.natCast_ediv, Int.natCast_pow]
  rfl
theorem bytes8_length (h : Nat) : (bytes8 h).length = 8 := by simp [bytes8]
theorem tagOf_length (key b : List UInt8) : (tagOf key b).length = 8 := bytes8_length _

end Go.Proofs.Ytjflmhncgkbdmaa

/- Keys and signed credentials: plain words. -/
namespace Go.Proofs.Ytjflmhncgkbdmaa
open Go.RowKit

/-- Somebody's key. -/
structure KeyB where
  who : List UInt8
  key : List UInt8
  deriving DecidableEq, Inhabited

/-- A credential with its tag. -/
structure SignB where
  c : CredB
  tag : List UInt8
  deriving DecidableEq, Inhabited

def noSign : SignB := ⟨noCred, []⟩

/-- Has somebody a key already? -/
def hasWho (l : List KeyB) (o : List UInt8) : Bool := l.any (·.who == o)
def keySize (k : KeyB) : Bool := decide (1 ≤ k.key.length ∧ k.key.length ≤ 32)

/-- What is wrong with the key k behind the keys l (0: nothing). -/
def keyErr (l : List KeyB) (k : KeyB) : Nat := if isName k.who then (if keySize k then (if hasWho l k.who then 41 else 0) else 21) else 30

/-- The error of the first that is wrong. -/
def newGo : List KeyB → List KeyB → Nat
  | _, [] => 0
  | pre, k :: r => if keyErr pre k = 0 then newGo (pre ++ [k]) r else keyErr pre k
def newErr (l : List KeyB) : Nat := newGo [] l

theorem newGo_at : ∀ (r pre : List KeyB) (i : Nat), i ≤ r.length → (∀ j (h : j < i), (hr : j < r.length) → keyErr (pre ++ r.take j) r[j] = 0) → newGo pre r = newGo (pre ++ r.take i) (r.drop i)
  | r, pre, 0, _, _ => by simp
  | [], pre, i + 1, h, _ => by simp at h
  | k :: r, pre, i + 1, h, hj => by
    have h0 := hj 0 (by omega) (by simp)
    simp only [List.take_zero, List.append_nil, List.getElem_cons_zero] at h0
    rw [newGo, if_pos h0, newGo_at r (pre ++ [k]) i (by simpa using h) (fun j h1 h2 => by
      have := hj (j + 1) (by omega) (by simpa using h2)
      simpa using this)]
    simp

/-- Up to k nothing is wrong. -/
def okUpto (l : List KeyB) (k : Nat) : Prop := ∀ j, j < k → (h : j < l.length) → keyErr (l.take j) l[j] = 0
theorem okUpto_zero (l : List KeyB) : okUpto l 0 := fun j h => by omega
theorem okUpto_succ {l : List KeyB} {k : Nat} (h : okUpto l k) (hk : k < l.length) (h0 : keyErr (l.take k) l[k] = 0) : okUpto l (k + 1) := fun j hj hl => by
  by_cases e : j = k
  · subst e; exact h0
  · exact h j (by omega) hl
theorem newErr_bad {l : List KeyB} {k : Nat} (h : okUpto l k) (hk : k < l.length) (h0 : keyErr (l.take k) l[k] ≠ 0) : newErr l = keyErr (l.take k) l[k] := by
  rw [newErr, newGo_at l [] k (by omega) (fun j hj hl => by simpa using h j hj hl), List.nil_append, List.drop_eq_getElem_cons hk, newGo, if_neg h0]
theorem newErr_ok {l : List KeyB} (h : okUpto l l.length) : newErr l = 0 := by
  rw [newErr, newGo_at l [] l.length (Nat.le_refl _) (fun j hj hl => by simpa using h j hj hl), List.drop_length]
  rfl

/-- Whose error is none: all are right. -/
theorem newGo_ok : ∀ (r pre : List KeyB), newGo pre r = 0 → ∀ j (h : j < r.length), keyErr (pre ++ r.take j) r[j] = 0
  | [], _, _, j, h => by simp at h
  | k :: r, pre, h0, j, hj => by
    rw [newGo] at h0
    by_cases hk : keyErr pre k = 0
    · rw [if_pos hk] at h0
      cases j with
      | zero => simpa using hk
      | succ j =>
        have := newGo_ok r (pre ++ [k]) h0 j (by simpa using hj)
        simpa using this
    · rw [if_neg hk] at h0
      exact absurd h0 hk
theorem newErr_all {l : List KeyB} (h : newErr l = 0) : okUpto l l.length := fun j _ hl => by
  have := newGo_ok l [] h j hl
  simpa using this

theorem keyErr_zero {l : List KeyB} {k : KeyB} (h : keyErr l k = 0) : isName k.who = true ∧ keySize k = true ∧ hasWho l k.who = false := by
  unfold keyErr at h
  by_cases h1 : isName k.who = true
  · rw [if_pos h1] at h
    by_cases h2 : keySize k = true
    · rw [if_pos h2] at h
      by_cases h3 : hasWho l k.who = true
      · rw [if_pos h3] at h; cases h
      · exact ⟨h1, h2, by simpa using h3⟩
    · rw [if_neg h2] at h; cases h
  · rw [if_neg h1] at h; cases h

theorem reg_mem {l : List KeyB} (h : newErr l = 0) {k : KeyB} (hk : k ∈ l) : isName k.who = true ∧ 1 ≤ k.key.length ∧ k.key.length ≤ 32 := by
  obtain ⟨j, hj, rfl⟩ := List.getElem_of_mem hk
  obtain ⟨h1, h2, _⟩ := keyErr_zero (newErr_all h j hj hj)
  exact ⟨h1, (of_decide_eq_true h2).1, (of_decide_eq_true h2).2⟩

/-- The first key of somebody's. -/
def keyAt (l : List KeyB) (o : List UInt8) : Option (List UInt8) := (l.find? (·.who == o)).map (·.key)
def keyOf (l : List KeyB) (o : List UInt8) : List UInt8 := (keyAt l o).getD []
def hasKey (l : List KeyB) (o : List UInt8) : Bool := hasWho l o

theorem keyAt_none {l : List KeyB} {o : List UInt8} (h : hasWho l o = false) : keyAt l o = none := by
  rw [hasWho, List.any_eq_false] at h
  rw [keyAt, List.find?_eq_none.2 (fun x hx => by simpa using h x hx)]
  rfl

theorem keyAt_first {l : List KeyB} {o : List UInt8} {k : Nat} (hn : hasWho (l.take k) o = false) (hk : k < l.length) (he : l[k].who = o) : keyAt l o = some l[k].key ∧ hasWho l o = true := by
  have hs : l = l.take k ++ l[k] :: l.drop (k + 1) := by rw [← List.drop_eq_getElem_cons hk, List.take_append_drop]
  rw [hasWho, List.any_eq_false] at hn
  constructor
  · rw [keyAt]
    conv => lhs; rw [hs]
    rw [List.find?_append, List.find?_eq_none.2 (fun x hx => by simpa using hn x hx), Option.none_or, List.find?_cons_of_pos (by simpa using he)]
    rfl
  · rw [hasWho, List.any_eq_true]
    exact ⟨_, List.getElem_mem hk, by simpa using he⟩

theorem hasWho_take {l : List KeyB} {o : List UInt8} {k : Nat} (hk : k < l.length) (hn : hasWho (l.take k) o = false) (he : l[k].who ≠ o) : hasWho (l.take (k + 1)) o = false := by
  rw [hasWho, List.take_succ_eq_append_getElem hk, List.any_append, show (l.take k).any (·.who == o) = false from hn]
  simpa using he

/-- What Sign tells, and what it makes. -/
def signErr (l : List KeyB) (c : CredB) : Nat := if isCred c then (if hasWho l c.head.1 then 0 else 21) else 11
def signTag (l : List KeyB) (c : CredB) : List UInt8 := tagOf (keyOf l c.head.1) (credEnc c)
def signed (l : List KeyB) (c : CredB) : SignB := if signErr l c = 0 then ⟨c, signTag l c⟩ else noSign
def checkErr (l : List KeyB) (s : SignB) : Nat := if signErr l s.c = 0 then (if signTag l s.c = s.tag then 0 else 20) else signErr l s.c

/-- The credentials of those that are taken. -/
def goodC (l : List KeyB) (ss : List SignB) : List CredB := (ss.filter fun s => checkErr l s == 0).map (·.c)

theorem goodC_take (l : List KeyB) (ss : List SignB) (k : Nat) (h : k < ss.length) : goodC l (ss.take (k + 1)) = goodC l (ss.take k) ++ (if checkErr l ss[k] = 0 then [ss[k].c] else []) := by
  rw [goodC, List.take_succ_eq_append_getElem h, List.filter_append, List.map_append]
  congr 1
  by_cases h0 : checkErr l ss[k] = 0
  · rw [if_pos h0, List.filter_cons_of_pos (by simpa using h0)]; rfl
  · rw [if_neg h0, List.filter_cons_of_neg (by simpa using h0)]; rfl

/-- Right, its bytes; what any bytes are. -/
def isSign (s : SignB) : Bool := isCred s.c && decide (s.tag.length = 8)
def signBytes (s : SignB) : List UInt8 := credEnc s.c ++ encS s.tag
end Go.Proofs.Ytjflmhncgkbdmaa

/- The document's tape behind an error: nothing more comes; its Get of a name, told by nameOk. -/
namespace Go.Proofs.Ytjflmhncgkbdmaa
open Go.RowKit

end Go.Proofs.Ytjflmhncgkbdmaa

/- The contract of the document's Get of layer 4. -/
namespace Go.Proofs.Ytjflmhncgkbdmaa
open Go.RowKit

/-- The role that comes next, what is left behind it, the error there. -/
def roleOk (l : List UInt8) : Bool := nameOk l && nameOk (nameRest l)
def roleOf (l : List UInt8) : RoleB := (nameOf l, nameOf (nameRest l))
def roleRest (l : List UInt8) : List UInt8 := nameRest (nameRest l)
def roleBad (l : List UInt8) : Nat := if nameOk l = true then nameBad (nameRest l) else nameBad l
def roleErr (l : List UInt8) : Int := if roleOk l = true then endOf 0 (roleRest l).length else roleBad l
def roleGot (l : List UInt8) (z : RoleB) : RoleB := if roleOk l = true then roleOf l else z

theorem roleBad_ne (l : List UInt8) : ¬ ((roleBad l : Int) = 0) := by
  unfold roleBad
  split
  · exact nameBad_ne _
  · exact nameBad_ne _

theorem nameRest_len (l : List UInt8) : (nameRest l).length ≤ l.length := by
  unfold nameRest
  simp

/-- A role of nothing. -/
def noRole : RoleB := ([], [])

end Go.Proofs.Ytjflmhncgkbdmaa

/- The contracts of the document's Right of layer 4. -/
namespace Go.Proofs.Ytjflmhncgkbdmaa
open Go.RowKit

end Go.Proofs.Ytjflmhncgkbdmaa

/- Which role a text is. -/
namespace Go.Proofs.Ytjflmhncgkbdmaa
open Go.RowKit

/-- The text ahead of the first full stop, and the one behind it. -/
def cutDot : List UInt8 → Option (List UInt8 × List UInt8)
  | [] => none
  | c :: l => if c.toNat = 46 then some ([], l) else (cutDot l).map fun p => (c :: p.1, p.2)
def parseR (s : List UInt8) : Option RoleB := match cutDot s with
  | none => none
  | some r => if isRole r = true then some r else none

theorem results_row_tmp {fn : Func} {p u : Tmp} {ty : TypeId} (h : fn.results = #[.cell p ty, .tmp u]) (tmps : Array Value) (w : World) (g : Nat) (cs : Array Value)
    (hp : tmps.getD p undef = .pointer (some ⟨g, 0, none⟩)) (hl : (loadVar ty ⟨g, 0, none⟩).run Try.prog w = .ok (.agg cs) w) :
    (results fn tmps).run Try.prog w = .ok (.tuple #[.agg cs, tmps.getD u undef]) w := by
  rw [results_cell_tmp h, hp]
  simp [asAddr, Result.andThen, hl]

theorem cutDot_none : ∀ (s : List UInt8), (∀ c ∈ s, c.toNat ≠ 46) → cutDot s = none
  | [], _ => rfl
  | c :: l, h => by
    rw [cutDot, if_neg (h c (by simp)), cutDot_none l (fun d hd => h d (List.mem_cons_of_mem _ hd))]
    rfl

theorem cutDot_at : ∀ (s : List UInt8) (k : Nat) (hk : k < s.length), (∀ c ∈ s.take k, c.toNat ≠ 46) → s[k].toNat = 46 → cutDot s = some (s.take k, s.drop (k + 1))
  | c :: l, 0, _, _, h => by
    have : c.toNat = 46 := h
    rw [cutDot, if_pos this]
    rfl
  | c :: l, k + 1, hk, hn, h => by
    rw [cutDot, if_neg (hn c (by simp)), cutDot_at l k (by simpa using hk) (fun d hd => hn d (by rw [List.take_succ_cons]; exact List.mem_cons_of_mem _ hd)) (by simpa using h)]
    rfl

def ParsePost (s : List UInt8) (w : World) (e : Ending) (w' : World) : Prop :=
  e = .returned (.tuple #[roleV ((parseR s).getD noRole), .bool (parseR s).isSome]) ∧ Chg (fun _ => False) w w'
end Go.Proofs.Ytjflmhncgkbdmaa

/- A number's bytes, written and read again. -/
namespace Go.Proofs.Ytjflmhncgkbdmaa
open Go.RowKit

theorem u8_eq {a b : UInt8} (h : a.toNat = b.toNat) : a = b := UInt8.toNat_inj.1 h

theorem digits_join (n m k : Nat) : n + (128 + m % 128 - 128) * 128 ^ k + m / 128 * 128 ^ (k + 1) = n + m * 128 ^ k := by
  have h1 : 128 + m % 128 - 128 = m % 128 := by omega
  have h2 : m % 128 + m / 128 * 128 = m := by omega
  rw [h1, Nat.pow_succ]
  generalize 128 ^ k = c
  have h3 : m / 128 * (c * 128) = m / 128 * 128 * c := by rw [Nat.mul_assoc, Nat.mul_comm c 128]
  rw [h3, Nat.add_assoc, ← Nat.add_mul, h2]

/-- What is written is read again. -/
theorem numN_enc : ∀ (f m k n : Nat) (r : List UInt8), (enc m).length ≤ f → (k = 0 ∨ 0 < m) → numN f (enc m ++ r) k n = (n + m * 128 ^ k, k + (enc m).length, 0)
  | 0, m, _, _, _, hf, _ => by have := enc_pos m; omega
  | f + 1, m, k, n, r, hf, hk => by
    by_cases h : m < 128
    · rw [enc_small h, List.singleton_append]
      unfold numN
      rw [ds_toNat h, if_neg (by omega), if_pos h]
      simp
    · rw [enc_big (by omega), List.cons_append]
      rw [enc_big (by omega), List.length_cons] at hf
      unfold numN
      have hm := Nat.mod_lt m (show 0 < 128 by decide)
      rw [dg_toNat, if_neg (by omega), if_neg (by omega), numN_enc f (m / 128) (k + 1) _ r (by omega) (.inr (by omega))]
      have e : n + (128 + m % 128 - 128) * 128 ^ k + m / 128 * 128 ^ (k + 1) = n + m * 128 ^ k := digits_join n m k
      rw [e, List.length_cons]
      congr 2
      omega

/-- What is read without an error was written so. -/
theorem numN_inv : ∀ (f : Nat) (l : List UInt8) (k n : Nat), (numN f l k n).2.2 = 0 →
    ∃ m, (k = 0 ∨ 0 < m) ∧ (numN f l k n).1 = n + m * 128 ^ k ∧ (numN f l k n).2.1 = k + (enc m).length ∧ l = enc m ++ l.drop (enc m).length
  | 0, _, _, _, h => by simp [numN] at h
  | _ + 1, [], _, _, h => by simp [numN] at h
  | f + 1, d :: l, k, n, h => by
    unfold numN at h ⊢
    by_cases h1 : d.toNat = 0 ∧ 0 < k
    · rw [if_pos h1] at h
      simp at h
    · rw [if_neg h1] at h ⊢
      by_cases h2 : d.toNat < 128
      · rw [if_pos h2]
        have e : enc d.toNat = [d] := by
          rw [enc_small h2]
          congr 1
          exact u8_eq (ds_toNat h2)
        refine ⟨d.toNat, by omega, rfl, ?_, ?_⟩
        · rw [e]; rfl
        · rw [e]; rfl
      · rw [if_neg h2] at h ⊢
        have hd := UInt8.toNat_lt d
        obtain ⟨m, hm, e1, e2, e3⟩ := numN_inv f l (k + 1) _ h
        have hm0 : 0 < m := by omega
        have e : enc (d.toNat - 128 + m * 128) = d :: enc m := by
          rw [enc_big (by omega)]
          have a1 : (d.toNat - 128 + m * 128) / 128 = m := by omega
          rw [a1]
          congr 1
          exact u8_eq (by rw [dg_toNat]; omega)
        refine ⟨d.toNat - 128 + m * 128, .inr (by omega), ?_, ?_, ?_⟩
        · rw [e1, Nat.add_mul, Nat.pow_succ, Nat.add_assoc, Nat.mul_assoc, Nat.mul_comm 128 (128 ^ k)]
        · rw [e2, e, List.length_cons]; omega
        · rw [e, List.length_cons, List.drop_succ_cons, List.cons_append, ← e3]

/-- A number ahead of other bytes. -/
theorem numN_enc9 {m : Nat} (h : m < 9223372036854775808) (r : List UInt8) : numN 9 (enc m ++ r) 0 0 = (m, (enc m).length, 0) := by
  rw [numN_enc 9 m 0 0 r (enc_length9 h) (.inl rfl)]
  simp

/-- The bytes that are left behind a number, and the number's. -/
theorem numN_take {l : List UInt8} (h : (numN 9 l 0 0).2.2 = 0) : l = enc (numN 9 l 0 0).1 ++ l.drop (numN 9 l 0 0).2.1 := by
  obtain ⟨m, _, e1, e2, e3⟩ := numN_inv 9 l 0 0 h
  simp only [Nat.pow_zero, Nat.mul_one, Nat.zero_add] at e1 e2
  rw [e1, e2]
  exact e3

end Go.Proofs.Ytjflmhncgkbdmaa

/- Roles put and got, told and parsed, and their order: plain words. -/
namespace Go.Proofs.Ytjflmhncgkbdmaa
open Go.RowKit

theorem cmpR_neg (a b : RoleB) : cmpR a b = -cmpR b a := by
  unfold cmpR
  rcases ltR_ord.tri a b with h | h | h
  · rw [h, ltR_ord.asymm h]; simp
  · subst h; rw [ltR_ord.irrefl]; simp
  · rw [h, ltR_ord.asymm h]; simp

theorem cmpR_bound (a b : RoleB) : -1 ≤ cmpR a b ∧ cmpR a b ≤ 1 := by
  unfold cmpR
  split
  · omega
  · split <;> omega

theorem cmpR_zero (a b : RoleB) : (cmpR a b == 0) = eqR a b := by
  unfold cmpR eqR
  rcases ltR_ord.tri a b with h | h | h
  · have hne : a ≠ b := fun e => by subst e; rw [ltR_ord.irrefl] at h; cases h
    rw [h]
    have : (a == b) = false := by simpa using hne
    rw [this]; rfl
  · subst h; rw [ltR_ord.irrefl]; simp
  · have hne : a ≠ b := fun e => by subst e; rw [ltR_ord.irrefl] at h; cases h
    rw [h, ltR_ord.asymm h]
    have : (a == b) = false := by simpa using hne
    rw [this]; rfl

theorem cmpR_le (a b : RoleB) : cmpR a b ≤ 0 ↔ ltR b a = false := by
  unfold cmpR
  cases h : ltR a b with
  | true => rw [ltR_ord.asymm h]; simp
  | false =>
    cases h2 : ltR b a with
    | true => simp
    | false => simp

theorem cmpR_trans (a b c : RoleB) (h1 : cmpR a b ≤ 0) (h2 : cmpR b c ≤ 0) : cmpR a c ≤ 0 := by
  rw [cmpR_le] at *
  cases h : ltR c a with
  | false => rfl
  | true =>
    rcases ltR_ord.tri a b with k | k | k
    · have := ltR_ord.trans _ _ _ h k; rw [h2] at this; cases this
    · subst k; rw [h] at h2; cases h2
    · rw [k] at h1; cases h1

theorem name_nodot {s : List UInt8} (h : isName s = true) : ∀ c ∈ s, c.toNat ≠ 46 := by
  cases s with
  | nil => intro c hc; cases hc
  | cons d l =>
    simp only [isName, Bool.and_eq_true] at h
    intro c hc he
    have := List.all_eq_true.1 h.2 c hc
    rcases okByte_yes this with k | k | k <;> omega

theorem cutDot_app : ∀ (o x : List UInt8), (∀ c ∈ o, c.toNat ≠ 46) → cutDot (o ++ (46 :: x)) = some (o, x)
  | [], x, _ => by rw [List.nil_append, cutDot, if_pos (by decide)]
  | c :: l, x, h => by
    rw [List.cons_append, cutDot, if_neg (h c (by simp)), cutDot_app l x (fun d hd => h d (List.mem_cons_of_mem _ hd))]
    rfl

theorem parse_text {r : RoleB} (h : isRole r = true) : parseR (roleText r) = some r := by
  have hn : isName r.1 = true := by simp only [isRole, Bool.and_eq_true] at h; exact h.1
  rw [parseR, roleText, cutDot_app r.1 r.2 (name_nodot hn)]
  exact if_pos h

theorem name_enc {o : List UInt8} (h : isName o = true) (x : List UInt8) : nameOk ((enc o.length ++ o) ++ x) = true ∧ nameOf ((enc o.length ++ o) ++ x) = o ∧ nameRest ((enc o.length ++ o) ++ x) = x := by
  have hl := isName_len h
  have hN := numN_enc9 (m := o.length) (by omega) (o ++ x)
  rw [← List.append_assoc] at hN
  have h1 : errText ((enc o.length ++ o) ++ x) 16 = 0 := by
    unfold errText
    rw [hN]
    simp only [if_true, List.length_append]
    rw [if_neg (by omega), if_neg (by omega)]
  have h2 : nameOf ((enc o.length ++ o) ++ x) = o := by
    unfold nameOf
    rw [hN]
    simp
  refine ⟨by rw [nameOk, decide_eq_true h1, h2, h]; rfl, h2, ?_⟩
  unfold nameRest
  rw [hN, List.append_assoc, ← List.drop_drop]
  simp

theorem role_put_got {r : RoleB} (h : isRole r = true) : roleErr (roleEnc r) = 0 ∧ roleGot (roleEnc r) noRole = r := by
  have hn : isName r.1 = true ∧ isName r.2 = true := by simpa [isRole] using h
  obtain ⟨a1, a2, a3⟩ := name_enc hn.1 (enc r.2.length ++ r.2)
  obtain ⟨b1, b2, b3⟩ := name_enc hn.2 []
  rw [List.append_nil] at b1 b2 b3
  have hok : roleOk (roleEnc r) = true := by rw [roleOk, roleEnc, a1, a3, b1]; rfl
  have hof : roleOf (roleEnc r) = r := by rw [roleOf, roleEnc, a2, a3, b2]
  have hrs : roleRest (roleEnc r) = [] := by rw [roleRest, roleEnc, a3, b3]
  exact ⟨by rw [roleErr, if_pos hok, hrs]; rfl, by rw [roleGot, if_pos hok, hof]⟩
end Go.Proofs.Ytjflmhncgkbdmaa

/- Which credential any bytes are, and the error; what is put is got: plain words. -/
namespace Go.Proofs.Ytjflmhncgkbdmaa
open Go.RowKit

/-- What comes next: an error, or a credential and what is left. -/
inductive GetC where
  | bad (e : Nat)
  | ok (c : CredB) (rest : List UInt8)

def numBad (l : List UInt8) : Nat := (numN 9 l 0 0).2.2
def numOf (l : List UInt8) : Nat := (numN 9 l 0 0).1
def numRest (l : List UInt8) : List UInt8 := l.drop (numN 9 l 0 0).2.1

/-- The last part, and whether it is right as a whole. -/
def getEnd (c : CredB) (l : List UInt8) : GetC := if isCred c then .ok c l else .bad 11
def getWord (c : CredB) (l : List UInt8) : GetC := if nameOk l then getEnd { c with w2 := nameOf l } (nameRest l) else .bad (nameBad l)
def getC (c : CredB) (l : List UInt8) : GetC := if roleOk l then getEnd { c with c := roleOf l } (roleRest l) else .bad (roleBad l)
def getB (c : CredB) (l : List UInt8) : GetC :=
  if roleOk l then (if c.kind = 3 then getWord { c with b := roleOf l } (roleRest l) else if c.kind = 4 then getC { c with b := roleOf l } (roleRest l) else getEnd { c with b := roleOf l } (roleRest l)) else .bad (roleBad l)
def getWho (c : CredB) (l : List UInt8) : GetC := if nameOk l then getEnd { c with who := nameOf l } (nameRest l) else .bad (nameBad l)
def getHead (k : Int) (l : List UInt8) : GetC :=
  if roleOk l then (if k = 1 then getWho { noCred with kind := k, head := roleOf l } (roleRest l) else getB { noCred with kind := k, head := roleOf l } (roleRest l)) else .bad (roleBad l)
def credGet (l : List UInt8) : GetC :=
  if numBad l = 0 then (if 1 ≤ numOf l ∧ numOf l ≤ 4 then getHead (numOf l : Nat) (numRest l) else .bad 11) else .bad (numBad l)

/-- How Read ends, and what was got. -/
def credErr (l : List UInt8) : Int := match credGet l with
  | .bad e => e
  | .ok _ rest => endOf 0 rest.length
def credGot (l : List UInt8) (z : CredB) : CredB := match credGet l with
  | .bad _ => z
  | .ok c _ => c

theorem role_enc {r : RoleB} (h : isRole r = true) (x : List UInt8) : roleOk (roleEnc r ++ x) = true ∧ roleOf (roleEnc r ++ x) = r ∧ roleRest (roleEnc r ++ x) = x := by
  have hn : isName r.1 = true ∧ isName r.2 = true := by simpa [isRole] using h
  obtain ⟨a1, a2, a3⟩ := name_enc hn.1 ((enc r.2.length ++ r.2) ++ x)
  obtain ⟨b1, b2, b3⟩ := name_enc hn.2 x
  have e : roleEnc r ++ x = (enc r.1.length ++ r.1) ++ ((enc r.2.length ++ r.2) ++ x) := by rw [roleEnc, List.append_assoc]
  rw [e]
  exact ⟨by rw [roleOk, a1, a3, b1]; rfl, by rw [roleOf, a2, a3, b2], by rw [roleRest, a3, b3]⟩

/-- A right credential's kind. -/
theorem isCred_kind {c : CredB} (h : isCred c = true) : c.kind = 1 ∨ c.kind = 2 ∨ c.kind = 3 ∨ c.kind = 4 := by
  unfold isCred at h
  by_cases h1 : c.kind = 1
  · exact .inl h1
  · by_cases h2 : c.kind = 2
    · exact .inr (.inl h2)
    · by_cases h3 : c.kind = 3
      · exact .inr (.inr (.inl h3))
      · rw [if_neg h1, if_neg h2, if_neg h3] at h
        simp only [Bool.and_eq_true, beq_iff_eq] at h
        exact .inr (.inr (.inr h.2.2.1))

theorem isCred_head {c : CredB} (h : isCred c = true) : isRole c.head = true := by
  unfold isCred at h
  simp only [Bool.and_eq_true] at h
  exact h.1

theorem isCred_one {c : CredB} (h : isCred c = true) (k : c.kind = 1) : isName c.who = true ∧ c.b = noneR ∧ c.c = noneR ∧ c.w2 = [] := by
  unfold isCred at h
  rw [if_pos k] at h
  simp only [Bool.and_eq_true, beq_iff_eq] at h
  exact h.2

theorem isCred_two {c : CredB} (h : isCred c = true) (k : c.kind = 2) : c.who = [] ∧ isRole c.b = true ∧ c.c = noneR ∧ c.w2 = [] := by
  unfold isCred at h
  rw [if_neg (by omega), if_pos k] at h
  simp only [Bool.and_eq_true, beq_iff_eq] at h
  exact ⟨h.2.1.1, h.2.1.2, h.2.2⟩

theorem isCred_three {c : CredB} (h : isCred c = true) (k : c.kind = 3) : c.who = [] ∧ isRole c.b = true ∧ c.c = noneR ∧ c.b.1 = c.head.1 ∧ isName c.w2 = true := by
  unfold isCred at h
  rw [if_neg (by omega), if_neg (by omega), if_pos k] at h
  simp only [Bool.and_eq_true, beq_iff_eq] at h
  exact ⟨h.2.1.1, h.2.1.2, h.2.2⟩

theorem isCred_four {c : CredB} (h : isCred c = true) (k : c.kind = 4) : c.who = [] ∧ isRole c.b = true ∧ c.w2 = [] ∧ isRole c.c = true ∧ ltR c.b c.c = true := by
  unfold isCred at h
  rw [if_neg (by omega), if_neg (by omega), if_neg (by omega)] at h
  simp only [Bool.and_eq_true, beq_iff_eq] at h
  exact ⟨h.2.1.1, h.2.1.2, h.2.2.2⟩

theorem num_enc {m : Nat} (h : m < 9223372036854775808) (x : List UInt8) : numBad (enc m ++ x) = 0 ∧ numOf (enc m ++ x) = m ∧ numRest (enc m ++ x) = x := by
  have hN := numN_enc9 h x
  exact ⟨by rw [numBad, hN], by rw [numOf, hN], by rw [numRest, hN]; simp⟩

/-- What has bytes is got. -/
theorem credGet_enc {c : CredB} (h : isCred c = true) (x : List UInt8) : credGet (credEnc c ++ x) = .ok c x := by
  have hk := isCred_kind h
  have hh := isCred_head h
  obtain ⟨k, hd, who, b, cc, w2⟩ := c
  dsimp only at hk hh
  have e : credEnc ⟨k, hd, who, b, cc, w2⟩ ++ x = enc k.toNat ++ (roleEnc hd ++ (credTail ⟨k, hd, who, b, cc, w2⟩ ++ x)) := by
    simp only [credEnc, List.append_assoc]
  obtain ⟨n1, n2, n3⟩ := num_enc (m := k.toNat) (by omega) (roleEnc hd ++ (credTail ⟨k, hd, who, b, cc, w2⟩ ++ x))
  obtain ⟨r1, r2, r3⟩ := role_enc hh (credTail ⟨k, hd, who, b, cc, w2⟩ ++ x)
  have hkk : ((k.toNat : Nat) : Int) = k := by omega
  rw [e, credGet, if_pos n1, n2, n3, if_pos (by omega), getHead, if_pos r1, r2, r3, hkk]
  rcases hk with k1 | k1 | k1 | k1
  · obtain ⟨a1, a2, a3, a4⟩ := isCred_one h k1
    dsimp only at a1 a2 a3 a4
    subst k1 a2 a3 a4
    obtain ⟨m1, m2, m3⟩ := name_enc a1 x
    rw [if_pos rfl, show credTail ⟨1, hd, who, noneR, noneR, []⟩ = enc who.length ++ who from rfl, getWho, if_pos m1, m2, m3, getEnd]
    exact if_pos h
  · obtain ⟨a1, a2, a3, a4⟩ := isCred_two h k1
    dsimp only at a1 a2 a3 a4
    subst k1 a1 a3 a4
    obtain ⟨m1, m2, m3⟩ := role_enc a2 x
    rw [if_neg (by decide), show credTail ⟨2, hd, [], b, noneR, []⟩ = roleEnc b from rfl, getB, if_pos m1, m2, m3]
    rw [if_neg (show ¬ (2 : Int) = 3 by decide), if_neg (show ¬ (2 : Int) = 4 by decide), getEnd]
    exact if_pos h
  · obtain ⟨a1, a2, a3, a4, a5⟩ := isCred_three h k1
    dsimp only at a1 a2 a3 a4 a5
    subst k1 a1 a3
    obtain ⟨m1, m2, m3⟩ := role_enc a2 (encS w2 ++ x)
    obtain ⟨q1, q2, q3⟩ := name_enc a5 x
    rw [if_neg (by decide), show credTail ⟨3, hd, [], b, noneR, w2⟩ = roleEnc b ++ encS w2 from rfl, List.append_assoc, getB, if_pos m1, m2, m3]
    rw [if_pos rfl, encS, getWord, if_pos q1, q2, q3, getEnd]
    exact if_pos h
  · obtain ⟨a1, a2, a3, a4, a5⟩ := isCred_four h k1
    dsimp only at a1 a2 a3 a4 a5
    subst k1 a1 a3
    obtain ⟨m1, m2, m3⟩ := role_enc a2 (roleEnc cc ++ x)
    obtain ⟨q1, q2, q3⟩ := role_enc a4 x
    rw [if_neg (by decide), show credTail ⟨4, hd, [], b, cc, []⟩ = roleEnc b ++ roleEnc cc from rfl, List.append_assoc, getB, if_pos m1, m2, m3]
    rw [if_neg (show ¬ (4 : Int) = 3 by decide), if_pos rfl, getC, if_pos q1, q2, q3, getEnd]
    exact if_pos h

theorem credEnc_inj {a b : CredB} (ha : isCred a = true) (hb : isCred b = true) (h : credEnc a = credEnc b) : a = b := by
  have h1 := credGet_enc ha []
  have h2 := credGet_enc hb []
  rw [h, h2] at h1
  cases h1
  rfl

theorem credEnc_ne (c : CredB) : credEnc c ≠ [] := by
  unfold credEnc
  have := enc_pos c.kind.toNat
  intro h
  have h2 := congrArg List.length h
  rw [List.length_append] at h2
  simp only [List.length_nil] at h2
  omega

/-- Two that compare as one are one, if they are right. -/
theorem cmpC_zero {a b : CredB} (ha : isCred a = true) (hb : isCred b = true) : cmpC a b = 0 ↔ a = b := by
  unfold cmpC credBytes
  rw [if_pos ha, if_pos hb]
  constructor
  · intro h
    rcases ltS_ord.tri (credEnc a) (credEnc b) with k | k | k
    · rw [if_pos k] at h; cases h
    · exact credEnc_inj ha hb k
    · have k2 := ltS_ord.asymm k
      rw [if_neg (by rw [k2]; decide), if_pos k] at h; cases h
  · rintro rfl
    have := ltS_ord.irrefl (credEnc a)
    rw [this]
    rfl

theorem cmpC_neg (a b : CredB) : cmpC a b = -cmpC b a := by
  unfold cmpC
  rcases ltS_ord.tri (credBytes a) (credBytes b) with k | k | k
  · rw [if_pos k, if_neg (by rw [ltS_ord.asymm k]; decide), if_pos k]
  · rw [k, ltS_ord.irrefl]; rfl
  · rw [if_neg (by rw [ltS_ord.asymm k]; decide), if_pos k, if_pos k]; rfl
end Go.Proofs.Ytjflmhncgkbdmaa

/- The order of credentials, made whole: by their bytes, then by their fields; sets of right ones: plain words. -/
namespace Go.Proofs.Ytjflmhncgkbdmaa
open Go.RowKit

theorem Ord.comap {α β : Type} {lt : β → β → Bool} (o : Ord lt) (f : α → β) (hf : ∀ a b, f a = f b → a = b) : Ord (fun a b => lt (f a) (f b)) where
  irrefl a := o.irrefl (f a)
  trans a b c h1 h2 := o.trans _ _ _ h1 h2
  tri a b := by
    rcases o.tri (f a) (f b) with h | h | h
    · exact .inl h
    · exact .inr (.inl (hf a b h))
    · exact .inr (.inr h)

def ltI (a b : Int) : Bool := decide (a < b)
theorem ltI_ord : Ord ltI where
  irrefl a := by simp [ltI]
  trans a b c h1 h2 := by simp only [ltI, decide_eq_true_eq] at *; omega
  tri a b := by simp only [ltI, decide_eq_true_eq]; omega

/-- Bytes first, then each field. -/
def credKey (c : CredB) : List UInt8 × (Int × (RoleB × (List UInt8 × (RoleB × (RoleB × List UInt8))))) := (credBytes c, (c.kind, (c.head, (c.who, (c.b, (c.c, c.w2))))))
def ltKey : (List UInt8 × (Int × (RoleB × (List UInt8 × (RoleB × (RoleB × List UInt8)))))) → (List UInt8 × (Int × (RoleB × (List UInt8 × (RoleB × (RoleB × List UInt8)))))) → Bool :=
  lexLt ltS (lexLt ltI (lexLt ltR (lexLt ltS (lexLt ltR (lexLt ltR ltS)))))
theorem ltKey_ord : Ord ltKey := lexLt_ord ltS_ord (lexLt_ord ltI_ord (lexLt_ord ltR_ord (lexLt_ord ltS_ord (lexLt_ord ltR_ord (lexLt_ord ltR_ord ltS_ord)))))
theorem credKey_inj (a b : CredB) (h : credKey a = credKey b) : a = b := by
  obtain ⟨k, hd, who, b1, c1, w2⟩ := a
  obtain ⟨k', hd', who', b1', c1', w2'⟩ := b
  simp only [credKey, Prod.mk.injEq] at h
  obtain ⟨_, h1, h2, h3, h4, h5, h6⟩ := h
  subst h1 h2 h3 h4 h5 h6
  rfl

def ltC (a b : CredB) : Bool := ltKey (credKey a) (credKey b)
theorem ltC_ord : Ord ltC := ltKey_ord.comap credKey credKey_inj
def SetC (ls out : List CredB) : Prop := SetG ltC isCred ls out
theorem SetC.one {ls a b : List CredB} (ha : SetC ls a) (hb : SetC ls b) : a = b := SetG.one ltC_ord ha hb

/-- Of right ones it is the bytes' order. -/
theorem ltC_right {a b : CredB} (ha : isCred a = true) (hb : isCred b = true) : ltC a b = ltS (credBytes a) (credBytes b) := by
  cases h : ltS (credBytes a) (credBytes b) with
  | true => simp [ltC, ltKey, lexLt, credKey, h]
  | false =>
    rcases ltC_ord.tri a b with k | k | k
    · rw [k]
      simp only [ltC, ltKey, credKey] at k
      rw [lexLt, Bool.or_eq_true, Bool.and_eq_true, beq_iff_eq] at k
      rcases k with k | ⟨k1, k2⟩
      · rw [show ltS (credBytes a) (credBytes b) = true from k] at h; cases h
      · have e : a = b := by
          unfold credBytes at k1
          simp only [ha, hb, if_true] at k1
          exact credEnc_inj ha hb k1
        subst e
        have := ltC_ord.irrefl a
        have h3 : ltC a a = true := by
          simp only [ltC, ltKey, credKey]
          rw [lexLt, Bool.or_eq_true, Bool.and_eq_true, beq_iff_eq]
          exact .inr ⟨rfl, k2⟩
        rw [this] at h3
        cases h3
    · subst k; exact ltC_ord.irrefl a
    · exact ltC_ord.asymm k

theorem cmpC_lt {a b : CredB} (ha : isCred a = true) (hb : isCred b = true) : decide (cmpC a b < 0) = ltC a b := by
  rw [ltC_right ha hb]
  unfold cmpC
  cases h : ltS (credBytes a) (credBytes b) with
  | true => simp
  | false => cases h2 : ltS (credBytes b) (credBytes a) <;> simp
end Go.Proofs.Ytjflmhncgkbdmaa
