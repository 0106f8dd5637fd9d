/- Texts that the proof leans on, in one: RoleBackMath, CredGet, CredOrd, ModelMath, RoleOwn, CredOwn, FactCells, RoleEqL, RefFIn, RefFStep, DrewN, RefSameS. -/
import Derived.Test.YtanompfdjfgfbaaGreatMb3
import Derived.Test.YtanompfdjfgfbaaGreatMb1
import Derived.Maps.AppendAt
import Derived.Test.YtanompfdjfgfbaaGreatMb2
import Derived.Deep.QuietTactic
import Derived.BigQuiet
/- Roles put and got, told and parsed, and their order: plain words. -/
namespace Go.Proofs.YtanompfdjfgfbaaGreat
open Go.RowKit

theorem cmpR_neg (a b : RoleB) : cmpR a b = -cmpR b a := by
  unfold cmpR
  rcases ltR_ord.tri a b with h | h | h
  · rw [h, ltR_ord.asymm h]; simp
  · subst h; rw [ltR_ord.irrefl]; simp
  · rw [h, ltR_ord.asymm h]; simp

theorem cmpR_bound (a b : RoleB) : -1 ≤ cmpR a b ∧ cmpR a b ≤ 1 := by
  unfold cmpR
  split
  · omega
  · split <;> omega

theorem cmpR_zero (a b : RoleB) : (cmpR a b == 0) = eqR a b := by
  unfold cmpR eqR
  rcases ltR_ord.tri a b with h | h | h
  · have hne : a ≠ b := fun e => by subst e; rw [ltR_ord.irrefl] at h; cases h
    rw [h]
    have : (a == b) = false := by simpa using hne
    rw [this]; rfl
  · subst h; rw [ltR_ord.irrefl]; simp
  · have hne : a ≠ b := fun e => by subst e; rw [ltR_ord.irrefl] at h; cases h
    rw [h, ltR_ord.asymm h]
    have : (a == b) = false := by simpa using hne
    rw [this]; rfl

theorem cmpR_le (a b : RoleB) : cmpR a b ≤ 0 ↔ ltR b a = false := by
  unfold cmpR
  cases h : ltR a b with
  | true => rw [ltR_ord.asymm h]; simp
  | false =>
    cases h2 : ltR b a with
    | true => simp
    | false => simp

theorem cmpR_trans (a b c : RoleB) (h1 : cmpR a b ≤ 0) (h2 : cmpR b c ≤ 0) : cmpR a c ≤ 0 := by
  rw [cmpR_le] at *
  cases h : ltR c a with
  | false => rfl
  | true =>
    rcases ltR_ord.tri a b with k | k | k
    · have := ltR_ord.trans _ _ _ h k; rw [h2] at this; cases this
    · subst k; rw [h] at h2; cases h2
    · rw [k] at h1; cases h1

theorem name_nodot {s : List UInt8} (h : isName s = true) : ∀ c ∈ s, c.toNat ≠ 46 := by
  cases s with
  | nil => intro c hc; cases hc
  | cons d l =>
    simp only [isName, Bool.and_eq_true] at h
    intro c hc he
    have := List.all_eq_true.1 h.2 c hc
    rcases okByte_yes this with k | k | k <;> omega

theorem cutDot_app : ∀ (o x : List UInt8), (∀ c ∈ o, c.toNat ≠ 46) → cutDot (o ++ (46 :: x)) = some (o, x)
  | [], x, _ => by rw [List.nil_append, cutDot, if_pos (by decide)]
  | c :: l, x, h => by
    rw [List.cons_append, cutDot, if_neg (h c (by simp)), cutDot_app l x (fun d hd => h d (List.mem_cons_of_mem _ hd))]
    rfl

theorem parse_text {r : RoleB} (h : isRole r = true) : parseR (roleText r) = some r := by
  have hn : isName r.1 = true := by simp only [isRole, Bool.and_eq_true] at h; exact h.1
  rw [parseR, roleText, cutDot_app r.1 r.2 (name_nodot hn)]
  exact if_pos h

theorem name_enc {o : List UInt8} (h : isName o = true) (x : List UInt8) : nameOk ((enc o.length ++ o) ++ x) = true ∧ nameOf ((enc o.length ++ o) ++ x) = o ∧ nameRest ((enc o.length ++ o) ++ x) = x := by
  have hl := isName_len h
  have hN := numN_enc9 (m := o.length) (by omega) (o ++ x)
  rw [← List.append_assoc] at hN
  have h1 : errText ((enc o.length ++ o) ++ x) 16 = 0 := by
    unfold errText
    rw [hN]
    simp only [if_true, List.length_append]
    rw [if_neg (by omega), if_neg (by omega)]
  have h2 : nameOf ((enc o.length ++ o) ++ x) = o := by
    unfold nameOf
    rw [hN]
    simp
  refine ⟨by rw [nameOk, decide_eq_true h1, h2, h]; rfl, h2, ?_⟩
  unfold nameRest
  rw [hN, List.append_assoc, ← List.drop_drop]
  simp

theorem role_put_got {r : RoleB} (h : isRole r = true) : roleErr (roleEnc r) = 0 ∧ roleGot (roleEnc r) noRole = r := by
  have hn : isName r.1 = true ∧ isName r.2 = true := by simpa [isRole] using h
  obtain ⟨a1, a2, a3⟩ := name_enc hn.1 (enc r.2.length ++ r.2)
  obtain ⟨b1, b2, b3⟩ := name_enc hn.2 []
  rw [List.append_nil] at b1 b2 b3
  have hok : roleOk (roleEnc r) = true := by rw [roleOk, roleEnc, a1, a3, b1]; rfl
  have hof : roleOf (roleEnc r) = r := by rw [roleOf, roleEnc, a2, a3, b2]
  have hrs : roleRest (roleEnc r) = [] := by rw [roleRest, roleEnc, a3, b3]
  exact ⟨by rw [roleErr, if_pos hok, hrs]; rfl, by rw [roleGot, if_pos hok, hof]⟩
end Go.Proofs.YtanompfdjfgfbaaGreat

/- Which credential any bytes are, and the error; what is put is got: plain words. -/
namespace Go.Proofs.YtanompfdjfgfbaaGreat
open Go.RowKit

/-- What comes next: an error, or a credential and what is left. -/
inductive GetC where
  | bad (e : Nat)
  | ok (c : CredB) (rest : List UInt8)

def numBad (l : List UInt8) : Nat := (numN 9 l 0 0).2.2
def numOf (l : List UInt8) : Nat := (numN 9 l 0 0).1
def numRest (l : List UInt8) : List UInt8 := l.drop (numN 9 l 0 0).2.1

/-- The last part, and whether it is right as a whole. -/
def getEnd (c : CredB) (l : List UInt8) : GetC := if isCred c then .ok c l else .bad 11
def getWord (c : CredB) (l : List UInt8) : GetC := if nameOk l then getEnd { c with w2 := nameOf l } (nameRest l) else .bad (nameBad l)
def getC (c : CredB) (l : List UInt8) : GetC := if roleOk l then getEnd { c with c := roleOf l } (roleRest l) else .bad (roleBad l)
def getB (c : CredB) (l : List UInt8) : GetC :=
  if roleOk l then (if c.kind = 3 then getWord { c with b := roleOf l } (roleRest l) else if c.kind = 4 then getC { c with b := roleOf l } (roleRest l) else getEnd { c with b := roleOf l } (roleRest l)) else .bad (roleBad l)
def getWho (c : CredB) (l : List UInt8) : GetC := if nameOk l then getEnd { c with who := nameOf l } (nameRest l) else .bad (nameBad l)
def getHead (k : Int) (l : List UInt8) : GetC :=
  if roleOk l then (if k = 1 then getWho { noCred with kind := k, head := roleOf l } (roleRest l) else getB { noCred with kind := k, head := roleOf l } (roleRest l)) else .bad (roleBad l)
def credGet (l : List UInt8) : GetC :=
  if numBad l = 0 then (if 1 ≤ numOf l ∧ numOf l ≤ 4 then getHead (numOf l : Nat) (numRest l) else .bad 11) else .bad (numBad l)

/-- How Read ends, and what was got. -/
def credErr (l : List UInt8) : Int := match credGet l with
  | .bad e => e
  | .ok _ rest => endOf 0 rest.length
def credGot (l : List UInt8) (z : CredB) : CredB := match credGet l with
  | .bad _ => z
  | .ok c _ => c

theorem role_enc {r : RoleB} (h : isRole r = true) (x : List UInt8) : roleOk (roleEnc r ++ x) = true ∧ roleOf (roleEnc r ++ x) = r ∧ roleRest (roleEnc r ++ x) = x := by
  have hn : isName r.1 = true ∧ isName r.2 = true := by simpa [isRole] using h
  obtain ⟨a1, a2, a3⟩ := name_enc hn.1 ((enc r.2.length ++ r.2) ++ x)
  obtain ⟨b1, b2, b3⟩ := name_enc hn.2 x
  have e : roleEnc r ++ x = (enc r.1.length ++ r.1) ++ ((enc r.2.length ++ r.2) ++ x) := by rw [roleEnc, List.append_assoc]
  rw [e]
  exact ⟨by rw [roleOk, a1, a3, b1]; rfl, by rw [roleOf, a2, a3, b2], by rw [roleRest, a3, b3]⟩

/-- A right credential's kind. -/
theorem isCred_kind {c : CredB} (h : isCred c = true) : c.kind = 1 ∨ c.kind = 2 ∨ c.kind = 3 ∨ c.kind = 4 := by
  unfold isCred at h
  by_cases h1 : c.kind = 1
  · exact .inl h1
  · by_cases h2 : c.kind = 2
    · exact .inr (.inl h2)
    · by_cases h3 : c.kind = 3
      · exact .inr (.inr (.inl h3))
      · rw [if_neg h1, if_neg h2, if_neg h3] at h
        simp only [Bool.and_eq_true, beq_iff_eq] at h
        exact .inr (.inr (.inr h.2.2.1))

theorem isCred_head {c : CredB} (h : isCred c = true) : isRole c.head = true := by
  unfold isCred at h
  simp only [Bool.and_eq_true] at h
  exact h.1

theorem isCred_one {c : CredB} (h : isCred c = true) (k : c.kind = 1) : isName c.who = true ∧ c.b = noneR ∧ c.c = noneR ∧ c.w2 = [] := by
  unfold isCred at h
  rw [if_pos k] at h
  simp only [Bool.and_eq_true, beq_iff_eq] at h
  exact h.2

theorem isCred_two {c : CredB} (h : isCred c = true) (k : c.kind = 2) : c.who = [] ∧ isRole c.b = true ∧ c.c = noneR ∧ c.w2 = [] := by
  unfold isCred at h
  rw [if_neg (by omega), if_pos k] at h
  simp only [Bool.and_eq_true, beq_iff_eq] at h
  exact ⟨h.2.1.1, h.2.1.2, h.2.2⟩

theorem isCred_three {c : CredB} (h : isCred c = true) (k : c.kind = 3) : c.who = [] ∧ isRole c.b = true ∧ c.c = noneR ∧ c.b.1 = c.head.1 ∧ isName c.w2 = true := by
  unfold isCred at h
  rw [if_neg (by omega), if_neg (by omega), if_pos k] at h
  simp only [Bool.and_eq_true, beq_iff_eq] at h
  exact ⟨h.2.1.1, h.2.1.2, h.2.2⟩

theorem isCred_four {c : CredB} (h : isCred c = true) (k : c.kind = 4) : c.who = [] ∧ isRole c.b = true ∧ c.w2 = [] ∧ isRole c.c = true ∧ ltR c.b c.c = true := by
  unfold isCred at h
  rw [if_neg (by omega), if_neg (by omega), if_neg (by omega)] at h
  simp only [Bool.and_eq_true, beq_iff_eq] at h
  exact ⟨h.2.1.1, h.2.1.2, h.2.2.2⟩

theorem num_enc {m : Nat} (h : m < 9223372036854775808) (x : List UInt8) : numBad (enc m ++ x) = 0 ∧ numOf (enc m ++ x) = m ∧ numRest (enc m ++ x) = x := by
  have hN := numN_enc9 h x
  exact ⟨by rw [numBad, hN], by rw [numOf, hN], by rw [numRest, hN]; simp⟩

/-- What has bytes is got. -/
theorem credGet_enc {c : CredB} (h : isCred c = true) (x : List UInt8) : credGet (credEnc c ++ x) = .ok c x := by
  have hk := isCred_kind h
  have hh := isCred_head h
  obtain ⟨k, hd, who, b, cc, w2⟩ := c
  dsimp only at hk hh
  have e : credEnc ⟨k, hd, who, b, cc, w2⟩ ++ x = enc k.toNat ++ (roleEnc hd ++ (credTail ⟨k, hd, who, b, cc, w2⟩ ++ x)) := by
    simp only [credEnc, List.append_assoc]
  obtain ⟨n1, n2, n3⟩ := num_enc (m := k.toNat) (by omega) (roleEnc hd ++ (credTail ⟨k, hd, who, b, cc, w2⟩ ++ x))
  obtain ⟨r1, r2, r3⟩ := role_enc hh (credTail ⟨k, hd, who, b, cc, w2⟩ ++ x)
  have hkk : ((k.toNat : Nat) : Int) = k := by omega
  rw [e, credGet, if_pos n1, n2, n3, if_pos (by omega), getHead, if_pos r1, r2, r3, hkk]
  rcases hk with k1 | k1 | k1 | k1
  · obtain ⟨a1, a2, a3, a4⟩ := isCred_one h k1
    dsimp only at a1 a2 a3 a4
    subst k1 a2 a3 a4
    obtain ⟨m1, m2, m3⟩ := name_enc a1 x
    rw [if_pos rfl, show credTail ⟨1, hd, who, noneR, noneR, []⟩ = enc who.length ++ who from rfl, getWho, if_pos m1, m2, m3, getEnd]
    exact if_pos h
  · obtain ⟨a1, a2, a3, a4⟩ := isCred_two h k1
    dsimp only at a1 a2 a3 a4
    subst k1 a1 a3 a4
    obtain ⟨m1, m2, m3⟩ := role_enc a2 x
    rw [if_neg (by decide), show credTail ⟨2, hd, [], b, noneR, []⟩ = roleEnc b from rfl, getB, if_pos m1, m2, m3]
    rw [if_neg (show ¬ (2 : Int) = 3 by decide), if_neg (show ¬ (2 : Int) = 4 by decide), getEnd]
    exact if_pos h
  · obtain ⟨a1, a2, a3, a4, a5⟩ := isCred_three h k1
    dsimp only at a1 a2 a3 a4 a5
    subst k1 a1 a3
    obtain ⟨m1, m2, m3⟩ := role_enc a2 (encS w2 ++ x)
    obtain ⟨q1, q2, q3⟩ := name_enc a5 x
    rw [if_neg (by decide), show credTail ⟨3, hd, [], b, noneR, w2⟩ = roleEnc b ++ encS w2 from rfl, List.append_assoc, getB, if_pos m1, m2, m3]
    rw [if_pos rfl, encS, getWord, if_pos q1, q2, q3, getEnd]
    exact if_pos h
  · obtain ⟨a1, a2, a3, a4, a5⟩ := isCred_four h k1
    dsimp only at a1 a2 a3 a4 a5
    subst k1 a1 a3
    obtain ⟨m1, m2, m3⟩ := role_enc a2 (roleEnc cc ++ x)
    obtain ⟨q1, q2, q3⟩ := role_enc a4 x
    rw [if_neg (by decide), show credTail ⟨4, hd, [], b, cc, []⟩ = roleEnc b ++ roleEnc cc from rfl, List.append_assoc, getB, if_pos m1, m2, m3]
    rw [if_neg (show ¬ (4 : Int) = 3 by decide), if_pos rfl, getC, if_pos q1, q2, q3, getEnd]
    exact if_pos h

theorem credEnc_inj {a b : CredB} (ha : isCred a = true) (hb : isCred b = true) (h : credEnc a = credEnc b) : a = b := by
  have h1 := credGet_enc ha []
  have h2 := credGet_enc hb []
  rw [h, h2] at h1
  cases h1
  rfl

theorem credEnc_ne (c : CredB) : credEnc c ≠ [] := by
  unfold credEnc
  have := enc_pos c.kind.toNat
  intro h
  have h2 := congrArg List.length h
  rw [List.length_append] at h2
  simp only [List.length_nil] at h2
  omega

/-- Two that compare as one are one, if they are right. -/
theorem cmpC_zero {a b : CredB} (ha : isCred a = true) (hb : isCred b = true) : cmpC a b = 0 ↔ a = b := by
  unfold cmpC credBytes
  rw [if_pos ha, if_pos hb]
  constructor
  · intro h
    rcases ltS_ord.tri (credEnc a) (credEnc b) with k | k | k
    · rw [if_pos k] at h; cases h
    · exact credEnc_inj ha hb k
    · have k2 := ltS_ord.asymm k
      rw [if_neg (by rw [k2]; decide), if_pos k] at h; cases h
  · rintro rfl
    have := ltS_ord.irrefl (credEnc a)
    rw [this]
    rfl

theorem cmpC_neg (a b : CredB) : cmpC a b = -cmpC b a := by
  unfold cmpC
  rcases ltS_ord.tri (credBytes a) (credBytes b) with k | k | k
  · rw [if_pos k, if_neg (by rw [ltS_ord.asymm k]; decide), if_pos k]
  · rw [k, ltS_ord.irrefl]; rfl
  · rw [if_neg (by rw [ltS_ord.asymm k]; decide), if_pos k, if_pos k]; rfl
end Go.Proofs.YtanompfdjfgfbaaGreat

/- The order of credentials, made whole: by their bytes, then by their fields; sets of right ones: plain words. -/
namespace Go.Proofs.YtanompfdjfgfbaaGreat
open Go.RowKit

theorem Ord.comap {α β : Type} {lt : β → β → Bool} (o : Ord lt) (f : α → β) (hf : ∀ a b, f a = f b → a = b) : Ord (fun a b => lt (f a) (f b)) where
  irrefl a := o.irrefl (f a)
  trans a b c h1 h2 := o.trans _ _ _ h1 h2
  tri a b := by
    rcases o.tri (f a) (f b) with h | h | h
    · exact .inl h
    · exact .inr (.inl (hf a b h))
    · exact .inr (.inr h)

def ltI (a b : Int) : Bool := decide (a < b)
theorem ltI_ord : Ord ltI where
  irrefl a := by simp [ltI]
  trans a b c h1 h2 := by simp only [ltI, decide_eq_true_eq] at *; omega
  tri a b := by simp only [ltI, decide_eq_true_eq]; omega

/-- Bytes first, then each field. -/
def credKey (c : CredB) : List UInt8 × (Int × (RoleB × (List UInt8 × (RoleB × (RoleB × List UInt8))))) := (credBytes c, (c.kind, (c.head, (c.who, (c.b, (c.c, c.w2))))))
def ltKey : (List UInt8 × (Int × (RoleB × (List UInt8 × (RoleB × (RoleB × List UInt8)))))) → (List UInt8 × (Int × (RoleB × (List UInt8 × (RoleB × (RoleB × List UInt8)))))) → Bool :=
  lexLt ltS (lexLt ltI (lexLt ltR (lexLt ltS (lexLt ltR (lexLt ltR ltS)))))
theorem ltKey_ord : Ord ltKey := lexLt_ord ltS_ord (lexLt_ord ltI_ord (lexLt_ord ltR_ord (lexLt_ord ltS_ord (lexLt_ord ltR_ord (lexLt_ord ltR_ord ltS_ord)))))
theorem credKey_inj (a b : CredB) (h : credKey a = credKey b) : a = b := by
  obtain ⟨k, hd, who, b1, c1, w2⟩ := a
  obtain ⟨k', hd', who', b1', c1', w2'⟩ := b
  simp only [credKey, Prod.mk.injEq] at h
  obtain ⟨_, h1, h2, h3, h4, h5, h6⟩ := h
  subst h1 h2 h3 h4 h5 h6
  rfl

def ltC (a b : CredB) : Bool := ltKey (credKey a) (credKey b)
theorem ltC_ord : Ord ltC := ltKey_ord.comap credKey credKey_inj
def SetC (ls out : List CredB) : Prop := SetG ltC isCred ls out
theorem SetC.one {ls a b : List CredB} (ha : SetC ls a) (hb : SetC ls b) : a = b := SetG.one ltC_ord ha hb

/-- Of right ones it is the bytes' order. -/
theorem ltC_right {a b : CredB} (ha : isCred a = true) (hb : isCred b = true) : ltC a b = ltS (credBytes a) (credBytes b) := by
  cases h : ltS (credBytes a) (credBytes b) with
  | true => simp [ltC, ltKey, lexLt, credKey, h]
  | false =>
    rcases ltC_ord.tri a b with k | k | k
    · rw [k]
      simp only [ltC, ltKey, credKey] at k
      rw [lexLt, Bool.or_eq_true, Bool.and_eq_true, beq_iff_eq] at k
      rcases k with k | ⟨k1, k2⟩
      · rw [show ltS (credBytes a) (credBytes b) = true from k] at h; cases h
      · have e : a = b := by
          unfold credBytes at k1
          simp only [ha, hb, if_true] at k1
          exact credEnc_inj ha hb k1
        subst e
        have := ltC_ord.irrefl a
        have h3 : ltC a a = true := by
          simp only [ltC, ltKey, credKey]
          rw [lexLt, Bool.or_eq_true, Bool.and_eq_true, beq_iff_eq]
          exact .inr ⟨rfl, k2⟩
        rw [this] at h3
        cases h3
    · subst k; exact ltC_ord.irrefl a
    · exact ltC_ord.asymm k

theorem cmpC_lt {a b : CredB} (ha : isCred a = true) (hb : isCred b = true) : decide (cmpC a b < 0) = ltC a b := by
  rw [ltC_right ha hb]
  unfold cmpC
  cases h : ltS (credBytes a) (credBytes b) with
  | true => simp
  | false => cases h2 : ltS (credBytes b) (credBytes a) <;> simp
end Go.Proofs.YtanompfdjfgfbaaGreat

/- The least model of credentials: plain words, nothing of the program's text. -/
namespace Go.Proofs.YtanompfdjfgfbaaGreat
open Go.RowKit

/-- Somebody is in a role. -/
abbrev FactB := RoleB × List UInt8
def ltF (a b : FactB) : Bool := lexLt ltR ltS a b
theorem ltF_ord : Ord ltF := lexLt_ord ltR_ord ltS_ord

/-- What follows from credentials. -/
inductive Der (ls : List CredB) : FactB → Prop
  | mem {c : CredB} : c ∈ ls → isCred c = true → c.kind = 1 → Der ls (c.head, c.who)
  | inc {c : CredB} {w : List UInt8} : c ∈ ls → isCred c = true → c.kind = 2 → Der ls (c.b, w) → Der ls (c.head, w)
  | link {c : CredB} {b w : List UInt8} : c ∈ ls → isCred c = true → c.kind = 3 → Der ls (c.b, b) → Der ls ((b, c.w2), w) → Der ls (c.head, w)
  | both {c : CredB} {w : List UInt8} : c ∈ ls → isCred c = true → c.kind = 4 → Der ls (c.b, w) → Der ls (c.c, w) → Der ls (c.head, w)

theorem Der.mono {ls ls' : List CredB} (h : ∀ c ∈ ls, isCred c = true → c ∈ ls') : ∀ {f : FactB}, Der ls f → Der ls' f := by
  intro f hf
  induction hf with
  | mem hc hr hk => exact .mem (h _ hc hr) hr hk
  | inc hc hr hk _ ih => exact .inc (h _ hc hr) hr hk ih
  | link hc hr hk _ _ ih1 ih2 => exact .link (h _ hc hr) hr hk ih1 ih2
  | both hc hr hk _ _ ih1 ih2 => exact .both (h _ hc hr) hr hk ih1 ih2

theorem der_set {ls out : List CredB} (h : SetC ls out) {f : FactB} : Der out f ↔ Der ls f :=
  ⟨Der.mono (fun c hc _ => ((h.2 c).1 hc).1), Der.mono (fun c hc hr => (h.2 c).2 ⟨hc, hr⟩)⟩

/-- xs are the facts of the least model of ls, in order. -/
def ModelOf (ls : List CredB) (xs : List FactB) : Prop := RisingG ltF xs ∧ ∀ f, f ∈ xs ↔ Der ls f

theorem ModelOf.one {ls : List CredB} {a b : List FactB} (ha : ModelOf ls a) (hb : ModelOf ls b) : a = b :=
  ha.1.ext ltF_ord hb.1 fun x => (ha.2 x).trans (hb.2 x).symm

theorem ModelOf.of_same {ls ls' : List CredB} {a : List FactB} (ha : ModelOf ls a) (h : ∀ f, Der ls f ↔ Der ls' f) : ModelOf ls' a := ⟨ha.1, fun f => (ha.2 f).trans (h f)⟩

/-- Who may be in a role at all: the Members' names. -/
theorem Der.who {ls : List CredB} {f : FactB} (h : Der ls f) : ∃ c ∈ ls, isCred c = true ∧ c.kind = 1 ∧ c.who = f.2 := by
  induction h with
  | mem hc hr hk => exact ⟨_, hc, hr, hk, rfl⟩
  | inc _ _ _ _ ih => exact ih
  | link _ _ _ _ _ _ ih2 => exact ih2
  | both _ _ _ _ _ ih1 _ => exact ih1

theorem Der.head {ls : List CredB} {f : FactB} (h : Der ls f) : ∃ c ∈ ls, isCred c = true ∧ c.head = f.1 := by
  cases h with
  | mem hc hr _ => exact ⟨_, hc, hr, rfl⟩
  | inc hc hr _ _ => exact ⟨_, hc, hr, rfl⟩
  | link hc hr _ _ _ => exact ⟨_, hc, hr, rfl⟩
  | both hc hr _ _ _ => exact ⟨_, hc, hr, rfl⟩

theorem isCred_member {c : CredB} (h : isCred c = true) (hk : c.kind = 1) : isName c.who = true := by
  unfold isCred at h
  simp [hk] at h
  exact h.2.1

/-- Is a fact among facts? -/
def inF (xs : List FactB) (r : RoleB) (w : List UInt8) : Bool := xs.any (fun f => f.1 == r && f.2 == w)
theorem inF_iff {xs : List FactB} {r : RoleB} {w : List UInt8} : inF xs r w = true ↔ (r, w) ∈ xs := by
  unfold inF
  rw [List.any_eq_true]
  constructor
  · rintro ⟨f, hf, h⟩
    simp only [Bool.and_eq_true, beq_iff_eq] at h
    rw [← h.1, ← h.2]
    exact hf
  · intro h
    exact ⟨_, h, by simp⟩

/-- Does a credential bring somebody by one step? -/
def stepF (xs : List FactB) (c : CredB) (names : List (List UInt8)) (w : List UInt8) : Bool :=
  if c.kind = 1 then c.who == w else if c.kind = 2 then inF xs c.b w else if c.kind = 4 then inF xs c.b w && inF xs c.c w else names.any (fun b => inF xs c.b b && inF xs (b, c.w2) w)

theorem stepF_der {ls : List CredB} {xs : List FactB} (hx : ∀ f ∈ xs, Der ls f) {c : CredB} (hc : c ∈ ls) (hr : isCred c = true) {names : List (List UInt8)} {w : List UInt8} (h : stepF xs c names w = true) : Der ls (c.head, w) := by
  unfold stepF at h
  rcases isCred_kind hr with k | k | k | k
  · rw [if_pos k] at h
    rw [← beq_iff_eq.1 h]
    exact .mem hc hr k
  · rw [if_neg (by omega), if_pos k] at h
    exact .inc hc hr k (hx _ (inF_iff.1 h))
  · rw [if_neg (by omega), if_neg (by omega), if_neg (by omega), List.any_eq_true] at h
    obtain ⟨b, _, hb⟩ := h
    simp only [Bool.and_eq_true] at hb
    exact .link hc hr k (hx _ (inF_iff.1 hb.1)) (hx _ (inF_iff.1 hb.2))
  · rw [if_neg (by omega), if_neg (by omega), if_pos k] at h
    simp only [Bool.and_eq_true] at h
    exact .both hc hr k (hx _ (inF_iff.1 h.1)) (hx _ (inF_iff.1 h.2))

/-- Nothing comes by one step any more: all is there. -/
theorem closed_der {ls : List CredB} {xs : List FactB} {names : List (List UInt8)} (hn : ∀ c ∈ ls, isCred c = true → c.kind = 1 → c.who ∈ names)
    (hcl : ∀ c ∈ ls, isCred c = true → ∀ w ∈ names, inF xs c.head w = true ∨ stepF xs c names w = false) {f : FactB} (h : Der ls f) : f ∈ xs := by
  have hwho : ∀ {f : FactB}, Der ls f → f.2 ∈ names := fun h => by
    obtain ⟨c, hc, hr, hk, he⟩ := h.who
    rw [← he]
    exact hn c hc hr hk
  have key : ∀ {c : CredB} {w : List UInt8}, c ∈ ls → isCred c = true → w ∈ names → stepF xs c names w = true → (c.head, w) ∈ xs := fun hc hr hw hs => by
    rcases hcl _ hc hr _ hw with h1 | h1
    · exact inF_iff.1 h1
    · rw [hs] at h1; cases h1
  induction h with
  | mem hc hr hk =>
    refine key hc hr (hn _ hc hr hk) ?_
    unfold stepF
    rw [if_pos hk]
    exact beq_iff_eq.2 rfl
  | inc hc hr hk h1 ih =>
    refine key hc hr (hwho h1) ?_
    unfold stepF
    rw [if_neg (by omega), if_pos hk]
    exact inF_iff.2 ih
  | link hc hr hk h1 h2 ih1 ih2 =>
    refine key hc hr (hwho h2) ?_
    unfold stepF
    rw [if_neg (by omega), if_neg (by omega), if_neg (by omega), List.any_eq_true]
    exact ⟨_, hwho h1, by simp only [Bool.and_eq_true]; exact ⟨inF_iff.2 ih1, inF_iff.2 ih2⟩⟩
  | both hc hr hk h1 h2 ih1 ih2 =>
    refine key hc hr (hwho h1) ?_
    unfold stepF
    rw [if_neg (by omega), if_neg (by omega), if_pos hk]
    simp only [Bool.and_eq_true]
    exact ⟨inF_iff.2 ih1, inF_iff.2 ih2⟩

/-- The names of credentials. -/
def whosOf (ls : List CredB) : List (List UInt8) := ls.flatMap (fun c => [c.who, c.head.1, c.b.1, c.c.1])
theorem whosOf_snoc (ls : List CredB) (c : CredB) : whosOf (ls ++ [c]) = whosOf ls ++ [c.who, c.head.1, c.b.1, c.c.1] := by simp [whosOf]
theorem whosOf_len (ls : List CredB) : (whosOf ls).length = ls.length * 4 := by
  unfold whosOf
  induction ls with
  | nil => rfl
  | cons x l ih => rw [List.flatMap_cons, List.length_append, ih, List.length_cons]; simp; omega
theorem whosOf_who {ls : List CredB} {c : CredB} (h : c ∈ ls) : c.who ∈ whosOf ls := by
  unfold whosOf
  rw [List.mem_flatMap]
  exact ⟨c, h, by simp⟩

/-- Pairs of heads and names: no more facts than these. -/
def pairsF (rs : List RoleB) (ns : List (List UInt8)) : List FactB := rs.flatMap (fun r => ns.map (fun n => (r, n)))
theorem pairsF_len (rs : List RoleB) (ns : List (List UInt8)) : (pairsF rs ns).length = rs.length * ns.length := by
  unfold pairsF
  induction rs with
  | nil => simp
  | cons x l ih => rw [List.flatMap_cons, List.length_append, ih, List.length_map, List.length_cons, Nat.add_mul]; omega
theorem facts_le {rs : List RoleB} {ns : List (List UInt8)} {xs : List FactB} (hd : xs.Nodup) (h : ∀ f ∈ xs, f.1 ∈ rs ∧ f.2 ∈ ns) : xs.length ≤ rs.length * ns.length := by
  rw [← pairsF_len]
  refine nodup_lengthG _ _ hd fun f hf => ?_
  unfold pairsF
  rw [List.mem_flatMap]
  exact ⟨f.1, (h f hf).1, List.mem_map.2 ⟨f.2, (h f hf).2, rfl⟩⟩

/-- What is so between two rounds of the document's way: some of what follows, each once. -/
def PartM (ls : List CredB) (xs : List FactB) : Prop := xs.Nodup ∧ ∀ f ∈ xs, Der ls f

theorem PartM.nil (ls : List CredB) : PartM ls [] := ⟨List.nodup_nil, fun _ h => (by cases h)⟩
theorem PartM.snoc {ls : List CredB} {xs : List FactB} (h : PartM ls xs) {f : FactB} (hf : Der ls f) (hn : f ∉ xs) : PartM ls (xs ++ [f]) := by
  refine ⟨List.nodup_append.2 ⟨h.1, by simp, fun a ha b hb => ?_⟩, fun g hg => ?_⟩
  · rw [List.mem_singleton] at hb
    subst hb
    intro e
    subst e
    exact hn ha
  · rcases List.mem_append.1 hg with hg | hg
    · exact h.2 g hg
    · rw [List.mem_singleton] at hg; rw [hg]; exact hf

/-- Sorted, they are the model. -/
theorem PartM.model {ls : List CredB} {xs ys : List FactB} (h : PartM ls xs) (hall : ∀ f, Der ls f → f ∈ xs) (hs : SetG ltF (fun _ => true) xs ys) : ModelOf ls ys :=
  ⟨hs.1, fun f => ((hs.2 f).trans ⟨fun h => h.1, fun h => ⟨h, rfl⟩⟩).trans ⟨h.2 f, hall f⟩⟩

/-- Of a role, of somebody. -/
def membersF (xs : List FactB) (r : RoleB) : List (List UInt8) := (xs.filter (fun f => f.1 == r)).map (·.2)
def rolesF (xs : List FactB) (w : List UInt8) : List RoleB := (xs.filter (fun f => f.2 == w)).map (·.1)
end Go.Proofs.YtanompfdjfgfbaaGreat

/- Lists of roles of the call's own. -/
namespace Go.Proofs.YtanompfdjfgfbaaGreat
open Go.RowKit

theorem Tryz.info24 : (Tryz.prog.info? 24).map (fun i => (i.zero, i.size, i.bytes)) = some (some (.agg #[.string ⟨#[]⟩, .string ⟨#[]⟩]), 2, 32) := by kernel_rfl

theorem ownsRow_keep {S : Nat → Prop} {B E n s : Nat} {w w' : World} {v : Value} {xs : List Value} (h : w.ownsRow B E s v n xs) (hc : Chg S w w') (hr : ∀ k, v.ownBlock = some k → ¬ S k) : w'.ownsRow B E s v n xs := by
  refine ⟨h.1, ?_⟩
  rcases h.2 with hn | ⟨g, cap, cur, hv, hg, hh, r⟩
  · exact .inl hn
  · exact .inr ⟨g, cap, cur, hv, hg, blk_keep hh hc (hr g (by rw [hv]; rfl)), r⟩

theorem ownsRow_lt {B E n s : Nat} {w : World} {v : Value} {xs : List Value} (h : w.ownsRow B E s v n xs) (k : Nat) (hk : v.ownBlock = some k) : B ≤ k ∧ k < w.heap.size := by
  rcases h.2 with ⟨hn, _⟩ | ⟨g, cap, cur, hv, hg, hh, r⟩
  · rw [hn] at hk; cases hk
  · rw [hv] at hk; cases hk; exact ⟨hg, lt_blk hh⟩

def roleRow (ls : List RoleB) : List Value := ls.flatMap roleCells

theorem roleRow_length (ls : List RoleB) : (roleRow ls).length = ls.length * 2 := by
  induction ls with
  | nil => rfl
  | cons x l ih => simp only [roleRow, List.flatMap_cons, List.length_append, List.length_cons] at ih ⊢; rw [ih]; simp [roleCells]; omega

theorem roleRow_get : ∀ (ls : List RoleB) (i : Nat) (h : i < ls.length), (roleRow ls)[i * 2]? = some (.string ⟨ls[i].1.toArray⟩) ∧ (roleRow ls)[i * 2 + 1]? = some (.string ⟨ls[i].2.toArray⟩)
  | x :: l, 0, _ => ⟨rfl, rfl⟩
  | x :: l, i + 1, h => by
    have := roleRow_get l i (by simpa using h)
    have e : roleRow (x :: l) = .string ⟨x.1.toArray⟩ :: .string ⟨x.2.toArray⟩ :: roleRow l := rfl
    rw [e, show (i + 1) * 2 = i * 2 + 1 + 1 by omega]
    exact this

theorem roleRow_snoc (ls : List RoleB) (x : RoleB) : roleRow (ls ++ [x]) = roleRow ls ++ roleCells x := by
  simp [roleRow]

/-- A list of roles of the call's own. -/
def OwnR (B : Nat) (w : World) (v : Value) (ls : List RoleB) : Prop := w.ownsRow B 24 2 v ls.length (roleRow ls)

theorem OwnR.roles {B : Nat} {w : World} {v : Value} {ls : List RoleB} (h : OwnR B w v ls) (hb : ∀ x ∈ ls, x.1.length ≤ 9223372036854775807 ∧ x.2.length ≤ 9223372036854775807) :
    ∃ ao cap, v = .slice ao ls.length cap ∧ RolesAt (fun k => B ≤ k ∧ k < w.heap.size) w ao ls ∧ (ao = none → cap = 0) := by
  rcases h.2 with ⟨rfl, h0⟩ | ⟨g, cap, cur, rfl, hg, hh, h1, h2, h3, h4⟩
  · have : ls = [] := List.eq_nil_of_length_eq_zero h0
    subst this
    exact ⟨none, 0, rfl, RolesAt.nil _ _ _, fun _ => rfl⟩
  · refine ⟨_, _, rfl, fun i hi => ⟨g, 0, rfl, ⟨hg, lt_blk hh⟩, ?_, ?_, hb _ (List.getElem_mem hi)⟩, fun e => by cases e⟩
    · have := h.cells (g := g) rfl (i * 2) _ (roleRow_get ls i hi).1
      rw [add_off] at this
      exact this
    · have := h.cells (g := g) rfl (i * 2 + 1) _ (roleRow_get ls i hi).2
      rw [add_off] at this
      exact this

theorem OwnR.shape {B : Nat} {w : World} {v : Value} {ls : List RoleB} (h : OwnR B w v ls) : ∃ ao cap, v = .slice ao ls.length cap := by
  rcases h.2 with ⟨rfl, h0⟩ | ⟨g, cap, cur, rfl, _⟩
  · exact ⟨none, 0, by rw [h0]⟩
  · exact ⟨_, _, rfl⟩

theorem OwnR.keep {S : Nat → Prop} {B : Nat} {w w' : World} {v : Value} {ls : List RoleB} (h : OwnR B w v ls) (hc : Chg S w w') (hr : ∀ k, v.ownBlock = some k → ¬ S k) : OwnR B w' v ls := ownsRow_keep h hc hr

theorem role_cells_new (w : World) (x : RoleB) (j : Nat) (u : Value) (h : (roleCells x)[j]? = some u) : (w.alloc (.cells #[.string ⟨x.1.toArray⟩, .string ⟨x.2.toArray⟩] 24)).cell? ((⟨w.heap.size, 0, none⟩ : Addr).add j) = some u := by
  rw [add_off, cell_blk (heap_alloc_new w _), Nat.zero_add]
  match j, h with
  | 0, h => exact h
  | 1, h => exact h

/-- What Set leaves: the set, in new memory. -/
def SetPostR (ls : List RoleB) (w : World) (e : Ending) (w' : World) : Prop :=
  ∃ out ao cap, e = .returned (.slice ao out.length cap) ∧ SetR ls out ∧ RolesAt (fun k => w.heap.size ≤ k ∧ k < w'.heap.size) w' ao out ∧ Chg (fun _ => False) w w' ∧ (ao = none → cap = 0)

def lenOfV : Value → Nat
  | .slice _ n _ => n
  | _ => 0

theorem roles_lit (ls : List RoleB) (w : World) (f : Nat × Nat) (hb : ∀ x ∈ ls, x.1.length ≤ 9223372036854775807 ∧ x.2.length ≤ 9223372036854775807) :
    RolesAt (fun k => k = w.heap.size) (w.alloc (.cells (roleRow ls).toArray 24 f)) (some ⟨w.heap.size, 0, none⟩) ls := fun i hi =>
  ⟨w.heap.size, 0, rfl, rfl, by rw [cell_blk (heap_alloc_new w _), Nat.zero_add, List.getElem?_toArray]; exact (roleRow_get ls i hi).1, by rw [cell_blk (heap_alloc_new w _), Nat.zero_add, List.getElem?_toArray]; exact (roleRow_get ls i hi).2, hb _ (List.getElem_mem hi)⟩
end Go.Proofs.YtanompfdjfgfbaaGreat

/- Lists of credentials of the call's own. -/
namespace Go.Proofs.YtanompfdjfgfbaaGreat
open Go.RowKit

theorem Tryz.info47 : (Tryz.prog.info? 47).map (fun i => (i.zero, i.size, i.bytes)) = some (some (.agg #[.int .i64 0, .string ⟨#[]⟩, .string ⟨#[]⟩, .string ⟨#[]⟩, .string ⟨#[]⟩, .string ⟨#[]⟩, .string ⟨#[]⟩, .string ⟨#[]⟩, .string ⟨#[]⟩]), 9, 136) := by kernel_rfl

def credRow (ls : List CredB) : List Value := ls.flatMap credCells

theorem credRow_length (ls : List CredB) : (credRow ls).length = ls.length * 9 := by
  induction ls with
  | nil => rfl
  | cons x l ih => simp only [credRow, List.flatMap_cons, List.length_append, List.length_cons] at ih ⊢; rw [ih]; simp [credCells]; omega

theorem credRow_get : ∀ (ls : List CredB) (i j : Nat) (h : i < ls.length) (_ : j < 9), (credRow ls)[i * 9 + j]? = (credCells ls[i])[j]?
  | x :: l, 0, j, _, hj => by
    rw [show 0 * 9 + j = j by omega, credRow, List.flatMap_cons, List.getElem?_append_left (by simpa [credCells] using hj)]
    rfl
  | x :: l, i + 1, j, h, hj => by
    have := credRow_get l i j (by simpa using h) hj
    rw [credRow, List.flatMap_cons, List.getElem?_append_right (by simp [credCells]; omega)]
    rw [show (i + 1) * 9 + j - (credCells x).length = i * 9 + j by simp [credCells]; omega]
    exact this

theorem credRow_snoc (ls : List CredB) (x : CredB) : credRow (ls ++ [x]) = credRow ls ++ credCells x := by
  simp [credRow]

/-- A list of credentials of the call's own. -/
def OwnC (B : Nat) (w : World) (v : Value) (ls : List CredB) : Prop := w.ownsRow B 47 9 v ls.length (credRow ls)

theorem cred_at_cells {w : World} {g o : Nat} {c : CredB} (h : ∀ j, j < 9 → w.cell? ⟨g, o + j, none⟩ = (credCells c)[j]?) : CredAt w g o c :=
  ⟨h 0 (by omega), h 1 (by omega), h 2 (by omega), h 3 (by omega), h 4 (by omega), h 5 (by omega), h 6 (by omega), h 7 (by omega), h 8 (by omega)⟩

theorem OwnC.creds {B : Nat} {w : World} {v : Value} {ls : List CredB} (h : OwnC B w v ls) (hb : ∀ x ∈ ls, credShort x 9223372036854775807) :
    ∃ ao cap, v = .slice ao ls.length cap ∧ CredsAt (fun k => B ≤ k ∧ k < w.heap.size) w ao ls ∧ (ao = none → cap = 0) := by
  rcases h.2 with ⟨rfl, h0⟩ | ⟨g, cap, cur, rfl, hg, hh, h1, h2, h3, h4⟩
  · have : ls = [] := List.eq_nil_of_length_eq_zero h0
    subst this
    exact ⟨none, 0, rfl, CredsAt.nil _ _ _, fun _ => rfl⟩
  · refine ⟨_, _, rfl, fun i hi => ⟨g, 0, rfl, ⟨hg, lt_blk hh⟩, cred_at_cells fun j hj => ?_, hb _ (List.getElem_mem hi)⟩, fun e => by cases e⟩
    have hs : j < (credCells ls[i]).length := by simpa [credCells] using hj
    have hget := credRow_get ls i j hi hj
    rw [List.getElem?_eq_getElem hs] at hget ⊢
    have := h.cells (g := g) rfl (i * 9 + j) _ hget
    rw [add_off] at this
    rw [Nat.zero_add] at this ⊢
    exact this

theorem OwnC.shape {B : Nat} {w : World} {v : Value} {ls : List CredB} (h : OwnC B w v ls) : ∃ ao cap, v = .slice ao ls.length cap := by
  rcases h.2 with ⟨rfl, h0⟩ | ⟨g, cap, cur, rfl, _⟩
  · exact ⟨none, 0, by rw [h0]⟩
  · exact ⟨_, _, rfl⟩

theorem OwnC.keep {S : Nat → Prop} {B : Nat} {w w' : World} {v : Value} {ls : List CredB} (h : OwnC B w v ls) (hc : Chg S w w') (hr : ∀ k, v.ownBlock = some k → ¬ S k) : OwnC B w' v ls := ownsRow_keep h hc hr

theorem cred_cells_new (w : World) (x : CredB) (j : Nat) (u : Value) (h : (credCells x)[j]? = some u) : (w.alloc (.cells (credBox x) 47)).cell? ((⟨w.heap.size, 0, none⟩ : Addr).add j) = some u := by
  rw [add_off, cell_blk (heap_alloc_new w _), Nat.zero_add, show credBox x = (credCells x).toArray from rfl, List.getElem?_toArray]
  exact h

/-- What Set leaves: the set, in new memory. -/
def SetPostC (ls : List CredB) (w : World) (e : Ending) (w' : World) : Prop :=
  ∃ out ao cap, e = .returned (.slice ao out.length cap) ∧ SetC ls out ∧ CredsAt (fun k => w.heap.size ≤ k ∧ k < w'.heap.size) w' ao out ∧ Chg (fun _ => False) w w' ∧ (ao = none → cap = 0)

theorem isCred_short {c : CredB} (h : isCred c = true) : credShort c 16 := by
  have hh := isCred_head h
  simp only [isRole, Bool.and_eq_true] at hh
  have l1 := (isName_len hh.1).2
  have l2 := (isName_len hh.2).2
  have hr : ∀ r : RoleB, isRole r = true → r.1.length ≤ 16 ∧ r.2.length ≤ 16 := fun r hr => by
    simp only [isRole, Bool.and_eq_true] at hr
    exact ⟨(isName_len hr.1).2, (isName_len hr.2).2⟩
  rcases isCred_kind h with k | k | k | k
  · obtain ⟨a1, a2, a3, a4⟩ := isCred_one h k
    exact ⟨l1, l2, (isName_len a1).2, by rw [a2]; simp [noneR], by rw [a2]; simp [noneR], by rw [a3]; simp [noneR], by rw [a3]; simp [noneR], by rw [a4]; simp⟩
  · obtain ⟨a1, a2, a3, a4⟩ := isCred_two h k
    exact ⟨l1, l2, by rw [a1]; simp, (hr _ a2).1, (hr _ a2).2, by rw [a3]; simp [noneR], by rw [a3]; simp [noneR], by rw [a4]; simp⟩
  · obtain ⟨a1, a2, a3, a4, a5⟩ := isCred_three h k
    exact ⟨l1, l2, by rw [a1]; simp, (hr _ a2).1, (hr _ a2).2, by rw [a3]; simp [noneR], by rw [a3]; simp [noneR], (isName_len a5).2⟩
  · obtain ⟨a1, a2, a3, a4, a5⟩ := isCred_four h k
    exact ⟨l1, l2, by rw [a1]; simp, (hr _ a2).1, (hr _ a2).2, (hr _ a4).1, (hr _ a4).2, by rw [a3]; simp⟩
end Go.Proofs.YtanompfdjfgfbaaGreat

/- Facts, as they lie in memory; lists of them of the call's own. -/
namespace Go.Proofs.YtanompfdjfgfbaaGreat
open Go.RowKit

def factCells (f : FactB) : List Value := [.string ⟨f.1.1.toArray⟩, .string ⟨f.1.2.toArray⟩, .string ⟨f.2.toArray⟩]
def factBox (f : FactB) : Array Value := #[.string ⟨f.1.1.toArray⟩, .string ⟨f.1.2.toArray⟩, .string ⟨f.2.toArray⟩]
def factV (f : FactB) : Value := .agg (factBox f)

/-- The fact f lies at the three cells from o on. -/
structure FactAt (w : World) (b o : Nat) (f : FactB) : Prop where
  k0 : w.cell? ⟨b, o, none⟩ = some (.string ⟨f.1.1.toArray⟩)
  k1 : w.cell? ⟨b, o + 1, none⟩ = some (.string ⟨f.1.2.toArray⟩)
  k2 : w.cell? ⟨b, o + 2, none⟩ = some (.string ⟨f.2.toArray⟩)

/-- No text of it is greater than n. -/
def factShort (f : FactB) (n : Nat) : Prop := f.1.1.length ≤ n ∧ f.1.2.length ≤ n ∧ f.2.length ≤ n

theorem factShort.mono {f : FactB} {n m : Nat} (h : factShort f n) (hm : n ≤ m) : factShort f m := ⟨Nat.le_trans h.1 hm, Nat.le_trans h.2.1 hm, Nat.le_trans h.2.2 hm⟩

theorem FactAt.keep {S : Nat → Prop} {w w' : World} {b o : Nat} {f : FactB} (h : FactAt w b o f) (hc : Chg S w w') (hS : ¬ S b) : FactAt w' b o f :=
  ⟨hc.cell h.k0 hS, hc.cell h.k1 hS, hc.cell h.k2 hS⟩

/-- The facts ls can be read from the address ao on. -/
def FactsAt (D : Nat → Prop) (w : World) (ao : Option Addr) (ls : List FactB) : Prop :=
  ∀ i (h : i < ls.length), ∃ b off, ao = some ⟨b, off, none⟩ ∧ D b ∧ FactAt w b (off + i * 3) ls[i]

theorem FactsAt.keep {S D : Nat → Prop} {w w' : World} {ao : Option Addr} {ls : List FactB} (h : FactsAt D w ao ls) (hc : Chg S w w') (hS : ∀ i, D i → ¬ S i) : FactsAt D w' ao ls := fun i hi =>
  let ⟨b, off, h1, h2, h3⟩ := h i hi
  ⟨b, off, h1, h2, h3.keep hc (hS b h2)⟩

theorem FactsAt.mono {D D' : Nat → Prop} {w : World} {ao : Option Addr} {ls : List FactB} (h : FactsAt D w ao ls) (hD : ∀ i, D i → D' i) : FactsAt D' w ao ls := fun i hi =>
  let ⟨b, off, h1, h2, h3⟩ := h i hi
  ⟨b, off, h1, hD b h2, h3⟩

theorem FactsAt.nil (D : Nat → Prop) (w : World) (ao : Option Addr) : FactsAt D w ao [] := fun i hi => by simp at hi

theorem fact_at_blk {w : World} {g : Nat} {f : FactB} {ty : TypeId} {z : Nat × Nat} (h : w.heap[g]? = some (.cells (factBox f) ty z)) : FactAt w g 0 f :=
  ⟨cell_blk h 0, cell_blk h 1, cell_blk h 2⟩

theorem Tryz.info52 : (Tryz.prog.info? 52).map (fun i => (i.zero, i.size, i.bytes)) = some (some (.agg #[.string ⟨#[]⟩, .string ⟨#[]⟩, .string ⟨#[]⟩]), 3, 48) := by kernel_rfl

def factRow (ls : List FactB) : List Value := ls.flatMap factCells
theorem factRow_snoc (ls : List FactB) (x : FactB) : factRow (ls ++ [x]) = factRow ls ++ factCells x := by simp [factRow]
theorem factRow_get : ∀ (ls : List FactB) (i j : Nat) (h : i < ls.length) (_ : j < 3), (factRow ls)[i * 3 + j]? = (factCells ls[i])[j]?
  | x :: l, 0, j, _, hj => by
    rw [Nat.zero_mul, Nat.zero_add, factRow, List.flatMap_cons, List.getElem?_append_left (by simpa [factCells] using hj)]
    rfl
  | x :: l, i + 1, j, h, hj => by
    have hl : (factCells x).length = 3 := rfl
    have := factRow_get l i j (by simpa using h) hj
    rw [factRow, List.flatMap_cons, List.getElem?_append_right (by rw [hl, Nat.add_mul]; omega), hl]
    rw [show (i + 1) * 3 + j - 3 = i * 3 + j by rw [Nat.add_mul]; omega]
    exact this

/-- A list of facts of the call's own. -/
def OwnF (B : Nat) (w : World) (v : Value) (ls : List FactB) : Prop := w.ownsRow B 52 3 v ls.length (factRow ls)

theorem OwnF.keep {S : Nat → Prop} {B : Nat} {w w' : World} {v : Value} {ls : List FactB} (h : OwnF B w v ls) (hc : Chg S w w') (hr : ∀ k, v.ownBlock = some k → ¬ S k) : OwnF B w' v ls := ownsRow_keep h hc hr

theorem OwnF.shape {B : Nat} {w : World} {v : Value} {ls : List FactB} (h : OwnF B w v ls) : ∃ ao cap, v = .slice ao ls.length cap := by
  rcases h.2 with ⟨rfl, h0⟩ | ⟨g, cap, cur, rfl, _⟩
  · exact ⟨none, 0, by rw [h0]⟩
  · exact ⟨_, _, rfl⟩

theorem OwnF.low {B A : Nat} {w : World} {v : Value} {ls : List FactB} (h : OwnF B w v ls) (hA : A ≤ B) : OwnF A w v ls := by
  rcases h with ⟨h1, h2 | ⟨g, cap, cur, h3, h4, h5⟩⟩
  · exact ⟨h1, .inl h2⟩
  · exact ⟨h1, .inr ⟨g, cap, cur, h3, Nat.le_trans hA h4, h5⟩⟩

theorem OwnF.facts {B : Nat} {w : World} {v : Value} {ls : List FactB} (h : OwnF B w v ls) :
    ∃ ao cap, v = .slice ao ls.length cap ∧ FactsAt (fun k => B ≤ k ∧ k < w.heap.size) w ao ls ∧ (ao = none → cap = 0) := by
  have hall := h
  rcases h.2 with ⟨rfl, h0⟩ | ⟨g, cap, cur, rfl, hg, hh, h1, h2, h3, h4⟩
  · have : ls = [] := List.eq_nil_of_length_eq_zero h0
    subst this
    exact ⟨none, 0, rfl, FactsAt.nil _ _ _, fun _ => rfl⟩
  · have at_ : ∀ i (hi : i < ls.length) j (hj : j < 3), w.cell? ⟨g, 0 + i * 3 + j, none⟩ = (factCells ls[i])[j]? := fun i hi j hj => by
      have hget := factRow_get ls i j hi hj
      have hs : j < (factCells ls[i]).length := hj
      rw [List.getElem?_eq_getElem hs] at hget ⊢
      have := hall.cells (g := g) rfl (i * 3 + j) _ hget
      rw [add_off, Nat.zero_add] at this
      rw [Nat.zero_add]
      exact this
    exact ⟨_, _, rfl, fun i hi => ⟨g, 0, rfl, ⟨hg, lt_blk hh⟩, at_ i hi 0 (by decide), at_ i hi 1 (by decide), at_ i hi 2 (by decide)⟩, fun e => by cases e⟩

theorem fact_cells_new (w : World) (x : FactB) (j : Nat) (u : Value) (h : (factCells x)[j]? = some u) : (w.alloc (.cells (factBox x) 52)).cell? ((⟨w.heap.size, 0, none⟩ : Addr).add j) = some u := by
  rw [add_off, cell_blk (heap_alloc_new w _), Nat.zero_add]
  have : factBox x = (factCells x).toArray := rfl
  rw [this, List.getElem?_toArray]
  exact h

theorem fact_one (x : FactB) : ∀ u ∈ factCells x, u.oneCell' = true := by
  intro u hu
  simp only [factCells, List.mem_cons, List.not_mem_nil, or_false] at hu
  rcases hu with rfl | rfl | rfl <;> rfl
end Go.Proofs.YtanompfdjfgfbaaGreat

/- Go's == at roles whose cells are told. -/
namespace Go.Proofs.YtanompfdjfgfbaaGreat
open Go.RowKit

theorem run_eqg_role (x y : Operand) (a b : RoleB) (w : World) : Sem.run Tryz.prog (eqGuard BinOp.eql 24 x y (.agg #[.string ⟨a.1.toArray⟩, .string ⟨a.2.toArray⟩]) (.agg #[.string ⟨b.1.toArray⟩, .string ⟨b.2.toArray⟩])) w = .ok () w := by
  go_simp

theorem run_eql_role (a b : RoleB) (w : World) : Sem.run Tryz.prog (binOp BinOp.eql 24 (.agg #[.string ⟨a.1.toArray⟩, .string ⟨a.2.toArray⟩]) (.agg #[.string ⟨b.1.toArray⟩, .string ⟨b.2.toArray⟩])) w = .ok (.bool (decide (a = b))) w := by
  have : decide (a = b) = decide (a.1 = b.1 ∧ a.2 = b.2) := by simp only [Prod.ext_iff]
  rw [this]
  go_simp
  repeat' split
  all_goals simp_all
end Go.Proofs.YtanompfdjfgfbaaGreat

/- The contract of the document's In, of layer 8. -/
namespace Go.Proofs.YtanompfdjfgfbaaGreat
open Go.RowKit
attribute [local go_sem ↓ high] run_eqg_role run_eql_role

theorem inF_take {ls : List FactB} {k : Nat} (h : k < ls.length) {r : RoleB} {s : List UInt8} (h0 : inF (ls.take k) r s = false) (h1 : (ls[k].1 == r && ls[k].2 == s) = false) : inF (ls.take (k + 1)) r s = false := by
  rw [List.take_succ_eq_append_getElem h]
  unfold inF at *
  rw [List.any_append, h0]
  simpa using h1
theorem inF_at {ls : List FactB} {k : Nat} (h : k < ls.length) {r : RoleB} {s : List UInt8} (h1 : (ls[k].1 == r && ls[k].2 == s) = true) : inF ls r s = true := by
  unfold inF
  rw [List.any_eq_true]
  exact ⟨_, List.getElem_mem h, h1⟩

set_option maxRecDepth 100000 in
set_option maxHeartbeats 2000000 in
theorem rfin {D : Nat → Prop} (ao : Option Addr) (cp : Nat) (ls : List FactB) (r : RoleB) (s : List UInt8) (w : World) (hn : ls.length ≤ 4611686018427387904) (h : FactsAt D w ao ls) :
    Calls Tryz.prog 13 #[.slice ao ls.length cp, .agg #[.string ⟨r.1.toArray⟩, .string ⟨r.2.toArray⟩], .string ⟨s.toArray⟩] w fun e w' => e = .returned (.bool (inF ls r s)) ∧ Chg (fun _ => False) w w' := by
  have hc : Chg (fun _ => False) w (w.alloc (.cells #[.string ⟨r.1.toArray⟩, .string ⟨r.2.toArray⟩] 24)) := (Chg.refl _ w).alloc _
  have hA := heap_alloc_new w (.cells #[.string ⟨r.1.toArray⟩, .string ⟨r.2.toArray⟩] 24)
  have HH := hid (And.intro hA (And.intro hc (h.keep hc (fun _ _ => id))))
  clear hc hA h
  go_enter Tryz.func13, Tryz.ntmps13
  go_wp2
  obtain ⟨hA, hc, h⟩ := HH.out
  clear HH
  generalize (w.alloc (.cells #[.string ⟨r.1.toArray⟩, .string ⟨r.2.toArray⟩] 24)) = w1 at *
  generalize w.heap.size = A at *
  have HX := hid (And.intro hA (And.intro hc h))
  clear hA hc h
  go_loopw [11] (fun i wr => ∃ k : Nat, k ≤ ls.length ∧ i = .int .i64 k ∧ Hid (inF (ls.take k) r s = false) ∧ Chg (fun _ => False) w1 wr) (fun i _ => ls.length - (intOf i).toNat)
  case atStart => exact ⟨0, Nat.zero_le _, rfl, by rw [List.take_zero]; rfl, Chg.refl _ _⟩
  case round =>
    obtain ⟨k, hk, rfl, hf, hc1⟩ := hrel
    have hA1 := blk_keep HX.out.1 hc1 id
    by_cases hlt : k < ls.length
    · obtain ⟨b, off, hao, _, ⟨a0, a1, a2⟩⟩ := (HX.out.2.2.keep hc1 (fun _ _ => id)) k hlt
      have HY : Hid (((ls[k].1 == r && ls[k].2 == s) = true → inF ls r s = true) ∧ ((ls[k].1 == r && ls[k].2 == s) = false → inF (ls.take (k + 1)) r s = false)) := hid ⟨inF_at hlt, inF_take hlt hf.out⟩
      generalize ls[k] = q at *
      have hA2 := blk_keep hA1 ((Chg.refl (fun _ => False) wr).alloc (.cells #[.string ⟨q.1.1.toArray⟩, .string ⟨q.1.2.toArray⟩, .string ⟨q.2.toArray⟩] 52)) id
      have q0 := cell_blk hA2 0
      have q1 := cell_blk hA2 1
      simp only [List.getElem?_toArray, List.getElem?_cons_zero, List.getElem?_cons_succ] at q0 q1
      have HC := hid hc1
      subst hao
      clear hA1 hA2 hc1 hf
      by_cases hr : q.1 = r
      · have d1 : decide (q.1 = r) = true := decide_eq_true hr
        have HR := hid hr
        clear hr
        go_wp2
        · have hs : (q.2 == s) = true := by assumption
          have hres := HY.out.1 (by rw [HR.out, hs]; simp)
          have HE := hid hres
          go_ret
          exact ⟨by rw [HE.out]; rfl, (HX.out.2.1.trans HC.out (fun _ _ h => h)).alloc _⟩
        · have hs : (q.2 == s) = false := by assumption
          have HE := hid (HY.out.2 (by rw [hs]; simp))
          go_roundw
          case rel => exact ⟨k + 1, by omega, by go_num, HE, HC.out.alloc _⟩
          case measure => simp [intOf]; omega
      · have d1 : decide (q.1 = r) = false := decide_eq_false hr
        have HE := hid (HY.out.2 (by simp [hr]))
        clear hr
        go_wp2
        go_roundw
        case rel => exact ⟨k + 1, by omega, by go_num, HE, HC.out.alloc _⟩
        case measure => simp [intOf]; omega
    · have hk2 : k = ls.length := by omega
      have hh : Hid (inF ls r s = false) := hid (by have := hf.out; rwa [hk2, List.take_length] at this)
      have HC := hid (HX.out.2.1.trans hc1 (fun _ _ h => h))
      clear hc1 hA1 hk2 hf
      go_wp2
      go_ret
      exact ⟨by rw [hh.out]; rfl, HC.out⟩
end Go.Proofs.YtanompfdjfgfbaaGreat

/- The contract of the document's Step, of layer 8. -/
namespace Go.Proofs.YtanompfdjfgfbaaGreat
open Go.RowKit

theorem retb8 {a b : Bool} (h : a = b) : Ending.returned (.bool a) = .returned (.bool b) := by rw [h]

/-- Whether one by the names so far brings s. -/
def linkF (xs : List FactB) (c : CredB) (names : List (List UInt8)) (s : List UInt8) : Bool := names.any (fun b => inF xs c.b b && inF xs (b, c.w2) s)

theorem linkF_take {xs : List FactB} {c : CredB} {names : List (List UInt8)} {s : List UInt8} {k : Nat} (h : k < names.length) (h0 : linkF xs c (names.take k) s = false) (h1 : (inF xs c.b names[k] && inF xs (names[k], c.w2) s) = false) : linkF xs c (names.take (k + 1)) s = false := by
  rw [List.take_succ_eq_append_getElem h]
  unfold linkF at *
  rw [List.any_append, h0]
  simpa using h1
theorem linkF_at {xs : List FactB} {c : CredB} {names : List (List UInt8)} {s : List UInt8} {k : Nat} (h : k < names.length) (h1 : (inF xs c.b names[k] && inF xs (names[k], c.w2) s) = true) : linkF xs c names s = true := by
  unfold linkF
  rw [List.any_eq_true]
  exact ⟨_, List.getElem_mem h, h1⟩

set_option maxRecDepth 100000 in
set_option maxHeartbeats 4000000 in
theorem rfstep {D E : Nat → Prop} (ao no : Option Addr) (cp np : Nat) (xs : List FactB) (c : CredB) (names : List (List UInt8)) (s : List UInt8) (w : World) (hn : xs.length ≤ 4611686018427387904) (hm : names.length ≤ 4611686018427387904) (h : FactsAt D w ao xs) (hs : StrsAt E w no names) :
    Calls Tryz.prog 25 #[.slice ao xs.length cp, credV c, .slice no names.length np, .string ⟨s.toArray⟩] w fun e w' => e = .returned (.bool (stepF xs c names s)) ∧ Chg (fun _ => False) w w' := by
  have hA := heap_alloc_new w (.cells (credBox c) 47)
  have hc1 : Chg (fun _ => False) w (w.alloc (.cells (credBox c) 47)) := (Chg.refl _ w).alloc _
  have HIN : Hid (∀ (W : World) (r : RoleB) (x : List UInt8), Chg (fun _ => False) w W → Calls Tryz.prog 13 #[.slice ao xs.length cp, .agg #[.string ⟨r.1.toArray⟩, .string ⟨r.2.toArray⟩], .string ⟨x.toArray⟩] W fun e w' => e = .returned (.bool (inF xs r x)) ∧ Chg (fun _ => False) W w') := hid (fun W r x hW => rfin ao cp xs r x W hn (h.keep hW (fun _ _ => id)))
  have HA := hid hA
  have HC : Hid (Chg (fun _ => False) w (w.alloc (.cells #[.int .i64 c.kind, .string ⟨c.head.1.toArray⟩, .string ⟨c.head.2.toArray⟩, .string ⟨c.who.toArray⟩, .string ⟨c.b.1.toArray⟩, .string ⟨c.b.2.toArray⟩, .string ⟨c.c.1.toArray⟩, .string ⟨c.c.2.toArray⟩, .string ⟨c.w2.toArray⟩] 47))) := hid hc1
  have HNS := hid hs
  clear hA hc1 h hs
  unfold credV credBox
  by_cases k1 : c.kind = 1
  · have z1 : (c.kind == 1) = true := by rw [k1]; rfl
    have HST : Hid (stepF xs c names s = (c.who == s)) := hid (by unfold stepF; rw [if_pos k1])
    clear k1
    go_enter Tryz.func25, Tryz.ntmps25
    go_wp2
    go_ret
    exact ⟨by rw [HST.out]; rfl, HC.out⟩
  · have z1 : (c.kind == 1) = false := by simpa using k1
    by_cases k2 : c.kind = 2
    · have z2 : (c.kind == 2) = true := by rw [k2]; rfl
      have HST : Hid (stepF xs c names s = inF xs c.b s) := hid (by unfold stepF; rw [if_neg k1, if_pos k2])
      clear k1 k2
      go_enter Tryz.func25, Tryz.ntmps25
      go_wp2_with fail
      refine (HIN.out _ c.b s HC.out).mono ?_
      rintro e w2 ⟨rfl, hc2⟩
      have HC2 := hid (HC.out.trans hc2 (fun _ _ h => h))
      clear hc2
      go_wp2
      go_ret
      exact ⟨by rw [HST.out]; rfl, HC2.out⟩
    · have z2 : (c.kind == 2) = false := by simpa using k2
      by_cases k4 : c.kind = 4
      · have z4 : (c.kind == 4) = true := by rw [k4]; rfl
        have HST : Hid (stepF xs c names s = (inF xs c.b s && inF xs c.c s)) := hid (by unfold stepF; rw [if_neg k1, if_neg k2, if_pos k4])
        clear k1 k2 k4
        go_enter Tryz.func25, Tryz.ntmps25
        go_wp2_with fail
        refine (HIN.out _ c.b s HC.out).mono ?_
        rintro e w2 ⟨rfl, hc2⟩
        have HC2 := hid (HC.out.trans hc2 (fun _ _ h => h))
        have hb2 := cred_at_blk (blk_keep HA.out hc2 id)
        obtain ⟨y0, y1, y2, y3, y4, y5, y6, y7, y8⟩ := hb2
        simp only [Nat.zero_add] at y0 y1 y2 y3 y4 y5 y6 y7 y8
        clear hc2
        cases hb : inF xs c.b s with
        | false =>
          have HB := hid hb
          clear hb
          go_wp2
          go_ret
          exact ⟨by rw [HST.out, HB.out]; rfl, HC2.out⟩
        | true =>
          have HB := hid hb
          clear hb
          go_wp2_with fail
          refine (HIN.out _ c.c s HC2.out).mono ?_
          rintro e w3 ⟨rfl, hc3⟩
          have HC3 := hid (HC2.out.trans hc3 (fun _ _ h => h))
          clear hc3
          go_wp2
          go_ret
          exact ⟨by rw [HST.out, HB.out]; rfl, HC3.out⟩
      · have z4 : (c.kind == 4) = false := by simpa using k4
        have HST : Hid (stepF xs c names s = linkF xs c names s) := hid (by unfold stepF linkF; rw [if_neg k1, if_neg k2, if_neg k4])
        clear k1 k2 k4
        go_enter Tryz.func25, Tryz.ntmps25
        go_wp2
        have HA1 : Hid ((w.alloc (.cells #[.int .i64 c.kind, .string ⟨c.head.1.toArray⟩, .string ⟨c.head.2.toArray⟩, .string ⟨c.who.toArray⟩, .string ⟨c.b.1.toArray⟩, .string ⟨c.b.2.toArray⟩, .string ⟨c.c.1.toArray⟩, .string ⟨c.c.2.toArray⟩, .string ⟨c.w2.toArray⟩] 47)).heap[w.heap.size]? = some (.cells (credBox c) 47 (0, 0))) := HA
        clear HA
        generalize (w.alloc (.cells #[.int .i64 c.kind, .string ⟨c.head.1.toArray⟩, .string ⟨c.head.2.toArray⟩, .string ⟨c.who.toArray⟩, .string ⟨c.b.1.toArray⟩, .string ⟨c.b.2.toArray⟩, .string ⟨c.c.1.toArray⟩, .string ⟨c.c.2.toArray⟩, .string ⟨c.w2.toArray⟩] 47)) = w1 at *
        generalize w.heap.size = A at *
        go_loopw [43] (fun i wr => ∃ k : Nat, k ≤ names.length ∧ i = .int .i64 k ∧ Hid (linkF xs c (names.take k) s = false) ∧ Chg (fun _ => False) w1 wr) (fun i _ => names.length - (intOf i).toNat)
        case atStart => exact ⟨0, Nat.zero_le _, rfl, hid rfl, Chg.refl _ _⟩
        case round =>
          obtain ⟨k, hk, rfl, hf, hc2⟩ := hrel
          have hcw := HC.out.trans hc2 (fun _ _ h => h)
          have hb2 := cred_at_blk (blk_keep HA1.out hc2 id)
          obtain ⟨y0, y1, y2, y3, y4, y5, y6, y7, y8⟩ := hb2
          simp only [Nat.zero_add] at y0 y1 y2 y3 y4 y5 y6 y7 y8
          by_cases hlt : k < names.length
          · obtain ⟨b, off, hno, _, c0, _⟩ := (HNS.out.keep hcw (fun _ _ => id)) k hlt
            have HY : Hid (((inF xs c.b names[k] && inF xs (names[k], c.w2) s) = true → linkF xs c names s = true) ∧ ((inF xs c.b names[k] && inF xs (names[k], c.w2) s) = false → linkF xs c (names.take (k + 1)) s = false)) := hid ⟨linkF_at hlt, linkF_take hlt hf.out⟩
            generalize names[k] = q at *
            have HCW := hid hcw
            have HC2 := hid hc2
            subst hno
            clear hf hcw hc2
            go_wp2_with fail
            refine (HIN.out _ c.b q HCW.out).mono ?_
            rintro e w3 ⟨rfl, hc3⟩
            have HCW3 := hid (HCW.out.trans hc3 (fun _ _ h => h))
            have HC3 := hid (HC2.out.trans hc3 (fun _ _ h => h))
            clear hc3 y0 y1 y2 y3 y4 y5 y6 y7 y8 c0
            have hb3 := cred_at_blk (blk_keep HA1.out HC3.out id)
            obtain ⟨y0, y1, y2, y3, y4, y5, y6, y7, y8⟩ := hb3
            simp only [Nat.zero_add] at y0 y1 y2 y3 y4 y5 y6 y7 y8
            cases hb : inF xs c.b q with
            | false =>
              have HE := hid (HY.out.2 (by rw [hb]; rfl))
              clear hb
              go_wp2
              go_roundw
              case rel => exact ⟨k + 1, by omega, by go_num, HE, HC3.out⟩
              case measure => simp [intOf]; omega
            | true =>
              have HB := hid hb
              clear hb
              go_wp2_with fail
              refine (HIN.out _ (q, c.w2) s HCW3.out).mono ?_
              rintro e w4 ⟨rfl, hc4⟩
              have HCW4 := hid (HCW3.out.trans hc4 (fun _ _ h => h))
              have HC4 := hid (HC3.out.trans hc4 (fun _ _ h => h))
              clear hc4
              cases hb2 : inF xs (q, c.w2) s with
              | false =>
                have HE := hid (HY.out.2 (by rw [HB.out, hb2]; rfl))
                clear hb2
                go_wp2
                go_roundw
                case rel => exact ⟨k + 1, by omega, by go_num, HE, HC4.out⟩
                case measure => simp [intOf]; omega
              | true =>
                have HE := hid (HY.out.1 (by rw [HB.out, hb2]; rfl))
                clear hb2
                go_wp2
                go_ret
                exact ⟨by rw [HST.out, HE.out]; rfl, HCW4.out⟩
          · have hk2 : k = names.length := by omega
            have HE : Hid (linkF xs c names s = false) := hid (by have := hf.out; rwa [hk2, List.take_length] at this)
            have HCW := hid hcw
            clear hk2 hf hcw hc2
            go_wp2
            go_ret
            exact ⟨by rw [HST.out, HE.out]; rfl, HCW.out⟩
end Go.Proofs.YtanompfdjfgfbaaGreat

/- Draws add up. -/
namespace Go.Proofs.YtanompfdjfgfbaaGreat
open Go.RowKit

theorem drewN_add (w : World) (n m : Nat) : (w.drewN n).drewN m = w.drewN (n + m) := by
  simp only [World.drewN, Nat.add_assoc]
end Go.Proofs.YtanompfdjfgfbaaGreat

/- The contract of the document's Same, of lists of texts. -/
namespace Go.Proofs.YtanompfdjfgfbaaGreat
open Go.RowKit

theorem refsame_any {D1 D2 : Nat → Prop} (a1 a2 : Option Addr) (c1 c2 : Nat) (l1 l2 : List (List UInt8)) (w : World) (hn : l1.length ≤ 9223372036854775807) (hm : l2.length ≤ 9223372036854775807) (h1 : StrsAt D1 w a1 l1) (h2 : StrsAt D2 w a2 l2) :
    Calls Tryz.prog 14 #[.slice a1 l1.length c1, .slice a2 l2.length c2] w fun e w' => e = .returned (.bool (sameS l1 l2)) ∧ ∃ n, w' = w.drewN n := by
  by_cases hl : l1.length = l2.length
  · have z1 : ((l1.length : Int) != (l2.length : Int)) = false := by simp; omega
    have HL := hid hl
    have hl1 : l1.length ≤ l2.length := by omega
    have hl2 : l2.length ≤ l1.length := by omega
    clear hl
    go_enter Tryz.func14, Tryz.ntmps14
    go_wp2
    go_loopw [13] (fun i wr => ∃ k n : Nat, k ≤ l1.length ∧ i = .int .i64 k ∧ wr = w.drewN n ∧ Hid (l1.take k = l2.take k)) (fun i _ => l1.length - (intOf i).toNat)
    case atStart => exact ⟨0, 0, Nat.zero_le _, rfl, rfl, by rw [List.take_zero, List.take_zero]; rfl⟩
    case round =>
      obtain ⟨k, n, hk, rfl, rfl, hc⟩ := hrel
      by_cases hlt : k < l1.length
      · obtain ⟨b, off, rfl, _, q0, _⟩ := h1 k hlt
        obtain ⟨b2, off2, rfl, _, q1, _⟩ := h2 k (by omega)
        clear h1 h2
        have e0 : (0 : Int) ≤ (k : Int) := by omega
        have e1 : (k : Int) < (l1.length : Int) := by omega
        have e2 : (k : Int) < (l2.length : Int) := by omega
        by_cases he : l1[k] = l2[k]
        · have e3 : (!l1[k] == l2[k]) = false := by simpa using he
          have hx : Hid (l1.take (k + 1) = l2.take (k + 1)) := hid (by rw [List.take_succ_eq_append_getElem hlt, List.take_succ_eq_append_getElem (HL.out ▸ hlt), hc.out, he])
          have HE := hid he
          clear he
          go_wp2
          go_quiet (fail)
          go_wp2
          go_roundw
          case rel => exact ⟨k + 1, n + nq, by omega, by go_num, rfl, hx⟩
          case measure => simp [intOf]; omega
        · have e3 : (!l1[k] == l2[k]) = true := by simpa using he
          have hx : Hid (sameS l1 l2 = false) := by
            refine hid ?_
            simp only [sameS, beq_eq_false_iff_ne, ne_eq]
            intro h
            subst h
            exact he rfl
          have HE := hid he
          clear he
          go_wp2
          go_quiet (fail)
          go_wp2
          go_ret
          exact ⟨by rw [hx.out]; rfl, _, drewN_add w n nq⟩
      · have hk2 : k = l1.length := by omega
        subst hk2
        have hx : Hid (sameS l1 l2 = true) := by
          have := hc.out
          rw [List.take_of_length_le (Nat.le_refl _), List.take_of_length_le (by rw [HL.out]; omega)] at this
          exact hid (by simp [sameS, this])
        clear h1 h2
        go_wp2
        go_ret
        exact ⟨by rw [hx.out]; rfl, n, rfl⟩
  · have z1 : ((l1.length : Int) != (l2.length : Int)) = true := by simp; omega
    have hx : Hid (sameS l1 l2 = false) := by
      refine hid ?_
      simp only [sameS, beq_eq_false_iff_ne, ne_eq]
      intro h
      exact hl (congrArg List.length h)
    go_enter Tryz.func14, Tryz.ntmps14
    go_wp2
    go_ret
    exact ⟨by rw [hx.out]; rfl, 0, rfl⟩
end Go.Proofs.YtanompfdjfgfbaaGreat
