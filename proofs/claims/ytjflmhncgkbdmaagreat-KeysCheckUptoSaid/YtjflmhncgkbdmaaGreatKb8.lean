/- Texts that the proof leans on, in one: BackNum, RoleBackMath, CredGet, CredOrd, RoleOwn, CredOwn, KeyCells. -/
import Derived.Test.YtjflmhncgkbdmaaGreatKb2
import Derived.Test.YtjflmhncgkbdmaaGreatKb7
import Derived.Maps.AppendAt
/- A number's bytes, written and read again. -/
namespace Go.Proofs.YtjflmhncgkbdmaaGreat
open Go.RowKit

theorem u8_eq {a b : UInt8} (h : a.toNat = b.toNat) : a = b := UInt8.toNat_inj.1 h

theorem digits_join (n m k : Nat) : n + (128 + m % 128 - 128) * 128 ^ k + m / 128 * 128 ^ (k + 1) = n + m * 128 ^ k := by
  have h1 : 128 + m % 128 - 128 = m % 128 := by omega
  have h2 : m % 128 + m / 128 * 128 = m := by omega
  rw [h1, Nat.pow_succ]
  generalize 128 ^ k = c
  have h3 : m / 128 * (c * 128) = m / 128 * 128 * c := by rw [Nat.mul_assoc, Nat.mul_comm c 128]
  rw [h3, Nat.add_assoc, ← Nat.add_mul, h2]

/-- What is written is read again. -/
theorem numN_enc : ∀ (f m k n : Nat) (r : List UInt8), (enc m).length ≤ f → (k = 0 ∨ 0 < m) → numN f (enc m ++ r) k n = (n + m * 128 ^ k, k + (enc m).length, 0)
  | 0, m, _, _, _, hf, _ => by have := enc_pos m; omega
  | f + 1, m, k, n, r, hf, hk => by
    by_cases h : m < 128
    · rw [enc_small h, List.singleton_append]
      unfold numN
      rw [ds_toNat h, if_neg (by omega), if_pos h]
      simp
    · rw [enc_big (by omega), List.cons_append]
      rw [enc_big (by omega), List.length_cons] at hf
      unfold numN
      have hm := Nat.mod_lt m (show 0 < 128 by decide)
      rw [dg_toNat, if_neg (by omega), if_neg (by omega), numN_enc f (m / 128) (k + 1) _ r (by omega) (.inr (by omega))]
      have e : n + (128 + m % 128 - 128) * 128 ^ k + m / 128 * 128 ^ (k + 1) = n + m * 128 ^ k := digits_join n m k
      rw [e, List.length_cons]
      congr 2
      omega

/-- What is read without an error was written so. -/
theorem numN_inv : ∀ (f : Nat) (l : List UInt8) (k n : Nat), (numN f l k n).2.2 = 0 →
    ∃ m, (k = 0 ∨ 0 < m) ∧ (numN f l k n).1 = n + m * 128 ^ k ∧ (numN f l k n).2.1 = k + (enc m).length ∧ l = enc m ++ l.drop (enc m).length
  | 0, _, _, _, h => by simp [numN] at h
  | _ + 1, [], _, _, h => by simp [numN] at h
  | f + 1, d :: l, k, n, h => by
    unfold numN at h ⊢
    by_cases h1 : d.toNat = 0 ∧ 0 < k
    · rw [if_pos h1] at h
      simp at h
    · rw [if_neg h1] at h ⊢
      by_cases h2 : d.toNat < 128
      · rw [if_pos h2]
        have e : enc d.toNat = [d] := by
          rw [enc_small h2]
          congr 1
          exact u8_eq (ds_toNat h2)
        refine ⟨d.toNat, by omega, rfl, ?_, ?_⟩
        · rw [e]; rfl
        · rw [e]; rfl
      · rw [if_neg h2] at h ⊢
        have hd := UInt8.toNat_lt d
        obtain ⟨m, hm, e1, e2, e3⟩ := numN_inv f l (k + 1) _ h
        have hm0 : 0 < m := by omega
        have e : enc (d.toNat - 128 + m * 128) = d :: enc m := by
          rw [enc_big (by omega)]
          have a1 : (d.toNat - 128 + m * 128) / 128 = m := by omega
          rw [a1]
          congr 1
          exact u8_eq (by rw [dg_toNat]; omega)
        refine ⟨d.toNat - 128 + m * 128, .inr (by omega), ?_, ?_, ?_⟩
        · rw [e1, Nat.add_mul, Nat.pow_succ, Nat.add_assoc, Nat.mul_assoc, Nat.mul_comm 128 (128 ^ k)]
        · rw [e2, e, List.length_cons]; omega
        · rw [e, List.length_cons, List.drop_succ_cons, List.cons_append, ← e3]

/-- A number ahead of other bytes. -/
theorem numN_enc9 {m : Nat} (h : m < 9223372036854775808) (r : List UInt8) : numN 9 (enc m ++ r) 0 0 = (m, (enc m).length, 0) := by
  rw [numN_enc 9 m 0 0 r (enc_length9 h) (.inl rfl)]
  simp

/-- The bytes that are left behind a number, and the number's. -/
theorem numN_take {l : List UInt8} (h : (numN 9 l 0 0).2.2 = 0) : l = enc (numN 9 l 0 0).1 ++ l.drop (numN 9 l 0 0).2.1 := by
  obtain ⟨m, _, e1, e2, e3⟩ := numN_inv 9 l 0 0 h
  simp only [Nat.pow_zero, Nat.mul_one, Nat.zero_add] at e1 e2
  rw [e1, e2]
  exact e3

end Go.Proofs.YtjflmhncgkbdmaaGreat

/- Roles put and got, told and parsed, and their order: plain words. -/
namespace Go.Proofs.YtjflmhncgkbdmaaGreat
open Go.RowKit

theorem cmpR_neg (a b : RoleB) : cmpR a b = -cmpR b a := by
  unfold cmpR
  rcases ltR_ord.tri a b with h | h | h
  · rw [h, ltR_ord.asymm h]; simp
  · subst h; rw [ltR_ord.irrefl]; simp
  · rw [h, ltR_ord.asymm h]; simp

theorem cmpR_bound (a b : RoleB) : -1 ≤ cmpR a b ∧ cmpR a b ≤ 1 := by
  unfold cmpR
  split
  · omega
  · split <;> omega

theorem cmpR_zero (a b : RoleB) : (cmpR a b == 0) = eqR a b := by
  unfold cmpR eqR
  rcases ltR_ord.tri a b with h | h | h
  · have hne : a ≠ b := fun e => by subst e; rw [ltR_ord.irrefl] at h; cases h
    rw [h]
    have : (a == b) = false := by simpa using hne
    rw [this]; rfl
  · subst h; rw [ltR_ord.irrefl]; simp
  · have hne : a ≠ b := fun e => by subst e; rw [ltR_ord.irrefl] at h; cases h
    rw [h, ltR_ord.asymm h]
    have : (a == b) = false := by simpa using hne
    rw [this]; rfl

theorem cmpR_le (a b : RoleB) : cmpR a b ≤ 0 ↔ ltR b a = false := by
  unfold cmpR
  cases h : ltR a b with
  | true => rw [ltR_ord.asymm h]; simp
  | false =>
    cases h2 : ltR b a with
    | true => simp
    | false => simp

theorem cmpR_trans (a b c : RoleB) (h1 : cmpR a b ≤ 0) (h2 : cmpR b c ≤ 0) : cmpR a c ≤ 0 := by
  rw [cmpR_le] at *
  cases h : ltR c a with
  | false => rfl
  | true =>
    rcases ltR_ord.tri a b with k | k | k
    · have := ltR_ord.trans _ _ _ h k; rw [h2] at this; cases this
    · subst k; rw [h] at h2; cases h2
    · rw [k] at h1; cases h1

theorem name_nodot {s : List UInt8} (h : isName s = true) : ∀ c ∈ s, c.toNat ≠ 46 := by
  cases s with
  | nil => intro c hc; cases hc
  | cons d l =>
    simp only [isName, Bool.and_eq_true] at h
    intro c hc he
    have := List.all_eq_true.1 h.2 c hc
    rcases okByte_yes this with k | k | k <;> omega

theorem cutDot_app : ∀ (o x : List UInt8), (∀ c ∈ o, c.toNat ≠ 46) → cutDot (o ++ (46 :: x)) = some (o, x)
  | [], x, _ => by rw [List.nil_append, cutDot, if_pos (by decide)]
  | c :: l, x, h => by
    rw [List.cons_append, cutDot, if_neg (h c (by simp)), cutDot_app l x (fun d hd => h d (List.mem_cons_of_mem _ hd))]
    rfl

theorem parse_text {r : RoleB} (h : isRole r = true) : parseR (roleText r) = some r := by
  have hn : isName r.1 = true := by simp only [isRole, Bool.and_eq_true] at h; exact h.1
  rw [parseR, roleText, cutDot_app r.1 r.2 (name_nodot hn)]
  exact if_pos h

theorem name_enc {o : List UInt8} (h : isName o = true) (x : List UInt8) : nameOk ((enc o.length ++ o) ++ x) = true ∧ nameOf ((enc o.length ++ o) ++ x) = o ∧ nameRest ((enc o.length ++ o) ++ x) = x := by
  have hl := isName_len h
  have hN := numN_enc9 (m := o.length) (by omega) (o ++ x)
  rw [← List.append_assoc] at hN
  have h1 : errText ((enc o.length ++ o) ++ x) 16 = 0 := by
    unfold errText
    rw [hN]
    simp only [if_true, List.length_append]
    rw [if_neg (by omega), if_neg (by omega)]
  have h2 : nameOf ((enc o.length ++ o) ++ x) = o := by
    unfold nameOf
    rw [hN]
    simp
  refine ⟨by rw [nameOk, decide_eq_true h1, h2, h]; rfl, h2, ?_⟩
  unfold nameRest
  rw [hN, List.append_assoc, ← List.drop_drop]
  simp

theorem role_put_got {r : RoleB} (h : isRole r = true) : roleErr (roleEnc r) = 0 ∧ roleGot (roleEnc r) noRole = r := by
  have hn : isName r.1 = true ∧ isName r.2 = true := by simpa [isRole] using h
  obtain ⟨a1, a2, a3⟩ := name_enc hn.1 (enc r.2.length ++ r.2)
  obtain ⟨b1, b2, b3⟩ := name_enc hn.2 []
  rw [List.append_nil] at b1 b2 b3
  have hok : roleOk (roleEnc r) = true := by rw [roleOk, roleEnc, a1, a3, b1]; rfl
  have hof : roleOf (roleEnc r) = r := by rw [roleOf, roleEnc, a2, a3, b2]
  have hrs : roleRest (roleEnc r) = [] := by rw [roleRest, roleEnc, a3, b3]
  exact ⟨by rw [roleErr, if_pos hok, hrs]; rfl, by rw [roleGot, if_pos hok, hof]⟩
end Go.Proofs.YtjflmhncgkbdmaaGreat

/- Which credential any bytes are, and the error; what is put is got: plain words. -/
namespace Go.Proofs.YtjflmhncgkbdmaaGreat
open Go.RowKit

/-- What comes next: an error, or a credential and what is left. -/
inductive GetC where
  | bad (e : Nat)
  | ok (c : CredB) (rest : List UInt8)

def numBad (l : List UInt8) : Nat := (numN 9 l 0 0).2.2
def numOf (l : List UInt8) : Nat := (numN 9 l 0 0).1
def numRest (l : List UInt8) : List UInt8 := l.drop (numN 9 l 0 0).2.1

/-- The last part, and whether it is right as a whole. -/
def getEnd (c : CredB) (l : List UInt8) : GetC := if isCred c then .ok c l else .bad 11
def getWord (c : CredB) (l : List UInt8) : GetC := if nameOk l then getEnd { c with w2 := nameOf l } (nameRest l) else .bad (nameBad l)
def getC (c : CredB) (l : List UInt8) : GetC := if roleOk l then getEnd { c with c := roleOf l } (roleRest l) else .bad (roleBad l)
def getB (c : CredB) (l : List UInt8) : GetC :=
  if roleOk l then (if c.kind = 3 then getWord { c with b := roleOf l } (roleRest l) else if c.kind = 4 then getC { c with b := roleOf l } (roleRest l) else getEnd { c with b := roleOf l } (roleRest l)) else .bad (roleBad l)
def getWho (c : CredB) (l : List UInt8) : GetC := if nameOk l then getEnd { c with who := nameOf l } (nameRest l) else .bad (nameBad l)
def getHead (k : Int) (l : List UInt8) : GetC :=
  if roleOk l then (if k = 1 then getWho { noCred with kind := k, head := roleOf l } (roleRest l) else getB { noCred with kind := k, head := roleOf l } (roleRest l)) else .bad (roleBad l)
def credGet (l : List UInt8) : GetC :=
  if numBad l = 0 then (if 1 ≤ numOf l ∧ numOf l ≤ 4 then getHead (numOf l : Nat) (numRest l) else .bad 11) else .bad (numBad l)

/-- How Read ends, and what was got. -/
def credErr (l : List UInt8) : Int := match credGet l with
  | .bad e => e
  | .ok _ rest => endOf 0 rest.length
def credGot (l : List UInt8) (z : CredB) : CredB := match credGet l with
  | .bad _ => z
  | .ok c _ => c

theorem role_enc {r : RoleB} (h : isRole r = true) (x : List UInt8) : roleOk (roleEnc r ++ x) = true ∧ roleOf (roleEnc r ++ x) = r ∧ roleRest (roleEnc r ++ x) = x := by
  have hn : isName r.1 = true ∧ isName r.2 = true := by simpa [isRole] using h
  obtain ⟨a1, a2, a3⟩ := name_enc hn.1 ((enc r.2.length ++ r.2) ++ x)
  obtain ⟨b1, b2, b3⟩ := name_enc hn.2 x
  have e : roleEnc r ++ x = (enc r.1.length ++ r.1) ++ ((enc r.2.length ++ r.2) ++ x) := by rw [roleEnc, List.append_assoc]
  rw [e]
  exact ⟨by rw [roleOk, a1, a3, b1]; rfl, by rw [roleOf, a2, a3, b2], by rw [roleRest, a3, b3]⟩

/-- A right credential's kind. -/
theorem isCred_kind {c : CredB} (h : isCred c = true) : c.kind = 1 ∨ c.kind = 2 ∨ c.kind = 3 ∨ c.kind = 4 := by
  unfold isCred at h
  by_cases h1 : c.kind = 1
  · exact .inl h1
  · by_cases h2 : c.kind = 2
    · exact .inr (.inl h2)
    · by_cases h3 : c.kind = 3
      · exact .inr (.inr (.inl h3))
      · rw [if_neg h1, if_neg h2, if_neg h3] at h
        simp only [Bool.and_eq_true, beq_iff_eq] at h
        exact .inr (.inr (.inr h.2.2.1))

theorem isCred_head {c : CredB} (h : isCred c = true) : isRole c.head = true := by
  unfold isCred at h
  simp only [Bool.and_eq_true] at h
  exact h.1

theorem isCred_one {c : CredB} (h : isCred c = true) (k : c.kind = 1) : isName c.who = true ∧ c.b = noneR ∧ c.c = noneR ∧ c.w2 = [] := by
  unfold isCred at h
  rw [if_pos k] at h
  simp only [Bool.and_eq_true, beq_iff_eq] at h
  exact h.2

theorem isCred_two {c : CredB} (h : isCred c = true) (k : c.kind = 2) : c.who = [] ∧ isRole c.b = true ∧ c.c = noneR ∧ c.w2 = [] := by
  unfold isCred at h
  rw [if_neg (by omega), if_pos k] at h
  simp only [Bool.and_eq_true, beq_iff_eq] at h
  exact ⟨h.2.1.1, h.2.1.2, h.2.2⟩

theorem isCred_three {c : CredB} (h : isCred c = true) (k : c.kind = 3) : c.who = [] ∧ isRole c.b = true ∧ c.c = noneR ∧ c.b.1 = c.head.1 ∧ isName c.w2 = true := by
  unfold isCred at h
  rw [if_neg (by omega), if_neg (by omega), if_pos k] at h
  simp only [Bool.and_eq_true, beq_iff_eq] at h
  exact ⟨h.2.1.1, h.2.1.2, h.2.2⟩

theorem isCred_four {c : CredB} (h : isCred c = true) (k : c.kind = 4) : c.who = [] ∧ isRole c.b = true ∧ c.w2 = [] ∧ isRole c.c = true ∧ ltR c.b c.c = true := by
  unfold isCred at h
  rw [if_neg (by omega), if_neg (by omega), if_neg (by omega)] at h
  simp only [Bool.and_eq_true, beq_iff_eq] at h
  exact ⟨h.2.1.1, h.2.1.2, h.2.2.2⟩

theorem num_enc {m : Nat} (h : m < 9223372036854775808) (x : List UInt8) : numBad (enc m ++ x) = 0 ∧ numOf (enc m ++ x) = m ∧ numRest (enc m ++ x) = x := by
  have hN := numN_enc9 h x
  exact ⟨by rw [numBad, hN], by rw [numOf, hN], by rw [numRest, hN]; simp⟩

/-- What has bytes is got. -/
theorem credGet_enc {c : CredB} (h : isCred c = true) (x : List UInt8) : credGet (credEnc c ++ x) = .ok c x := by
  have hk := isCred_kind h
  have hh := isCred_head h
  obtain ⟨k, hd, who, b, cc, w2⟩ := c
  dsimp only at hk hh
  have e : credEnc ⟨k, hd, who, b, cc, w2⟩ ++ x = enc k.toNat ++ (roleEnc hd ++ (credTail ⟨k, hd, who, b, cc, w2⟩ ++ x)) := by
    simp only [credEnc, List.append_assoc]
  obtain ⟨n1, n2, n3⟩ := num_enc (m := k.toNat) (by omega) (roleEnc hd ++ (credTail ⟨k, hd, who, b, cc, w2⟩ ++ x))
  obtain ⟨r1, r2, r3⟩ := role_enc hh (credTail ⟨k, hd, who, b, cc, w2⟩ ++ x)
  have hkk : ((k.toNat : Nat) : Int) = k := by omega
  rw [e, credGet, if_pos n1, n2, n3, if_pos (by omega), getHead, if_pos r1, r2, r3, hkk]
  rcases hk with k1 | k1 | k1 | k1
  · obtain ⟨a1, a2, a3, a4⟩ := isCred_one h k1
    dsimp only at a1 a2 a3 a4
    subst k1 a2 a3 a4
    obtain ⟨m1, m2, m3⟩ := name_enc a1 x
    rw [if_pos rfl, show credTail ⟨1, hd, who, noneR, noneR, []⟩ = enc who.length ++ who from rfl, getWho, if_pos m1, m2, m3, getEnd]
    exact if_pos h
  · obtain ⟨a1, a2, a3, a4⟩ := isCred_two h k1
    dsimp only at a1 a2 a3 a4
    subst k1 a1 a3 a4
    obtain ⟨m1, m2, m3⟩ := role_enc a2 x
    rw [if_neg (by decide), show credTail ⟨2, hd, [], b, noneR, []⟩ = roleEnc b from rfl, getB, if_pos m1, m2, m3]
    rw [if_neg (show ¬ (2 : Int) = 3 by decide), if_neg (show ¬ (2 : Int) = 4 by decide), getEnd]
    exact if_pos h
  · obtain ⟨a1, a2, a3, a4, a5⟩ := isCred_three h k1
    dsimp only at a1 a2 a3 a4 a5
    subst k1 a1 a3
    obtain ⟨m1, m2, m3⟩ := role_enc a2 (encS w2 ++ x)
    obtain ⟨q1, q2, q3⟩ := name_enc a5 x
    rw [if_neg (by decide), show credTail ⟨3, hd, [], b, noneR, w2⟩ = roleEnc b ++ encS w2 from rfl, List.append_assoc, getB, if_pos m1, m2, m3]
    rw [if_pos rfl, encS, getWord, if_pos q1, q2, q3, getEnd]
    exact if_pos h
  · obtain ⟨a1, a2, a3, a4, a5⟩ := isCred_four h k1
    dsimp only at a1 a2 a3 a4 a5
    subst k1 a1 a3
    obtain ⟨m1, m2, m3⟩ := role_enc a2 (roleEnc cc ++ x)
    obtain ⟨q1, q2, q3⟩ := role_enc a4 x
    rw [if_neg (by decide), show credTail ⟨4, hd, [], b, cc, []⟩ = roleEnc b ++ roleEnc cc from rfl, List.append_assoc, getB, if_pos m1, m2, m3]
    rw [if_neg (show ¬ (4 : Int) = 3 by decide), if_pos rfl, getC, if_pos q1, q2, q3, getEnd]
    exact if_pos h

theorem credEnc_inj {a b : CredB} (ha : isCred a = true) (hb : isCred b = true) (h : credEnc a = credEnc b) : a = b := by
  have h1 := credGet_enc ha []
  have h2 := credGet_enc hb []
  rw [h, h2] at h1
  cases h1
  rfl

theorem credEnc_ne (c : CredB) : credEnc c ≠ [] := by
  unfold credEnc
  have := enc_pos c.kind.toNat
  intro h
  have h2 := congrArg List.length h
  rw [List.length_append] at h2
  simp only [List.length_nil] at h2
  omega

/-- Two that compare as one are one, if they are right. -/
theorem cmpC_zero {a b : CredB} (ha : isCred a = true) (hb : isCred b = true) : cmpC a b = 0 ↔ a = b := by
  unfold cmpC credBytes
  rw [if_pos ha, if_pos hb]
  constructor
  · intro h
    rcases ltS_ord.tri (credEnc a) (credEnc b) with k | k | k
    · rw [if_pos k] at h; cases h
    · exact credEnc_inj ha hb k
    · have k2 := ltS_ord.asymm k
      rw [if_neg (by rw [k2]; decide), if_pos k] at h; cases h
  · rintro rfl
    have := ltS_ord.irrefl (credEnc a)
    rw [this]
    rfl

theorem cmpC_neg (a b : CredB) : cmpC a b = -cmpC b a := by
  unfold cmpC
  rcases ltS_ord.tri (credBytes a) (credBytes b) with k | k | k
  · rw [if_pos k, if_neg (by rw [ltS_ord.asymm k]; decide), if_pos k]
  · rw [k, ltS_ord.irrefl]; rfl
  · rw [if_neg (by rw [ltS_ord.asymm k]; decide), if_pos k, if_pos k]; rfl
end Go.Proofs.YtjflmhncgkbdmaaGreat

/- The order of credentials, made whole: by their bytes, then by their fields; sets of right ones: plain words. -/
namespace Go.Proofs.YtjflmhncgkbdmaaGreat
open Go.RowKit

theorem Ord.comap {α β : Type} {lt : β → β → Bool} (o : Ord lt) (f : α → β) (hf : ∀ a b, f a = f b → a = b) : Ord (fun a b => lt (f a) (f b)) where
  irrefl a := o.irrefl (f a)
  trans a b c h1 h2 := o.trans _ _ _ h1 h2
  tri a b := by
    rcases o.tri (f a) (f b) with h | h | h
    · exact .inl h
    · exact .inr (.inl (hf a b h))
    · exact .inr (.inr h)

def ltI (a b : Int) : Bool := decide (a < b)
theorem ltI_ord : Ord ltI where
  irrefl a := by simp [ltI]
  trans a b c h1 h2 := by simp only [ltI, decide_eq_true_eq] at *; omega
  tri a b := by simp only [ltI, decide_eq_true_eq]; omega

/-- Bytes first, then each field. -/
def credKey (c : CredB) : List UInt8 × (Int × (RoleB × (List UInt8 × (RoleB × (RoleB × List UInt8))))) := (credBytes c, (c.kind, (c.head, (c.who, (c.b, (c.c, c.w2))))))
def ltKey : (List UInt8 × (Int × (RoleB × (List UInt8 × (RoleB × (RoleB × List UInt8)))))) → (List UInt8 × (Int × (RoleB × (List UInt8 × (RoleB × (RoleB × List UInt8)))))) → Bool :=
  lexLt ltS (lexLt ltI (lexLt ltR (lexLt ltS (lexLt ltR (lexLt ltR ltS)))))
theorem ltKey_ord : Ord ltKey := lexLt_ord ltS_ord (lexLt_ord ltI_ord (lexLt_ord ltR_ord (lexLt_ord ltS_ord (lexLt_ord ltR_ord (lexLt_ord ltR_ord ltS_ord)))))
theorem credKey_inj (a b : CredB) (h : credKey a = credKey b) : a = b := by
  obtain ⟨k, hd, who, b1, c1, w2⟩ := a
  obtain ⟨k', hd', who', b1', c1', w2'⟩ := b
  simp only [credKey, Prod.mk.injEq] at h
  obtain ⟨_, h1, h2, h3, h4, h5, h6⟩ := h
  subst h1 h2 h3 h4 h5 h6
  rfl

def ltC (a b : CredB) : Bool := ltKey (credKey a) (credKey b)
theorem ltC_ord : Ord ltC := ltKey_ord.comap credKey credKey_inj
def SetC (ls out : List CredB) : Prop := SetG ltC isCred ls out
theorem SetC.one {ls a b : List CredB} (ha : SetC ls a) (hb : SetC ls b) : a = b := SetG.one ltC_ord ha hb

/-- Of right ones it is the bytes' order. -/
theorem ltC_right {a b : CredB} (ha : isCred a = true) (hb : isCred b = true) : ltC a b = ltS (credBytes a) (credBytes b) := by
  cases h : ltS (credBytes a) (credBytes b) with
  | true => simp [ltC, ltKey, lexLt, credKey, h]
  | false =>
    rcases ltC_ord.tri a b with k | k | k
    · rw [k]
      simp only [ltC, ltKey, credKey] at k
      rw [lexLt, Bool.or_eq_true, Bool.and_eq_true, beq_iff_eq] at k
      rcases k with k | ⟨k1, k2⟩
      · rw [show ltS (credBytes a) (credBytes b) = true from k] at h; cases h
      · have e : a = b := by
          unfold credBytes at k1
          simp only [ha, hb, if_true] at k1
          exact credEnc_inj ha hb k1
        subst e
        have := ltC_ord.irrefl a
        have h3 : ltC a a = true := by
          simp only [ltC, ltKey, credKey]
          rw [lexLt, Bool.or_eq_true, Bool.and_eq_true, beq_iff_eq]
          exact .inr ⟨rfl, k2⟩
        rw [this] at h3
        cases h3
    · subst k; exact ltC_ord.irrefl a
    · exact ltC_ord.asymm k

theorem cmpC_lt {a b : CredB} (ha : isCred a = true) (hb : isCred b = true) : decide (cmpC a b < 0) = ltC a b := by
  rw [ltC_right ha hb]
  unfold cmpC
  cases h : ltS (credBytes a) (credBytes b) with
  | true => simp
  | false => cases h2 : ltS (credBytes b) (credBytes a) <;> simp
end Go.Proofs.YtjflmhncgkbdmaaGreat

/- Lists of roles of the call's own. -/
namespace Go.Proofs.YtjflmhncgkbdmaaGreat
open Go.RowKit

theorem Tryz.info33 : (Tryz.prog.info? 33).map (fun i => (i.zero, i.size, i.bytes)) = some (some (.agg #[.string ⟨#[]⟩, .string ⟨#[]⟩]), 2, 32) := by kernel_rfl

theorem ownsRow_keep {S : Nat → Prop} {B E n s : Nat} {w w' : World} {v : Value} {xs : List Value} (h : w.ownsRow B E s v n xs) (hc : Chg S w w') (hr : ∀ k, v.ownBlock = some k → ¬ S k) : w'.ownsRow B E s v n xs := by
  refine ⟨h.1, ?_⟩
  rcases h.2 with hn | ⟨g, cap, cur, hv, hg, hh, r⟩
  · exact .inl hn
  · exact .inr ⟨g, cap, cur, hv, hg, blk_keep hh hc (hr g (by rw [hv]; rfl)), r⟩

theorem ownsRow_lt {B E n s : Nat} {w : World} {v : Value} {xs : List Value} (h : w.ownsRow B E s v n xs) (k : Nat) (hk : v.ownBlock = some k) : B ≤ k ∧ k < w.heap.size := by
  rcases h.2 with ⟨hn, _⟩ | ⟨g, cap, cur, hv, hg, hh, r⟩
  · rw [hn] at hk; cases hk
  · rw [hv] at hk; cases hk; exact ⟨hg, lt_blk hh⟩

def roleRow (ls : List RoleB) : List Value := ls.flatMap roleCells

theorem roleRow_length (ls : List RoleB) : (roleRow ls).length = ls.length * 2 := by
  induction ls with
  | nil => rfl
  | cons x l ih => simp only [roleRow, List.flatMap_cons, List.length_append, List.length_cons] at ih ⊢; rw [ih]; simp [roleCells]; omega

theorem roleRow_get : ∀ (ls : List RoleB) (i : Nat) (h : i < ls.length), (roleRow ls)[i * 2]? = some (.string ⟨ls[i].1.toArray⟩) ∧ (roleRow ls)[i * 2 + 1]? = some (.string ⟨ls[i].2.toArray⟩)
  | x :: l, 0, _ => ⟨rfl, rfl⟩
  | x :: l, i + 1, h => by
    have := roleRow_get l i (by simpa using h)
    have e : roleRow (x :: l) = .string ⟨x.1.toArray⟩ :: .string ⟨x.2.toArray⟩ :: roleRow l := rfl
    rw [e, show (i + 1) * 2 = i * 2 + 1 + 1 by omega]
    exact this

theorem roleRow_snoc (ls : List RoleB) (x : RoleB) : roleRow (ls ++ [x]) = roleRow ls ++ roleCells x := by
  simp [roleRow]

/-- A list of roles of the call's own. -/
def OwnR (B : Nat) (w : World) (v : Value) (ls : List RoleB) : Prop := w.ownsRow B 33 2 v ls.length (roleRow ls)

theorem OwnR.roles {B : Nat} {w : World} {v : Value} {ls : List RoleB} (h : OwnR B w v ls) (hb : ∀ x ∈ ls, x.1.length ≤ 9223372036854775807 ∧ x.2.length ≤ 9223372036854775807) :
    ∃ ao cap, v = .slice ao ls.length cap ∧ RolesAt (fun k => B ≤ k ∧ k < w.heap.size) w ao ls ∧ (ao = none → cap = 0) := by
  rcases h.2 with ⟨rfl, h0⟩ | ⟨g, cap, cur, rfl, hg, hh, h1, h2, h3, h4⟩
  · have : ls = [] := List.eq_nil_of_length_eq_zero h0
    subst this
    exact ⟨none, 0, rfl, RolesAt.nil _ _ _, fun _ => rfl⟩
  · refine ⟨_, _, rfl, fun i hi => ⟨g, 0, rfl, ⟨hg, lt_blk hh⟩, ?_, ?_, hb _ (List.getElem_mem hi)⟩, fun e => by cases e⟩
    · have := h.cells (g := g) rfl (i * 2) _ (roleRow_get ls i hi).1
      rw [add_off] at this
      exact this
    · have := h.cells (g := g) rfl (i * 2 + 1) _ (roleRow_get ls i hi).2
      rw [add_off] at this
      exact this

theorem OwnR.shape {B : Nat} {w : World} {v : Value} {ls : List RoleB} (h : OwnR B w v ls) : ∃ ao cap, v = .slice ao ls.length cap := by
  rcases h.2 with ⟨rfl, h0⟩ | ⟨g, cap, cur, rfl, _⟩
  · exact ⟨none, 0, by rw [h0]⟩
  · exact ⟨_, _, rfl⟩

theorem OwnR.keep {S : Nat → Prop} {B : Nat} {w w' : World} {v : Value} {ls : List RoleB} (h : OwnR B w v ls) (hc : Chg S w w') (hr : ∀ k, v.ownBlock = some k → ¬ S k) : OwnR B w' v ls := ownsRow_keep h hc hr

theorem role_cells_new (w : World) (x : RoleB) (j : Nat) (u : Value) (h : (roleCells x)[j]? = some u) : (w.alloc (.cells #[.string ⟨x.1.toArray⟩, .string ⟨x.2.toArray⟩] 33)).cell? ((⟨w.heap.size, 0, none⟩ : Addr).add j) = some u := by
  rw [add_off, cell_blk (heap_alloc_new w _), Nat.zero_add]
  match j, h with
  | 0, h => exact h
  | 1, h => exact h

/-- What Set leaves: the set, in new memory. -/
def SetPostR (ls : List RoleB) (w : World) (e : Ending) (w' : World) : Prop :=
  ∃ out ao cap, e = .returned (.slice ao out.length cap) ∧ SetR ls out ∧ RolesAt (fun k => w.heap.size ≤ k ∧ k < w'.heap.size) w' ao out ∧ Chg (fun _ => False) w w' ∧ (ao = none → cap = 0)

def lenOfV : Value → Nat
  | .slice _ n _ => n
  | _ => 0

theorem roles_lit (ls : List RoleB) (w : World) (f : Nat × Nat) (hb : ∀ x ∈ ls, x.1.length ≤ 9223372036854775807 ∧ x.2.length ≤ 9223372036854775807) :
    RolesAt (fun k => k = w.heap.size) (w.alloc (.cells (roleRow ls).toArray 33 f)) (some ⟨w.heap.size, 0, none⟩) ls := fun i hi =>
  ⟨w.heap.size, 0, rfl, rfl, by rw [cell_blk (heap_alloc_new w _), Nat.zero_add, List.getElem?_toArray]; exact (roleRow_get ls i hi).1, by rw [cell_blk (heap_alloc_new w _), Nat.zero_add, List.getElem?_toArray]; exact (roleRow_get ls i hi).2, hb _ (List.getElem_mem hi)⟩
end Go.Proofs.YtjflmhncgkbdmaaGreat

/- Lists of credentials of the call's own. -/
namespace Go.Proofs.YtjflmhncgkbdmaaGreat
open Go.RowKit

theorem Tryz.info35 : (Tryz.prog.info? 35).map (fun i => (i.zero, i.size, i.bytes)) = some (some (.agg #[.int .i64 0, .string ⟨#[]⟩, .string ⟨#[]⟩, .string ⟨#[]⟩, .string ⟨#[]⟩, .string ⟨#[]⟩, .string ⟨#[]⟩, .string ⟨#[]⟩, .string ⟨#[]⟩]), 9, 136) := by kernel_rfl

def credRow (ls : List CredB) : List Value := ls.flatMap credCells

theorem credRow_length (ls : List CredB) : (credRow ls).length = ls.length * 9 := by
  induction ls with
  | nil => rfl
  | cons x l ih => simp only [credRow, List.flatMap_cons, List.length_append, List.length_cons] at ih ⊢; rw [ih]; simp [credCells]; omega

theorem credRow_get : ∀ (ls : List CredB) (i j : Nat) (h : i < ls.length) (_ : j < 9), (credRow ls)[i * 9 + j]? = (credCells ls[i])[j]?
  | x :: l, 0, j, _, hj => by
    rw [show 0 * 9 + j = j by omega, credRow, List.flatMap_cons, List.getElem?_append_left (by simpa [credCells] using hj)]
    rfl
  | x :: l, i + 1, j, h, hj => by
    have := credRow_get l i j (by simpa using h) hj
    rw [credRow, List.flatMap_cons, List.getElem?_append_right (by simp [credCells]; omega)]
    rw [show (i + 1) * 9 + j - (credCells x).length = i * 9 + j by simp [credCells]; omega]
    exact this

theorem credRow_snoc (ls : List CredB) (x : CredB) : credRow (ls ++ [x]) = credRow ls ++ credCells x := by
  simp [credRow]

/-- A list of credentials of the call's own. -/
def OwnC (B : Nat) (w : World) (v : Value) (ls : List CredB) : Prop := w.ownsRow B 35 9 v ls.length (credRow ls)

theorem cred_at_cells {w : World} {g o : Nat} {c : CredB} (h : ∀ j, j < 9 → w.cell? ⟨g, o + j, none⟩ = (credCells c)[j]?) : CredAt w g o c :=
  ⟨h 0 (by omega), h 1 (by omega), h 2 (by omega), h 3 (by omega), h 4 (by omega), h 5 (by omega), h 6 (by omega), h 7 (by omega), h 8 (by omega)⟩

theorem OwnC.creds {B : Nat} {w : World} {v : Value} {ls : List CredB} (h : OwnC B w v ls) (hb : ∀ x ∈ ls, credShort x 9223372036854775807) :
    ∃ ao cap, v = .slice ao ls.length cap ∧ CredsAt (fun k => B ≤ k ∧ k < w.heap.size) w ao ls ∧ (ao = none → cap = 0) := by
  rcases h.2 with ⟨rfl, h0⟩ | ⟨g, cap, cur, rfl, hg, hh, h1, h2, h3, h4⟩
  · have : ls = [] := List.eq_nil_of_length_eq_zero h0
    subst this
    exact ⟨none, 0, rfl, CredsAt.nil _ _ _, fun _ => rfl⟩
  · refine ⟨_, _, rfl, fun i hi => ⟨g, 0, rfl, ⟨hg, lt_blk hh⟩, cred_at_cells fun j hj => ?_, hb _ (List.getElem_mem hi)⟩, fun e => by cases e⟩
    have hs : j < (credCells ls[i]).length := by simpa [credCells] using hj
    have hget := credRow_get ls i j hi hj
    rw [List.getElem?_eq_getElem hs] at hget ⊢
    have := h.cells (g := g) rfl (i * 9 + j) _ hget
    rw [add_off] at this
    rw [Nat.zero_add] at this ⊢
    exact this

theorem OwnC.shape {B : Nat} {w : World} {v : Value} {ls : List CredB} (h : OwnC B w v ls) : ∃ ao cap, v = .slice ao ls.length cap := by
  rcases h.2 with ⟨rfl, h0⟩ | ⟨g, cap, cur, rfl, _⟩
  · exact ⟨none, 0, by rw [h0]⟩
  · exact ⟨_, _, rfl⟩

theorem OwnC.keep {S : Nat → Prop} {B : Nat} {w w' : World} {v : Value} {ls : List CredB} (h : OwnC B w v ls) (hc : Chg S w w') (hr : ∀ k, v.ownBlock = some k → ¬ S k) : OwnC B w' v ls := ownsRow_keep h hc hr

theorem cred_cells_new (w : World) (x : CredB) (j : Nat) (u : Value) (h : (credCells x)[j]? = some u) : (w.alloc (.cells (credBox x) 35)).cell? ((⟨w.heap.size, 0, none⟩ : Addr).add j) = some u := by
  rw [add_off, cell_blk (heap_alloc_new w _), Nat.zero_add, show credBox x = (credCells x).toArray from rfl, List.getElem?_toArray]
  exact h

/-- What Set leaves: the set, in new memory. -/
def SetPostC (ls : List CredB) (w : World) (e : Ending) (w' : World) : Prop :=
  ∃ out ao cap, e = .returned (.slice ao out.length cap) ∧ SetC ls out ∧ CredsAt (fun k => w.heap.size ≤ k ∧ k < w'.heap.size) w' ao out ∧ Chg (fun _ => False) w w' ∧ (ao = none → cap = 0)

theorem isCred_short {c : CredB} (h : isCred c = true) : credShort c 16 := by
  have hh := isCred_head h
  simp only [isRole, Bool.and_eq_true] at hh
  have l1 := (isName_len hh.1).2
  have l2 := (isName_len hh.2).2
  have hr : ∀ r : RoleB, isRole r = true → r.1.length ≤ 16 ∧ r.2.length ≤ 16 := fun r hr => by
    simp only [isRole, Bool.and_eq_true] at hr
    exact ⟨(isName_len hr.1).2, (isName_len hr.2).2⟩
  rcases isCred_kind h with k | k | k | k
  · obtain ⟨a1, a2, a3, a4⟩ := isCred_one h k
    exact ⟨l1, l2, (isName_len a1).2, by rw [a2]; simp [noneR], by rw [a2]; simp [noneR], by rw [a3]; simp [noneR], by rw [a3]; simp [noneR], by rw [a4]; simp⟩
  · obtain ⟨a1, a2, a3, a4⟩ := isCred_two h k
    exact ⟨l1, l2, by rw [a1]; simp, (hr _ a2).1, (hr _ a2).2, by rw [a3]; simp [noneR], by rw [a3]; simp [noneR], by rw [a4]; simp⟩
  · obtain ⟨a1, a2, a3, a4, a5⟩ := isCred_three h k
    exact ⟨l1, l2, by rw [a1]; simp, (hr _ a2).1, (hr _ a2).2, by rw [a3]; simp [noneR], by rw [a3]; simp [noneR], (isName_len a5).2⟩
  · obtain ⟨a1, a2, a3, a4, a5⟩ := isCred_four h k
    exact ⟨l1, l2, by rw [a1]; simp, (hr _ a2).1, (hr _ a2).2, (hr _ a4).1, (hr _ a4).2, by rw [a3]; simp⟩
end Go.Proofs.YtjflmhncgkbdmaaGreat

/- Keys and signed credentials, as they lie in memory. -/
namespace Go.Proofs.YtjflmhncgkbdmaaGreat
open Go.RowKit

/-- The key k lies at two cells from o on; its bytes can be read from blocks of D. -/
structure KeyAt (D : Nat → Prop) (w : World) (b o : Nat) (k : KeyB) : Prop where
  k0 : w.cell? ⟨b, o, none⟩ = some (.string ⟨k.who.toArray⟩)
  k1 : ∃ ka cap, w.cell? ⟨b, o + 1, none⟩ = some (.slice ka k.key.length cap) ∧ BytesAt D w (.slice ka k.key.length cap) k.key
  l0 : k.who.length ≤ 9223372036854775807
  l1 : k.key.length ≤ 9223372036854775807

theorem KeyAt.keep {D S : Nat → Prop} {w w' : World} {b o : Nat} {k : KeyB} (h : KeyAt D w b o k) (hc : Chg S w w') (hb : ¬ S b) (hD : ∀ i, D i → ¬ S i) : KeyAt D w' b o k := by
  obtain ⟨ka, cap, h1, h2⟩ := h.k1
  exact ⟨hc.cell h.k0 hb, ⟨ka, cap, hc.cell h1 hb, h2.keep hc hD⟩, h.l0, h.l1⟩

theorem KeyAt.mono {D E : Nat → Prop} {w : World} {b o : Nat} {k : KeyB} (h : KeyAt D w b o k) (hD : ∀ i, D i → E i) : KeyAt E w b o k := by
  obtain ⟨ka, cap, h1, h2⟩ := h.k1
  exact ⟨h.k0, ⟨ka, cap, h1, h2.mono hD⟩, h.l0, h.l1⟩

/-- The keys ls can be read from the address ao on. -/
def KeysAt (D : Nat → Prop) (w : World) (ao : Option Addr) (ls : List KeyB) : Prop :=
  ∀ i (h : i < ls.length), ∃ b off, ao = some ⟨b, off, none⟩ ∧ D b ∧ KeyAt D w b (off + i * 2) ls[i]

theorem KeysAt.keep {S D : Nat → Prop} {w w' : World} {ao : Option Addr} {ls : List KeyB} (h : KeysAt D w ao ls) (hc : Chg S w w') (hS : ∀ i, D i → ¬ S i) : KeysAt D w' ao ls := fun i hi =>
  let ⟨b, off, h1, h2, h3⟩ := h i hi
  ⟨b, off, h1, h2, h3.keep hc (hS b h2) hS⟩

theorem KeysAt.mono {D D' : Nat → Prop} {w : World} {ao : Option Addr} {ls : List KeyB} (h : KeysAt D w ao ls) (hD : ∀ i, D i → D' i) : KeysAt D' w ao ls := fun i hi =>
  let ⟨b, off, h1, h2, h3⟩ := h i hi
  ⟨b, off, h1, hD b h2, h3.mono hD⟩

theorem KeysAt.nil (D : Nat → Prop) (w : World) (ao : Option Addr) : KeysAt D w ao [] := fun i hi => by simp at hi

/-- The signed credential s lies at ten cells from o on; its tag's bytes can be read from blocks of D. -/
structure SignAt (D : Nat → Prop) (w : World) (b o : Nat) (s : SignB) : Prop where
  cr : CredAt w b o s.c
  tg : ∃ ta cap, w.cell? ⟨b, o + 9, none⟩ = some (.slice ta s.tag.length cap) ∧ BytesAt D w (.slice ta s.tag.length cap) s.tag
  sh : credShort s.c 9223372036854775807
  ln : s.tag.length ≤ 9223372036854775807

theorem SignAt.keep {D S : Nat → Prop} {w w' : World} {b o : Nat} {s : SignB} (h : SignAt D w b o s) (hc : Chg S w w') (hb : ¬ S b) (hD : ∀ i, D i → ¬ S i) : SignAt D w' b o s := by
  obtain ⟨ta, cap, h1, h2⟩ := h.tg
  exact ⟨h.cr.keep hc hb, ⟨ta, cap, hc.cell h1 hb, h2.keep hc hD⟩, h.sh, h.ln⟩

theorem SignAt.mono {D E : Nat → Prop} {w : World} {b o : Nat} {s : SignB} (h : SignAt D w b o s) (hD : ∀ i, D i → E i) : SignAt E w b o s := by
  obtain ⟨ta, cap, h1, h2⟩ := h.tg
  exact ⟨h.cr, ⟨ta, cap, h1, h2.mono hD⟩, h.sh, h.ln⟩

/-- The signed credentials ls can be read from the address ao on. -/
def SignsAt (D : Nat → Prop) (w : World) (ao : Option Addr) (ls : List SignB) : Prop :=
  ∀ i (h : i < ls.length), ∃ b off, ao = some ⟨b, off, none⟩ ∧ D b ∧ SignAt D w b (off + i * 10) ls[i]

theorem SignsAt.keep {S D : Nat → Prop} {w w' : World} {ao : Option Addr} {ls : List SignB} (h : SignsAt D w ao ls) (hc : Chg S w w') (hS : ∀ i, D i → ¬ S i) : SignsAt D w' ao ls := fun i hi =>
  let ⟨b, off, h1, h2, h3⟩ := h i hi
  ⟨b, off, h1, h2, h3.keep hc (hS b h2) hS⟩

theorem SignsAt.mono {D D' : Nat → Prop} {w : World} {ao : Option Addr} {ls : List SignB} (h : SignsAt D w ao ls) (hD : ∀ i, D i → D' i) : SignsAt D' w ao ls := fun i hi =>
  let ⟨b, off, h1, h2, h3⟩ := h i hi
  ⟨b, off, h1, hD b h2, h3.mono hD⟩

theorem SignsAt.nil (D : Nat → Prop) (w : World) (ao : Option Addr) : SignsAt D w ao [] := fun i hi => by simp at hi

/-- A signed credential's ten cells, the tag being the slice v. -/
def signBox (c : CredB) (v : Value) : Array Value :=
  #[.int .i64 c.kind, .string ⟨c.head.1.toArray⟩, .string ⟨c.head.2.toArray⟩, .string ⟨c.who.toArray⟩, .string ⟨c.b.1.toArray⟩, .string ⟨c.b.2.toArray⟩, .string ⟨c.c.1.toArray⟩, .string ⟨c.c.2.toArray⟩, .string ⟨c.w2.toArray⟩, v]
def signV (c : CredB) (v : Value) : Value := .agg (signBox c v)

/-- v is a signed credential's value: its tag can be read. -/
def SignVal (D : Nat → Prop) (w : World) (v : Value) (s : SignB) : Prop :=
  ∃ ta cap, v = signV s.c (.slice ta s.tag.length cap) ∧ BytesAt D w (.slice ta s.tag.length cap) s.tag

theorem SignVal.keep {D S : Nat → Prop} {w w' : World} {v : Value} {s : SignB} (h : SignVal D w v s) (hc : Chg S w w') (hD : ∀ i, D i → ¬ S i) : SignVal D w' v s := by
  obtain ⟨ta, cap, h1, h2⟩ := h
  exact ⟨ta, cap, h1, h2.keep hc hD⟩

theorem cred_at_sign {w : World} {g : Nat} {c : CredB} {v : Value} {ty : TypeId} {f : Nat × Nat} (h : w.heap[g]? = some (.cells (signBox c v) ty f)) : CredAt w g 0 c ∧ w.cell? ⟨g, 9, none⟩ = some v :=
  ⟨⟨cell_blk h 0, cell_blk h 1, cell_blk h 2, cell_blk h 3, cell_blk h 4, cell_blk h 5, cell_blk h 6, cell_blk h 7, cell_blk h 8⟩, cell_blk h 9⟩
end Go.Proofs.YtjflmhncgkbdmaaGreat
