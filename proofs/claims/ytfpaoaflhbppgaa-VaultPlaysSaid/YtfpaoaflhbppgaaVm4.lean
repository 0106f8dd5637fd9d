/- Texts that the proof leans on, in one: RoleGet, RoleRef, RoleParse, BackNum, RoleBackMath, CredGet, CredOrd, RoleOwn, CredOwn, KeyCells, CredEq, VaultMath, RefRoleLess. -/
import Derived.Test.YtfpaoaflhbppgaaVm3
import Derived.Test.YtfpaoaflhbppgaaVm1
import Derived.Test.YtfpaoaflhbppgaaVm2
import Derived.Deep.QuietTactic
import Derived.BigQuiet
import Derived.Maps.AppendAt
/- The contract of the document's Get of layer 4. -/
namespace Go.Proofs.Ytfpaoaflhbppgaa
open Go.RowKit

/-- The role that comes next, what is left behind it, the error there. -/
def roleOk (l : List UInt8) : Bool := nameOk l && nameOk (nameRest l)
def roleOf (l : List UInt8) : RoleB := (nameOf l, nameOf (nameRest l))
def roleRest (l : List UInt8) : List UInt8 := nameRest (nameRest l)
def roleBad (l : List UInt8) : Nat := if nameOk l = true then nameBad (nameRest l) else nameBad l
def roleErr (l : List UInt8) : Int := if roleOk l = true then endOf 0 (roleRest l).length else roleBad l
def roleGot (l : List UInt8) (z : RoleB) : RoleB := if roleOk l = true then roleOf l else z

theorem roleBad_ne (l : List UInt8) : ¬ ((roleBad l : Int) = 0) := by
  unfold roleBad
  split
  · exact nameBad_ne _
  · exact nameBad_ne _

theorem nameRest_len (l : List UInt8) : (nameRest l).length ≤ l.length := by
  unfold nameRest
  simp

/-- A role of nothing. -/
def noRole : RoleB := ([], [])

end Go.Proofs.Ytfpaoaflhbppgaa

/- The contracts of the document's Right of layer 4. -/
namespace Go.Proofs.Ytfpaoaflhbppgaa
open Go.RowKit

theorem rright_ref (r : RoleB) (w : World) (h1 : r.1.length ≤ 9223372036854775807) (h2 : r.2.length ≤ 9223372036854775807) :
    Calls Try.prog 58 #[roleV r] w fun e w' => e = .returned (.bool (isRole r)) ∧ Chg (fun _ => False) w w' := by
  obtain ⟨o, x⟩ := r
  have hc : Chg (fun _ => False) w (w.alloc (.cells #[.string ⟨o.toArray⟩, .string ⟨x.toArray⟩] 30)) := (Chg.refl _ w).alloc _
  have HC := hid hc
  clear hc
  cases ho : isName o with
  | false =>
    have hh : Hid (isRole (o, x) = false) := hid (by simp [isRole, ho])
    show Calls Try.prog 58 #[.agg #[.string ⟨o.toArray⟩, .string ⟨x.toArray⟩]] w _
    go_enter Try.func58, Try.ntmps58
    go_wp2_with (go_at_call 59; refine (refright_any o _ h1).mono ?_; rintro e w' ⟨rfl, rfl⟩; rw [ho])
    go_ret
    exact ⟨by rw [hh.out]; rfl, HC.out⟩
  | true =>
    have hh : Hid (isRole (o, x) = isName x) := hid (by simp [isRole, ho])
    show Calls Try.prog 58 #[.agg #[.string ⟨o.toArray⟩, .string ⟨x.toArray⟩]] w _
    go_enter Try.func58, Try.ntmps58
    go_wp2_with fail
    refine (refright_any o _ h1).mono ?_
    rintro e w' ⟨rfl, rfl⟩
    rw [ho]
    go_wp2_with fail
    refine (refright_any x _ h2).mono ?_
    rintro e w' ⟨rfl, rfl⟩
    go_wp2
    go_ret
    exact ⟨by rw [hh.out]; rfl, HC.out⟩
end Go.Proofs.Ytfpaoaflhbppgaa

/- Which role a text is. -/
namespace Go.Proofs.Ytfpaoaflhbppgaa
open Go.RowKit

/-- The text ahead of the first full stop, and the one behind it. -/
def cutDot : List UInt8 → Option (List UInt8 × List UInt8)
  | [] => none
  | c :: l => if c.toNat = 46 then some ([], l) else (cutDot l).map fun p => (c :: p.1, p.2)
def parseR (s : List UInt8) : Option RoleB := match cutDot s with
  | none => none
  | some r => if isRole r = true then some r else none

theorem results_row_tmp {fn : Func} {p u : Tmp} {ty : TypeId} (h : fn.results = #[.cell p ty, .tmp u]) (tmps : Array Value) (w : World) (g : Nat) (cs : Array Value)
    (hp : tmps.getD p undef = .pointer (some ⟨g, 0, none⟩)) (hl : (loadVar ty ⟨g, 0, none⟩).run Try.prog w = .ok (.agg cs) w) :
    (results fn tmps).run Try.prog w = .ok (.tuple #[.agg cs, tmps.getD u undef]) w := by
  rw [results_cell_tmp h, hp]
  simp [asAddr, Result.andThen, hl]

theorem cutDot_none : ∀ (s : List UInt8), (∀ c ∈ s, c.toNat ≠ 46) → cutDot s = none
  | [], _ => rfl
  | c :: l, h => by
    rw [cutDot, if_neg (h c (by simp)), cutDot_none l (fun d hd => h d (List.mem_cons_of_mem _ hd))]
    rfl

theorem cutDot_at : ∀ (s : List UInt8) (k : Nat) (hk : k < s.length), (∀ c ∈ s.take k, c.toNat ≠ 46) → s[k].toNat = 46 → cutDot s = some (s.take k, s.drop (k + 1))
  | c :: l, 0, _, _, h => by
    have : c.toNat = 46 := h
    rw [cutDot, if_pos this]
    rfl
  | c :: l, k + 1, hk, hn, h => by
    rw [cutDot, if_neg (hn c (by simp)), cutDot_at l k (by simpa using hk) (fun d hd => hn d (by rw [List.take_succ_cons]; exact List.mem_cons_of_mem _ hd)) (by simpa using h)]
    rfl

def ParsePost (s : List UInt8) (w : World) (e : Ending) (w' : World) : Prop :=
  e = .returned (.tuple #[roleV ((parseR s).getD noRole), .bool (parseR s).isSome]) ∧ Chg (fun _ => False) w w'
end Go.Proofs.Ytfpaoaflhbppgaa

/- A number's bytes, written and read again. -/
namespace Go.Proofs.Ytfpaoaflhbppgaa
open Go.RowKit

theorem u8_eq {a b : UInt8} (h : a.toNat = b.toNat) : a = b := UInt8.toNat_inj.1 h

theorem digits_join (n m k : Nat) : n + (128 + m % 128 - 128) * 128 ^ k + m / 128 * 128 ^ (k + 1) = n + m * 128 ^ k := by
  have h1 : 128 + m % 128 - 128 = m % 128 := by omega
  have h2 : m % 128 + m / 128 * 128 = m := by omega
  rw [h1, Nat.pow_succ]
  generalize 128 ^ k = c
  have h3 : m / 128 * (c * 128) = m / 128 * 128 * c := by rw [Nat.mul_assoc, Nat.mul_comm c 128]
  rw [h3, Nat.add_assoc, ← Nat.add_mul, h2]

/-- What is written is read again. -/
theorem numN_enc : ∀ (f m k n : Nat) (r : List UInt8), (enc m).length ≤ f → (k = 0 ∨ 0 < m) → numN f (enc m ++ r) k n = (n + m * 128 ^ k, k + (enc m).length, 0)
  | 0, m, _, _, _, hf, _ => by have := enc_pos m; omega
  | f + 1, m, k, n, r, hf, hk => by
    by_cases h : m < 128
    · rw [enc_small h, List.singleton_append]
      unfold numN
      rw [ds_toNat h, if_neg (by omega), if_pos h]
      simp
    · rw [enc_big (by omega), List.cons_append]
      rw [enc_big (by omega), List.length_cons] at hf
      unfold numN
      have hm := Nat.mod_lt m (show 0 < 128 by decide)
      rw [dg_toNat, if_neg (by omega), if_neg (by omega), numN_enc f (m / 128) (k + 1) _ r (by omega) (.inr (by omega))]
      have e : n + (128 + m % 128 - 128) * 128 ^ k + m / 128 * 128 ^ (k + 1) = n + m * 128 ^ k := digits_join n m k
      rw [e, List.length_cons]
      congr 2
      omega

/-- What is read without an error was written so. -/
theorem numN_inv : ∀ (f : Nat) (l : List UInt8) (k n : Nat), (numN f l k n).2.2 = 0 →
    ∃ m, (k = 0 ∨ 0 < m) ∧ (numN f l k n).1 = n + m * 128 ^ k ∧ (numN f l k n).2.1 = k + (enc m).length ∧ l = enc m ++ l.drop (enc m).length
  | 0, _, _, _, h => by simp [numN] at h
  | _ + 1, [], _, _, h => by simp [numN] at h
  | f + 1, d :: l, k, n, h => by
    unfold numN at h ⊢
    by_cases h1 : d.toNat = 0 ∧ 0 < k
    · rw [if_pos h1] at h
      simp at h
    · rw [if_neg h1] at h ⊢
      by_cases h2 : d.toNat < 128
      · rw [if_pos h2]
        have e : enc d.toNat = [d] := by
          rw [enc_small h2]
          congr 1
          exact u8_eq (ds_toNat h2)
        refine ⟨d.toNat, by omega, rfl, ?_, ?_⟩
        · rw [e]; rfl
        · rw [e]; rfl
      · rw [if_neg h2] at h ⊢
        have hd := UInt8.toNat_lt d
        obtain ⟨m, hm, e1, e2, e3⟩ := numN_inv f l (k + 1) _ h
        have hm0 : 0 < m := by omega
        have e : enc (d.toNat - 128 + m * 128) = d :: enc m := by
          rw [enc_big (by omega)]
          have a1 : (d.toNat - 128 + m * 128) / 128 = m := by omega
          rw [a1]
          congr 1
          exact u8_eq (by rw [dg_toNat]; omega)
        refine ⟨d.toNat - 128 + m * 128, .inr (by omega), ?_, ?_, ?_⟩
        · rw [e1, Nat.add_mul, Nat.pow_succ, Nat.add_assoc, Nat.mul_assoc, Nat.mul_comm 128 (128 ^ k)]
        · rw [e2, e, List.length_cons]; omega
        · rw [e, List.length_cons, List.drop_succ_cons, List.cons_append, ← e3]

/-- A number ahead of other bytes. -/
theorem numN_enc9 {m : Nat} (h : m < 9223372036854775808) (r : List UInt8) : numN 9 (enc m ++ r) 0 0 = (m, (enc m).length, 0) := by
  rw [numN_enc 9 m 0 0 r (enc_length9 h) (.inl rfl)]
  simp

/-- The bytes that are left behind a number, and the number's. -/
theorem numN_take {l : List UInt8} (h : (numN 9 l 0 0).2.2 = 0) : l = enc (numN 9 l 0 0).1 ++ l.drop (numN 9 l 0 0).2.1 := by
  obtain ⟨m, _, e1, e2, e3⟩ := numN_inv 9 l 0 0 h
  simp only [Nat.pow_zero, Nat.mul_one, Nat.zero_add] at e1 e2
  rw [e1, e2]
  exact e3

end Go.Proofs.Ytfpaoaflhbppgaa

/- Roles put and got, told and parsed, and their order: plain words. -/
namespace Go.Proofs.Ytfpaoaflhbppgaa
open Go.RowKit

theorem cmpR_neg (a b : RoleB) : cmpR a b = -cmpR b a := by
  unfold cmpR
  rcases ltR_ord.tri a b with h | h | h
  · rw [h, ltR_ord.asymm h]; simp
  · subst h; rw [ltR_ord.irrefl]; simp
  · rw [h, ltR_ord.asymm h]; simp

theorem cmpR_bound (a b : RoleB) : -1 ≤ cmpR a b ∧ cmpR a b ≤ 1 := by
  unfold cmpR
  split
  · omega
  · split <;> omega

theorem cmpR_zero (a b : RoleB) : (cmpR a b == 0) = eqR a b := by
  unfold cmpR eqR
  rcases ltR_ord.tri a b with h | h | h
  · have hne : a ≠ b := fun e => by subst e; rw [ltR_ord.irrefl] at h; cases h
    rw [h]
    have : (a == b) = false := by simpa using hne
    rw [this]; rfl
  · subst h; rw [ltR_ord.irrefl]; simp
  · have hne : a ≠ b := fun e => by subst e; rw [ltR_ord.irrefl] at h; cases h
    rw [h, ltR_ord.asymm h]
    have : (a == b) = false := by simpa using hne
    rw [this]; rfl

theorem cmpR_le (a b : RoleB) : cmpR a b ≤ 0 ↔ ltR b a = false := by
  unfold cmpR
  cases h : ltR a b with
  | true => rw [ltR_ord.asymm h]; simp
  | false =>
    cases h2 : ltR b a with
    | true => simp
    | false => simp

theorem cmpR_trans (a b c : RoleB) (h1 : cmpR a b ≤ 0) (h2 : cmpR b c ≤ 0) : cmpR a c ≤ 0 := by
  rw [cmpR_le] at *
  cases h : ltR c a with
  | false => rfl
  | true =>
    rcases ltR_ord.tri a b with k | k | k
    · have := ltR_ord.trans _ _ _ h k; rw [h2] at this; cases this
    · subst k; rw [h] at h2; cases h2
    · rw [k] at h1; cases h1

theorem name_nodot {s : List UInt8} (h : isName s = true) : ∀ c ∈ s, c.toNat ≠ 46 := by
  cases s with
  | nil => intro c hc; cases hc
  | cons d l =>
    simp only [isName, Bool.and_eq_true] at h
    intro c hc he
    have := List.all_eq_true.1 h.2 c hc
    rcases okByte_yes this with k | k | k <;> omega

theorem cutDot_app : ∀ (o x : List UInt8), (∀ c ∈ o, c.toNat ≠ 46) → cutDot (o ++ (46 :: x)) = some (o, x)
  | [], x, _ => by rw [List.nil_append, cutDot, if_pos (by decide)]
  | c :: l, x, h => by
    rw [List.cons_append, cutDot, if_neg (h c (by simp)), cutDot_app l x (fun d hd => h d (List.mem_cons_of_mem _ hd))]
    rfl

theorem parse_text {r : RoleB} (h : isRole r = true) : parseR (roleText r) = some r := by
  have hn : isName r.1 = true := by simp only [isRole, Bool.and_eq_true] at h; exact h.1
  rw [parseR, roleText, cutDot_app r.1 r.2 (name_nodot hn)]
  exact if_pos h

theorem name_enc {o : List UInt8} (h : isName o = true) (x : List UInt8) : nameOk ((enc o.length ++ o) ++ x) = true ∧ nameOf ((enc o.length ++ o) ++ x) = o ∧ nameRest ((enc o.length ++ o) ++ x) = x := by
  have hl := isName_len h
  have hN := numN_enc9 (m := o.length) (by omega) (o ++ x)
  rw [← List.append_assoc] at hN
  have h1 : errText ((enc o.length ++ o) ++ x) 16 = 0 := by
    unfold errText
    rw [hN]
    simp only [if_true, List.length_append]
    rw [if_neg (by omega), if_neg (by omega)]
  have h2 : nameOf ((enc o.length ++ o) ++ x) = o := by
    unfold nameOf
    rw [hN]
    simp
  refine ⟨by rw [nameOk, decide_eq_true h1, h2, h]; rfl, h2, ?_⟩
  unfold nameRest
  rw [hN, List.append_assoc, ← List.drop_drop]
  simp

theorem role_put_got {r : RoleB} (h : isRole r = true) : roleErr (roleEnc r) = 0 ∧ roleGot (roleEnc r) noRole = r := by
  have hn : isName r.1 = true ∧ isName r.2 = true := by simpa [isRole] using h
  obtain ⟨a1, a2, a3⟩ := name_enc hn.1 (enc r.2.length ++ r.2)
  obtain ⟨b1, b2, b3⟩ := name_enc hn.2 []
  rw [List.append_nil] at b1 b2 b3
  have hok : roleOk (roleEnc r) = true := by rw [roleOk, roleEnc, a1, a3, b1]; rfl
  have hof : roleOf (roleEnc r) = r := by rw [roleOf, roleEnc, a2, a3, b2]
  have hrs : roleRest (roleEnc r) = [] := by rw [roleRest, roleEnc, a3, b3]
  exact ⟨by rw [roleErr, if_pos hok, hrs]; rfl, by rw [roleGot, if_pos hok, hof]⟩
end Go.Proofs.Ytfpaoaflhbppgaa

/- Which credential any bytes are, and the error; what is put is got: plain words. -/
namespace Go.Proofs.Ytfpaoaflhbppgaa
open Go.RowKit

/-- What comes next: an error, or a credential and what is left. -/
inductive GetC where
  | bad (e : Nat)
  | ok (c : CredB) (rest : List UInt8)

def numBad (l : List UInt8) : Nat := (numN 9 l 0 0).2.2
def numOf (l : List UInt8) : Nat := (numN 9 l 0 0).1
def numRest (l : List UInt8) : List UInt8 := l.drop (numN 9 l 0 0).2.1

/-- The last part, and whether it is right as a whole. -/
def getEnd (c : CredB) (l : List UInt8) : GetC := if isCred c then .ok c l else .bad 11
def getWord (c : CredB) (l : List UInt8) : GetC := if nameOk l then getEnd { c with w2 := nameOf l } (nameRest l) else .bad (nameBad l)
def getC (c : CredB) (l : List UInt8) : GetC := if roleOk l then getEnd { c with c := roleOf l } (roleRest l) else .bad (roleBad l)
def getB (c : CredB) (l : List UInt8) : GetC :=
  if roleOk l then (if c.kind = 3 then getWord { c with b := roleOf l } (roleRest l) else if c.kind = 4 then getC { c with b := roleOf l } (roleRest l) else getEnd { c with b := roleOf l } (roleRest l)) else .bad (roleBad l)
def getWho (c : CredB) (l : List UInt8) : GetC := if nameOk l then getEnd { c with who := nameOf l } (nameRest l) else .bad (nameBad l)
def getHead (k : Int) (l : List UInt8) : GetC :=
  if roleOk l then (if k = 1 then getWho { noCred with kind := k, head := roleOf l } (roleRest l) else getB { noCred with kind := k, head := roleOf l } (roleRest l)) else .bad (roleBad l)
def credGet (l : List UInt8) : GetC :=
  if numBad l = 0 then (if 1 ≤ numOf l ∧ numOf l ≤ 4 then getHead (numOf l : Nat) (numRest l) else .bad 11) else .bad (numBad l)

/-- How Read ends, and what was got. -/
def credErr (l : List UInt8) : Int := match credGet l with
  | .bad e => e
  | .ok _ rest => endOf 0 rest.length
def credGot (l : List UInt8) (z : CredB) : CredB := match credGet l with
  | .bad _ => z
  | .ok c _ => c

theorem role_enc {r : RoleB} (h : isRole r = true) (x : List UInt8) : roleOk (roleEnc r ++ x) = true ∧ roleOf (roleEnc r ++ x) = r ∧ roleRest (roleEnc r ++ x) = x := by
  have hn : isName r.1 = true ∧ isName r.2 = true := by simpa [isRole] using h
  obtain ⟨a1, a2, a3⟩ := name_enc hn.1 ((enc r.2.length ++ r.2) ++ x)
  obtain ⟨b1, b2, b3⟩ := name_enc hn.2 x
  have e : roleEnc r ++ x = (enc r.1.length ++ r.1) ++ ((enc r.2.length ++ r.2) ++ x) := by rw [roleEnc, List.append_assoc]
  rw [e]
  exact ⟨by rw [roleOk, a1, a3, b1]; rfl, by rw [roleOf, a2, a3, b2], by rw [roleRest, a3, b3]⟩

/-- A right credential's kind. -/
theorem isCred_kind {c : CredB} (h : isCred c = true) : c.kind = 1 ∨ c.kind = 2 ∨ c.kind = 3 ∨ c.kind = 4 := by
  unfold isCred at h
  by_cases h1 : c.kind = 1
  · exact .inl h1
  · by_cases h2 : c.kind = 2
    · exact .inr (.inl h2)
    · by_cases h3 : c.kind = 3
      · exact .inr (.inr (.inl h3))
      · rw [if_neg h1, if_neg h2, if_neg h3] at h
        simp only [Bool.and_eq_true, beq_iff_eq] at h
        exact .inr (.inr (.inr h.2.2.1))

theorem isCred_head {c : CredB} (h : isCred c = true) : isRole c.head = true := by
  unfold isCred at h
  simp only [Bool.and_eq_true] at h
  exact h.1

theorem isCred_one {c : CredB} (h : isCred c = true) (k : c.kind = 1) : isName c.who = true ∧ c.b = noneR ∧ c.c = noneR ∧ c.w2 = [] := by
  unfold isCred at h
  rw [if_pos k] at h
  simp only [Bool.and_eq_true, beq_iff_eq] at h
  exact h.2

theorem isCred_two {c : CredB} (h : isCred c = true) (k : c.kind = 2) : c.who = [] ∧ isRole c.b = true ∧ c.c = noneR ∧ c.w2 = [] := by
  unfold isCred at h
  rw [if_neg (by omega), if_pos k] at h
  simp only [Bool.and_eq_true, beq_iff_eq] at h
  exact ⟨h.2.1.1, h.2.1.2, h.2.2⟩

theorem isCred_three {c : CredB} (h : isCred c = true) (k : c.kind = 3) : c.who = [] ∧ isRole c.b = true ∧ c.c = noneR ∧ c.b.1 = c.head.1 ∧ isName c.w2 = true := by
  unfold isCred at h
  rw [if_neg (by omega), if_neg (by omega), if_pos k] at h
  simp only [Bool.and_eq_true, beq_iff_eq] at h
  exact ⟨h.2.1.1, h.2.1.2, h.2.2⟩

theorem isCred_four {c : CredB} (h : isCred c = true) (k : c.kind = 4) : c.who = [] ∧ isRole c.b = true ∧ c.w2 = [] ∧ isRole c.c = true ∧ ltR c.b c.c = true := by
  unfold isCred at h
  rw [if_neg (by omega), if_neg (by omega), if_neg (by omega)] at h
  simp only [Bool.and_eq_true, beq_iff_eq] at h
  exact ⟨h.2.1.1, h.2.1.2, h.2.2.2⟩

theorem num_enc {m : Nat} (h : m < 9223372036854775808) (x : List UInt8) : numBad (enc m ++ x) = 0 ∧ numOf (enc m ++ x) = m ∧ numRest (enc m ++ x) = x := by
  have hN := numN_enc9 h x
  exact ⟨by rw [numBad, hN], by rw [numOf, hN], by rw [numRest, hN]; simp⟩

/-- What has bytes is got. -/
theorem credGet_enc {c : CredB} (h : isCred c = true) (x : List UInt8) : credGet (credEnc c ++ x) = .ok c x := by
  have hk := isCred_kind h
  have hh := isCred_head h
  obtain ⟨k, hd, who, b, cc, w2⟩ := c
  dsimp only at hk hh
  have e : credEnc ⟨k, hd, who, b, cc, w2⟩ ++ x = enc k.toNat ++ (roleEnc hd ++ (credTail ⟨k, hd, who, b, cc, w2⟩ ++ x)) := by
    simp only [credEnc, List.append_assoc]
  obtain ⟨n1, n2, n3⟩ := num_enc (m := k.toNat) (by omega) (roleEnc hd ++ (credTail ⟨k, hd, who, b, cc, w2⟩ ++ x))
  obtain ⟨r1, r2, r3⟩ := role_enc hh (credTail ⟨k, hd, who, b, cc, w2⟩ ++ x)
  have hkk : ((k.toNat : Nat) : Int) = k := by omega
  rw [e, credGet, if_pos n1, n2, n3, if_pos (by omega), getHead, if_pos r1, r2, r3, hkk]
  rcases hk with k1 | k1 | k1 | k1
  · obtain ⟨a1, a2, a3, a4⟩ := isCred_one h k1
    dsimp only at a1 a2 a3 a4
    subst k1 a2 a3 a4
    obtain ⟨m1, m2, m3⟩ := name_enc a1 x
    rw [if_pos rfl, show credTail ⟨1, hd, who, noneR, noneR, []⟩ = enc who.length ++ who from rfl, getWho, if_pos m1, m2, m3, getEnd]
    exact if_pos h
  · obtain ⟨a1, a2, a3, a4⟩ := isCred_two h k1
    dsimp only at a1 a2 a3 a4
    subst k1 a1 a3 a4
    obtain ⟨m1, m2, m3⟩ := role_enc a2 x
    rw [if_neg (by decide), show credTail ⟨2, hd, [], b, noneR, []⟩ = roleEnc b from rfl, getB, if_pos m1, m2, m3]
    rw [if_neg (show ¬ (2 : Int) = 3 by decide), if_neg (show ¬ (2 : Int) = 4 by decide), getEnd]
    exact if_pos h
  · obtain ⟨a1, a2, a3, a4, a5⟩ := isCred_three h k1
    dsimp only at a1 a2 a3 a4 a5
    subst k1 a1 a3
    obtain ⟨m1, m2, m3⟩ := role_enc a2 (encS w2 ++ x)
    obtain ⟨q1, q2, q3⟩ := name_enc a5 x
    rw [if_neg (by decide), show credTail ⟨3, hd, [], b, noneR, w2⟩ = roleEnc b ++ encS w2 from rfl, List.append_assoc, getB, if_pos m1, m2, m3]
    rw [if_pos rfl, encS, getWord, if_pos q1, q2, q3, getEnd]
    exact if_pos h
  · obtain ⟨a1, a2, a3, a4, a5⟩ := isCred_four h k1
    dsimp only at a1 a2 a3 a4 a5
    subst k1 a1 a3
    obtain ⟨m1, m2, m3⟩ := role_enc a2 (roleEnc cc ++ x)
    obtain ⟨q1, q2, q3⟩ := role_enc a4 x
    rw [if_neg (by decide), show credTail ⟨4, hd, [], b, cc, []⟩ = roleEnc b ++ roleEnc cc from rfl, List.append_assoc, getB, if_pos m1, m2, m3]
    rw [if_neg (show ¬ (4 : Int) = 3 by decide), if_pos rfl, getC, if_pos q1, q2, q3, getEnd]
    exact if_pos h

theorem credEnc_inj {a b : CredB} (ha : isCred a = true) (hb : isCred b = true) (h : credEnc a = credEnc b) : a = b := by
  have h1 := credGet_enc ha []
  have h2 := credGet_enc hb []
  rw [h, h2] at h1
  cases h1
  rfl

theorem credEnc_ne (c : CredB) : credEnc c ≠ [] := by
  unfold credEnc
  have := enc_pos c.kind.toNat
  intro h
  have h2 := congrArg List.length h
  rw [List.length_append] at h2
  simp only [List.length_nil] at h2
  omega

/-- Two that compare as one are one, if they are right. -/
theorem cmpC_zero {a b : CredB} (ha : isCred a = true) (hb : isCred b = true) : cmpC a b = 0 ↔ a = b := by
  unfold cmpC credBytes
  rw [if_pos ha, if_pos hb]
  constructor
  · intro h
    rcases ltS_ord.tri (credEnc a) (credEnc b) with k | k | k
    · rw [if_pos k] at h; cases h
    · exact credEnc_inj ha hb k
    · have k2 := ltS_ord.asymm k
      rw [if_neg (by rw [k2]; decide), if_pos k] at h; cases h
  · rintro rfl
    have := ltS_ord.irrefl (credEnc a)
    rw [this]
    rfl

theorem cmpC_neg (a b : CredB) : cmpC a b = -cmpC b a := by
  unfold cmpC
  rcases ltS_ord.tri (credBytes a) (credBytes b) with k | k | k
  · rw [if_pos k, if_neg (by rw [ltS_ord.asymm k]; decide), if_pos k]
  · rw [k, ltS_ord.irrefl]; rfl
  · rw [if_neg (by rw [ltS_ord.asymm k]; decide), if_pos k, if_pos k]; rfl
end Go.Proofs.Ytfpaoaflhbppgaa

/- The order of credentials, made whole: by their bytes, then by their fields; sets of right ones: plain words. -/
namespace Go.Proofs.Ytfpaoaflhbppgaa
open Go.RowKit

theorem Ord.comap {α β : Type} {lt : β → β → Bool} (o : Ord lt) (f : α → β) (hf : ∀ a b, f a = f b → a = b) : Ord (fun a b => lt (f a) (f b)) where
  irrefl a := o.irrefl (f a)
  trans a b c h1 h2 := o.trans _ _ _ h1 h2
  tri a b := by
    rcases o.tri (f a) (f b) with h | h | h
    · exact .inl h
    · exact .inr (.inl (hf a b h))
    · exact .inr (.inr h)

def ltI (a b : Int) : Bool := decide (a < b)
theorem ltI_ord : Ord ltI where
  irrefl a := by simp [ltI]
  trans a b c h1 h2 := by simp only [ltI, decide_eq_true_eq] at *; omega
  tri a b := by simp only [ltI, decide_eq_true_eq]; omega

/-- Bytes first, then each field. -/
def credKey (c : CredB) : List UInt8 × (Int × (RoleB × (List UInt8 × (RoleB × (RoleB × List UInt8))))) := (credBytes c, (c.kind, (c.head, (c.who, (c.b, (c.c, c.w2))))))
def ltKey : (List UInt8 × (Int × (RoleB × (List UInt8 × (RoleB × (RoleB × List UInt8)))))) → (List UInt8 × (Int × (RoleB × (List UInt8 × (RoleB × (RoleB × List UInt8)))))) → Bool :=
  lexLt ltS (lexLt ltI (lexLt ltR (lexLt ltS (lexLt ltR (lexLt ltR ltS)))))
theorem ltKey_ord : Ord ltKey := lexLt_ord ltS_ord (lexLt_ord ltI_ord (lexLt_ord ltR_ord (lexLt_ord ltS_ord (lexLt_ord ltR_ord (lexLt_ord ltR_ord ltS_ord)))))
theorem credKey_inj (a b : CredB) (h : credKey a = credKey b) : a = b := by
  obtain ⟨k, hd, who, b1, c1, w2⟩ := a
  obtain ⟨k', hd', who', b1', c1', w2'⟩ := b
  simp only [credKey, Prod.mk.injEq] at h
  obtain ⟨_, h1, h2, h3, h4, h5, h6⟩ := h
  subst h1 h2 h3 h4 h5 h6
  rfl

def ltC (a b : CredB) : Bool := ltKey (credKey a) (credKey b)
theorem ltC_ord : Ord ltC := ltKey_ord.comap credKey credKey_inj
def SetC (ls out : List CredB) : Prop := SetG ltC isCred ls out
theorem SetC.one {ls a b : List CredB} (ha : SetC ls a) (hb : SetC ls b) : a = b := SetG.one ltC_ord ha hb

/-- Of right ones it is the bytes' order. -/
theorem ltC_right {a b : CredB} (ha : isCred a = true) (hb : isCred b = true) : ltC a b = ltS (credBytes a) (credBytes b) := by
  cases h : ltS (credBytes a) (credBytes b) with
  | true => simp [ltC, ltKey, lexLt, credKey, h]
  | false =>
    rcases ltC_ord.tri a b with k | k | k
    · rw [k]
      simp only [ltC, ltKey, credKey] at k
      rw [lexLt, Bool.or_eq_true, Bool.and_eq_true, beq_iff_eq] at k
      rcases k with k | ⟨k1, k2⟩
      · rw [show ltS (credBytes a) (credBytes b) = true from k] at h; cases h
      · have e : a = b := by
          unfold credBytes at k1
          simp only [ha, hb, if_true] at k1
          exact credEnc_inj ha hb k1
        subst e
        have := ltC_ord.irrefl a
        have h3 : ltC a a = true := by
          simp only [ltC, ltKey, credKey]
          rw [lexLt, Bool.or_eq_true, Bool.and_eq_true, beq_iff_eq]
          exact .inr ⟨rfl, k2⟩
        rw [this] at h3
        cases h3
    · subst k; exact ltC_ord.irrefl a
    · exact ltC_ord.asymm k

theorem cmpC_lt {a b : CredB} (ha : isCred a = true) (hb : isCred b = true) : decide (cmpC a b < 0) = ltC a b := by
  rw [ltC_right ha hb]
  unfold cmpC
  cases h : ltS (credBytes a) (credBytes b) with
  | true => simp
  | false => cases h2 : ltS (credBytes b) (credBytes a) <;> simp
end Go.Proofs.Ytfpaoaflhbppgaa

/- Lists of roles of the call's own. -/
namespace Go.Proofs.Ytfpaoaflhbppgaa
open Go.RowKit

theorem Try.info30 : (Try.prog.info? 30).map (fun i => (i.zero, i.size, i.bytes)) = some (some (.agg #[.string ⟨#[]⟩, .string ⟨#[]⟩]), 2, 32) := by kernel_rfl

theorem ownsRow_keep {S : Nat → Prop} {B E n s : Nat} {w w' : World} {v : Value} {xs : List Value} (h : w.ownsRow B E s v n xs) (hc : Chg S w w') (hr : ∀ k, v.ownBlock = some k → ¬ S k) : w'.ownsRow B E s v n xs := by
  refine ⟨h.1, ?_⟩
  rcases h.2 with hn | ⟨g, cap, cur, hv, hg, hh, r⟩
  · exact .inl hn
  · exact .inr ⟨g, cap, cur, hv, hg, blk_keep hh hc (hr g (by rw [hv]; rfl)), r⟩

theorem ownsRow_lt {B E n s : Nat} {w : World} {v : Value} {xs : List Value} (h : w.ownsRow B E s v n xs) (k : Nat) (hk : v.ownBlock = some k) : B ≤ k ∧ k < w.heap.size := by
  rcases h.2 with ⟨hn, _⟩ | ⟨g, cap, cur, hv, hg, hh, r⟩
  · rw [hn] at hk; cases hk
  · rw [hv] at hk; cases hk; exact ⟨hg, lt_blk hh⟩

def roleRow (ls : List RoleB) : List Value := ls.flatMap roleCells

theorem roleRow_length (ls : List RoleB) : (roleRow ls).length = ls.length * 2 := by
  induction ls with
  | nil => rfl
  | cons x l ih => simp only [roleRow, List.flatMap_cons, List.length_append, List.length_cons] at ih ⊢; rw [ih]; simp [roleCells]; omega

theorem roleRow_get : ∀ (ls : List RoleB) (i : Nat) (h : i < ls.length), (roleRow ls)[i * 2]? = some (.string ⟨ls[i].1.toArray⟩) ∧ (roleRow ls)[i * 2 + 1]? = some (.string ⟨ls[i].2.toArray⟩)
  | x :: l, 0, _ => ⟨rfl, rfl⟩
  | x :: l, i + 1, h => by
    have := roleRow_get l i (by simpa using h)
    have e : roleRow (x :: l) = .string ⟨x.1.toArray⟩ :: .string ⟨x.2.toArray⟩ :: roleRow l := rfl
    rw [e, show (i + 1) * 2 = i * 2 + 1 + 1 by omega]
    exact this

theorem roleRow_snoc (ls : List RoleB) (x : RoleB) : roleRow (ls ++ [x]) = roleRow ls ++ roleCells x := by
  simp [roleRow]

/-- A list of roles of the call's own. -/
def OwnR (B : Nat) (w : World) (v : Value) (ls : List RoleB) : Prop := w.ownsRow B 30 2 v ls.length (roleRow ls)

theorem OwnR.roles {B : Nat} {w : World} {v : Value} {ls : List RoleB} (h : OwnR B w v ls) (hb : ∀ x ∈ ls, x.1.length ≤ 9223372036854775807 ∧ x.2.length ≤ 9223372036854775807) :
    ∃ ao cap, v = .slice ao ls.length cap ∧ RolesAt (fun k => B ≤ k ∧ k < w.heap.size) w ao ls ∧ (ao = none → cap = 0) := by
  rcases h.2 with ⟨rfl, h0⟩ | ⟨g, cap, cur, rfl, hg, hh, h1, h2, h3, h4⟩
  · have : ls = [] := List.eq_nil_of_length_eq_zero h0
    subst this
    exact ⟨none, 0, rfl, RolesAt.nil _ _ _, fun _ => rfl⟩
  · refine ⟨_, _, rfl, fun i hi => ⟨g, 0, rfl, ⟨hg, lt_blk hh⟩, ?_, ?_, hb _ (List.getElem_mem hi)⟩, fun e => by cases e⟩
    · have := h.cells (g := g) rfl (i * 2) _ (roleRow_get ls i hi).1
      rw [add_off] at this
      exact this
    · have := h.cells (g := g) rfl (i * 2 + 1) _ (roleRow_get ls i hi).2
      rw [add_off] at this
      exact this

theorem OwnR.shape {B : Nat} {w : World} {v : Value} {ls : List RoleB} (h : OwnR B w v ls) : ∃ ao cap, v = .slice ao ls.length cap := by
  rcases h.2 with ⟨rfl, h0⟩ | ⟨g, cap, cur, rfl, _⟩
  · exact ⟨none, 0, by rw [h0]⟩
  · exact ⟨_, _, rfl⟩

theorem OwnR.keep {S : Nat → Prop} {B : Nat} {w w' : World} {v : Value} {ls : List RoleB} (h : OwnR B w v ls) (hc : Chg S w w') (hr : ∀ k, v.ownBlock = some k → ¬ S k) : OwnR B w' v ls := ownsRow_keep h hc hr

theorem role_cells_new (w : World) (x : RoleB) (j : Nat) (u : Value) (h : (roleCells x)[j]? = some u) : (w.alloc (.cells #[.string ⟨x.1.toArray⟩, .string ⟨x.2.toArray⟩] 30)).cell? ((⟨w.heap.size, 0, none⟩ : Addr).add j) = some u := by
  rw [add_off, cell_blk (heap_alloc_new w _), Nat.zero_add]
  match j, h with
  | 0, h => exact h
  | 1, h => exact h

/-- What Set leaves: the set, in new memory. -/
def SetPostR (ls : List RoleB) (w : World) (e : Ending) (w' : World) : Prop :=
  ∃ out ao cap, e = .returned (.slice ao out.length cap) ∧ SetR ls out ∧ RolesAt (fun k => w.heap.size ≤ k ∧ k < w'.heap.size) w' ao out ∧ Chg (fun _ => False) w w' ∧ (ao = none → cap = 0)

def lenOfV : Value → Nat
  | .slice _ n _ => n
  | _ => 0

theorem roles_lit (ls : List RoleB) (w : World) (f : Nat × Nat) (hb : ∀ x ∈ ls, x.1.length ≤ 9223372036854775807 ∧ x.2.length ≤ 9223372036854775807) :
    RolesAt (fun k => k = w.heap.size) (w.alloc (.cells (roleRow ls).toArray 30 f)) (some ⟨w.heap.size, 0, none⟩) ls := fun i hi =>
  ⟨w.heap.size, 0, rfl, rfl, by rw [cell_blk (heap_alloc_new w _), Nat.zero_add, List.getElem?_toArray]; exact (roleRow_get ls i hi).1, by rw [cell_blk (heap_alloc_new w _), Nat.zero_add, List.getElem?_toArray]; exact (roleRow_get ls i hi).2, hb _ (List.getElem_mem hi)⟩
end Go.Proofs.Ytfpaoaflhbppgaa

/- Lists of credentials of the call's own. -/
namespace Go.Proofs.Ytfpaoaflhbppgaa
open Go.RowKit

theorem Try.info32 : (Try.prog.info? 32).map (fun i => (i.zero, i.size, i.bytes)) = some (some (.agg #[.int .i64 0, .string ⟨#[]⟩, .string ⟨#[]⟩, .string ⟨#[]⟩, .string ⟨#[]⟩, .string ⟨#[]⟩, .string ⟨#[]⟩, .string ⟨#[]⟩, .string ⟨#[]⟩]), 9, 136) := by kernel_rfl

def credRow (ls : List CredB) : List Value := ls.flatMap credCells

theorem credRow_length (ls : List CredB) : (credRow ls).length = ls.length * 9 := by
  induction ls with
  | nil => rfl
  | cons x l ih => simp only [credRow, List.flatMap_cons, List.length_append, List.length_cons] at ih ⊢; rw [ih]; simp [credCells]; omega

theorem credRow_get : ∀ (ls : List CredB) (i j : Nat) (h : i < ls.length) (_ : j < 9), (credRow ls)[i * 9 + j]? = (credCells ls[i])[j]?
  | x :: l, 0, j, _, hj => by
    rw [show 0 * 9 + j = j by omega, credRow, List.flatMap_cons, List.getElem?_append_left (by simpa [credCells] using hj)]
    rfl
  | x :: l, i + 1, j, h, hj => by
    have := credRow_get l i j (by simpa using h) hj
    rw [credRow, List.flatMap_cons, List.getElem?_append_right (by simp [credCells]; omega)]
    rw [show (i + 1) * 9 + j - (credCells x).length = i * 9 + j by simp [credCells]; omega]
    exact this

theorem credRow_snoc (ls : List CredB) (x : CredB) : credRow (ls ++ [x]) = credRow ls ++ credCells x := by
  simp [credRow]

/-- A list of credentials of the call's own. -/
def OwnC (B : Nat) (w : World) (v : Value) (ls : List CredB) : Prop := w.ownsRow B 32 9 v ls.length (credRow ls)

theorem cred_at_cells {w : World} {g o : Nat} {c : CredB} (h : ∀ j, j < 9 → w.cell? ⟨g, o + j, none⟩ = (credCells c)[j]?) : CredAt w g o c :=
  ⟨h 0 (by omega), h 1 (by omega), h 2 (by omega), h 3 (by omega), h 4 (by omega), h 5 (by omega), h 6 (by omega), h 7 (by omega), h 8 (by omega)⟩

theorem OwnC.creds {B : Nat} {w : World} {v : Value} {ls : List CredB} (h : OwnC B w v ls) (hb : ∀ x ∈ ls, credShort x 9223372036854775807) :
    ∃ ao cap, v = .slice ao ls.length cap ∧ CredsAt (fun k => B ≤ k ∧ k < w.heap.size) w ao ls ∧ (ao = none → cap = 0) := by
  rcases h.2 with ⟨rfl, h0⟩ | ⟨g, cap, cur, rfl, hg, hh, h1, h2, h3, h4⟩
  · have : ls = [] := List.eq_nil_of_length_eq_zero h0
    subst this
    exact ⟨none, 0, rfl, CredsAt.nil _ _ _, fun _ => rfl⟩
  · refine ⟨_, _, rfl, fun i hi => ⟨g, 0, rfl, ⟨hg, lt_blk hh⟩, cred_at_cells fun j hj => ?_, hb _ (List.getElem_mem hi)⟩, fun e => by cases e⟩
    have hs : j < (credCells ls[i]).length := by simpa [credCells] using hj
    have hget := credRow_get ls i j hi hj
    rw [List.getElem?_eq_getElem hs] at hget ⊢
    have := h.cells (g := g) rfl (i * 9 + j) _ hget
    rw [add_off] at this
    rw [Nat.zero_add] at this ⊢
    exact this

theorem OwnC.shape {B : Nat} {w : World} {v : Value} {ls : List CredB} (h : OwnC B w v ls) : ∃ ao cap, v = .slice ao ls.length cap := by
  rcases h.2 with ⟨rfl, h0⟩ | ⟨g, cap, cur, rfl, _⟩
  · exact ⟨none, 0, by rw [h0]⟩
  · exact ⟨_, _, rfl⟩

theorem OwnC.keep {S : Nat → Prop} {B : Nat} {w w' : World} {v : Value} {ls : List CredB} (h : OwnC B w v ls) (hc : Chg S w w') (hr : ∀ k, v.ownBlock = some k → ¬ S k) : OwnC B w' v ls := ownsRow_keep h hc hr

theorem cred_cells_new (w : World) (x : CredB) (j : Nat) (u : Value) (h : (credCells x)[j]? = some u) : (w.alloc (.cells (credBox x) 32)).cell? ((⟨w.heap.size, 0, none⟩ : Addr).add j) = some u := by
  rw [add_off, cell_blk (heap_alloc_new w _), Nat.zero_add, show credBox x = (credCells x).toArray from rfl, List.getElem?_toArray]
  exact h

/-- What Set leaves: the set, in new memory. -/
def SetPostC (ls : List CredB) (w : World) (e : Ending) (w' : World) : Prop :=
  ∃ out ao cap, e = .returned (.slice ao out.length cap) ∧ SetC ls out ∧ CredsAt (fun k => w.heap.size ≤ k ∧ k < w'.heap.size) w' ao out ∧ Chg (fun _ => False) w w' ∧ (ao = none → cap = 0)

theorem isCred_short {c : CredB} (h : isCred c = true) : credShort c 16 := by
  have hh := isCred_head h
  simp only [isRole, Bool.and_eq_true] at hh
  have l1 := (isName_len hh.1).2
  have l2 := (isName_len hh.2).2
  have hr : ∀ r : RoleB, isRole r = true → r.1.length ≤ 16 ∧ r.2.length ≤ 16 := fun r hr => by
    simp only [isRole, Bool.and_eq_true] at hr
    exact ⟨(isName_len hr.1).2, (isName_len hr.2).2⟩
  rcases isCred_kind h with k | k | k | k
  · obtain ⟨a1, a2, a3, a4⟩ := isCred_one h k
    exact ⟨l1, l2, (isName_len a1).2, by rw [a2]; simp [noneR], by rw [a2]; simp [noneR], by rw [a3]; simp [noneR], by rw [a3]; simp [noneR], by rw [a4]; simp⟩
  · obtain ⟨a1, a2, a3, a4⟩ := isCred_two h k
    exact ⟨l1, l2, by rw [a1]; simp, (hr _ a2).1, (hr _ a2).2, by rw [a3]; simp [noneR], by rw [a3]; simp [noneR], by rw [a4]; simp⟩
  · obtain ⟨a1, a2, a3, a4, a5⟩ := isCred_three h k
    exact ⟨l1, l2, by rw [a1]; simp, (hr _ a2).1, (hr _ a2).2, by rw [a3]; simp [noneR], by rw [a3]; simp [noneR], (isName_len a5).2⟩
  · obtain ⟨a1, a2, a3, a4, a5⟩ := isCred_four h k
    exact ⟨l1, l2, by rw [a1]; simp, (hr _ a2).1, (hr _ a2).2, (hr _ a4).1, (hr _ a4).2, by rw [a3]; simp⟩
end Go.Proofs.Ytfpaoaflhbppgaa

/- Keys and signed credentials, as they lie in memory. -/
namespace Go.Proofs.Ytfpaoaflhbppgaa
open Go.RowKit

/-- The key k lies at two cells from o on; its bytes can be read from blocks of D. -/
structure KeyAt (D : Nat → Prop) (w : World) (b o : Nat) (k : KeyB) : Prop where
  k0 : w.cell? ⟨b, o, none⟩ = some (.string ⟨k.who.toArray⟩)
  k1 : ∃ ka cap, w.cell? ⟨b, o + 1, none⟩ = some (.slice ka k.key.length cap) ∧ BytesAt D w (.slice ka k.key.length cap) k.key
  l0 : k.who.length ≤ 9223372036854775807
  l1 : k.key.length ≤ 9223372036854775807

theorem KeyAt.keep {D S : Nat → Prop} {w w' : World} {b o : Nat} {k : KeyB} (h : KeyAt D w b o k) (hc : Chg S w w') (hb : ¬ S b) (hD : ∀ i, D i → ¬ S i) : KeyAt D w' b o k := by
  obtain ⟨ka, cap, h1, h2⟩ := h.k1
  exact ⟨hc.cell h.k0 hb, ⟨ka, cap, hc.cell h1 hb, h2.keep hc hD⟩, h.l0, h.l1⟩

theorem KeyAt.mono {D E : Nat → Prop} {w : World} {b o : Nat} {k : KeyB} (h : KeyAt D w b o k) (hD : ∀ i, D i → E i) : KeyAt E w b o k := by
  obtain ⟨ka, cap, h1, h2⟩ := h.k1
  exact ⟨h.k0, ⟨ka, cap, h1, h2.mono hD⟩, h.l0, h.l1⟩

/-- The keys ls can be read from the address ao on. -/
def KeysAt (D : Nat → Prop) (w : World) (ao : Option Addr) (ls : List KeyB) : Prop :=
  ∀ i (h : i < ls.length), ∃ b off, ao = some ⟨b, off, none⟩ ∧ D b ∧ KeyAt D w b (off + i * 2) ls[i]

theorem KeysAt.keep {S D : Nat → Prop} {w w' : World} {ao : Option Addr} {ls : List KeyB} (h : KeysAt D w ao ls) (hc : Chg S w w') (hS : ∀ i, D i → ¬ S i) : KeysAt D w' ao ls := fun i hi =>
  let ⟨b, off, h1, h2, h3⟩ := h i hi
  ⟨b, off, h1, h2, h3.keep hc (hS b h2) hS⟩

theorem KeysAt.mono {D D' : Nat → Prop} {w : World} {ao : Option Addr} {ls : List KeyB} (h : KeysAt D w ao ls) (hD : ∀ i, D i → D' i) : KeysAt D' w ao ls := fun i hi =>
  let ⟨b, off, h1, h2, h3⟩ := h i hi
  ⟨b, off, h1, hD b h2, h3.mono hD⟩

theorem KeysAt.nil (D : Nat → Prop) (w : World) (ao : Option Addr) : KeysAt D w ao [] := fun i hi => by simp at hi

/-- The signed credential s lies at ten cells from o on; its tag's bytes can be read from blocks of D. -/
structure SignAt (D : Nat → Prop) (w : World) (b o : Nat) (s : SignB) : Prop where
  cr : CredAt w b o s.c
  tg : ∃ ta cap, w.cell? ⟨b, o + 9, none⟩ = some (.slice ta s.tag.length cap) ∧ BytesAt D w (.slice ta s.tag.length cap) s.tag
  sh : credShort s.c 9223372036854775807
  ln : s.tag.length ≤ 9223372036854775807

theorem SignAt.keep {D S : Nat → Prop} {w w' : World} {b o : Nat} {s : SignB} (h : SignAt D w b o s) (hc : Chg S w w') (hb : ¬ S b) (hD : ∀ i, D i → ¬ S i) : SignAt D w' b o s := by
  obtain ⟨ta, cap, h1, h2⟩ := h.tg
  exact ⟨h.cr.keep hc hb, ⟨ta, cap, hc.cell h1 hb, h2.keep hc hD⟩, h.sh, h.ln⟩

theorem SignAt.mono {D E : Nat → Prop} {w : World} {b o : Nat} {s : SignB} (h : SignAt D w b o s) (hD : ∀ i, D i → E i) : SignAt E w b o s := by
  obtain ⟨ta, cap, h1, h2⟩ := h.tg
  exact ⟨h.cr, ⟨ta, cap, h1, h2.mono hD⟩, h.sh, h.ln⟩

/-- The signed credentials ls can be read from the address ao on. -/
def SignsAt (D : Nat → Prop) (w : World) (ao : Option Addr) (ls : List SignB) : Prop :=
  ∀ i (h : i < ls.length), ∃ b off, ao = some ⟨b, off, none⟩ ∧ D b ∧ SignAt D w b (off + i * 10) ls[i]

theorem SignsAt.keep {S D : Nat → Prop} {w w' : World} {ao : Option Addr} {ls : List SignB} (h : SignsAt D w ao ls) (hc : Chg S w w') (hS : ∀ i, D i → ¬ S i) : SignsAt D w' ao ls := fun i hi =>
  let ⟨b, off, h1, h2, h3⟩ := h i hi
  ⟨b, off, h1, h2, h3.keep hc (hS b h2) hS⟩

theorem SignsAt.mono {D D' : Nat → Prop} {w : World} {ao : Option Addr} {ls : List SignB} (h : SignsAt D w ao ls) (hD : ∀ i, D i → D' i) : SignsAt D' w ao ls := fun i hi =>
  let ⟨b, off, h1, h2, h3⟩ := h i hi
  ⟨b, off, h1, hD b h2, h3.mono hD⟩

theorem SignsAt.nil (D : Nat → Prop) (w : World) (ao : Option Addr) : SignsAt D w ao [] := fun i hi => by simp at hi

/-- A signed credential's ten cells, the tag being the slice v. -/
def signBox (c : CredB) (v : Value) : Array Value :=
  #[.int .i64 c.kind, .string ⟨c.head.1.toArray⟩, .string ⟨c.head.2.toArray⟩, .string ⟨c.who.toArray⟩, .string ⟨c.b.1.toArray⟩, .string ⟨c.b.2.toArray⟩, .string ⟨c.c.1.toArray⟩, .string ⟨c.c.2.toArray⟩, .string ⟨c.w2.toArray⟩, v]
def signV (c : CredB) (v : Value) : Value := .agg (signBox c v)

/-- v is a signed credential's value: its tag can be read. -/
def SignVal (D : Nat → Prop) (w : World) (v : Value) (s : SignB) : Prop :=
  ∃ ta cap, v = signV s.c (.slice ta s.tag.length cap) ∧ BytesAt D w (.slice ta s.tag.length cap) s.tag

theorem SignVal.keep {D S : Nat → Prop} {w w' : World} {v : Value} {s : SignB} (h : SignVal D w v s) (hc : Chg S w w') (hD : ∀ i, D i → ¬ S i) : SignVal D w' v s := by
  obtain ⟨ta, cap, h1, h2⟩ := h
  exact ⟨ta, cap, h1, h2.keep hc hD⟩

theorem cred_at_sign {w : World} {g : Nat} {c : CredB} {v : Value} {ty : TypeId} {f : Nat × Nat} (h : w.heap[g]? = some (.cells (signBox c v) ty f)) : CredAt w g 0 c ∧ w.cell? ⟨g, 9, none⟩ = some v :=
  ⟨⟨cell_blk h 0, cell_blk h 1, cell_blk h 2, cell_blk h 3, cell_blk h 4, cell_blk h 5, cell_blk h 6, cell_blk h 7, cell_blk h 8⟩, cell_blk h 9⟩
end Go.Proofs.Ytfpaoaflhbppgaa

/- Go's == and != at credentials. -/
namespace Go.Proofs.Ytfpaoaflhbppgaa
open Go.RowKit

theorem eqC_iff (a b : CredB) : eqC a b = decide (a.kind = b.kind ∧ a.head.1 = b.head.1 ∧ a.head.2 = b.head.2 ∧ a.who = b.who ∧ a.b.1 = b.b.1 ∧ a.b.2 = b.b.2 ∧ a.c.1 = b.c.1 ∧ a.c.2 = b.c.2 ∧ a.w2 = b.w2) := by
  obtain ⟨k, ⟨h1, h2⟩, who, ⟨b1, b2⟩, ⟨c1, c2⟩, w2⟩ := a
  obtain ⟨k', ⟨h1', h2'⟩, who', ⟨b1', b2'⟩, ⟨c1', c2'⟩, w2'⟩ := b
  rw [Bool.eq_iff_iff]
  simp [eqC, and_assoc]

theorem eqC_true {a b : CredB} : eqC a b = true ↔ a = b := by simp [eqC]

theorem run_eqgC (x y : Operand) (a b : CredB) (w : World) : Sem.run Try.prog (eqGuard BinOp.eql 32 x y (credV a) (credV b)) w = .ok () w := by
  unfold credV credBox
  go_simp

theorem run_eqlC (a b : CredB) (w : World) : Sem.run Try.prog (binOp BinOp.eql 32 (credV a) (credV b)) w = .ok (.bool (eqC a b)) w := by
  rw [eqC_iff]
  unfold credV credBox
  go_simp
  repeat' split
  all_goals simp_all

theorem run_neqgC (x y : Operand) (a b : CredB) (w : World) : Sem.run Try.prog (eqGuard BinOp.neq 32 x y (credV a) (credV b)) w = .ok () w := by
  unfold credV credBox
  go_simp

theorem run_neqC (a b : CredB) (w : World) : Sem.run Try.prog (binOp BinOp.neq 32 (credV a) (credV b)) w = .ok (.bool (!eqC a b)) w := by
  rw [eqC_iff]
  unfold credV credBox
  go_simp
  repeat' split
  all_goals simp_all
end Go.Proofs.Ytfpaoaflhbppgaa

/- What a vault holds, in the document's plain words: entries, their order, adding and dropping. -/
namespace Go.Proofs.Ytfpaoaflhbppgaa
open Go.RowKit

/-- A signed credential that is held: its tag's slice with it. -/
structure EntB where
  c : CredB
  tag : List UInt8
  ta : Option Addr
  cap : Nat
  deriving Inhabited

def EntB.s (t : EntB) : SignB := ⟨t.c, t.tag⟩
def EntB.v (t : EntB) : Value := .slice t.ta t.tag.length t.cap

def entCells (t : EntB) : List Value :=
  [.int .i64 t.c.kind, .string ⟨t.c.head.1.toArray⟩, .string ⟨t.c.head.2.toArray⟩, .string ⟨t.c.who.toArray⟩, .string ⟨t.c.b.1.toArray⟩, .string ⟨t.c.b.2.toArray⟩, .string ⟨t.c.c.1.toArray⟩, .string ⟨t.c.c.2.toArray⟩, .string ⟨t.c.w2.toArray⟩, .slice t.ta t.tag.length t.cap]
theorem entCells_len (t : EntB) : (entCells t).length = 10 := rfl
theorem signBox_ent (t : EntB) : signBox t.c (.slice t.ta t.tag.length t.cap) = (entCells t).toArray := rfl

def entRow (ls : List EntB) : List Value := ls.flatMap entCells
theorem entRow_snoc (ls : List EntB) (x : EntB) : entRow (ls ++ [x]) = entRow ls ++ entCells x := by simp [entRow]

theorem entRow_get : ∀ (ls : List EntB) (i j : Nat) (h : i < ls.length) (_ : j < 10), (entRow ls)[i * 10 + j]? = (entCells ls[i])[j]?
  | x :: l, 0, j, _, hj => by
    rw [Nat.zero_mul, Nat.zero_add, entRow, List.flatMap_cons, List.getElem?_append_left (by rw [entCells_len]; exact hj)]
    rfl
  | x :: l, i + 1, j, h, hj => by
    have := entRow_get l i j (by simpa using h) hj
    rw [entRow, List.flatMap_cons, List.getElem?_append_right (by rw [entCells_len, Nat.add_mul]; omega), entCells_len]
    rw [show (i + 1) * 10 + j - 10 = i * 10 + j by rw [Nat.add_mul]; omega]
    exact this

/-- A list of entries of the call's own. -/
def OwnE (B : Nat) (w : World) (v : Value) (ls : List EntB) : Prop := w.ownsRow B 35 10 v ls.length (entRow ls)

theorem OwnE.keep {S : Nat → Prop} {B : Nat} {w w' : World} {v : Value} {ls : List EntB} (h : OwnE B w v ls) (hc : Chg S w w') (hr : ∀ k, v.ownBlock = some k → ¬ S k) : OwnE B w' v ls := ownsRow_keep h hc hr

theorem OwnE.shape {B : Nat} {w : World} {v : Value} {ls : List EntB} (h : OwnE B w v ls) : ∃ ao cap, v = .slice ao ls.length cap := by
  rcases h.2 with ⟨rfl, h0⟩ | ⟨g, cap, cur, rfl, _⟩
  · exact ⟨none, 0, by rw [h0]⟩
  · exact ⟨_, _, rfl⟩

theorem Try.info35 : (Try.prog.info? 35).map (fun i => (i.zero, i.size, i.bytes)) = some (some (.agg #[.int .i64 0, .string ⟨#[]⟩, .string ⟨#[]⟩, .string ⟨#[]⟩, .string ⟨#[]⟩, .string ⟨#[]⟩, .string ⟨#[]⟩, .string ⟨#[]⟩, .string ⟨#[]⟩, .slice none 0 0]), 10, 160) := by kernel_rfl

theorem ent_cells_new (w : World) (x : EntB) (j : Nat) (u : Value) (h : (entCells x)[j]? = some u) : (w.alloc (.cells (signBox x.c (.slice x.ta x.tag.length x.cap)) 35)).cell? ((⟨w.heap.size, 0, none⟩ : Addr).add j) = some u := by
  rw [add_off, cell_blk (heap_alloc_new w _), Nat.zero_add, signBox_ent, List.getElem?_toArray]
  exact h

theorem ent_one (x : EntB) : ∀ u ∈ entCells x, u.oneCell' = true := by
  intro u hu
  simp only [entCells, List.mem_cons, List.not_mem_nil, or_false] at hu
  rcases hu with rfl | rfl | rfl | rfl | rfl | rfl | rfl | rfl | rfl | rfl <;> rfl

/-- The entries ls lie from the address ao on, in a block of D. -/
def EntsAt (D : Nat → Prop) (w : World) (ao : Option Addr) (ls : List EntB) : Prop :=
  ∀ i (h : i < ls.length), ∃ b off, ao = some ⟨b, off, none⟩ ∧ D b ∧ ∀ j, j < 10 → w.cell? ⟨b, off + i * 10 + j, none⟩ = (entCells ls[i])[j]?

theorem EntsAt.keep {S D : Nat → Prop} {w w' : World} {ao : Option Addr} {ls : List EntB} (h : EntsAt D w ao ls) (hc : Chg S w w') (hS : ∀ i, D i → ¬ S i) : EntsAt D w' ao ls := fun i hi =>
  let ⟨b, off, h1, h2, h3⟩ := h i hi
  ⟨b, off, h1, h2, fun j hj => by
    have hx : j < (entCells ls[i]).length := hj
    have := h3 j hj
    rw [List.getElem?_eq_getElem hx] at this ⊢
    exact hc.cell this (hS b h2)⟩

theorem EntsAt.mono {D D' : Nat → Prop} {w : World} {ao : Option Addr} {ls : List EntB} (h : EntsAt D w ao ls) (hD : ∀ i, D i → D' i) : EntsAt D' w ao ls := fun i hi =>
  let ⟨b, off, h1, h2, h3⟩ := h i hi
  ⟨b, off, h1, hD b h2, h3⟩

theorem EntsAt.nil (D : Nat → Prop) (w : World) (ao : Option Addr) : EntsAt D w ao [] := fun i hi => by simp at hi

theorem EntsAt.cells {D : Nat → Prop} {w : World} {ao : Option Addr} {ls : List EntB} (h : EntsAt D w ao ls) {i : Nat} (hi : i < ls.length) :
    ∃ b off, ao = some ⟨b, off, none⟩ ∧ CredAt w b (off + i * 10) ls[i].c ∧ w.cell? ⟨b, off + i * 10 + 9, none⟩ = some (.slice ls[i].ta ls[i].tag.length ls[i].cap) := by
  obtain ⟨b, off, h1, _, h3⟩ := h i hi
  exact ⟨b, off, h1, ⟨h3 0 (by omega), h3 1 (by omega), h3 2 (by omega), h3 3 (by omega), h3 4 (by omega), h3 5 (by omega), h3 6 (by omega), h3 7 (by omega), h3 8 (by omega)⟩, h3 9 (by omega)⟩

theorem OwnE.ents {B : Nat} {w : World} {v : Value} {ls : List EntB} (h : OwnE B w v ls) :
    ∃ ao cap, v = .slice ao ls.length cap ∧ EntsAt (fun k => B ≤ k ∧ k < w.heap.size) w ao ls ∧ (ao = none → cap = 0) := by
  have hall := h
  rcases h.2 with ⟨rfl, h0⟩ | ⟨g, cap, cur, rfl, hg, hh, h1, h2, h3, h4⟩
  · have : ls = [] := List.eq_nil_of_length_eq_zero h0
    subst this
    exact ⟨none, 0, rfl, EntsAt.nil _ _ _, fun _ => rfl⟩
  · refine ⟨_, _, rfl, fun i hi => ⟨g, 0, rfl, ⟨hg, lt_blk hh⟩, fun j hj => ?_⟩, fun e => by cases e⟩
    have hget := entRow_get ls i j hi hj
    have hs : j < (entCells ls[i]).length := hj
    rw [List.getElem?_eq_getElem hs] at hget ⊢
    have := hall.cells (g := g) rfl (i * 10 + j) _ hget
    rw [add_off, Nat.zero_add] at this
    rw [Nat.zero_add]
    exact this

/-- All are signed, as they must be; their tags can be read. -/
def TagsIn (D : Nat → Prop) (w : World) (ls : List EntB) : Prop := ∀ t ∈ ls, isSign t.s = true ∧ BytesAt D w (.slice t.ta t.tag.length t.cap) t.tag

theorem TagsIn.keep {S D : Nat → Prop} {w w' : World} {ls : List EntB} (h : TagsIn D w ls) (hc : Chg S w w') (hS : ∀ i, D i → ¬ S i) : TagsIn D w' ls := fun t ht => ⟨(h t ht).1, (h t ht).2.keep hc hS⟩
theorem TagsIn.mono {D E : Nat → Prop} {w : World} {ls : List EntB} (h : TagsIn D w ls) (hD : ∀ i, D i → E i) : TagsIn E w ls := fun t ht => ⟨(h t ht).1, (h t ht).2.mono hD⟩

theorem EntsAt.signs {D : Nat → Prop} {w : World} {ao : Option Addr} {ls : List EntB} (h : EntsAt D w ao ls) (ht : TagsIn D w ls) (hs : ∀ t ∈ ls, credShort t.c 9223372036854775807 ∧ t.tag.length ≤ 9223372036854775807) : SignsAt D w ao (ls.map EntB.s) := fun i hi => by
  rw [List.length_map] at hi
  obtain ⟨b, off, h1, h2, h3⟩ := h i hi
  obtain ⟨b', off', h1', h4, h5⟩ := h.cells hi
  rw [h1] at h1'; cases h1'
  have hm := List.getElem_mem hi
  simp only [List.getElem_map]
  exact ⟨b, off, h1, h2, ⟨h4, ⟨_, _, h5, (ht _ hm).2⟩, (hs _ hm).1, (hs _ hm).2⟩⟩

/-- Is a credential held? -/
def hasV (ls : List EntB) (c : CredB) : Bool := ls.any (fun t => eqC t.c c)

theorem hasV_snoc (ls : List EntB) (x : EntB) (c : CredB) : hasV (ls ++ [x]) c = (hasV ls c || eqC x.c c) := by simp [hasV]
theorem hasV_take {ls : List EntB} {k : Nat} (h : k < ls.length) {c : CredB} (h0 : hasV (ls.take k) c = false) (h1 : eqC ls[k].c c = false) : hasV (ls.take (k + 1)) c = false := by
  rw [List.take_succ_eq_append_getElem h, hasV_snoc, h0, h1]; rfl
theorem hasV_at {ls : List EntB} {k : Nat} (h : k < ls.length) {c : CredB} (h1 : eqC ls[k].c c = true) : hasV ls c = true := by
  rw [hasV, List.any_eq_true]
  exact ⟨_, List.getElem_mem h, h1⟩

/-- What is held of a credential. -/
def getV (ls : List EntB) (c : CredB) : Option EntB := ls.find? (fun t => eqC t.c c)
theorem getV_none {ls : List EntB} {c : CredB} (h : hasV ls c = false) : getV ls c = none := by
  rw [getV, List.find?_eq_none]
  intro t ht e
  have : hasV ls c = true := by rw [hasV, List.any_eq_true]; exact ⟨t, ht, e⟩
  rw [h] at this
  cases this
theorem getV_at {ls : List EntB} {k : Nat} (h : k < ls.length) {c : CredB} (h0 : hasV (ls.take k) c = false) (h1 : eqC ls[k].c c = true) : getV ls c = some ls[k] := by
  have hn : (ls.take k).find? (fun t => eqC t.c c) = none := getV_none h0
  have he : ls = ls.take k ++ ls[k] :: ls.drop (k + 1) := by rw [← List.drop_eq_getElem_cons h, List.take_append_drop]
  rw [getV]
  conv => lhs; rw [he]
  rw [List.find?_append, hn, Option.none_or, List.find?_cons, h1]

/-- One step of adding s: it goes in ahead of the first that is greater. -/
def insStep (s : EntB) (p : List EntB × Bool) (x : EntB) : List EntB × Bool := if p.2 = false ∧ cmpC s.c x.c < 0 then (p.1 ++ [s, x], true) else (p.1 ++ [x], p.2)
def insSt (s : EntB) (ls : List EntB) : List EntB × Bool := ls.foldl (insStep s) ([], false)
def insV (s : EntB) (ls : List EntB) : List EntB := if (insSt s ls).2 then (insSt s ls).1 else (insSt s ls).1 ++ [s]

theorem insSt_take (s : EntB) {ls : List EntB} {k : Nat} (h : k < ls.length) : insSt s (ls.take (k + 1)) = insStep s (insSt s (ls.take k)) ls[k] := by
  rw [List.take_succ_eq_append_getElem h, insSt, List.foldl_append]; rfl

theorem insSt_go (s : EntB) : ∀ (ls : List EntB) (p : List EntB × Bool), (ls.foldl (insStep s) p).1.length + (if (ls.foldl (insStep s) p).2 then 0 else 1) = p.1.length + ls.length + (if p.2 then 0 else 1)
  | [], p => by rw [List.foldl_nil, List.length_nil, Nat.add_zero]
  | x :: l, p => by
    rw [List.foldl_cons, insSt_go s l]
    unfold insStep
    split
    · next h => rw [h.1]; simp; omega
    · simp; omega
theorem insSt_len (s : EntB) (ls : List EntB) : (insSt s ls).1.length ≤ ls.length + 1 := by
  have := insSt_go s ls ([], false)
  simp only [List.length_nil, Nat.zero_add, Bool.false_eq_true, if_false] at this
  unfold insSt
  omega
theorem insSt_no {s : EntB} {ls out : List EntB} (h : (out, false) = insSt s ls) : out.length ≤ ls.length := by
  have := insSt_go s ls ([], false)
  unfold insSt at h
  rw [← h] at this
  simp at this
  omega
theorem insV_len (s : EntB) (ls : List EntB) : (insV s ls).length = ls.length + 1 := by
  have := insSt_go s ls ([], false)
  simp only [List.length_nil, Nat.zero_add, Bool.false_eq_true, if_false] at this
  unfold insV
  unfold insSt at *
  split
  · next h => rw [h] at this; simp at this; omega
  · next h => simp only [h] at this; simp at this ⊢; omega

/-- The error of adding s. -/
def addErr (ls : List EntB) (most : Int) (s : EntB) : Nat := if isSign s.s then (if hasV ls s.c then 41 else if most ≤ ls.length then 40 else 0) else 11
def addV (ls : List EntB) (most : Int) (s : EntB) : List EntB := if addErr ls most s = 0 then insV s ls else ls

/-- What is left behind dropping c. -/
def offV (ls : List EntB) (c : CredB) : List EntB := ls.filter (fun t => !eqC t.c c)
theorem offV_take {ls : List EntB} {k : Nat} (h : k < ls.length) (c : CredB) : offV (ls.take (k + 1)) c = if eqC ls[k].c c then offV (ls.take k) c else offV (ls.take k) c ++ [ls[k]] := by
  rw [List.take_succ_eq_append_getElem h, offV, List.filter_append]
  cases hx : eqC ls[k].c c <;> simp [hx, offV]
def dropErr (ls : List EntB) (c : CredB) : Nat := if (offV ls c).length = ls.length then 42 else 0
def dropV (ls : List EntB) (c : CredB) : List EntB := if (offV ls c).length = ls.length then ls else offV ls c

/-- A vault, as the document has it. -/
def vaultV (ao : Option Addr) (n cap : Nat) (most : Int) : Value := .agg #[.slice ao n cap, .int .i64 most]
/-! ### '==' at credentials whose cells are told. -/

theorem run_eqgL (x y : Operand) (a b : CredB) (w : World) : Sem.run Try.prog (eqGuard BinOp.eql 32 x y (.agg #[.int .i64 a.kind, .string ⟨a.head.1.toArray⟩, .string ⟨a.head.2.toArray⟩, .string ⟨a.who.toArray⟩, .string ⟨a.b.1.toArray⟩, .string ⟨a.b.2.toArray⟩, .string ⟨a.c.1.toArray⟩, .string ⟨a.c.2.toArray⟩, .string ⟨a.w2.toArray⟩]) (.agg #[.int .i64 b.kind, .string ⟨b.head.1.toArray⟩, .string ⟨b.head.2.toArray⟩, .string ⟨b.who.toArray⟩, .string ⟨b.b.1.toArray⟩, .string ⟨b.b.2.toArray⟩, .string ⟨b.c.1.toArray⟩, .string ⟨b.c.2.toArray⟩, .string ⟨b.w2.toArray⟩])) w = .ok () w := run_eqgC x y a b w
theorem run_eqlL (a b : CredB) (w : World) : Sem.run Try.prog (binOp BinOp.eql 32 (.agg #[.int .i64 a.kind, .string ⟨a.head.1.toArray⟩, .string ⟨a.head.2.toArray⟩, .string ⟨a.who.toArray⟩, .string ⟨a.b.1.toArray⟩, .string ⟨a.b.2.toArray⟩, .string ⟨a.c.1.toArray⟩, .string ⟨a.c.2.toArray⟩, .string ⟨a.w2.toArray⟩]) (.agg #[.int .i64 b.kind, .string ⟨b.head.1.toArray⟩, .string ⟨b.head.2.toArray⟩, .string ⟨b.who.toArray⟩, .string ⟨b.b.1.toArray⟩, .string ⟨b.b.2.toArray⟩, .string ⟨b.c.1.toArray⟩, .string ⟨b.c.2.toArray⟩, .string ⟨b.w2.toArray⟩])) w = .ok (.bool (eqC a b)) w := run_eqlC a b w
theorem run_neqgL (x y : Operand) (a b : CredB) (w : World) : Sem.run Try.prog (eqGuard BinOp.neq 32 x y (.agg #[.int .i64 a.kind, .string ⟨a.head.1.toArray⟩, .string ⟨a.head.2.toArray⟩, .string ⟨a.who.toArray⟩, .string ⟨a.b.1.toArray⟩, .string ⟨a.b.2.toArray⟩, .string ⟨a.c.1.toArray⟩, .string ⟨a.c.2.toArray⟩, .string ⟨a.w2.toArray⟩]) (.agg #[.int .i64 b.kind, .string ⟨b.head.1.toArray⟩, .string ⟨b.head.2.toArray⟩, .string ⟨b.who.toArray⟩, .string ⟨b.b.1.toArray⟩, .string ⟨b.b.2.toArray⟩, .string ⟨b.c.1.toArray⟩, .string ⟨b.c.2.toArray⟩, .string ⟨b.w2.toArray⟩])) w = .ok () w := run_neqgC x y a b w
theorem run_neqL (a b : CredB) (w : World) : Sem.run Try.prog (binOp BinOp.neq 32 (.agg #[.int .i64 a.kind, .string ⟨a.head.1.toArray⟩, .string ⟨a.head.2.toArray⟩, .string ⟨a.who.toArray⟩, .string ⟨a.b.1.toArray⟩, .string ⟨a.b.2.toArray⟩, .string ⟨a.c.1.toArray⟩, .string ⟨a.c.2.toArray⟩, .string ⟨a.w2.toArray⟩]) (.agg #[.int .i64 b.kind, .string ⟨b.head.1.toArray⟩, .string ⟨b.head.2.toArray⟩, .string ⟨b.who.toArray⟩, .string ⟨b.b.1.toArray⟩, .string ⟨b.b.2.toArray⟩, .string ⟨b.c.1.toArray⟩, .string ⟨b.c.2.toArray⟩, .string ⟨b.w2.toArray⟩])) w = .ok (.bool (!eqC a b)) w := run_neqC a b w
end Go.Proofs.Ytfpaoaflhbppgaa

/- The contract of the document's Less of layer 4. -/
namespace Go.Proofs.Ytfpaoaflhbppgaa
open Go.RowKit

theorem less_ref (a b : RoleB) (w : World) :
    Calls Try.prog 60 #[roleV a, roleV b] w fun e w' => e = .returned (.bool (ltR a b)) ∧ Chg (fun _ => False) w w' := by
  obtain ⟨o, x⟩ := a
  obtain ⟨p, y⟩ := b
  have hc : Chg (fun _ => False) w ((w.alloc (.cells #[.string ⟨o.toArray⟩, .string ⟨x.toArray⟩] 30)).alloc (.cells #[.string ⟨p.toArray⟩, .string ⟨y.toArray⟩] 30)) := ((Chg.refl _ w).alloc _).alloc _
  have HC := hid hc
  clear hc
  show Calls Try.prog 60 #[.agg #[.string ⟨o.toArray⟩, .string ⟨x.toArray⟩], .agg #[.string ⟨p.toArray⟩, .string ⟨y.toArray⟩]] w _
  cases h1 : Op.bytesLess o p with
  | true =>
    have hh : Hid (ltR (o, x) (p, y) = true) := hid (by rw [ltR_def]; simp [ltS, h1])
    go_enter Try.func60, Try.ntmps60
    go_wp2
    go_ret
    exact ⟨by rw [hh.out]; rfl, HC.out⟩
  | false =>
    by_cases h2 : o = p
    · subst h2
      have e1 : (o == o) = true := by simp
      have hh : Hid (ltR (o, x) (o, y) = Op.bytesLess x y) := hid (by rw [ltR_def]; simp [ltS, h1])
      go_enter Try.func60, Try.ntmps60
      go_wp2
      go_ret
      exact ⟨by rw [hh.out]; rfl, HC.out⟩
    · have e1 : (o == p) = false := by simpa using h2
      have hh : Hid (ltR (o, x) (p, y) = false) := hid (by rw [ltR_def]; simp [ltS, h1, h2])
      clear h2
      go_enter Try.func60, Try.ntmps60
      go_wp2
      go_ret
      exact ⟨by rw [hh.out]; rfl, HC.out⟩
end Go.Proofs.Ytfpaoaflhbppgaa
