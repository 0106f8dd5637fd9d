/- Texts that the proof leans on, in one: RoleBytes, CredText, TapeBad, RoleGet, RoleRef, RoleParse, BackNum, RoleBackMath, CredGet, CredOrd, ModelMath, RoleOwn, CredOwn. -/
import Derived.Test.YtjaplnainlbldaaFc1
import Derived.Test.YtjaplnainlbldaaFc2
import Derived.Test.YtjaplnainlbldaaFc3
import Derived.Test.YtjaplnainlbldaaFc4
import Derived.Deep.QuietTactic
import Derived.BigQuiet
import Derived.Maps.AppendAt
/- The contracts of the document's Bytes and Get of layer 4. -/
namespace Go.Proofs.Ytjaplnainlbldaa
open Go.RowKit

/-- A role's bytes. -/
def roleEnc (r : RoleB) : List UInt8 := (enc r.1.length ++ r.1) ++ (enc r.2.length ++ r.2)

def bytesSpecs (A : Nat) (o x : List UInt8) : List Spec := [.any, .eq (.pointer (some ⟨A, 0, none⟩)), .eq (.string ⟨(roleEnc (o, x)).toArray⟩), .eq (.pointer (some ⟨A, 0, none⟩)), .eq (.string ⟨o.toArray⟩), .eq (.string ⟨(enc o.length ++ o).toArray⟩), .eq (.pointer (some ⟨A, 1, none⟩)), .eq (.string ⟨x.toArray⟩), .eq (.string ⟨(enc x.length ++ x).toArray⟩), .eq (.string ⟨(roleEnc (o, x)).toArray⟩)]

set_option maxRecDepth 100000 in
theorem rbytes_ref (r : RoleB) (w : World) (h1 : r.1.length ≤ 1048576) (h2 : r.2.length ≤ 1048576) :
  Calls Try.prog 137 #[roleV r] w fun e w' => e = .returned (.string ⟨(roleEnc r).toArray⟩) ∧ Chg (fun _ => False) w w' := by
 obtain ⟨o, x⟩ := r
 dsimp only at h1 h2
 have hc : Chg (fun _ => False) w (w.alloc (.cells #[.string ⟨o.toArray⟩, .string ⟨x.toArray⟩] 24)) := (Chg.refl _ w).alloc _
 have hA := heap_alloc_new w (.cells #[.string ⟨o.toArray⟩, .string ⟨x.toArray⟩] 24)
 have a0 := cell_blk hA 0
 have a1 := cell_blk hA 1
 simp only [List.getElem?_toArray, List.getElem?_cons_zero, List.getElem?_cons_succ] at a0 a1
 have l1 := enc_length9 (n := o.length) (by omega)
 have l2 := enc_length9 (n := x.length) (by omega)
 show Calls Try.prog 137 #[.agg #[.string ⟨o.toArray⟩, .string ⟨x.toArray⟩]] w _
 go_enter Try.func137, Try.ntmps137
 go_wp2_with fail
 clear hA
 generalize w.alloc (.cells #[.string ⟨o.toArray⟩, .string ⟨x.toArray⟩] 24) = w1 at *
 generalize w.heap.size = A at *
 refine wp_region_specs (bytesSpecs A o x) [3, 4, 5, 6, 7, 8, 9, 2] [1] (by kernel_rfl) (by kernel_rfl) (by rfl) (by kernel_rfl) ?start ?obs ?fin
 case start =>
  simp only [List.forall_mem_cons]
  exact ⟨⟨_, rfl, rfl⟩, fun _ h => by cases h⟩
 case obs =>
  clear hc
  refine Obs.cons none (by kernel_rfl) ?_ ?_
  ·refine Ob.plain fun a w hR hk K k => ?_
   obtain ⟨_, e1, rfl⟩ := hk 1 (by decide)
   clear hk
   go_simp
   exact k _ _ (Chg.refl _ _) rfl
  refine Obs.cons none (by kernel_rfl) ?_ ?_
  ·refine Ob.plain fun a w hR hk K k => ?_
   obtain ⟨_, e3, rfl⟩ := hk 3 (by decide)
   clear hk
   have q0 := hR.cell a0 id
   go_simp
   exact k _ _ (Chg.refl _ _) rfl
  refine Obs.cons none (by kernel_rfl) ?_ ?_
  ·refine Ob.plain fun a w hR hk K k => ?_
   obtain ⟨_, e4, rfl⟩ := hk 4 (by decide)
   clear hk
   go_simp
   refine (reftext_any o _ (by omega)).mono ?_
   rintro e w2 ⟨rfl, hc⟩
   exact k _ _ hc rfl
  refine Obs.cons none (by kernel_rfl) ?_ ?_
  ·refine Ob.plain fun a w hR hk K k => ?_
   obtain ⟨_, e1, rfl⟩ := hk 1 (by decide)
   clear hk
   go_simp
   exact k _ _ (Chg.refl _ _) rfl
  refine Obs.cons none (by kernel_rfl) ?_ ?_
  ·refine Ob.plain fun a w hR hk K k => ?_
   obtain ⟨_, e6, rfl⟩ := hk 6 (by decide)
   clear hk
   have q0 := hR.cell a1 id
   go_simp
   exact k _ _ (Chg.refl _ _) rfl
  refine Obs.cons none (by kernel_rfl) ?_ ?_
  ·refine Ob.plain fun a w hR hk K k => ?_
   obtain ⟨_, e7, rfl⟩ := hk 7 (by decide)
   clear hk
   go_simp
   refine (reftext_any x _ (by omega)).mono ?_
   rintro e w2 ⟨rfl, hc⟩
   exact k _ _ hc rfl
  refine Obs.cons none (by kernel_rfl) ?_ ?_
  ·refine Ob.plain fun a w hR hk K k => ?_
   obtain ⟨_, e5, rfl⟩ := hk 5 (by decide)
   obtain ⟨_, e8, rfl⟩ := hk 8 (by decide)
   clear hk
   obtain ⟨u, hu⟩ : ∃ u, u = enc o.length ++ o := ⟨_, rfl⟩
   obtain ⟨v, hv⟩ : ∃ v, v = enc x.length ++ x := ⟨_, rfl⟩
   have hul : ¬ 9223372036854775807 < u.length + v.length := by rw [hu, hv, List.length_append, List.length_append]; omega
   rw [← hu] at e5
   rw [← hv] at e8
   have HU := hid (And.intro hu hv)
   clear hu hv
   go_simp
   exact k _ _ (Chg.refl _ _) (congrArg Value.string ((ByteArray.mk_append_mk u v).trans (by rw [HU.out.1, HU.out.2]; rfl)))
  refine Obs.cons none (by kernel_rfl) ?_ ?_
  ·refine Ob.plain fun a w hR hk K k => ?_
   obtain ⟨_, e9, f9⟩ := hk 9 (by decide)
   clear hk
   go_simp
   exact k _ _ (Chg.refl _ _) f9
  exact Obs.nil
 case fin =>
  intro vals w9 hc9 hv
  have h6 : vals 2 = .string ⟨(roleEnc (o, x)).toArray⟩ := hv 2 (by decide)
  simp only [putAll, List.setIfInBounds_toArray, List.set_cons_zero, List.set_cons_succ, h6]
  go_wp2
  go_ret
  exact ⟨rfl, hc.trans hc9 (fun _ _ h => h)⟩
end Go.Proofs.Ytjaplnainlbldaa

/- A credential's text, and its bytes; a text cut at each place where another one stands: plain words. -/
namespace Go.Proofs.Ytjaplnainlbldaa
open Go.RowKit

/-- A text's bytes. -/
def encS (s : List UInt8) : List UInt8 := enc s.length ++ s
def credTail (c : CredB) : List UInt8 :=
 if c.kind = 1 then encS c.who else if c.kind = 3 then roleEnc c.b ++ encS c.w2 else if c.kind = 4 then roleEnc c.b ++ roleEnc c.c else roleEnc c.b
def credEnc (c : CredB) : List UInt8 := enc c.kind.toNat ++ (roleEnc c.head ++ credTail c)

/-- The bytes of a right one; none of others. -/
def credBytes (c : CredB) : List UInt8 := if isCred c then credEnc c else []

/-- The order: that of the bytes. -/
def cmpC (a b : CredB) : Int := if ltS (credBytes a) (credBytes b) then -1 else if ltS (credBytes b) (credBytes a) then 1 else 0

end Go.Proofs.Ytjaplnainlbldaa

/- The document's tape behind an error: nothing more comes; its Get of a name, told by nameOk. -/
namespace Go.Proofs.Ytjaplnainlbldaa
open Go.RowKit

end Go.Proofs.Ytjaplnainlbldaa

/- The contract of the document's Get of layer 4. -/
namespace Go.Proofs.Ytjaplnainlbldaa
open Go.RowKit

/-- The role that comes next, what is left behind it, the error there. -/
def roleOk (l : List UInt8) : Bool := nameOk l && nameOk (nameRest l)
def roleOf (l : List UInt8) : RoleB := (nameOf l, nameOf (nameRest l))
def roleRest (l : List UInt8) : List UInt8 := nameRest (nameRest l)
def roleBad (l : List UInt8) : Nat := if nameOk l = true then nameBad (nameRest l) else nameBad l
end Go.Proofs.Ytjaplnainlbldaa

/- The contracts of the document's Right of layer 4. -/
namespace Go.Proofs.Ytjaplnainlbldaa
open Go.RowKit

theorem rright_ref (r : RoleB) (w : World) (h1 : r.1.length ≤ 9223372036854775807) (h2 : r.2.length ≤ 9223372036854775807) :
  Calls Try.prog 86 #[roleV r] w fun e w' => e = .returned (.bool (isRole r)) ∧ Chg (fun _ => False) w w' := by
 obtain ⟨o, x⟩ := r
 have hc : Chg (fun _ => False) w (w.alloc (.cells #[.string ⟨o.toArray⟩, .string ⟨x.toArray⟩] 24)) := (Chg.refl _ w).alloc _
 have HC := hid hc
 clear hc
 cases ho : isName o with
 | false =>
  have hh : Hid (isRole (o, x) = false) := hid (by simp [isRole, ho])
  show Calls Try.prog 86 #[.agg #[.string ⟨o.toArray⟩, .string ⟨x.toArray⟩]] w _
  go_enter Try.func86, Try.ntmps86
  go_wp2_with (go_at_call 87; refine (refright_any o _ h1).mono ?_; rintro e w' ⟨rfl, rfl⟩; rw [ho])
  go_ret
  exact ⟨by rw [hh.out]; rfl, HC.out⟩
 | true =>
  have hh : Hid (isRole (o, x) = isName x) := hid (by simp [isRole, ho])
  show Calls Try.prog 86 #[.agg #[.string ⟨o.toArray⟩, .string ⟨x.toArray⟩]] w _
  go_enter Try.func86, Try.ntmps86
  go_wp2_with fail
  refine (refright_any o _ h1).mono ?_
  rintro e w' ⟨rfl, rfl⟩
  rw [ho]
  go_wp2_with fail
  refine (refright_any x _ h2).mono ?_
  rintro e w' ⟨rfl, rfl⟩
  go_wp2
  go_ret
  exact ⟨by rw [hh.out]; rfl, HC.out⟩
end Go.Proofs.Ytjaplnainlbldaa

/- Which role a text is. -/
namespace Go.Proofs.Ytjaplnainlbldaa
open Go.RowKit

end Go.Proofs.Ytjaplnainlbldaa

/- A number's bytes, written and read again. -/
namespace Go.Proofs.Ytjaplnainlbldaa
open Go.RowKit

theorem digits_join (n m k : Nat) : n + (128 + m % 128 - 128) * 128 ^ k + m / 128 * 128 ^ (k + 1) = n + m * 128 ^ k := by
 have h1 : 128 + m % 128 - 128 = m % 128 := by omega
 have h2 : m % 128 + m / 128 * 128 = m := by omega
 rw [h1, Nat.pow_succ]
 generalize 128 ^ k = c
 have h3 : m / 128 * (c * 128) = m / 128 * 128 * c := by rw [Nat.mul_assoc, Nat.mul_comm c 128]
 rw [h3, Nat.add_assoc, ← Nat.add_mul, h2]

/-- What is written is read again. -/
theorem numN_enc : ∀ (f m k n : Nat) (r : List UInt8), (enc m).length ≤ f → (k = 0 ∨ 0 < m) → numN f (enc m ++ r) k n = (n + m * 128 ^ k, k + (enc m).length, 0)
 | 0, m, _, _, _, hf, _ => by have := enc_pos m; omega
 | f + 1, m, k, n, r, hf, hk => by
  by_cases h : m < 128
  ·rw [enc_small h, List.singleton_append]
   unfold numN
   rw [ds_toNat h, if_neg (by omega), if_pos h]
   simp
  ·rw [enc_big (by omega), List.cons_append]
   rw [enc_big (by omega), List.length_cons] at hf
   unfold numN
   have hm := Nat.mod_lt m (show 0 < 128 by decide)
   rw [dg_toNat, if_neg (by omega), if_neg (by omega), numN_enc f (m / 128) (k + 1) _ r (by omega) (.inr (by omega))]
   have e : n + (128 + m % 128 - 128) * 128 ^ k + m / 128 * 128 ^ (k + 1) = n + m * 128 ^ k := digits_join n m k
   rw [e, List.length_cons]
   congr 2
   omega

/-- A number ahead of other bytes. -/
theorem numN_enc9 {m : Nat} (h : m < 9223372036854775808) (r : List UInt8) : numN 9 (enc m ++ r) 0 0 = (m, (enc m).length, 0) := by
 rw [numN_enc 9 m 0 0 r (enc_length9 h) (.inl rfl)]
 simp

end Go.Proofs.Ytjaplnainlbldaa

/- Roles put and got, told and parsed, and their order: plain words. -/
namespace Go.Proofs.Ytjaplnainlbldaa
open Go.RowKit

theorem name_enc {o : List UInt8} (h : isName o = true) (x : List UInt8) : nameOk ((enc o.length ++ o) ++ x) = true ∧ nameOf ((enc o.length ++ o) ++ x) = o ∧ nameRest ((enc o.length ++ o) ++ x) = x := by
 have hl := isName_len h
 have hN := numN_enc9 (m := o.length) (by omega) (o ++ x)
 rw [← List.append_assoc] at hN
 have h1 : errText ((enc o.length ++ o) ++ x) 16 = 0 := by
  unfold errText
  rw [hN]
  simp only [if_true, List.length_append]
  rw [if_neg (by omega), if_neg (by omega)]
 have h2 : nameOf ((enc o.length ++ o) ++ x) = o := by
  unfold nameOf
  rw [hN]
  simp
 refine ⟨by rw [nameOk, decide_eq_true h1, h2, h]; rfl, h2, ?_⟩
 unfold nameRest
 rw [hN, List.append_assoc, ← List.drop_drop]
 simp

end Go.Proofs.Ytjaplnainlbldaa

/- Which credential any bytes are, and the error; what is put is got: plain words. -/
namespace Go.Proofs.Ytjaplnainlbldaa
open Go.RowKit

/-- What comes next: an error, or a credential and what is left. -/
inductive GetC where
 | bad (e : Nat)
 | ok (c : CredB) (rest : List UInt8)

def numBad (l : List UInt8) : Nat := (numN 9 l 0 0).2.2
def numOf (l : List UInt8) : Nat := (numN 9 l 0 0).1
def numRest (l : List UInt8) : List UInt8 := l.drop (numN 9 l 0 0).2.1

/-- The last part, and whether it is right as a whole. -/
def getEnd (c : CredB) (l : List UInt8) : GetC := if isCred c then .ok c l else .bad 11
def getWord (c : CredB) (l : List UInt8) : GetC := if nameOk l then getEnd { c with w2 := nameOf l } (nameRest l) else .bad (nameBad l)
def getC (c : CredB) (l : List UInt8) : GetC := if roleOk l then getEnd { c with c := roleOf l } (roleRest l) else .bad (roleBad l)
def getB (c : CredB) (l : List UInt8) : GetC :=
 if roleOk l then (if c.kind = 3 then getWord { c with b := roleOf l } (roleRest l) else if c.kind = 4 then getC { c with b := roleOf l } (roleRest l) else getEnd { c with b := roleOf l } (roleRest l)) else .bad (roleBad l)
def getWho (c : CredB) (l : List UInt8) : GetC := if nameOk l then getEnd { c with who := nameOf l } (nameRest l) else .bad (nameBad l)
def getHead (k : Int) (l : List UInt8) : GetC :=
 if roleOk l then (if k = 1 then getWho { noCred with kind := k, head := roleOf l } (roleRest l) else getB { noCred with kind := k, head := roleOf l } (roleRest l)) else .bad (roleBad l)
def credGet (l : List UInt8) : GetC :=
 if numBad l = 0 then (if 1 ≤ numOf l ∧ numOf l ≤ 4 then getHead (numOf l : Nat) (numRest l) else .bad 11) else .bad (numBad l)

theorem role_enc {r : RoleB} (h : isRole r = true) (x : List UInt8) : roleOk (roleEnc r ++ x) = true ∧ roleOf (roleEnc r ++ x) = r ∧ roleRest (roleEnc r ++ x) = x := by
 have hn : isName r.1 = true ∧ isName r.2 = true := by simpa [isRole] using h
 obtain ⟨a1, a2, a3⟩ := name_enc hn.1 ((enc r.2.length ++ r.2) ++ x)
 obtain ⟨b1, b2, b3⟩ := name_enc hn.2 x
 have e : roleEnc r ++ x = (enc r.1.length ++ r.1) ++ ((enc r.2.length ++ r.2) ++ x) := by rw [roleEnc, List.append_assoc]
 rw [e]
 exact ⟨by rw [roleOk, a1, a3, b1]; rfl, by rw [roleOf, a2, a3, b2], by rw [roleRest, a3, b3]⟩

/-- A right credential's kind. -/
theorem isCred_kind {c : CredB} (h : isCred c = true) : c.kind = 1 ∨ c.kind = 2 ∨ c.kind = 3 ∨ c.kind = 4 := by
 unfold isCred at h
 by_cases h1 : c.kind = 1
 ·exact .inl h1
 ·by_cases h2 : c.kind = 2
  ·exact .inr (.inl h2)
  ·by_cases h3 : c.kind = 3
   ·exact .inr (.inr (.inl h3))
   ·rw [if_neg h1, if_neg h2, if_neg h3] at h
    simp only [Bool.and_eq_true, beq_iff_eq] at h
    exact .inr (.inr (.inr h.2.2.1))

theorem isCred_head {c : CredB} (h : isCred c = true) : isRole c.head = true := by
 unfold isCred at h
 simp only [Bool.and_eq_true] at h
 exact h.1

theorem isCred_one {c : CredB} (h : isCred c = true) (k : c.kind = 1) : isName c.who = true ∧ c.b = noneR ∧ c.c = noneR ∧ c.w2 = [] := by
 unfold isCred at h
 rw [if_pos k] at h
 simp only [Bool.and_eq_true, beq_iff_eq] at h
 exact h.2

theorem isCred_two {c : CredB} (h : isCred c = true) (k : c.kind = 2) : c.who = [] ∧ isRole c.b = true ∧ c.c = noneR ∧ c.w2 = [] := by
 unfold isCred at h
 rw [if_neg (by omega), if_pos k] at h
 simp only [Bool.and_eq_true, beq_iff_eq] at h
 exact ⟨h.2.1.1, h.2.1.2, h.2.2⟩

theorem isCred_three {c : CredB} (h : isCred c = true) (k : c.kind = 3) : c.who = [] ∧ isRole c.b = true ∧ c.c = noneR ∧ c.b.1 = c.head.1 ∧ isName c.w2 = true := by
 unfold isCred at h
 rw [if_neg (by omega), if_neg (by omega), if_pos k] at h
 simp only [Bool.and_eq_true, beq_iff_eq] at h
 exact ⟨h.2.1.1, h.2.1.2, h.2.2⟩

theorem isCred_four {c : CredB} (h : isCred c = true) (k : c.kind = 4) : c.who = [] ∧ isRole c.b = true ∧ c.w2 = [] ∧ isRole c.c = true ∧ ltR c.b c.c = true := by
 unfold isCred at h
 rw [if_neg (by omega), if_neg (by omega), if_neg (by omega)] at h
 simp only [Bool.and_eq_true, beq_iff_eq] at h
 exact ⟨h.2.1.1, h.2.1.2, h.2.2.2⟩

theorem num_enc {m : Nat} (h : m < 9223372036854775808) (x : List UInt8) : numBad (enc m ++ x) = 0 ∧ numOf (enc m ++ x) = m ∧ numRest (enc m ++ x) = x := by
 have hN := numN_enc9 h x
 exact ⟨by rw [numBad, hN], by rw [numOf, hN], by rw [numRest, hN]; simp⟩

/-- What has bytes is got. -/
theorem credGet_enc {c : CredB} (h : isCred c = true) (x : List UInt8) : credGet (credEnc c ++ x) = .ok c x := by
 have hk := isCred_kind h
 have hh := isCred_head h
 obtain ⟨k, hd, who, b, cc, w2⟩ := c
 dsimp only at hk hh
 have e : credEnc ⟨k, hd, who, b, cc, w2⟩ ++ x = enc k.toNat ++ (roleEnc hd ++ (credTail ⟨k, hd, who, b, cc, w2⟩ ++ x)) := by
  simp only [credEnc, List.append_assoc]
 obtain ⟨n1, n2, n3⟩ := num_enc (m := k.toNat) (by omega) (roleEnc hd ++ (credTail ⟨k, hd, who, b, cc, w2⟩ ++ x))
 obtain ⟨r1, r2, r3⟩ := role_enc hh (credTail ⟨k, hd, who, b, cc, w2⟩ ++ x)
 have hkk : ((k.toNat : Nat) : Int) = k := by omega
 rw [e, credGet, if_pos n1, n2, n3, if_pos (by omega), getHead, if_pos r1, r2, r3, hkk]
 rcases hk with k1 | k1 | k1 | k1
 ·obtain ⟨a1, a2, a3, a4⟩ := isCred_one h k1
  dsimp only at a1 a2 a3 a4
  subst k1 a2 a3 a4
  obtain ⟨m1, m2, m3⟩ := name_enc a1 x
  rw [if_pos rfl, show credTail ⟨1, hd, who, noneR, noneR, []⟩ = enc who.length ++ who from rfl, getWho, if_pos m1, m2, m3, getEnd]
  exact if_pos h
 ·obtain ⟨a1, a2, a3, a4⟩ := isCred_two h k1
  dsimp only at a1 a2 a3 a4
  subst k1 a1 a3 a4
  obtain ⟨m1, m2, m3⟩ := role_enc a2 x
  rw [if_neg (by decide), show credTail ⟨2, hd, [], b, noneR, []⟩ = roleEnc b from rfl, getB, if_pos m1, m2, m3]
  rw [if_neg (show ¬ (2 : Int) = 3 by decide), if_neg (show ¬ (2 : Int) = 4 by decide), getEnd]
  exact if_pos h
 ·obtain ⟨a1, a2, a3, a4, a5⟩ := isCred_three h k1
  dsimp only at a1 a2 a3 a4 a5
  subst k1 a1 a3
  obtain ⟨m1, m2, m3⟩ := role_enc a2 (encS w2 ++ x)
  obtain ⟨q1, q2, q3⟩ := name_enc a5 x
  rw [if_neg (by decide), show credTail ⟨3, hd, [], b, noneR, w2⟩ = roleEnc b ++ encS w2 from rfl, List.append_assoc, getB, if_pos m1, m2, m3]
  rw [if_pos rfl, encS, getWord, if_pos q1, q2, q3, getEnd]
  exact if_pos h
 ·obtain ⟨a1, a2, a3, a4, a5⟩ := isCred_four h k1
  dsimp only at a1 a2 a3 a4 a5
  subst k1 a1 a3
  obtain ⟨m1, m2, m3⟩ := role_enc a2 (roleEnc cc ++ x)
  obtain ⟨q1, q2, q3⟩ := role_enc a4 x
  rw [if_neg (by decide), show credTail ⟨4, hd, [], b, cc, []⟩ = roleEnc b ++ roleEnc cc from rfl, List.append_assoc, getB, if_pos m1, m2, m3]
  rw [if_neg (show ¬ (4 : Int) = 3 by decide), if_pos rfl, getC, if_pos q1, q2, q3, getEnd]
  exact if_pos h

theorem credEnc_inj {a b : CredB} (ha : isCred a = true) (hb : isCred b = true) (h : credEnc a = credEnc b) : a = b := by
 have h1 := credGet_enc ha []
 have h2 := credGet_enc hb []
 rw [h, h2] at h1
 cases h1
 rfl

theorem credEnc_ne (c : CredB) : credEnc c ≠ [] := by
 unfold credEnc
 have := enc_pos c.kind.toNat
 intro h
 have h2 := congrArg List.length h
 rw [List.length_append] at h2
 simp only [List.length_nil] at h2
 omega

end Go.Proofs.Ytjaplnainlbldaa

/- The order of credentials, made whole: by their bytes, then by their fields; sets of right ones: plain words. -/
namespace Go.Proofs.Ytjaplnainlbldaa
open Go.RowKit

theorem Ord.comap {α β : Type} {lt : β → β → Bool} (o : Ord lt) (f : α → β) (hf : ∀ a b, f a = f b → a = b) : Ord (fun a b => lt (f a) (f b)) where
 irrefl a := o.irrefl (f a)
 trans a b c h1 h2 := o.trans _ _ _ h1 h2
 tri a b := by
  rcases o.tri (f a) (f b) with h | h | h
  ·exact .inl h
  ·exact .inr (.inl (hf a b h))
  ·exact .inr (.inr h)

def ltI (a b : Int) : Bool := decide (a < b)
theorem ltI_ord : Ord ltI where
 irrefl a := by simp [ltI]
 trans a b c h1 h2 := by simp only [ltI, decide_eq_true_eq] at *; omega
 tri a b := by simp only [ltI, decide_eq_true_eq]; omega

/-- Bytes first, then each field. -/
def credKey (c : CredB) : List UInt8 × (Int × (RoleB × (List UInt8 × (RoleB × (RoleB × List UInt8))))) := (credBytes c, (c.kind, (c.head, (c.who, (c.b, (c.c, c.w2))))))
def ltKey : (List UInt8 × (Int × (RoleB × (List UInt8 × (RoleB × (RoleB × List UInt8)))))) → (List UInt8 × (Int × (RoleB × (List UInt8 × (RoleB × (RoleB × List UInt8)))))) → Bool :=
 lexLt ltS (lexLt ltI (lexLt ltR (lexLt ltS (lexLt ltR (lexLt ltR ltS)))))
theorem ltKey_ord : Ord ltKey := lexLt_ord ltS_ord (lexLt_ord ltI_ord (lexLt_ord ltR_ord (lexLt_ord ltS_ord (lexLt_ord ltR_ord (lexLt_ord ltR_ord ltS_ord)))))
theorem credKey_inj (a b : CredB) (h : credKey a = credKey b) : a = b := by
 obtain ⟨k, hd, who, b1, c1, w2⟩ := a
 obtain ⟨k', hd', who', b1', c1', w2'⟩ := b
 simp only [credKey, Prod.mk.injEq] at h
 obtain ⟨_, h1, h2, h3, h4, h5, h6⟩ := h
 subst h1 h2 h3 h4 h5 h6
 rfl

def ltC (a b : CredB) : Bool := ltKey (credKey a) (credKey b)
theorem ltC_ord : Ord ltC := ltKey_ord.comap credKey credKey_inj
def SetC (ls out : List CredB) : Prop := SetG ltC isCred ls out
theorem SetC.one {ls a b : List CredB} (ha : SetC ls a) (hb : SetC ls b) : a = b := SetG.one ltC_ord ha hb

/-- Of right ones it is the bytes' order. -/
theorem ltC_right {a b : CredB} (ha : isCred a = true) (hb : isCred b = true) : ltC a b = ltS (credBytes a) (credBytes b) := by
 cases h : ltS (credBytes a) (credBytes b) with
 | true => simp [ltC, ltKey, lexLt, credKey, h]
 | false =>
  rcases ltC_ord.tri a b with k | k | k
  ·rw [k]
   simp only [ltC, ltKey, credKey] at k
   rw [lexLt, Bool.or_eq_true, Bool.and_eq_true, beq_iff_eq] at k
   rcases k with k | ⟨k1, k2⟩
   ·rw [show ltS (credBytes a) (credBytes b) = true from k] at h; cases h
   ·have e : a = b := by
     unfold credBytes at k1
     simp only [ha, hb, if_true] at k1
     exact credEnc_inj ha hb k1
    subst e
    have := ltC_ord.irrefl a
    have h3 : ltC a a = true := by
     simp only [ltC, ltKey, credKey]
     rw [lexLt, Bool.or_eq_true, Bool.and_eq_true, beq_iff_eq]
     exact .inr ⟨rfl, k2⟩
    rw [this] at h3
    cases h3
  ·subst k; exact ltC_ord.irrefl a
  ·exact ltC_ord.asymm k

theorem cmpC_lt {a b : CredB} (ha : isCred a = true) (hb : isCred b = true) : decide (cmpC a b < 0) = ltC a b := by
 rw [ltC_right ha hb]
 unfold cmpC
 cases h : ltS (credBytes a) (credBytes b) with
 | true => simp
 | false => cases h2 : ltS (credBytes b) (credBytes a) <;> simp
end Go.Proofs.Ytjaplnainlbldaa

/- The least model of credentials: plain words, nothing of the program's text. -/
namespace Go.Proofs.Ytjaplnainlbldaa
open Go.RowKit

/-- Somebody is in a role. -/
abbrev FactB := RoleB × List UInt8
def ltF (a b : FactB) : Bool := lexLt ltR ltS a b
theorem ltF_ord : Ord ltF := lexLt_ord ltR_ord ltS_ord

/-- What follows from credentials. -/
inductive Der (ls : List CredB) : FactB → Prop
 | mem {c : CredB} : c ∈ ls → isCred c = true → c.kind = 1 → Der ls (c.head, c.who)
 | inc {c : CredB} {w : List UInt8} : c ∈ ls → isCred c = true → c.kind = 2 → Der ls (c.b, w) → Der ls (c.head, w)
 | link {c : CredB} {b w : List UInt8} : c ∈ ls → isCred c = true → c.kind = 3 → Der ls (c.b, b) → Der ls ((b, c.w2), w) → Der ls (c.head, w)
 | both {c : CredB} {w : List UInt8} : c ∈ ls → isCred c = true → c.kind = 4 → Der ls (c.b, w) → Der ls (c.c, w) → Der ls (c.head, w)

theorem Der.mono {ls ls' : List CredB} (h : ∀ c ∈ ls, isCred c = true → c ∈ ls') : ∀ {f : FactB}, Der ls f → Der ls' f := by
 intro f hf
 induction hf with
 | mem hc hr hk => exact .mem (h _ hc hr) hr hk
 | inc hc hr hk _ ih => exact .inc (h _ hc hr) hr hk ih
 | link hc hr hk _ _ ih1 ih2 => exact .link (h _ hc hr) hr hk ih1 ih2
 | both hc hr hk _ _ ih1 ih2 => exact .both (h _ hc hr) hr hk ih1 ih2

theorem der_set {ls out : List CredB} (h : SetC ls out) {f : FactB} : Der out f ↔ Der ls f :=
 ⟨Der.mono (fun c hc _ => ((h.2 c).1 hc).1), Der.mono (fun c hc hr => (h.2 c).2 ⟨hc, hr⟩)⟩

/-- xs are the facts of the least model of ls, in order. -/
def ModelOf (ls : List CredB) (xs : List FactB) : Prop := RisingG ltF xs ∧ ∀ f, f ∈ xs ↔ Der ls f

theorem ModelOf.of_same {ls ls' : List CredB} {a : List FactB} (ha : ModelOf ls a) (h : ∀ f, Der ls f ↔ Der ls' f) : ModelOf ls' a := ⟨ha.1, fun f => (ha.2 f).trans (h f)⟩

/-- Who may be in a role at all: the Members' names. -/
theorem Der.who {ls : List CredB} {f : FactB} (h : Der ls f) : ∃ c ∈ ls, isCred c = true ∧ c.kind = 1 ∧ c.who = f.2 := by
 induction h with
 | mem hc hr hk => exact ⟨_, hc, hr, hk, rfl⟩
 | inc _ _ _ _ ih => exact ih
 | link _ _ _ _ _ _ ih2 => exact ih2
 | both _ _ _ _ _ ih1 _ => exact ih1

theorem Der.head {ls : List CredB} {f : FactB} (h : Der ls f) : ∃ c ∈ ls, isCred c = true ∧ c.head = f.1 := by
 cases h with
 | mem hc hr _ => exact ⟨_, hc, hr, rfl⟩
 | inc hc hr _ _ => exact ⟨_, hc, hr, rfl⟩
 | link hc hr _ _ _ => exact ⟨_, hc, hr, rfl⟩
 | both hc hr _ _ _ => exact ⟨_, hc, hr, rfl⟩

theorem isCred_member {c : CredB} (h : isCred c = true) (hk : c.kind = 1) : isName c.who = true := by
 unfold isCred at h
 simp [hk] at h
 exact h.2.1

/-- Is a fact among facts? -/
def inF (xs : List FactB) (r : RoleB) (w : List UInt8) : Bool := xs.any (fun f => f.1 == r && f.2 == w)
theorem inF_iff {xs : List FactB} {r : RoleB} {w : List UInt8} : inF xs r w = true ↔ (r, w) ∈ xs := by
 unfold inF
 rw [List.any_eq_true]
 constructor
 ·rintro ⟨f, hf, h⟩
  simp only [Bool.and_eq_true, beq_iff_eq] at h
  rw [← h.1, ← h.2]
  exact hf
 ·intro h
  exact ⟨_, h, by simp⟩

/-- Does a credential bring somebody by one step? -/
def stepF (xs : List FactB) (c : CredB) (names : List (List UInt8)) (w : List UInt8) : Bool :=
 if c.kind = 1 then c.who == w else if c.kind = 2 then inF xs c.b w else if c.kind = 4 then inF xs c.b w && inF xs c.c w else names.any (fun b => inF xs c.b b && inF xs (b, c.w2) w)

theorem stepF_der {ls : List CredB} {xs : List FactB} (hx : ∀ f ∈ xs, Der ls f) {c : CredB} (hc : c ∈ ls) (hr : isCred c = true) {names : List (List UInt8)} {w : List UInt8} (h : stepF xs c names w = true) : Der ls (c.head, w) := by
 unfold stepF at h
 rcases isCred_kind hr with k | k | k | k
 ·rw [if_pos k] at h
  rw [← beq_iff_eq.1 h]
  exact .mem hc hr k
 ·rw [if_neg (by omega), if_pos k] at h
  exact .inc hc hr k (hx _ (inF_iff.1 h))
 ·rw [if_neg (by omega), if_neg (by omega), if_neg (by omega), List.any_eq_true] at h
  obtain ⟨b, _, hb⟩ := h
  simp only [Bool.and_eq_true] at hb
  exact .link hc hr k (hx _ (inF_iff.1 hb.1)) (hx _ (inF_iff.1 hb.2))
 ·rw [if_neg (by omega), if_neg (by omega), if_pos k] at h
  simp only [Bool.and_eq_true] at h
  exact .both hc hr k (hx _ (inF_iff.1 h.1)) (hx _ (inF_iff.1 h.2))

/-- Nothing comes by one step any more: all is there. -/
theorem closed_der {ls : List CredB} {xs : List FactB} {names : List (List UInt8)} (hn : ∀ c ∈ ls, isCred c = true → c.kind = 1 → c.who ∈ names)
  (hcl : ∀ c ∈ ls, isCred c = true → ∀ w ∈ names, inF xs c.head w = true ∨ stepF xs c names w = false) {f : FactB} (h : Der ls f) : f ∈ xs := by
 have hwho : ∀ {f : FactB}, Der ls f → f.2 ∈ names := fun h => by
  obtain ⟨c, hc, hr, hk, he⟩ := h.who
  rw [← he]
  exact hn c hc hr hk
 have key : ∀ {c : CredB} {w : List UInt8}, c ∈ ls → isCred c = true → w ∈ names → stepF xs c names w = true → (c.head, w) ∈ xs := fun hc hr hw hs => by
  rcases hcl _ hc hr _ hw with h1 | h1
  ·exact inF_iff.1 h1
  ·rw [hs] at h1; cases h1
 induction h with
 | mem hc hr hk =>
  refine key hc hr (hn _ hc hr hk) ?_
  unfold stepF
  rw [if_pos hk]
  exact beq_iff_eq.2 rfl
 | inc hc hr hk h1 ih =>
  refine key hc hr (hwho h1) ?_
  unfold stepF
  rw [if_neg (by omega), if_pos hk]
  exact inF_iff.2 ih
 | link hc hr hk h1 h2 ih1 ih2 =>
  refine key hc hr (hwho h2) ?_
  unfold stepF
  rw [if_neg (by omega), if_neg (by omega), if_neg (by omega), List.any_eq_true]
  exact ⟨_, hwho h1, by simp only [Bool.and_eq_true]; exact ⟨inF_iff.2 ih1, inF_iff.2 ih2⟩⟩
 | both hc hr hk h1 h2 ih1 ih2 =>
  refine key hc hr (hwho h1) ?_
  unfold stepF
  rw [if_neg (by omega), if_neg (by omega), if_pos hk]
  simp only [Bool.and_eq_true]
  exact ⟨inF_iff.2 ih1, inF_iff.2 ih2⟩

/-- The names of credentials. -/
def whosOf (ls : List CredB) : List (List UInt8) := ls.flatMap (fun c => [c.who, c.head.1, c.b.1, c.c.1])
theorem whosOf_snoc (ls : List CredB) (c : CredB) : whosOf (ls ++ [c]) = whosOf ls ++ [c.who, c.head.1, c.b.1, c.c.1] := by simp [whosOf]
theorem whosOf_len (ls : List CredB) : (whosOf ls).length = ls.length * 4 := by
 unfold whosOf
 induction ls with
 | nil => rfl
 | cons x l ih => rw [List.flatMap_cons, List.length_append, ih, List.length_cons]; simp; omega
theorem whosOf_who {ls : List CredB} {c : CredB} (h : c ∈ ls) : c.who ∈ whosOf ls := by
 unfold whosOf
 rw [List.mem_flatMap]
 exact ⟨c, h, by simp⟩

/-- Pairs of heads and names: no more facts than these. -/
def pairsF (rs : List RoleB) (ns : List (List UInt8)) : List FactB := rs.flatMap (fun r => ns.map (fun n => (r, n)))
theorem pairsF_len (rs : List RoleB) (ns : List (List UInt8)) : (pairsF rs ns).length = rs.length * ns.length := by
 unfold pairsF
 induction rs with
 | nil => simp
 | cons x l ih => rw [List.flatMap_cons, List.length_append, ih, List.length_map, List.length_cons, Nat.add_mul]; omega
theorem facts_le {rs : List RoleB} {ns : List (List UInt8)} {xs : List FactB} (hd : xs.Nodup) (h : ∀ f ∈ xs, f.1 ∈ rs ∧ f.2 ∈ ns) : xs.length ≤ rs.length * ns.length := by
 rw [← pairsF_len]
 refine nodup_lengthG _ _ hd fun f hf => ?_
 unfold pairsF
 rw [List.mem_flatMap]
 exact ⟨f.1, (h f hf).1, List.mem_map.2 ⟨f.2, (h f hf).2, rfl⟩⟩

/-- What is so between two rounds of the document's way: some of what follows, each once. -/
def PartM (ls : List CredB) (xs : List FactB) : Prop := xs.Nodup ∧ ∀ f ∈ xs, Der ls f

theorem PartM.nil (ls : List CredB) : PartM ls [] := ⟨List.nodup_nil, fun _ h => (by cases h)⟩
theorem PartM.snoc {ls : List CredB} {xs : List FactB} (h : PartM ls xs) {f : FactB} (hf : Der ls f) (hn : f ∉ xs) : PartM ls (xs ++ [f]) := by
 refine ⟨List.nodup_append.2 ⟨h.1, by simp, fun a ha b hb => ?_⟩, fun g hg => ?_⟩
 ·rw [List.mem_singleton] at hb
  subst hb
  intro e
  subst e
  exact hn ha
 ·rcases List.mem_append.1 hg with hg | hg
  ·exact h.2 g hg
  ·rw [List.mem_singleton] at hg; rw [hg]; exact hf

/-- Sorted, they are the model. -/
theorem PartM.model {ls : List CredB} {xs ys : List FactB} (h : PartM ls xs) (hall : ∀ f, Der ls f → f ∈ xs) (hs : SetG ltF (fun _ => true) xs ys) : ModelOf ls ys :=
 ⟨hs.1, fun f => ((hs.2 f).trans ⟨fun h => h.1, fun h => ⟨h, rfl⟩⟩).trans ⟨h.2 f, hall f⟩⟩

end Go.Proofs.Ytjaplnainlbldaa

/- Lists of roles of the call's own. -/
namespace Go.Proofs.Ytjaplnainlbldaa
open Go.RowKit

theorem Try.info24 : (Try.prog.info? 24).map (fun i => (i.zero, i.size, i.bytes)) = some (some (.agg #[.string ⟨#[]⟩, .string ⟨#[]⟩]), 2, 32) := by kernel_rfl

theorem ownsRow_keep {S : Nat → Prop} {B E n s : Nat} {w w' : World} {v : Value} {xs : List Value} (h : w.ownsRow B E s v n xs) (hc : Chg S w w') (hr : ∀ k, v.ownBlock = some k → ¬ S k) : w'.ownsRow B E s v n xs := by
 refine ⟨h.1, ?_⟩
 rcases h.2 with hn | ⟨g, cap, cur, hv, hg, hh, r⟩
 ·exact .inl hn
 ·exact .inr ⟨g, cap, cur, hv, hg, blk_keep hh hc (hr g (by rw [hv]; rfl)), r⟩

theorem ownsRow_lt {B E n s : Nat} {w : World} {v : Value} {xs : List Value} (h : w.ownsRow B E s v n xs) (k : Nat) (hk : v.ownBlock = some k) : B ≤ k ∧ k < w.heap.size := by
 rcases h.2 with ⟨hn, _⟩ | ⟨g, cap, cur, hv, hg, hh, r⟩
 ·rw [hn] at hk; cases hk
 ·rw [hv] at hk; cases hk; exact ⟨hg, lt_blk hh⟩

def roleRow (ls : List RoleB) : List Value := ls.flatMap roleCells

theorem roleRow_get : ∀ (ls : List RoleB) (i : Nat) (h : i < ls.length), (roleRow ls)[i * 2]? = some (.string ⟨ls[i].1.toArray⟩) ∧ (roleRow ls)[i * 2 + 1]? = some (.string ⟨ls[i].2.toArray⟩)
 | x :: l, 0, _ => ⟨rfl, rfl⟩
 | x :: l, i + 1, h => by
  have := roleRow_get l i (by simpa using h)
  have e : roleRow (x :: l) = .string ⟨x.1.toArray⟩ :: .string ⟨x.2.toArray⟩ :: roleRow l := rfl
  rw [e, show (i + 1) * 2 = i * 2 + 1 + 1 by omega]
  exact this

/-- A list of roles of the call's own. -/
def OwnR (B : Nat) (w : World) (v : Value) (ls : List RoleB) : Prop := w.ownsRow B 24 2 v ls.length (roleRow ls)

theorem OwnR.roles {B : Nat} {w : World} {v : Value} {ls : List RoleB} (h : OwnR B w v ls) (hb : ∀ x ∈ ls, x.1.length ≤ 9223372036854775807 ∧ x.2.length ≤ 9223372036854775807) :
  ∃ ao cap, v = .slice ao ls.length cap ∧ RolesAt (fun k => B ≤ k ∧ k < w.heap.size) w ao ls ∧ (ao = none → cap = 0) := by
 rcases h.2 with ⟨rfl, h0⟩ | ⟨g, cap, cur, rfl, hg, hh, h1, h2, h3, h4⟩
 ·have : ls = [] := List.eq_nil_of_length_eq_zero h0
  subst this
  exact ⟨none, 0, rfl, RolesAt.nil _ _ _, fun _ => rfl⟩
 ·refine ⟨_, _, rfl, fun i hi => ⟨g, 0, rfl, ⟨hg, lt_blk hh⟩, ?_, ?_, hb _ (List.getElem_mem hi)⟩, fun e => by cases e⟩
  ·have := h.cells (g := g) rfl (i * 2) _ (roleRow_get ls i hi).1
   rw [add_off] at this
   exact this
  ·have := h.cells (g := g) rfl (i * 2 + 1) _ (roleRow_get ls i hi).2
   rw [add_off] at this
   exact this

theorem role_cells_new (w : World) (x : RoleB) (j : Nat) (u : Value) (h : (roleCells x)[j]? = some u) : (w.alloc (.cells #[.string ⟨x.1.toArray⟩, .string ⟨x.2.toArray⟩] 24)).cell? ((⟨w.heap.size, 0, none⟩ : Addr).add j) = some u := by
 rw [add_off, cell_blk (heap_alloc_new w _), Nat.zero_add]
 match j, h with
 | 0, h => exact h
 | 1, h => exact h

def lenOfV : Value → Nat
 | .slice _ n _ => n
 | _ => 0

end Go.Proofs.Ytjaplnainlbldaa

/- Lists of credentials of the call's own. -/
namespace Go.Proofs.Ytjaplnainlbldaa
open Go.RowKit

theorem Try.info36 : (Try.prog.info? 36).map (fun i => (i.zero, i.size, i.bytes)) = some (some (.agg #[.int .i64 0, .string ⟨#[]⟩, .string ⟨#[]⟩, .string ⟨#[]⟩, .string ⟨#[]⟩, .string ⟨#[]⟩, .string ⟨#[]⟩, .string ⟨#[]⟩, .string ⟨#[]⟩]), 9, 136) := by kernel_rfl

def credRow (ls : List CredB) : List Value := ls.flatMap credCells

theorem credRow_length (ls : List CredB) : (credRow ls).length = ls.length * 9 := by
 induction ls with
 | nil => rfl
 | cons x l ih => simp only [credRow, List.flatMap_cons, List.length_append, List.length_cons] at ih ⊢; rw [ih]; simp [credCells]; omega

theorem credRow_get : ∀ (ls : List CredB) (i j : Nat) (h : i < ls.length) (_ : j < 9), (credRow ls)[i * 9 + j]? = (credCells ls[i])[j]?
 | x :: l, 0, j, _, hj => by
  rw [show 0 * 9 + j = j by omega, credRow, List.flatMap_cons, List.getElem?_append_left (by simpa [credCells] using hj)]
  rfl
 | x :: l, i + 1, j, h, hj => by
  have := credRow_get l i j (by simpa using h) hj
  rw [credRow, List.flatMap_cons, List.getElem?_append_right (by simp [credCells]; omega)]
  rw [show (i + 1) * 9 + j - (credCells x).length = i * 9 + j by simp [credCells]; omega]
  exact this

theorem credRow_snoc (ls : List CredB) (x : CredB) : credRow (ls ++ [x]) = credRow ls ++ credCells x := by
 simp [credRow]

/-- A list of credentials of the call's own. -/
def OwnC (B : Nat) (w : World) (v : Value) (ls : List CredB) : Prop := w.ownsRow B 36 9 v ls.length (credRow ls)

theorem cred_at_cells {w : World} {g o : Nat} {c : CredB} (h : ∀ j, j < 9 → w.cell? ⟨g, o + j, none⟩ = (credCells c)[j]?) : CredAt w g o c :=
 ⟨h 0 (by omega), h 1 (by omega), h 2 (by omega), h 3 (by omega), h 4 (by omega), h 5 (by omega), h 6 (by omega), h 7 (by omega), h 8 (by omega)⟩

theorem OwnC.creds {B : Nat} {w : World} {v : Value} {ls : List CredB} (h : OwnC B w v ls) (hb : ∀ x ∈ ls, credShort x 9223372036854775807) :
  ∃ ao cap, v = .slice ao ls.length cap ∧ CredsAt (fun k => B ≤ k ∧ k < w.heap.size) w ao ls ∧ (ao = none → cap = 0) := by
 rcases h.2 with ⟨rfl, h0⟩ | ⟨g, cap, cur, rfl, hg, hh, h1, h2, h3, h4⟩
 ·have : ls = [] := List.eq_nil_of_length_eq_zero h0
  subst this
  exact ⟨none, 0, rfl, CredsAt.nil _ _ _, fun _ => rfl⟩
 ·refine ⟨_, _, rfl, fun i hi => ⟨g, 0, rfl, ⟨hg, lt_blk hh⟩, cred_at_cells fun j hj => ?_, hb _ (List.getElem_mem hi)⟩, fun e => by cases e⟩
  have hs : j < (credCells ls[i]).length := by simpa [credCells] using hj
  have hget := credRow_get ls i j hi hj
  rw [List.getElem?_eq_getElem hs] at hget ⊢
  have := h.cells (g := g) rfl (i * 9 + j) _ hget
  rw [add_off] at this
  rw [Nat.zero_add] at this ⊢
  exact this

theorem OwnC.shape {B : Nat} {w : World} {v : Value} {ls : List CredB} (h : OwnC B w v ls) : ∃ ao cap, v = .slice ao ls.length cap := by
 rcases h.2 with ⟨rfl, h0⟩ | ⟨g, cap, cur, rfl, _⟩
 ·exact ⟨none, 0, by rw [h0]⟩
 ·exact ⟨_, _, rfl⟩

theorem OwnC.keep {S : Nat → Prop} {B : Nat} {w w' : World} {v : Value} {ls : List CredB} (h : OwnC B w v ls) (hc : Chg S w w') (hr : ∀ k, v.ownBlock = some k → ¬ S k) : OwnC B w' v ls := ownsRow_keep h hc hr

theorem cred_cells_new (w : World) (x : CredB) (j : Nat) (u : Value) (h : (credCells x)[j]? = some u) : (w.alloc (.cells (credBox x) 36)).cell? ((⟨w.heap.size, 0, none⟩ : Addr).add j) = some u := by
 rw [add_off, cell_blk (heap_alloc_new w _), Nat.zero_add, show credBox x = (credCells x).toArray from rfl, List.getElem?_toArray]
 exact h

/-- What Set leaves: the set, in new memory. -/
def SetPostC (ls : List CredB) (w : World) (e : Ending) (w' : World) : Prop :=
 ∃ out ao cap, e = .returned (.slice ao out.length cap) ∧ SetC ls out ∧ CredsAt (fun k => w.heap.size ≤ k ∧ k < w'.heap.size) w' ao out ∧ Chg (fun _ => False) w w' ∧ (ao = none → cap = 0)

theorem isCred_short {c : CredB} (h : isCred c = true) : credShort c 16 := by
 have hh := isCred_head h
 simp only [isRole, Bool.and_eq_true] at hh
 have l1 := (isName_len hh.1).2
 have l2 := (isName_len hh.2).2
 have hr : ∀ r : RoleB, isRole r = true → r.1.length ≤ 16 ∧ r.2.length ≤ 16 := fun r hr => by
  simp only [isRole, Bool.and_eq_true] at hr
  exact ⟨(isName_len hr.1).2, (isName_len hr.2).2⟩
 rcases isCred_kind h with k | k | k | k
 ·obtain ⟨a1, a2, a3, a4⟩ := isCred_one h k
  exact ⟨l1, l2, (isName_len a1).2, by rw [a2]; simp [noneR], by rw [a2]; simp [noneR], by rw [a3]; simp [noneR], by rw [a3]; simp [noneR], by rw [a4]; simp⟩
 ·obtain ⟨a1, a2, a3, a4⟩ := isCred_two h k
  exact ⟨l1, l2, by rw [a1]; simp, (hr _ a2).1, (hr _ a2).2, by rw [a3]; simp [noneR], by rw [a3]; simp [noneR], by rw [a4]; simp⟩
 ·obtain ⟨a1, a2, a3, a4, a5⟩ := isCred_three h k
  exact ⟨l1, l2, by rw [a1]; simp, (hr _ a2).1, (hr _ a2).2, by rw [a3]; simp [noneR], by rw [a3]; simp [noneR], (isName_len a5).2⟩
 ·obtain ⟨a1, a2, a3, a4, a5⟩ := isCred_four h k
  exact ⟨l1, l2, by rw [a1]; simp, (hr _ a2).1, (hr _ a2).2, (hr _ a4).1, (hr _ a4).2, by rw [a3]; simp⟩
end Go.Proofs.Ytjaplnainlbldaa
