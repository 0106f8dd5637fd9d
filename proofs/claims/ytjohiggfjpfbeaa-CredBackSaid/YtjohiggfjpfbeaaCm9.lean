/- Texts that the proof leans on, in one: PcParseMath, PcCut, RNum. -/
import Derived.Test.YtjohiggfjpfbeaaCm8
import Derived.Lib.IndexMore
import Derived.Lib.LastIndexByte
import Derived.Test.YtjohiggfjpfbeaaCm3
/- Which credential a text is, as the program goes about it: plain words. -/
namespace Go.Proofs.Ytjohiggfjpfbeaa
open Go.RowKit

/-! ### A text cut at all places, and at the first. -/

theorem splitGo_first (sep s : List UInt8) : ∀ (i : Nat), i ≤ s.length → (∀ j, j < i → sep.isPrefixOf (s.drop j) = false) → splitGo sep s 0 [] = splitGo sep (s.drop i) 0 (s.take i)
  | 0, _, _ => by rw [List.drop_zero, List.take_zero]
  | i + 1, hi, h => by
    rw [splitGo_first sep s i (by omega) (fun j hj => h j (by omega)), splitGo_step sep s _ i (by omega) (h i (by omega)), List.take_succ_eq_append_getElem (by omega)]

theorem splitL_none {sep s : List UInt8} (_ : 0 < sep.length) (h : Lib.index s sep = -1) : splitL sep s = [s] := by
  rcases Lib.index_spec s sep with ⟨_, hn⟩ | ⟨i, h1, _⟩
  · rw [splitL, splitGo_first sep s s.length (Nat.le_refl _) (fun j hj => hn j (by omega)), List.drop_length, List.take_length]
    rfl
  · omega

theorem splitL_some {sep s : List UInt8} {i : Nat} (h0 : 0 < sep.length) (h : Lib.index s sep = i) : splitL sep s = s.take i :: splitL sep (s.drop (i + sep.length)) ∧ sep.isPrefixOf (s.drop i) = true ∧ i ≤ s.length := by
  rcases Lib.index_spec s sep with ⟨h1, _⟩ | ⟨i', h1, h2, h3, h4⟩
  · omega
  · have : i' = i := by omega
    subst this
    refine ⟨?_, h3, h2⟩
    rw [splitL, splitGo_first sep s i' h2 (fun j hj => h4 j hj), splitGo_at sep _ _ h0 h3, List.drop_drop]
    rfl

theorem prefix_mem {sep s : List UInt8} {i : Nat} (h : sep.isPrefixOf (s.drop i) = true) : ∀ c ∈ sep, c ∈ s := by
  intro c hc
  obtain ⟨t, ht⟩ := List.isPrefixOf_iff_prefix.1 h
  have : c ∈ s.drop i := by rw [← ht]; exact List.mem_append_left _ hc
  exact List.mem_of_mem_drop this

/-! ### Which bytes a right part has. -/

theorem cutDot_eq : ∀ (s : List UInt8) (p : List UInt8 × List UInt8), cutDot s = some p → s = p.1 ++ 46 :: p.2 ∧ (∀ c ∈ p.1, c ≠ 46)
  | [], p, h => by cases h
  | c :: l, p, h => by
    rw [cutDot] at h
    by_cases hc : c.toNat = 46
    · rw [if_pos hc] at h
      cases h
      exact ⟨by rw [(dot_iff c).1 hc]; rfl, fun c hc => by cases hc⟩
    · rw [if_neg hc] at h
      cases hl : cutDot l with
      | none => rw [hl] at h; cases h
      | some q =>
        rw [hl] at h
        cases h
        obtain ⟨e1, e2⟩ := cutDot_eq l q hl
        refine ⟨by conv => lhs; rw [e1]
                   rfl, fun d hd => ?_⟩
        rcases List.mem_cons.1 hd with rfl | hd
        · exact fun e => hc ((dot_iff _).2 e)
        · exact e2 d hd

theorem roleOr_right {s : List UInt8} (h : isRole (roleOr s) = true) : s = roleText (roleOr s) := by
  unfold roleOr parseR at *
  cases hc : cutDot s with
  | none => rw [hc] at h; exact absurd h (by decide)
  | some p =>
    rw [hc] at h
    dsimp only at h ⊢
    by_cases hp : isRole p = true
    · rw [if_pos hp] at h ⊢
      exact (cutDot_eq s p hc).1
    · rw [if_neg hp] at h
      exact absurd h (by decide)

theorem roleOr_bad {s : List UInt8} {d : UInt8} (h : d ∈ s) (hd : d = 60 ∨ d = 38) : isRole (roleOr s) = false := by
  cases hr : isRole (roleOr s) with
  | false => rfl
  | true =>
    have e := roleOr_right hr
    rw [e, roleText, List.mem_append, List.mem_cons] at h
    have hn : isName (roleOr s).1 = true ∧ isName (roleOr s).2 = true := by simpa [isRole] using hr
    have hall : ∀ t : List UInt8, isName t = true → d ∉ t := by
      intro t ht hm
      cases t with
      | nil => cases hm
      | cons x l =>
        simp only [isName, Bool.and_eq_true] at ht
        have := List.all_eq_true.1 ht.2 d hm
        rcases hd with rfl | rfl <;> (rcases okByte_yes this with k | k | k <;> revert k <;> decide)
    rcases h with h | h | h
    · exact absurd h (hall _ hn.1)
    · rcases hd with rfl | rfl <;> cases h
    · exact absurd h (hall _ hn.2)

theorem name_bad {s : List UInt8} (h : (60 : UInt8) ∈ s) : isName s = false := by
  cases hr : isName s with
  | false => rfl
  | true => exact absurd rfl (name_plain hr 60 h).2.2

/-- What the program takes of what is said behind the arrow. -/
def ampB : List UInt8 := [32, 38, 32]
def arrowB : List UInt8 := [32, 60, 45, 32]
def lastDot (s : List UInt8) : Nat := (Lib.lastIndexByte ⟨s.toArray⟩ 46).toNat
def saidC (s : List UInt8) : CredB :=
  if (Lib.cut s ampB).2.2 = true then ⟨4, noneR, [], roleOr (Lib.cut s ampB).1, roleOr (Lib.cut s ampB).2.1, []⟩
  else if Lib.countByte s 46 = 0 then ⟨1, noneR, s, noneR, noneR, []⟩
  else if Lib.countByte s 46 = 1 then ⟨2, noneR, [], roleOr s, noneR, []⟩
  else ⟨3, noneR, [], roleOr (s.take (lastDot s)), noneR, s.drop (lastDot s + 1)⟩
def progC (s : List UInt8) : CredB := { saidC (Lib.cut s arrowB).2.1 with head := roleOr (Lib.cut s arrowB).1 }

/-! ### Full stops. -/

theorem count_split : ∀ (s acc : List UInt8), (splitGo [46] s 0 acc).length = Lib.countByte s 46 + 1
  | [], acc => rfl
  | c :: l, acc => by
    by_cases h : c = 46
    · subst h
      have hp : ([46] : List UInt8).isPrefixOf (46 :: l) = true := by simp
      rw [splitGo, if_pos hp, List.length_cons]
      show (splitGo [46] l 0 []).length + 1 = _
      rw [count_split l []]
      simp [Lib.countByte]
    · have hp : ([46] : List UInt8).isPrefixOf (c :: l) = false := by
        rw [List.isPrefixOf_cons_cons, show ((46 : UInt8) == c) = false by simpa using fun e => h e.symm]; rfl
      rw [splitGo, if_neg (by rw [hp]; decide), count_split l _]
      simp [Lib.countByte, h]

theorem not_mem_dot {s : List UInt8} (h : Lib.countByte s 46 = 0) : ∀ c ∈ s, c ≠ 46 := by
  intro c hc e
  subst e
  have := List.count_pos_iff.2 hc
  rw [Lib.countByte] at h
  omega

theorem first_dot {s : List UInt8} (h : 0 < Lib.countByte s 46) : ∃ x r, s = x ++ 46 :: r ∧ (∀ c ∈ x, c ≠ 46) ∧ cutDot s = some (x, r) ∧ Lib.countByte r 46 + 1 = Lib.countByte s 46 ∧ splitL [46] s = x :: splitL [46] r := by
  have hm : (46 : UInt8) ∈ s := List.count_pos_iff.1 h
  rcases cut_cases s with ⟨hi, hc⟩ | ⟨k, hk, hi, hc⟩
  · obtain ⟨k, hk, hkc⟩ := List.getElem_of_mem hm
    exact absurd (by rw [List.getElem?_eq_getElem hk, hkc]) (Lib.indexByte_none hi k)
  · obtain ⟨e1, e2⟩ := cutDot_eq s _ hc
    dsimp only at e1 e2
    generalize s.take k = x at *
    generalize s.drop (k + 1) = r at *
    refine ⟨x, r, e1, e2, hc, ?_, ?_⟩
    · have hx : Lib.countByte x 46 = 0 := by
        rw [Lib.countByte, List.count_eq_zero]
        exact fun hx => e2 46 hx rfl
      rw [e1]
      simp only [Lib.countByte, List.count_append, List.count_cons_self] at hx ⊢
      omega
    · rw [e1]
      exact splitGo_hit 46 [] x r e2 []

theorem lastDot_spec {s : List UInt8} (h : 0 < Lib.countByte s 46) : ∃ h2 : lastDot s < s.length, s[lastDot s] = 46 ∧ (∀ c ∈ s.drop (lastDot s + 1), c ≠ 46) ∧ Lib.lastIndexByte ⟨s.toArray⟩ 46 = (lastDot s : Nat) := by
  have hm : (46 : UInt8) ∈ s := List.count_pos_iff.1 h
  have hget : ∀ j (hj : j < s.length), (((⟨s.toArray⟩ : ByteArray).data[j]!).toNat : Int) = 46 ↔ s[j] = 46 := by
    intro j hj
    have : (⟨s.toArray⟩ : ByteArray).data[j]! = s[j] := by simp [hj]
    rw [this]
    constructor
    · intro e
      exact (dot_iff _).1 (by omega)
    · intro e
      rw [e]; rfl
  rcases Lib.lastIdx_spec ⟨s.toArray⟩ 46 s.length with ⟨_, hn⟩ | ⟨i, hi, h1, h2, h3⟩
  · obtain ⟨k, hk, hkc⟩ := List.getElem_of_mem hm
    exact absurd ((hget k hk).2 hkc) (hn k hk)
  · have hl : Lib.lastIndexByte ⟨s.toArray⟩ 46 = (i : Int) := h1
    have hd : lastDot s = i := by rw [lastDot, hl]; rfl
    rw [hd]
    refine ⟨hi, (hget i hi).1 h2, fun c hc e => ?_, hl⟩
    obtain ⟨j, hj, hjc⟩ := List.getElem_of_mem hc
    rw [List.length_drop] at hj
    rw [List.getElem_drop] at hjc
    exact h3 (i + 1 + j) (by omega) (by omega) ((hget _ (by omega)).2 (by rw [hjc, e]))


theorem noneR_no : isRole noneR = false := by decide

/-- With a '<' in it nothing is said. -/
theorem said_bad {s : List UInt8} (h : (60 : UInt8) ∈ s) (hd : RoleB) : isCred { saidC s with head := hd } = false := by
  unfold saidC
  by_cases h1 : (Lib.cut s ampB).2.2 = true
  · rw [if_pos h1]
    unfold Lib.cut at h1 ⊢
    by_cases hi : 0 ≤ Lib.index s ampB
    · rw [if_pos hi]
      obtain ⟨i, hi2⟩ : ∃ i : Nat, Lib.index s ampB = i := ⟨(Lib.index s ampB).toNat, by omega⟩
      obtain ⟨_, hp, hle⟩ := splitL_some (sep := ampB) (by decide) hi2
      rw [hi2]
      have hs : s = s.take i ++ (ampB ++ s.drop (i + ampB.length)) := by
        obtain ⟨t, ht⟩ := List.isPrefixOf_iff_prefix.1 hp
        conv => lhs; rw [← List.take_append_drop i s, ← ht]
        rw [← List.drop_drop, ← ht, List.drop_left]
      have hm : (60 : UInt8) ∈ s.take i ∨ (60 : UInt8) ∈ s.drop (i + ampB.length) := by
        rw [hs, List.mem_append, List.mem_append] at h
        rcases h with h | h | h
        · exact .inl h
        · exact absurd h (by decide)
        · exact .inr h
      rcases hm with hm | hm
      · have := roleOr_bad hm (.inl rfl)
        simp [isCred, this]
      · have := roleOr_bad hm (.inl rfl)
        simp [isCred, this]
    · rw [if_neg hi] at h1; cases h1
  · rw [if_neg h1]
    by_cases h2 : Lib.countByte s 46 = 0
    · rw [if_pos h2]
      simp [isCred, name_bad h]
    · rw [if_neg h2]
      by_cases h3 : Lib.countByte s 46 = 1
      · rw [if_pos h3]
        simp [isCred, roleOr_bad h (.inl rfl)]
      · rw [if_neg h3]
        obtain ⟨hl, he, _, _⟩ := lastDot_spec (s := s) (by omega)
        have hs : s = s.take (lastDot s) ++ s[lastDot s] :: s.drop (lastDot s + 1) := by
          rw [← List.drop_eq_getElem_cons hl, List.take_append_drop]
        have hm : (60 : UInt8) ∈ s.take (lastDot s) ∨ (60 : UInt8) ∈ s.drop (lastDot s + 1) := by
          have h' := h
          rw [hs, List.mem_append, List.mem_cons] at h'
          rcases h' with h' | h' | h'
          · exact .inl h'
          · rw [he] at h'; exact absurd h' (by decide)
          · exact .inr h'
        rcases hm with hm | hm
        · simp [isCred, roleOr_bad hm (.inl rfl)]
        · simp [isCred, name_bad hm]

theorem roleOr_cut {s : List UInt8} {p : RoleB} (h : cutDot s = some p) : roleOr s = if isRole p = true then p else noRole := by
  rw [roleOr, parseR, h]
  dsimp only
  by_cases hp : isRole p = true
  · rw [if_pos hp, if_pos hp]; rfl
  · rw [if_neg hp, if_neg hp]; rfl

theorem someIf_no {c : CredB} (h : isCred c = false) : someIf c = none := by rw [someIf, h]; rfl

/-- Without ' & ': by the full stops. -/
theorem said_dots {s : List UInt8} (ha : (Lib.cut s ampB).2.2 ≠ true) (hd : RoleB) :
    someIf { saidC s with head := hd } = if 3 < (splitL [46] s).length then none else parseDots hd s (splitL [46] s) := by
  have hc := count_split s []
  unfold saidC
  rw [if_neg ha]
  by_cases h2 : Lib.countByte s 46 = 0
  · rw [if_pos h2]
    have hs : splitL [46] s = [s] := splitGo_all 46 [] s [] (not_mem_dot h2)
    rw [hs]
    rfl
  · rw [if_neg h2]
    obtain ⟨x, r, e1, e2, e3, e4, e5⟩ := first_dot (s := s) (by omega)
    by_cases h3 : Lib.countByte s 46 = 1
    · rw [if_pos h3]
      have hr : splitL [46] r = [r] := splitGo_all 46 [] r [] (not_mem_dot (by omega))
      rw [e5, hr, roleOr_cut e3]
      rw [if_neg (show ¬ 3 < [x, r].length by simp)]
      show someIf _ = someIf ⟨2, hd, [], (x, r), noneR, []⟩
      by_cases hp : isRole (x, r) = true
      · rw [if_pos hp]
      · rw [if_neg hp]
        have hp' : isRole (x, r) = false := by simpa using hp
        rw [someIf_no (by simp [isCred, noRole, isRole, isName]), someIf_no (by simp [isCred, hp'])]
    · rw [if_neg h3]
      obtain ⟨hl, he, hn, hlast⟩ := lastDot_spec (s := s) (by omega)
      obtain ⟨y, z, f1, f2, f3, f4, f5⟩ := first_dot (s := r) (by omega)
      have hs : s = s.take (lastDot s) ++ 46 :: s.drop (lastDot s + 1) := by
        conv => lhs; rw [← List.take_append_drop (lastDot s) s, List.drop_eq_getElem_cons hl, he]
      have hcl : Lib.countByte (s.take (lastDot s)) 46 + 1 = Lib.countByte s 46 := by
        have h0 : Lib.countByte (s.drop (lastDot s + 1)) 46 = 0 := by
          rw [Lib.countByte, List.count_eq_zero]
          exact fun hx => hn 46 hx rfl
        conv => rhs; rw [hs]
        simp only [Lib.countByte, List.count_append, List.count_cons_self] at h0 ⊢
        omega
      obtain ⟨u, v, g1, g2, g3, g4, g5⟩ := first_dot (s := s.take (lastDot s)) (by omega)
      generalize s.drop (lastDot s + 1) = z' at *
      generalize s.take (lastDot s) = t at *
      -- s = u . v . z' and s = x . y . z
      have hux : u = x ∧ v ++ 46 :: z' = r := by
        have h1 : cutDot s = some (u, v ++ 46 :: z') := by
          have hlen : u.length < s.length := by rw [hs, g1]; simp
          have hsu : s = u ++ 46 :: (v ++ 46 :: z') := by rw [hs, g1]; simp
          have := cutDot_at s u.length hlen (fun c hc => by
            rw [hsu, List.take_left] at hc
            exact fun e => g2 c hc ((dot_iff c).1 e)) (by
            have : s[u.length] = 46 := by
              have := List.getElem_of_eq hsu hlen
              rw [this]; simp
            rw [this]; rfl)
          rw [this]
          congr 2
          · conv => lhs; rw [hsu]
            rw [List.take_left]
          · conv => lhs; rw [hsu]
            rw [← List.drop_drop, List.drop_left]; rfl
        rw [e3] at h1
        cases h1
        exact ⟨rfl, rfl⟩
      obtain ⟨rfl, hr⟩ := hux
      by_cases h4 : Lib.countByte s 46 = 2
      · have hv : ∀ c ∈ v, c ≠ 46 := not_mem_dot (by omega)
        have hz : splitL [46] z = [z] := splitGo_all 46 [] z [] (not_mem_dot (by omega))
        have hvy : v = y ∧ z' = z := by
          have h1 : cutDot r = some (v, z') := by
            have hlen : v.length < r.length := by rw [← hr]; simp
            have := cutDot_at r v.length hlen (fun c hc => by
              rw [← hr, List.take_left] at hc
              exact fun e => hv c hc ((dot_iff c).1 e)) (by
              have : r[v.length] = 46 := by
                have := List.getElem_of_eq hr.symm hlen
                rw [this]; simp
              rw [this]; rfl)
            rw [this]
            congr 2
            · conv => lhs; rw [← hr]
              rw [List.take_left]
            · conv => lhs; rw [← hr]
              rw [← List.drop_drop, List.drop_left]; rfl
          rw [f3] at h1
          cases h1
          exact ⟨rfl, rfl⟩
        obtain ⟨rfl, rfl⟩ := hvy
        rw [e5, f5, hz, roleOr_cut g3]
        rw [if_neg (show ¬ 3 < [u, v, z'].length by simp)]
        show someIf _ = someIf ⟨3, hd, [], (u, v), noneR, z'⟩
        by_cases hp : isRole (u, v) = true
        · rw [if_pos hp]
        · rw [if_neg hp]
          have hp' : isRole (u, v) = false := by simpa using hp
          rw [someIf_no (by simp [isCred, noRole, isRole, isName]), someIf_no (by simp [isCred, hp'])]
      · have hlen : 3 < (splitL [46] s).length := by
          have : (splitL [46] s).length = Lib.countByte s 46 + 1 := hc
          omega
        rw [if_pos hlen, roleOr_cut g3]
        have hp' : isRole (u, v) = false := by
          cases hp : isRole (u, v) with
          | false => rfl
          | true =>
            have hn2 : isName v = true := by
              simp only [isRole, Bool.and_eq_true] at hp
              exact hp.2
            have hm : (46 : UInt8) ∈ v := List.count_pos_iff.1 (by show 0 < Lib.countByte v 46; omega)
            exact absurd rfl (name_plain hn2 46 hm).2.1
        rw [hp']
        exact someIf_no (by simp [isCred, noRole, isRole, isName])

/-- What is said, as the document has it. -/
theorem said_body (s : List UInt8) (hd : RoleB) : someIf { saidC s with head := hd } = parseBody hd s (splitL ampB s) (splitL [46] s) := by
  by_cases h1 : (Lib.cut s ampB).2.2 = true
  · have hi : 0 ≤ Lib.index s ampB := by
      unfold Lib.cut at h1
      by_cases hi : 0 ≤ Lib.index s ampB
      · exact hi
      · rw [if_neg hi] at h1; cases h1
    obtain ⟨i, hi2⟩ : ∃ i : Nat, Lib.index s ampB = i := ⟨(Lib.index s ampB).toNat, by omega⟩
    obtain ⟨hsp, hp, hle⟩ := splitL_some (sep := ampB) (by decide) hi2
    have hsa : saidC s = ⟨4, noneR, [], roleOr (s.take i), roleOr (s.drop (i + ampB.length)), []⟩ := by
      rw [saidC, if_pos h1]
      unfold Lib.cut
      rw [if_pos hi, hi2]
      rfl
    rw [hsa, hsp]
    generalize s.drop (i + ampB.length) = r at *
    rcases Int.lt_or_le (Lib.index r ampB) 0 with h | h
    · have hg := Lib.index_ge r ampB
      have := splitL_none (sep := ampB) (s := r) (by decide) (by omega)
      rw [this]
      rfl
    · obtain ⟨j, hj⟩ : ∃ j : Nat, Lib.index r ampB = j := ⟨(Lib.index r ampB).toNat, by omega⟩
      obtain ⟨hsp2, hp2, _⟩ := splitL_some (sep := ampB) (by decide) hj
      have hm : (38 : UInt8) ∈ r := prefix_mem hp2 38 (by decide)
      have hpos := splitL_pos ampB (r.drop (j + ampB.length))
      rw [hsp2]
      rw [parseBody_many (by simp only [List.length_cons]; omega) (.inl (by simp only [List.length_cons]; omega))]
      exact someIf_no (by simp [isCred, roleOr_bad hm (.inr rfl)])
  · have hi : Lib.index s ampB = -1 := by
      have hg := Lib.index_ge s ampB
      unfold Lib.cut at h1
      by_cases hi : 0 ≤ Lib.index s ampB
      · rw [if_pos hi] at h1; exact absurd rfl h1
      · omega
    rw [said_dots h1 hd, splitL_none (sep := ampB) (by decide) hi]
    by_cases h3 : 3 < (splitL [46] s).length
    · rw [if_pos h3, parseBody_many (by simp) (.inr h3)]
    · rw [if_neg h3, parseBody_few (by simp) (by simp; omega)]

/-- The program's way and the document's are one. -/
theorem progC_eq (s : List UInt8) : someIf (progC s) = parseC s := by
  unfold progC
  rcases Int.lt_or_le (Lib.index s arrowB) 0 with h | h
  · have hg := Lib.index_ge s arrowB
    have hsp := splitL_none (sep := arrowB) (s := s) (by decide) (by omega)
    have hcut : Lib.cut s arrowB = (s, [], false) := by unfold Lib.cut; rw [if_neg (by omega)]
    rw [hcut]
    have : parseC s = none := by
      unfold parseC
      rw [show splitL [32, 60, 45, 32] s = [s] from hsp]
    rw [this]
    exact someIf_no (by
      have : saidC [] = ⟨1, noneR, [], noneR, noneR, []⟩ := by decide +kernel
      rw [this]
      simp [isCred, isName])
  · obtain ⟨i, hi⟩ : ∃ i : Nat, Lib.index s arrowB = i := ⟨(Lib.index s arrowB).toNat, by omega⟩
    obtain ⟨hsp, hp, hle⟩ := splitL_some (sep := arrowB) (by decide) hi
    have hcut : Lib.cut s arrowB = (s.take i, s.drop (i + arrowB.length), true) := by unfold Lib.cut; rw [if_pos (by omega), hi]; rfl
    rw [hcut]
    dsimp only
    generalize s.drop (i + arrowB.length) = r at *
    rcases Int.lt_or_le (Lib.index r arrowB) 0 with h2 | h2
    · have hg := Lib.index_ge r arrowB
      have hsp2 := splitL_none (sep := arrowB) (s := r) (by decide) (by omega)
      rw [hsp2] at hsp
      unfold parseC
      rw [show splitL [32, 60, 45, 32] s = [s.take i, r] from hsp]
      exact said_body r _
    · obtain ⟨j, hj⟩ : ∃ j : Nat, Lib.index r arrowB = j := ⟨(Lib.index r arrowB).toNat, by omega⟩
      obtain ⟨hsp2, hp2, _⟩ := splitL_some (sep := arrowB) (by decide) hj
      have hm : (60 : UInt8) ∈ r := prefix_mem hp2 60 (by decide)
      have hpos := splitL_pos arrowB (r.drop (j + arrowB.length))
      rw [someIf_no (said_bad hm _)]
      unfold parseC
      rw [show splitL [32, 60, 45, 32] s = s.take i :: splitL arrowB r from hsp, hsp2]
      generalize splitL arrowB (r.drop (j + arrowB.length)) = q at *
      cases q with
      | nil => simp at hpos
      | cons a l => rfl
end Go.Proofs.Ytjohiggfjpfbeaa

/- strings.Cut; strings.Count and strings.LastIndex at a full stop. -/
namespace Go.Proofs.Ytjohiggfjpfbeaa
open Go.RowKit

/-- The library's variable holds some number. -/
def MaxAt (w : World) : Prop := ∃ m, w.cell? ⟨0, 0, none⟩ = some (.int .i64 m)

theorem MaxAt.keep {S : Nat → Prop} {w w' : World} (h : MaxAt w) (hc : Chg S w w') (hS : ¬ S 0) : MaxAt w' := by
  obtain ⟨m, hm⟩ := h
  exact ⟨m, hc.cell hm hS⟩

theorem MaxAt.lt {w : World} (h : MaxAt w) : 0 < w.heap.size := by
  obtain ⟨m, hm⟩ := h
  exact World.block_lt_of_cell? w _ hm

theorem chg_drewN (w : World) : ∀ n, Chg (fun _ => False) w (w.drewN n)
  | _ => (Chg.refl _ w).trans ⟨rfl, rfl, rfl, Nat.le_refl _, fun _ _ _ => rfl⟩ (fun _ _ h => h)

theorem pcut_any (s sep x y : List UInt8) (b : Bool) (w : World) (hs : s.length ≤ 1048576) (hm : MaxAt w) (hcut : Lib.cut s sep = (x, y, b)) :
    Calls Try.prog 41 #[.string ⟨s.toArray⟩, .string ⟨sep.toArray⟩] w fun e w' => e = .returned (.tuple #[.string ⟨x.toArray⟩, .string ⟨y.toArray⟩, .bool b]) ∧ Chg (fun _ => False) w w' := by
  obtain ⟨m, hm⟩ := hm
  have h := Try.strings_Cut ⟨s.toArray⟩ ⟨sep.toArray⟩ m w (show s.toArray.size < 4294967281 by simp; omega) hm
  dsimp only at h
  rw [hcut] at h
  refine h.mono ?_
  rintro e w' ⟨rfl, n, rfl⟩
  exact ⟨rfl, chg_drewN w n⟩

theorem pcount_dot (s : List UInt8) (w : World) :
    Calls Try.prog 70 #[.string ⟨s.toArray⟩, .string ⟨#[46]⟩] w fun e w' => e = .returned (.int .i64 (Lib.countByte s 46 : Nat)) ∧ w = w' := by
  refine (Try.strings_Count_one ⟨s.toArray⟩ 46 w).mono ?_
  rintro e w' ⟨rfl, rfl⟩
  exact ⟨rfl, rfl⟩

theorem plast_dot (s : List UInt8) (w : World) (hs : s.length ≤ 1048576) (h : 0 < Lib.countByte s 46) :
    Calls Try.prog 71 #[.string ⟨s.toArray⟩, .string ⟨#[46]⟩] w fun e w' => e = .returned (.int .i64 (lastDot s : Nat)) ∧ w = w' := by
  obtain ⟨_, _, _, hl⟩ := lastDot_spec h
  refine (Try.strings_LastIndex_one ⟨s.toArray⟩ ⟨#[46]⟩ rfl (show s.toArray.size < 4611686018427387904 by simp; omega) w).mono ?_
  rintro e w' ⟨rfl, rfl⟩
  refine ⟨?_, rfl⟩
  show Ending.returned (.int .i64 (Lib.lastIndexByte ⟨s.toArray⟩ 46)) = _
  rw [hl]

theorem cut_len (s sep : List UInt8) : (Lib.cut s sep).1.length ≤ s.length ∧ (Lib.cut s sep).2.1.length ≤ s.length := by
  unfold Lib.cut
  by_cases h : 0 ≤ Lib.index s sep
  · rw [if_pos h]
    simp only [List.length_take, List.length_drop]
    omega
  · rw [if_neg h]
    simp

theorem pc_roleOr_len (s : List UInt8) : (roleOr s).1.length ≤ 16 ∧ (roleOr s).2.length ≤ 16 := by
  unfold roleOr parseR
  cases cutDot s with
  | none => simp [noRole]
  | some p =>
    dsimp only
    by_cases h : isRole p = true
    · rw [if_pos h]; exact role_len h
    · rw [if_neg h]; simp [noRole]
end Go.Proofs.Ytjohiggfjpfbeaa

/- The contracts of a reader's Left and Number. -/
namespace Go.Proofs.Ytjohiggfjpfbeaa
open Go.RowKit

theorem rnum_nil (most : Int) (w : World) :
    Calls Try.prog 56 #[.pointer none, .int .i64 most] w fun e w' => e = .returned (.int .i64 0) ∧ w = w' := by
  go_enter Try.func56, Try.ntmps56
  go_wp2_with (go_at_call 79; refine (ended_nil _).mono ?_; rintro e w' ⟨rfl, rfl⟩)
  go_ret
  exact ⟨rfl, rfl⟩

theorem rnum_closed (R : Nat) (most : Int) (w : World) (h0 : w.cell? ⟨R, 0, none⟩ = some (.bool false)) :
    Calls Try.prog 56 #[.pointer (some ⟨R, 0, none⟩), .int .i64 most] w fun e w' => e = .returned (.int .i64 0) ∧ w = w' := by
  go_enter Try.func56, Try.ntmps56
  go_wp2_with (go_at_call 79; refine (ended_false _ _ h0).mono ?_; rintro e w' ⟨rfl, rfl⟩)
  go_ret
  exact ⟨rfl, rfl⟩

def RNumOk (D : Nat → Prop) (R : Nat) (l : List UInt8) (w : World) (e : Ending) (w' : World) : Prop :=
  e = .returned (.int .i64 (numN 9 l 0 0).1) ∧ ∃ v', BytesAt D w' v' (l.drop (numN 9 l 0 0).2.1) ∧ ReaderAt w' R true v' 0 ∧ Chg (· = R) w w'

set_option maxRecDepth 100000 in
theorem rnum_ok {D : Nat → Prop} (R b off cap : Nat) (l : List UInt8) (most : Int) (w : World) (hl : l.length ≤ 9223372036854775807) (hb : D b) (hDR : ¬ D R) (hlc : l.length ≤ cap) (hcm : cap ≤ maxLen)
    (hc : ∀ i (h : i < l.length), w.cell? ⟨b, off + i, none⟩ = some (.int .u8 (l[i].toNat : Int)))
    (hR : ReaderAt w R true (.slice (some ⟨b, off, none⟩) l.length cap) 0) (n k : Nat) (hN : Hid (numN 9 l 0 0 = (n, k, 0))) (hk : k ≤ l.length) (hn : (n : Int) ≤ most) (_ : (n : Int) ≤ 9223372036854775807) :
    Calls Try.prog 56 #[.pointer (some ⟨R, 0, none⟩), .int .i64 most] w (RNumOk D R l w) := by
  have h0 := cell_blk hR 0
  have h1 := cell_blk hR 1
  have f1 := froz_blk hR 1
  simp only [List.getElem?_toArray, List.getElem?_cons_zero, List.getElem?_cons_succ] at h0 h1
  have hnum := number_some b off cap l w hl hc
  go_enter Try.func56, Try.ntmps56
  go_wp2_with (first | (go_at_call 79; refine (ended_true _ _ h0).mono ?_; rintro e w' ⟨rfl, rfl⟩) | (go_at_call 80; refine hnum.mono ?_; rintro e w' ⟨rfl, rfl⟩; rw [hN.out]) | (go_at_call 57; refine (fail_ok _ _ h0).mono ?_; rintro e w' ⟨rfl, rfl⟩))
  · go_ret
    refine ⟨by simp [hN.out], ?_⟩
    rw [hN.out]
    exact reader_cut hb hDR hlc hcm hc hR hk (.inl ⟨by assumption, rfl⟩)
  · go_ret
    refine ⟨by simp [hN.out], ?_⟩
    rw [hN.out]
    exact reader_cut hb hDR hlc hcm hc hR hk (.inr ⟨rfl, rfl⟩)

set_option maxRecDepth 100000 in
theorem rnum_long {D : Nat → Prop} (R : Nat) (v : Value) (l : List UInt8) (most : Int) (w : World) (hl : l.length ≤ 9223372036854775807) (hv : BytesAt D w v l)
    (hR : ReaderAt w R true v 0) (n k : Nat) (hN : Hid (numN 9 l 0 0 = (n, k, 0))) (hn : most < (n : Int)) (_ : (n : Int) ≤ 9223372036854775807) :
    Calls Try.prog 56 #[.pointer (some ⟨R, 0, none⟩), .int .i64 most] w (Stops R 12 w) := by
  have h0 := cell_blk hR 0
  have h1 := cell_blk hR 1
  have h2 := cell_blk hR 2
  have f2 := froz_blk hR 2
  simp only [List.getElem?_toArray, List.getElem?_cons_zero, List.getElem?_cons_succ] at h0 h1 h2
  have hnum := number_any hl hv
  obtain ⟨ao, cp, rfl⟩ := hv.shape
  go_enter Try.func56, Try.ntmps56
  go_wp2_with (first | (go_at_call 79; refine (ended_true _ _ h0).mono ?_; rintro e w' ⟨rfl, rfl⟩) | (go_at_call 80; refine hnum.mono ?_; rintro e w' ⟨rfl, rfl⟩; rw [hN.out]) | (go_at_call 57; refine (fail_stops _ _ undef _ (by decide) h0 h2 f2).mono ?_; rintro e w' ⟨rfl, rfl⟩))
  exact ⟨rfl, reader_stop hR 12⟩

set_option maxRecDepth 100000 in
theorem rnum_bad {D : Nat → Prop} (R : Nat) (v : Value) (l : List UInt8) (most : Int) (w : World) (hl : l.length ≤ 9223372036854775807) (hv : BytesAt D w v l)
    (hR : ReaderAt w R true v 0) (n k err : Nat) (hN : Hid (numN 9 l 0 0 = (n, k, err))) (he : ((err : Int) == 0) = false) :
    Calls Try.prog 56 #[.pointer (some ⟨R, 0, none⟩), .int .i64 most] w (Stops R err w) := by
  have h0 := cell_blk hR 0
  have h1 := cell_blk hR 1
  have h2 := cell_blk hR 2
  have f2 := froz_blk hR 2
  simp only [List.getElem?_toArray, List.getElem?_cons_zero, List.getElem?_cons_succ] at h0 h1 h2
  have hnum := number_any hl hv
  obtain ⟨ao, cp, rfl⟩ := hv.shape
  go_enter Try.func56, Try.ntmps56
  go_wp2_with (first | (go_at_call 79; refine (ended_true _ _ h0).mono ?_; rintro e w' ⟨rfl, rfl⟩) | (go_at_call 80; refine hnum.mono ?_; rintro e w' ⟨rfl, rfl⟩; rw [hN.out]) | (go_at_call 57; refine (fail_stops _ _ undef _ he h0 h2 f2).mono ?_; rintro e w' ⟨rfl, rfl⟩))
  exact ⟨rfl, reader_stop hR err⟩

/-- Reader.Number, of an open reader: the number. -/
theorem rnum_reads {D : Nat → Prop} {R : Nat} {v : Value} {l : List UInt8} {most : Int} {w : World} (hl : l.length ≤ 9223372036854775807) (hv : BytesAt D w v l) (hDR : ¬ D R) (hR : ReaderAt w R true v 0) (he : errNum l most = 0) :
    Calls Try.prog 56 #[.pointer (some ⟨R, 0, none⟩), .int .i64 most] w (RNumOk D R l w) := by
  have hz : (numN 9 l 0 0).2.2 = 0 := by
    unfold errNum at he
    by_cases h : (numN 9 l 0 0).2.2 = 0
    · exact h
    · rw [if_neg h] at he
      exact he
  have hm : ((numN 9 l 0 0).1 : Int) ≤ most := by
    unfold errNum at he
    rw [if_pos hz] at he
    by_cases h : most < ((numN 9 l 0 0).1 : Int)
    · rw [if_pos h] at he
      omega
    · omega
  obtain ⟨k1, k2, k3⟩ := numN_ok hz
  rcases hv with ⟨ao, cp, rfl, rfl, _⟩ | ⟨b, off, cap, rfl, h1, h2, h3, h4⟩
  · simp at k2
    omega
  · exact rnum_ok R b off cap l most w hl h3 hDR h1 h2 h4 hR _ _ (pair3 _ hz) k2 hm (by omega)

/-- Reader.Number, of an open reader: the error. -/
theorem rnum_stops {D : Nat → Prop} {R : Nat} {v : Value} {l : List UInt8} {most : Int} {w : World} (hl : l.length ≤ 9223372036854775807) (hv : BytesAt D w v l) (hR : ReaderAt w R true v 0) (he : errNum l most ≠ 0) :
    Calls Try.prog 56 #[.pointer (some ⟨R, 0, none⟩), .int .i64 most] w (Stops R (errNum l most) w) := by
  by_cases hz : (numN 9 l 0 0).2.2 = 0
  · have e : errNum l most = 12 := by
      unfold errNum at he ⊢
      rw [if_pos hz] at he ⊢
      by_cases h : most < ((numN 9 l 0 0).1 : Int)
      · rw [if_pos h]
      · rw [if_neg h] at he
        exact absurd rfl he
    have hm : most < ((numN 9 l 0 0).1 : Int) := by
      unfold errNum at e
      rw [if_pos hz] at e
      by_cases h : most < ((numN 9 l 0 0).1 : Int)
      · exact h
      · rw [if_neg h] at e
        omega
    obtain ⟨k1, k2, k3⟩ := numN_ok hz
    rw [e]
    exact rnum_long R v l most w hl hv hR _ _ (pair3 _ hz) hm (by omega)
  · have e : errNum l most = (numN 9 l 0 0).2.2 := by
      unfold errNum
      rw [if_neg hz]
    rw [e]
    exact rnum_bad R v l most w hl hv hR _ _ _ (pair3 _ rfl) (by simpa using hz)

end Go.Proofs.Ytjohiggfjpfbeaa
