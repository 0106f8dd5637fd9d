/- Texts that the proof leans on, in one: PaBack, PaShort. -/
import Derived.Test.YtojbhlbknjnioaaGreatDoorPa7
/- What is told of a formula is parsed: plain words of layer 12. -/
namespace Go.Proofs.YtojbhlbknjnioaaGreatDoor
open Go.RowKit

theorem hasT_no {w : Tok} {ts : List Tok} (h : ts.head? ≠ some w) : hasT w ts = none := by
  cases ts with
  | nil => rfl
  | cons x r => rw [hasT, if_neg (fun e => h (by rw [e]; rfl))]
theorem hasT_yes (w : Tok) (r : List Tok) : hasT w (w :: r) = some r := by rw [hasT, if_pos rfl]

/-- What may stand behind a formula's words. -/
def EndT (ts : List Tok) : Prop := ts.head? ≠ some orW ∧ ts.head? ≠ some andW

theorem any_of_one {n : Nat} {ts X : List Tok} {f : FmB} (h : oneP n ts = some (f, X)) (hX : EndT X) (hn : 1 ≤ n) : anyP (n + 2) ts = some (f, X) := by
  obtain ⟨m, rfl⟩ : ∃ m, n = m + 1 := ⟨n - 1, by omega⟩
  have h1 : andsP (m + 1) X = some ([], X) := by rw [andsP, hasT_no hX.2]
  have h2 : bothP (m + 2) ts = some (f, X) := by rw [bothP, h]; simp [h1, fmOf]
  have h3 : orsP (m + 2) X = some ([], X) := by rw [orsP, hasT_no hX.1]
  rw [anyP, h2]
  simp [h3, fmOf]

theorem role_dot (r : RoleB) : (46 : UInt8) ∈ roleText r := by simp [roleText]
theorem role_nw {r : RoleB} {w : Tok} (hw : (46 : UInt8) ∉ w) : roleText r ≠ w := fun e => hw (e ▸ role_dot r)

theorem num_digit {k : Int} (h0 : 0 ≤ k) (h8 : k ≤ 8) : numW [digitP k] = some k := by
  have hd := digit_nat h0 h8
  unfold numW
  have h1 : ([digitP k].all (fun c => decide (48 ≤ c.toNat) && decide (c.toNat ≤ 57)) && (decide ([digitP k] ≠ []) && (decide ([digitP k].length ≤ 2) && !(decide ([digitP k].length = 2) && [digitP k].head? == some 48)))) = true := by
    simp [hd]
    omega
  rw [if_pos h1]
  simp only [List.foldl_cons, List.foldl_nil, hd]
  congr 1
  omega

theorem tok_head (f : FmB) (X : List Tok) : (tokF f ++ X).head? ≠ some [41] := by
  obtain ⟨op, k, r, kids⟩ := f
  rw [tokF]
  by_cases h1 : op = 1
  · rw [if_pos h1]
    intro e
    have e : some (roleText r) = some [41] := e
    exact role_nw (r := r) (w := [41]) (by decide) (Option.some.inj e)
  · rw [if_neg h1]
    unfold headT
    by_cases h3 : op = 3
    · rw [if_pos h3]; intro e; exact absurd (Option.some.inj e) (by decide)
    · rw [if_neg h3]
      by_cases h4 : op = 4
      · rw [if_pos h4]; intro e; exact absurd (Option.some.inj e) (by decide)
      · rw [if_neg h4]; intro e; exact absurd (Option.some.inj e) (by decide)

theorem endT_T (l : List FmB) (X : List Tok) : EndT (tokT l ++ [41] :: X) := by
  cases l with
  | nil => rw [tokT]; exact ⟨fun e => absurd (Option.some.inj e) (by decide), fun e => absurd (Option.some.inj e) (by decide)⟩
  | cons f l => rw [tokT]; exact ⟨fun e => absurd (Option.some.inj e) (by decide), fun e => absurd (Option.some.inj e) (by decide)⟩

theorem tokF_pos (f : FmB) : 1 ≤ (tokF f).length := by
  obtain ⟨op, k, r, kids⟩ := f
  rw [tokF]
  split
  · simp
  · simp; omega

theorem many_tok : ∀ (l : List FmB), (∀ g ∈ l, ∀ n X, 4 * (tokF g).length ≤ n → oneP n (tokF g ++ X) = some (g, X)) → ∀ n X, 4 * (tokT l).length + 1 ≤ n → manyP n (tokT l ++ [41] :: X) = some (l, [41] :: X)
  | [], _, n, X, hn => by
    obtain ⟨m, rfl⟩ : ∃ m, n = m + 1 := ⟨n - 1, by simp only [tokT, List.length_nil] at hn; omega⟩
    have h41 : hasT [44] ([41] :: X) = none := by rw [hasT, if_neg (by decide)]
    rw [tokT, List.nil_append, manyP, h41]
  | f :: l, h, n, X, hn => by
    rw [tokT, List.length_cons, List.length_append] at hn
    have hp := tokF_pos f
    obtain ⟨m, rfl⟩ : ∃ m, n = m + 1 + 2 := ⟨n - 3, by omega⟩
    rw [tokT, List.cons_append, manyP, hasT_yes]
    have h1 := any_of_one (h f (by simp) m (tokT l ++ [41] :: X) (by omega)) (endT_T l X) (by omega)
    have h2 := many_tok l (fun g hg => h g (List.mem_cons_of_mem _ hg)) (m + 2) X (by omega)
    rw [List.append_assoc]
    simp [h1, h2]

theorem list_tok (l : List FmB) (h : ∀ g ∈ l, ∀ n X, 4 * (tokF g).length ≤ n → oneP n (tokF g ++ X) = some (g, X)) (n : Nat) (X : List Tok) (hn : 4 * (tokL l).length + 4 ≤ n) : listP n ([40] :: (tokL l ++ [41] :: X)) = some (l, X) := by
  obtain ⟨m, rfl⟩ : ∃ m, n = m + 2 + 1 := ⟨n - 3, by omega⟩
  rw [listP, hasT_yes]
  cases l with
  | nil => simp [tokL, hasT_yes]
  | cons f l =>
    rw [tokL, List.length_append] at hn
    rw [tokL, List.append_assoc]
    have hp := tokF_pos f
    have h0 := hasT_no (tok_head f (tokT l ++ [41] :: X))
    have h1 := any_of_one (h f (by simp) m (tokT l ++ [41] :: X) (by omega)) (endT_T l X) (by omega)
    have h2 := many_tok l (fun g hg => h g (List.mem_cons_of_mem _ hg)) (m + 2) X (by omega)
    simp [h0, h1, h2, hasT_yes]

/-- The words of a right formula are read as it. -/
theorem one_tok : ∀ f : FmB, rightF f = true → ∀ n X, 4 * (tokF f).length ≤ n → oneP n (tokF f ++ X) = some (f, X) := by
  refine nodes_ind fun f ih hr n X hn => ?_
  obtain ⟨op, k, r, kids⟩ := f
  simp only [rightF, Bool.and_eq_true] at hr
  simp only [FmB.kids] at ih
  have ihk : ∀ g ∈ kids, ∀ n X, 4 * (tokF g).length ≤ n → oneP n (tokF g ++ X) = some (g, X) := fun g hg => ih g hg (rightL_mem hr.1 g hg)
  by_cases h1 : op = 1
  · have hN := hr.2
    unfold rightN at hN
    rw [if_pos h1] at hN
    simp only [Bool.and_eq_true, decide_eq_true_eq] at hN
    have hk : kids = [] := List.eq_nil_of_length_eq_zero hN.2.1
    rw [tokF, if_pos h1] at hn ⊢
    obtain ⟨m, rfl⟩ : ∃ m, n = m + 1 := ⟨n - 1, by simp only [List.length_singleton] at hn; omega⟩
    have e : oneP (m + 1) (roleText r :: X) = some (.mk 1 0 r [], X) := by
      unfold oneP
      simp only [if_neg (role_nw (r := r) (w := [40]) (by decide)), if_neg (role_nw (r := r) (w := allW) (by decide)), if_neg (role_nw (r := r) (w := someW) (by decide)), if_neg (role_nw (r := r) (w := atW) (by decide)), parse_text hN.1]
      rfl
    rw [h1, hk, hN.2.2]
    exact e
  · obtain ⟨hrr, hop⟩ := rightN_k hr.2 h1
    rw [tokF, if_neg h1] at hn ⊢
    rw [List.length_append, List.length_cons, List.length_append, List.length_singleton] at hn
    have hshape : ([40] :: (tokL kids ++ [[41]]) : List Tok) ++ X = [40] :: (tokL kids ++ [41] :: X) := by simp
    rw [List.append_assoc, hshape]
    have hlt : ∀ m, 4 * (tokL kids).length + 4 ≤ m → listP m ([40] :: (tokL kids ++ [41] :: X)) = some (kids, X) := fun m hm => list_tok kids ihk m X hm
    rcases hop with ⟨rfl, rfl⟩ | ⟨rfl, rfl⟩ | ⟨rfl, h0, h8⟩
    · obtain ⟨m, rfl⟩ : ∃ m, n = m + 1 := ⟨n - 1, by omega⟩
      rw [show headT 2 0 = [allW] from rfl, List.cons_append, List.nil_append, oneP, if_neg (by decide), if_pos rfl, hlt m (by omega), hrr]
      rfl
    · obtain ⟨m, rfl⟩ : ∃ m, n = m + 1 := ⟨n - 1, by omega⟩
      rw [show headT 3 0 = [someW] from rfl, List.cons_append, List.nil_append, oneP, if_neg (by decide), if_neg (by decide), if_pos rfl, hlt m (by omega), hrr]
      rfl
    · obtain ⟨m, rfl⟩ : ∃ m, n = m + 1 := ⟨n - 1, by omega⟩
      rw [show headT 4 k = [atW, [digitP k]] from rfl, List.cons_append, List.cons_append, List.nil_append, oneP, if_neg (by decide), if_neg (by decide), if_neg (by decide), if_pos rfl]
      simp only [num_digit h0 h8, hlt m (by omega), hrr]
      rfl

/-- The answer of a text: the formula, and the error (as a number). -/
def zeroF : FmB := .mk 0 0 ([], []) []
def parseF (s : List UInt8) : FmB × Nat :=
  if 2048 < s.length then (zeroF, 12)
  else match wordsP s [] with
    | none => (zeroF, 11)
    | some ts => match anyP (4 * ts.length + 8) ts with
      | none => (zeroF, 11)
      | some (f, r) => if r ≠ [] then (zeroF, 11) else if isF f then (f, 0) else (zeroF, 12)

/-- What is told is parsed. -/
theorem parse_told {f : FmB} (h : isF f = true) (hl : (textF f).length ≤ 2048) : parseF (textF f) = (f, 0) := by
  have hr : rightF f = true := by simp only [isF, Bool.and_eq_true] at h; exact h.2.2
  have h1 := any_of_one (one_tok f hr (4 * (tokF f).length + 6) [] (by omega)) ⟨by simp, by simp⟩ (by omega)
  rw [List.append_nil] at h1
  unfold parseF
  rw [if_neg (by omega), words_text f hr]
  simp only [h1]
  simp [h]
end Go.Proofs.YtojbhlbknjnioaaGreatDoor

/- What the grammar reads: how many words it takes at the least. Plain words of layer 12. -/
namespace Go.Proofs.YtojbhlbknjnioaaGreatDoor
open Go.RowKit

theorem hasT_len {w : Tok} {ts r : List Tok} (h : hasT w ts = some r) : r.length + 1 = ts.length := by
  cases ts with
  | nil => cases h
  | cons x l =>
    rw [hasT] at h
    by_cases e : x = w
    · rw [if_pos e] at h; rw [← Option.some.inj h]; simp
    · rw [if_neg e] at h; cases h

theorem fmOf_nodes (op : Int) (l : List FmB) (f : FmB) : nodesF (fmOf op l f) ≤ nodesF f + nodesL l + l.length := by
  cases l with
  | nil => simp [fmOf, nodesL]
  | cons x l =>
    have e : fmOf op (x :: l) f = .mk op 0 ([], []) (f :: x :: l) := rfl
    rw [e]
    simp only [nodesF, nodesL, List.length_cons]
    omega

/-- Each node takes a word, and what is behind is shorter. -/
theorem read_len : ∀ n : Nat,
    (∀ ts f r, anyP n ts = some (f, r) → nodesF f + r.length ≤ ts.length) ∧ (∀ ts l r, orsP n ts = some (l, r) → nodesL l + l.length + r.length ≤ ts.length) ∧
    (∀ ts f r, bothP n ts = some (f, r) → nodesF f + r.length ≤ ts.length) ∧ (∀ ts l r, andsP n ts = some (l, r) → nodesL l + l.length + r.length ≤ ts.length) ∧
    (∀ ts f r, oneP n ts = some (f, r) → nodesF f + r.length ≤ ts.length) ∧ (∀ ts l r, listP n ts = some (l, r) → nodesL l + l.length + 1 + r.length ≤ ts.length) ∧
    (∀ ts l r, manyP n ts = some (l, r) → nodesL l + l.length + r.length ≤ ts.length) := by
  intro n
  induction n with
  | zero => exact ⟨fun _ _ _ h => by simp [anyP] at h, fun _ _ _ h => by simp [orsP] at h, fun _ _ _ h => by simp [bothP] at h, fun _ _ _ h => by simp [andsP] at h, fun _ _ _ h => by simp [oneP] at h, fun _ _ _ h => by simp [listP] at h, fun _ _ _ h => by simp [manyP] at h⟩
  | succ n ih =>
    obtain ⟨iA, iO, iB, iN, i1, iL, iM⟩ := ih
    have more : ∀ (w : Tok) (rd : List Tok → Option (FmB × List Tok)) (go : List Tok → Option (List FmB × List Tok)), (∀ ts f r, rd ts = some (f, r) → nodesF f + r.length ≤ ts.length) → (∀ ts l r, go ts = some (l, r) → nodesL l + l.length + r.length ≤ ts.length) →
        ∀ ts l r, (match hasT w ts with
          | none => some ([], ts)
          | some r => match rd r with
            | none => none
            | some (f, r) => (go r).map fun p => (f :: p.1, p.2)) = some (l, r) → nodesL l + l.length + r.length ≤ ts.length := by
      intro w rd go hrd hgo ts l r h
      cases h1 : hasT w ts with
      | none =>
        rw [h1] at h
        simp only [Option.some.injEq, Prod.mk.injEq] at h
        obtain ⟨rfl, rfl⟩ := h
        simp [nodesL]
      | some r1 =>
        have hl := hasT_len h1
        rw [h1] at h
        simp only at h
        cases h2 : rd r1 with
        | none => rw [h2] at h; cases h
        | some p =>
          obtain ⟨f, r2⟩ := p
          have h3 := hrd _ _ _ h2
          rw [h2] at h
          simp only [Option.map_eq_some_iff, Prod.mk.injEq, Prod.exists] at h
          obtain ⟨l2, r3, h4, rfl, rfl⟩ := h
          have h5 := hgo _ _ _ h4
          simp only [nodesL, List.length_cons]
          omega
    have both : ∀ (op : Int) (rd : List Tok → Option (FmB × List Tok)) (go : List Tok → Option (List FmB × List Tok)), (∀ ts f r, rd ts = some (f, r) → nodesF f + r.length ≤ ts.length) → (∀ ts l r, go ts = some (l, r) → nodesL l + l.length + r.length ≤ ts.length) →
        ∀ ts f r, (match rd ts with
          | none => none
          | some (f, r) => (go r).map fun p => (fmOf op p.1 f, p.2)) = some (f, r) → nodesF f + r.length ≤ ts.length := by
      intro op rd go hrd hgo ts f r h
      cases h2 : rd ts with
      | none => rw [h2] at h; cases h
      | some p =>
        obtain ⟨g, r2⟩ := p
        have h3 := hrd _ _ _ h2
        rw [h2] at h
        simp only [Option.map_eq_some_iff, Prod.mk.injEq, Prod.exists] at h
        obtain ⟨l2, r3, h4, rfl, rfl⟩ := h
        have h5 := hgo _ _ _ h4
        have h6 := fmOf_nodes op l2 g
        omega
    have lst : ∀ (op k : Int) (l : List FmB), nodesF (.mk op k ([], []) l) = 1 + nodesL l := fun _ _ _ => rfl
    refine ⟨fun ts f r h => ?_, fun ts l r h => ?_, fun ts f r h => ?_, fun ts l r h => ?_, fun ts f r h => ?_, fun ts l r h => ?_, fun ts l r h => ?_⟩
    · rw [anyP] at h; exact both 3 _ _ iB iO ts f r h
    · rw [orsP] at h; exact more orW _ _ iB iO ts l r h
    · rw [bothP] at h; exact both 2 _ _ i1 iN ts f r h
    · rw [andsP] at h; exact more andW _ _ i1 iN ts l r h
    · cases ts with
      | nil => simp [oneP] at h
      | cons w ts =>
        unfold oneP at h
        by_cases e1 : w = [40]
        · rw [if_pos e1] at h
          cases h2 : anyP n ts with
          | none => rw [h2] at h; cases h
          | some p =>
            obtain ⟨g, r2⟩ := p
            have h3 := iA _ _ _ h2
            rw [h2] at h
            simp only [Option.map_eq_some_iff, Prod.mk.injEq] at h
            obtain ⟨r3, h4, rfl, rfl⟩ := h
            have h5 := hasT_len h4
            simp only [List.length_cons]
            omega
        · rw [if_neg e1] at h
          by_cases e2 : w = allW
          · rw [if_pos e2] at h
            simp only [Option.map_eq_some_iff, Prod.mk.injEq, Prod.exists] at h
            obtain ⟨l2, r3, h4, rfl, rfl⟩ := h
            have h5 := iL _ _ _ h4
            rw [lst, List.length_cons]
            omega
          · rw [if_neg e2] at h
            by_cases e3 : w = someW
            · rw [if_pos e3] at h
              simp only [Option.map_eq_some_iff, Prod.mk.injEq, Prod.exists] at h
              obtain ⟨l2, r3, h4, rfl, rfl⟩ := h
              have h5 := iL _ _ _ h4
              rw [lst, List.length_cons]
              omega
            · rw [if_neg e3] at h
              by_cases e4 : w = atW
              · rw [if_pos e4] at h
                cases ts with
                | nil => cases h
                | cons k ts =>
                  simp only at h
                  cases h6 : numW k with
                  | none => rw [h6] at h; cases h
                  | some x =>
                    rw [h6] at h
                    simp only [Option.map_eq_some_iff, Prod.mk.injEq, Prod.exists] at h
                    obtain ⟨l2, r3, h4, rfl, rfl⟩ := h
                    have h5 := iL _ _ _ h4
                    rw [lst, List.length_cons, List.length_cons]
                    omega
              · rw [if_neg e4] at h
                simp only [Option.map_eq_some_iff, Prod.mk.injEq] at h
                obtain ⟨x, _, rfl, rfl⟩ := h
                simp only [nodesF, nodesL, List.length_cons]
                omega
    · rw [listP] at h
      cases h1 : hasT [40] ts with
      | none => rw [h1] at h; cases h
      | some r1 =>
        have hl := hasT_len h1
        rw [h1] at h
        simp only at h
        cases h2 : hasT [41] r1 with
        | some r2 =>
          have hl2 := hasT_len h2
          rw [h2] at h
          simp only [Option.some.injEq, Prod.mk.injEq] at h
          obtain ⟨rfl, rfl⟩ := h
          simp only [nodesL, List.length_nil]
          omega
        | none =>
          rw [h2] at h
          simp only at h
          cases h3 : anyP n r1 with
          | none => rw [h3] at h; cases h
          | some p =>
            obtain ⟨g, r2⟩ := p
            have h4 := iA _ _ _ h3
            rw [h3] at h
            simp only at h
            cases h5 : manyP n r2 with
            | none => rw [h5] at h; cases h
            | some p =>
              obtain ⟨l2, r3⟩ := p
              have h6 := iM _ _ _ h5
              rw [h5] at h
              simp only [Option.map_eq_some_iff, Prod.mk.injEq] at h
              obtain ⟨r4, h7, rfl, rfl⟩ := h
              have h8 := hasT_len h7
              simp only [nodesL, List.length_cons]
              omega
    · rw [manyP] at h; exact more [44] _ _ iA iM ts l r h

end Go.Proofs.YtojbhlbknjnioaaGreatDoor
