/- Texts that the proof leans on, in one: PaFuel, PaLex. -/
import Derived.Test.YtojbhlbknjnioaaGreatDoorPt10
/- The grammar without fuel. Plain words of layer 12. -/
namespace Go.Proofs.YtojbhlbknjnioaaGreatDoor
open Go.RowKit

def moreP (w : Tok) (rd : List Tok → Option (FmB × List Tok)) (go : List Tok → Option (List FmB × List Tok)) (ts : List Tok) : Option (List FmB × List Tok) :=
  match hasT w ts with
  | none => some ([], ts)
  | some r => match rd r with
    | none => none
    | some (f, r) => (go r).map fun p => (f :: p.1, p.2)
def joinP (op : Int) (rd : List Tok → Option (FmB × List Tok)) (go : List Tok → Option (List FmB × List Tok)) (ts : List Tok) : Option (FmB × List Tok) :=
  match rd ts with
  | none => none
  | some (f, r) => (go r).map fun p => (fmOf op p.1 f, p.2)
def stepP (an : List Tok → Option (FmB × List Tok)) (li : List Tok → Option (List FmB × List Tok)) (w : Tok) (r : List Tok) : Option (FmB × List Tok) :=
  if w = [40] then match an r with
    | none => none
    | some (f, r) => (hasT [41] r).map fun r => (f, r)
  else if w = allW then (li r).map fun p => (.mk 2 0 ([], []) p.1, p.2)
  else if w = someW then (li r).map fun p => (.mk 3 0 ([], []) p.1, p.2)
  else if w = atW then match r with
    | [] => none
    | k :: r => match numW k with
      | none => none
      | some x => (li r).map fun p => (.mk 4 x ([], []) p.1, p.2)
  else (parseR w).map fun x => (.mk 1 0 x [], r)
def bracketP (an : List Tok → Option (FmB × List Tok)) (ma : List Tok → Option (List FmB × List Tok)) (ts : List Tok) : Option (List FmB × List Tok) :=
  match hasT [40] ts with
  | none => none
  | some r => match hasT [41] r with
    | some r => some ([], r)
    | none => match an r with
      | none => none
      | some (f, r) => match ma r with
        | none => none
        | some (l, r) => (hasT [41] r).map fun r => (f :: l, r)

theorem anyP_s (n : Nat) (ts : List Tok) : anyP (n + 1) ts = joinP 3 (bothP n) (orsP n) ts := by rw [anyP]; rfl
theorem orsP_s (n : Nat) (ts : List Tok) : orsP (n + 1) ts = moreP orW (bothP n) (orsP n) ts := by rw [orsP]; rfl
theorem bothP_s (n : Nat) (ts : List Tok) : bothP (n + 1) ts = joinP 2 (oneP n) (andsP n) ts := by rw [bothP]; rfl
theorem andsP_s (n : Nat) (ts : List Tok) : andsP (n + 1) ts = moreP andW (oneP n) (andsP n) ts := by rw [andsP]; rfl
theorem oneP_s (n : Nat) (w : Tok) (r : List Tok) : oneP (n + 1) (w :: r) = stepP (anyP n) (listP n) w r := by rw [oneP.eq_def]; rfl
theorem listP_s (n : Nat) (ts : List Tok) : listP (n + 1) ts = bracketP (anyP n) (manyP n) ts := by rw [listP]; rfl
theorem manyP_s (n : Nat) (ts : List Tok) : manyP (n + 1) ts = moreP [44] (anyP n) (manyP n) ts := by rw [manyP]; rfl

theorem more_congr {w : Tok} {rd rd' : List Tok → Option (FmB × List Tok)} {go go' : List Tok → Option (List FmB × List Tok)} {ts : List Tok} (h1 : ∀ r, r.length + 1 = ts.length → rd r = rd' r) (h2 : ∀ r f r', r.length + 1 = ts.length → rd r = some (f, r') → go r' = go' r') : moreP w rd go ts = moreP w rd' go' ts := by
  unfold moreP
  cases h : hasT w ts with
  | none => rfl
  | some r =>
    have hl := hasT_len h
    simp only
    rw [← h1 r hl]
    cases h3 : rd r with
    | none => rfl
    | some p => simp only; rw [h2 r p.1 p.2 hl h3]
theorem join_congr {op : Int} {rd rd' : List Tok → Option (FmB × List Tok)} {go go' : List Tok → Option (List FmB × List Tok)} {ts : List Tok} (h1 : rd ts = rd' ts) (h2 : ∀ f r', rd ts = some (f, r') → go r' = go' r') : joinP op rd go ts = joinP op rd' go' ts := by
  unfold joinP
  rw [← h1]
  cases h3 : rd ts with
  | none => rfl
  | some p => simp only; rw [h2 p.1 p.2 h3]
theorem step_congr {an an' : List Tok → Option (FmB × List Tok)} {li li' : List Tok → Option (List FmB × List Tok)} {w : Tok} {r : List Tok} (h1 : an r = an' r) (h2 : ∀ r', r'.length ≤ r.length → li r' = li' r') : stepP an li w r = stepP an' li' w r := by
  unfold stepP
  rw [← h1, ← h2 r (Nat.le_refl _)]
  cases r with
  | nil => rfl
  | cons k r => simp only; rw [← h2 r (by simp)]
theorem bracket_congr {an an' : List Tok → Option (FmB × List Tok)} {ma ma' : List Tok → Option (List FmB × List Tok)} {ts : List Tok} (h1 : ∀ r, r.length + 1 = ts.length → an r = an' r) (h2 : ∀ r f r', r.length + 1 = ts.length → an r = some (f, r') → ma r' = ma' r') : bracketP an ma ts = bracketP an' ma' ts := by
  unfold bracketP
  cases h : hasT [40] ts with
  | none => rfl
  | some r =>
    have hl := hasT_len h
    simp only
    rw [← h1 r hl]
    cases h4 : hasT [41] r with
    | some r => rfl
    | none =>
      simp only
      cases h3 : an r with
      | none => rfl
      | some p => simp only; rw [h2 r p.1 p.2 hl h3]

/-- Once there is enough of it, the fuel doesn't matter. -/
theorem fuel_eq : ∀ n m : Nat,
    (∀ ts, 4 * ts.length + 8 ≤ n → 4 * ts.length + 8 ≤ m → anyP n ts = anyP m ts) ∧ (∀ ts, 4 * ts.length + 4 ≤ n → 4 * ts.length + 4 ≤ m → orsP n ts = orsP m ts) ∧
    (∀ ts, 4 * ts.length + 7 ≤ n → 4 * ts.length + 7 ≤ m → bothP n ts = bothP m ts) ∧ (∀ ts, 4 * ts.length + 3 ≤ n → 4 * ts.length + 3 ≤ m → andsP n ts = andsP m ts) ∧
    (∀ ts, 4 * ts.length + 6 ≤ n → 4 * ts.length + 6 ≤ m → oneP n ts = oneP m ts) ∧ (∀ ts, 4 * ts.length + 5 ≤ n → 4 * ts.length + 5 ≤ m → listP n ts = listP m ts) ∧
    (∀ ts, 4 * ts.length + 5 ≤ n → 4 * ts.length + 5 ≤ m → manyP n ts = manyP m ts) := by
  intro n
  induction n with
  | zero => intro m; exact ⟨fun _ h => by omega, fun _ h => by omega, fun _ h => by omega, fun _ h => by omega, fun _ h => by omega, fun _ h => by omega, fun _ h => by omega⟩
  | succ n ih =>
    intro m
    cases m with
    | zero => exact ⟨fun _ _ h => by omega, fun _ _ h => by omega, fun _ _ h => by omega, fun _ _ h => by omega, fun _ _ h => by omega, fun _ _ h => by omega, fun _ _ h => by omega⟩
    | succ m =>
      obtain ⟨iA, iO, iB, iN, i1, iL, iM⟩ := ih m
      obtain ⟨lA, lO, lB, lN, l1, lL, lM⟩ := read_len n
      have np := nodesF_pos
      refine ⟨fun ts h1 h2 => ?_, fun ts h1 h2 => ?_, fun ts h1 h2 => ?_, fun ts h1 h2 => ?_, fun ts h1 h2 => ?_, fun ts h1 h2 => ?_, fun ts h1 h2 => ?_⟩
      · rw [anyP_s, anyP_s]
        exact join_congr (iB ts (by omega) (by omega)) fun f r h => by have := lB _ _ _ h; exact iO r (by omega) (by omega)
      · rw [orsP_s, orsP_s]
        exact more_congr (fun r hr => iB r (by omega) (by omega)) fun r f r' hr h => by have := lB _ _ _ h; exact iO r' (by omega) (by omega)
      · rw [bothP_s, bothP_s]
        exact join_congr (i1 ts (by omega) (by omega)) fun f r h => by have := l1 _ _ _ h; exact iN r (by omega) (by omega)
      · rw [andsP_s, andsP_s]
        exact more_congr (fun r hr => i1 r (by omega) (by omega)) fun r f r' hr h => by have := l1 _ _ _ h; exact iN r' (by omega) (by omega)
      · cases ts with
        | nil => rfl
        | cons w r =>
          rw [List.length_cons] at h1 h2
          rw [oneP_s, oneP_s]
          exact step_congr (iA r (by omega) (by omega)) fun r' hr => iL r' (by omega) (by omega)
      · rw [listP_s, listP_s]
        exact bracket_congr (fun r hr => iA r (by omega) (by omega)) fun r f r' hr h => by have := lA _ _ _ h; exact iM r' (by omega) (by omega)
      · rw [manyP_s, manyP_s]
        exact more_congr (fun r hr => iA r (by omega) (by omega)) fun r f r' hr h => by have := lA _ _ _ h; exact iM r' (by omega) (by omega)

def anyG (ts : List Tok) := anyP (4 * ts.length + 8) ts
def orsG (ts : List Tok) := orsP (4 * ts.length + 4) ts
def bothG (ts : List Tok) := bothP (4 * ts.length + 7) ts
def andsG (ts : List Tok) := andsP (4 * ts.length + 3) ts
def oneG (ts : List Tok) := oneP (4 * ts.length + 6) ts
def listG (ts : List Tok) := listP (4 * ts.length + 5) ts
def manyG (ts : List Tok) := manyP (4 * ts.length + 5) ts

theorem any_len {ts : List Tok} {f : FmB} {r : List Tok} (h : anyG ts = some (f, r)) : nodesF f + r.length ≤ ts.length := (read_len _).1 _ _ _ h
theorem both_len {ts : List Tok} {f : FmB} {r : List Tok} (h : bothG ts = some (f, r)) : nodesF f + r.length ≤ ts.length := (read_len _).2.2.1 _ _ _ h
theorem one_len {ts : List Tok} {f : FmB} {r : List Tok} (h : oneG ts = some (f, r)) : nodesF f + r.length ≤ ts.length := (read_len _).2.2.2.2.1 _ _ _ h
theorem anyG_eq (ts : List Tok) : anyG ts = joinP 3 bothG orsG ts := by
  have np := nodesF_pos
  rw [anyG, anyP_s]
  exact join_congr rfl fun f r h => by have := (read_len _).2.2.1 _ _ _ h; have := np f; exact (fuel_eq _ _).2.1 r (by omega) (by omega)
theorem orsG_eq (ts : List Tok) : orsG ts = moreP orW bothG orsG ts := by
  have np := nodesF_pos
  rw [orsG, orsP_s]
  exact more_congr (fun r hr => (fuel_eq _ _).2.2.1 r (by omega) (by omega)) fun r f r' hr h => by have := (read_len _).2.2.1 _ _ _ h; have := np f; exact (fuel_eq _ _).2.1 r' (by omega) (by omega)
theorem bothG_eq (ts : List Tok) : bothG ts = joinP 2 oneG andsG ts := by
  have np := nodesF_pos
  rw [bothG, bothP_s]
  exact join_congr rfl fun f r h => by have := (read_len _).2.2.2.2.1 _ _ _ h; have := np f; exact (fuel_eq _ _).2.2.2.1 r (by omega) (by omega)
theorem andsG_eq (ts : List Tok) : andsG ts = moreP andW oneG andsG ts := by
  have np := nodesF_pos
  rw [andsG, andsP_s]
  exact more_congr (fun r hr => (fuel_eq _ _).2.2.2.2.1 r (by omega) (by omega)) fun r f r' hr h => by have := (read_len _).2.2.2.2.1 _ _ _ h; have := np f; exact (fuel_eq _ _).2.2.2.1 r' (by omega) (by omega)
theorem oneG_eq (w : Tok) (r : List Tok) : oneG (w :: r) = stepP anyG listG w r := by
  rw [oneG, oneP_s]
  exact step_congr ((fuel_eq _ _).1 r (by simp only [List.length_cons]; omega) (by omega)) fun r' hr => (fuel_eq _ _).2.2.2.2.2.1 r' (by simp only [List.length_cons]; omega) (by omega)
theorem listG_eq (ts : List Tok) : listG ts = bracketP anyG manyG ts := by
  have np := nodesF_pos
  rw [listG, listP_s]
  exact bracket_congr (fun r hr => (fuel_eq _ _).1 r (by omega) (by omega)) fun r f r' hr h => by have := (read_len _).1 _ _ _ h; have := np f; exact (fuel_eq _ _).2.2.2.2.2.2 r' (by omega) (by omega)
theorem manyG_eq (ts : List Tok) : manyG ts = moreP [44] anyG manyG ts := by
  have np := nodesF_pos
  rw [manyG, manyP_s]
  exact more_congr (fun r hr => (fuel_eq _ _).1 r (by omega) (by omega)) fun r f r' hr h => by have := (read_len _).1 _ _ _ h; have := np f; exact (fuel_eq _ _).2.2.2.2.2.2 r' (by omega) (by omega)

/-- What isn't of the grammar is behind what is read. -/
theorem stays {x : Tok} (h40 : x ≠ [40]) (h41 : x ≠ [41]) (h44 : x ≠ [44]) (ho : x ≠ orW) (ha : x ≠ andW) (hl : x ≠ allW) (hs : x ≠ someW) (ht : x ≠ atW) (hp : parseR x = none) (hn : numW x = none) : ∀ n : Nat,
    (∀ ts f r, anyP n ts = some (f, r) → x ∈ ts → x ∈ r) ∧ (∀ ts l r, orsP n ts = some (l, r) → x ∈ ts → x ∈ r) ∧
    (∀ ts f r, bothP n ts = some (f, r) → x ∈ ts → x ∈ r) ∧ (∀ ts l r, andsP n ts = some (l, r) → x ∈ ts → x ∈ r) ∧
    (∀ ts f r, oneP n ts = some (f, r) → x ∈ ts → x ∈ r) ∧ (∀ ts l r, listP n ts = some (l, r) → x ∈ ts → x ∈ r) ∧
    (∀ ts l r, manyP n ts = some (l, r) → x ∈ ts → x ∈ r) := by
  have has : ∀ {w : Tok} {ts r : List Tok}, x ≠ w → hasT w ts = some r → x ∈ ts → x ∈ r := by
    intro w ts r hw h hx
    cases ts with
    | nil => cases h
    | cons y l =>
      rw [hasT] at h
      by_cases e : y = w
      · rw [if_pos e] at h
        rw [← Option.some.inj h]
        exact (List.mem_cons.1 hx).elim (fun e2 => absurd (e2.trans e) hw) id
      · rw [if_neg e] at h; cases h
  have more : ∀ {w : Tok} {rd : List Tok → Option (FmB × List Tok)} {go : List Tok → Option (List FmB × List Tok)}, x ≠ w → (∀ ts f r, rd ts = some (f, r) → x ∈ ts → x ∈ r) → (∀ ts l r, go ts = some (l, r) → x ∈ ts → x ∈ r) → ∀ ts l r, moreP w rd go ts = some (l, r) → x ∈ ts → x ∈ r := by
    intro w rd go hw hrd hgo ts l r h hx
    unfold moreP at h
    cases h1 : hasT w ts with
    | none => rw [h1] at h; simp only [Option.some.injEq, Prod.mk.injEq] at h; rw [← h.2]; exact hx
    | some r1 =>
      rw [h1] at h
      simp only at h
      cases h2 : rd r1 with
      | none => rw [h2] at h; cases h
      | some p =>
        rw [h2] at h
        simp only [Option.map_eq_some_iff, Prod.mk.injEq, Prod.exists] at h
        obtain ⟨l2, r3, h4, _, rfl⟩ := h
        exact hgo _ _ _ h4 (hrd r1 p.1 p.2 h2 (has hw h1 hx))
  have join : ∀ {op : Int} {rd : List Tok → Option (FmB × List Tok)} {go : List Tok → Option (List FmB × List Tok)}, (∀ ts f r, rd ts = some (f, r) → x ∈ ts → x ∈ r) → (∀ ts l r, go ts = some (l, r) → x ∈ ts → x ∈ r) → ∀ ts l r, joinP op rd go ts = some (l, r) → x ∈ ts → x ∈ r := by
    intro op rd go hrd hgo ts l r h hx
    unfold joinP at h
    cases h2 : rd ts with
    | none => rw [h2] at h; cases h
    | some p =>
      rw [h2] at h
      simp only [Option.map_eq_some_iff, Prod.mk.injEq, Prod.exists] at h
      obtain ⟨l2, r3, h4, _, rfl⟩ := h
      exact hgo _ _ _ h4 (hrd ts p.1 p.2 h2 hx)
  intro n
  induction n with
  | zero => exact ⟨fun _ _ _ h => by simp [anyP] at h, fun _ _ _ h => by simp [orsP] at h, fun _ _ _ h => by simp [bothP] at h, fun _ _ _ h => by simp [andsP] at h, fun _ _ _ h => by simp [oneP] at h, fun _ _ _ h => by simp [listP] at h, fun _ _ _ h => by simp [manyP] at h⟩
  | succ n ih =>
    obtain ⟨iA, iO, iB, iN, i1, iL, iM⟩ := ih
    refine ⟨fun ts f r h => ?_, fun ts f r h => ?_, fun ts f r h => ?_, fun ts f r h => ?_, fun ts f r h => ?_, fun ts f r h => ?_, fun ts f r h => ?_⟩
    · rw [anyP_s] at h; exact join iB iO ts f r h
    · rw [orsP_s] at h; exact more ho iB iO ts f r h
    · rw [bothP_s] at h; exact join i1 iN ts f r h
    · rw [andsP_s] at h; exact more ha i1 iN ts f r h
    · intro hx
      cases ts with
      | nil => simp [oneP] at h
      | cons w t =>
        rw [oneP_s] at h
        have tail : x ≠ w → x ∈ t := fun e => (List.mem_cons.1 hx).resolve_left e
        unfold stepP at h
        by_cases e40 : w = [40]
        · rw [if_pos e40] at h
          cases h2 : anyP n t with
          | none => rw [h2] at h; cases h
          | some p =>
            rw [h2] at h
            simp only [Option.map_eq_some_iff, Prod.mk.injEq] at h
            obtain ⟨r3, h4, _, rfl⟩ := h
            exact has h41 h4 (iA _ _ _ h2 (tail (e40 ▸ h40)))
        · rw [if_neg e40] at h
          by_cases ea : w = allW
          · rw [if_pos ea] at h
            simp only [Option.map_eq_some_iff, Prod.mk.injEq, Prod.exists] at h
            obtain ⟨l2, r3, h4, _, rfl⟩ := h
            exact iL _ _ _ h4 (tail (ea ▸ hl))
          · rw [if_neg ea] at h
            by_cases es : w = someW
            · rw [if_pos es] at h
              simp only [Option.map_eq_some_iff, Prod.mk.injEq, Prod.exists] at h
              obtain ⟨l2, r3, h4, _, rfl⟩ := h
              exact iL _ _ _ h4 (tail (es ▸ hs))
            · rw [if_neg es] at h
              by_cases et : w = atW
              · rw [if_pos et] at h
                cases t with
                | nil => cases h
                | cons k t =>
                  simp only at h
                  cases h2 : numW k with
                  | none => rw [h2] at h; cases h
                  | some v =>
                    rw [h2] at h
                    simp only [Option.map_eq_some_iff, Prod.mk.injEq, Prod.exists] at h
                    obtain ⟨l2, r3, h4, _, rfl⟩ := h
                    exact iL _ _ _ h4 ((List.mem_cons.1 (tail (et ▸ ht))).resolve_left (fun e => by rw [← e, hn] at h2; cases h2))
              · rw [if_neg et] at h
                simp only [Option.map_eq_some_iff, Prod.mk.injEq] at h
                obtain ⟨v, h4, _, rfl⟩ := h
                exact tail (fun e => by rw [← e, hp] at h4; cases h4)
    · intro hx
      rw [listP_s] at h
      unfold bracketP at h
      cases h1 : hasT [40] ts with
      | none => rw [h1] at h; cases h
      | some r1 =>
        have hx1 := has h40 h1 hx
        rw [h1] at h
        simp only at h
        cases h2 : hasT [41] r1 with
        | some r2 =>
          rw [h2] at h
          simp only [Option.some.injEq, Prod.mk.injEq] at h
          rw [← h.2]
          exact has h41 h2 hx1
        | none =>
          rw [h2] at h
          simp only at h
          cases h3 : anyP n r1 with
          | none => rw [h3] at h; cases h
          | some p =>
            rw [h3] at h
            simp only at h
            cases h4 : manyP n p.2 with
            | none => rw [h4] at h; cases h
            | some q =>
              rw [h4] at h
              simp only [Option.map_eq_some_iff, Prod.mk.injEq] at h
              obtain ⟨r3, h5, _, rfl⟩ := h
              exact has h41 h5 (iM _ q.1 q.2 h4 (iA _ p.1 p.2 h3 hx1))
    · rw [manyP_s] at h; exact more h44 iA iM ts f r h
end Go.Proofs.YtojbhlbknjnioaaGreatDoor

/- The next word of a text, as the program takes them. Plain words of layer 12. -/
namespace Go.Proofs.YtojbhlbknjnioaaGreatDoor
open Go.RowKit

def lexS (s : List UInt8) : List UInt8 := s.dropWhile blankP
def lexN (s : List UInt8) : Nat := if (s.takeWhile signP).length = 0 ∧ s ≠ [] then 1 else (s.takeWhile signP).length
def lexA (s : List UInt8) : Tok := (lexS s).take (lexN (lexS s))
def lexB (s : List UInt8) : List UInt8 := (lexS s).drop (lexN (lexS s))

theorem lexS_le (s : List UInt8) : (lexS s).length ≤ s.length := List.Sublist.length_le (List.dropWhile_sublist _)
theorem takeW_le (p : UInt8 → Bool) (s : List UInt8) : (s.takeWhile p).length ≤ s.length := List.Sublist.length_le (List.takeWhile_sublist _)
theorem takeW_drop (p : UInt8 → Bool) (s : List UInt8) : (s.dropWhile p).length = s.length - (s.takeWhile p).length := by
  have h := congrArg List.length (List.takeWhile_append_dropWhile (p := p) (l := s))
  rw [List.length_append] at h
  omega
theorem lexN_le (s : List UInt8) : lexN s ≤ s.length := by
  unfold lexN
  split
  · next h => have := List.length_pos_iff.2 h.2; omega
  · exact takeW_le _ _
theorem lexN_zero {s : List UInt8} (h : lexN s = 0) : s = [] := by
  unfold lexN at h
  split at h
  · cases h
  · next h2 => exact Decidable.byContradiction fun e => h2 ⟨h, e⟩
theorem lexA_len (s : List UInt8) : (lexA s).length = lexN (lexS s) := by rw [lexA, List.length_take]; have := lexN_le (lexS s); omega
theorem lexB_len (s : List UInt8) : (lexB s).length = (lexS s).length - lexN (lexS s) := by rw [lexB, List.length_drop]
theorem lexA_nil {s : List UInt8} (h : lexA s = []) : lexB s = [] := by
  have h1 := lexA_len s
  rw [h] at h1
  have h2 := lexN_zero h1.symm
  rw [lexB, h2]
  rfl
theorem lex_lt {s : List UInt8} (h : lexA s ≠ []) : (lexB s).length < s.length := by
  have h1 := lexA_len s
  have h2 := List.length_pos_iff.2 h
  have h3 := lexB_len s
  have h4 := lexS_le s
  have h5 := lexN_le (lexS s)
  omega

/-- The words of a text, one by one. -/
inductive Lexes : List UInt8 → List Tok → Prop
  | fin {s : List UInt8} (h : lexA s = []) : Lexes s []
  | more {s : List UInt8} {ts : List Tok} (h : lexA s ≠ []) (t : Lexes (lexB s) ts) : Lexes s (lexA s :: ts)

theorem lex_all : ∀ (n : Nat) (s : List UInt8), s.length ≤ n → ∃ ts, Lexes s ts ∧ ts.length ≤ s.length := by
  intro n
  induction n with
  | zero =>
    intro s h
    have : s = [] := List.eq_nil_of_length_eq_zero (by omega)
    subst this
    exact ⟨[], .fin rfl, by simp⟩
  | succ n ih =>
    intro s h
    by_cases e : lexA s = []
    · exact ⟨[], .fin e, by simp⟩
    · have := lex_lt e
      obtain ⟨ts, h1, h2⟩ := ih (lexB s) (by omega)
      exact ⟨_, .more e h1, by rw [List.length_cons]; omega⟩
theorem lex_word (x s : List UInt8) (hx : x ≠ []) (h : ∀ c ∈ x, signP c = true) (hs : StopP s) : lexA (x ++ s) = x ∧ lexB (x ++ s) = s := by
  have hb : ∀ c : UInt8, signP c = true → blankP c = false := by
    intro c hc
    cases hbl : blankP c with
    | false => rfl
    | true =>
      simp only [blankP, Bool.or_eq_true, decide_eq_true_eq] at hbl
      simp only [signP, Bool.or_eq_true, Bool.and_eq_true, decide_eq_true_eq] at hc
      omega
  have hd : lexS (x ++ s) = x ++ s := by
    cases x with
    | nil => exact absurd rfl hx
    | cons c x => rw [lexS, List.cons_append, List.dropWhile_cons, hb c (h c (by simp))]; rfl
  have ht : (x ++ s).takeWhile signP = x := by
    rw [List.takeWhile_append_of_pos h]
    cases s with
    | nil => simp
    | cons c s => rw [List.takeWhile_cons, show signP c = false from hs]; simp
  have hn : lexN (x ++ s) = x.length := by
    unfold lexN
    rw [ht, if_neg (fun e => hx (List.eq_nil_of_length_eq_zero e.1))]
  rw [lexA, lexB, hd, hn]
  exact ⟨List.take_left, List.drop_left⟩
theorem lex_one (c : UInt8) (s : List UInt8) (h : signP c = false) (hb : blankP c = false) : lexA (c :: s) = [c] ∧ lexB (c :: s) = s := by
  have hd : lexS (c :: s) = c :: s := by rw [lexS, List.dropWhile_cons, hb]; rfl
  have hn : lexN (c :: s) = 1 := by
    unfold lexN
    rw [List.takeWhile_cons, h, if_pos ⟨rfl, by simp⟩]
  rw [lexA, lexB, hd, hn]
  exact ⟨rfl, rfl⟩
theorem lex_blank (c : UInt8) (s : List UInt8) (hb : blankP c = true) : lexA (c :: s) = lexA s ∧ lexB (c :: s) = lexB s := by
  have hd : lexS (c :: s) = lexS s := by rw [lexS, List.dropWhile_cons, hb]; rfl
  rw [lexA, lexA, lexB, lexB, hd]
  exact ⟨rfl, rfl⟩
/-- A byte that no word has. -/
def badP (c : UInt8) : Bool := !signP c && !markP c && !blankP c

/-- What the document's words of a text are to the program's. -/
theorem words_lex : ∀ (n : Nat) (s : List UInt8), s.length ≤ n → ∀ ts, Lexes s ts → (wordsP s [] = some ts) ∨ (wordsP s [] = none ∧ ∃ c, badP c = true ∧ [c] ∈ ts) := by
  intro n
  induction n with
  | zero =>
    intro s h ts hl
    have : s = [] := List.eq_nil_of_length_eq_zero (by omega)
    subst this
    cases hl with
    | fin h => exact .inl rfl
    | more h t => exact absurd rfl h
  | succ n ih =>
    intro s h ts hl
    cases s with
    | nil =>
      cases hl with
      | fin h => exact .inl rfl
      | more h t => exact absurd rfl h
    | cons c s =>
      rw [List.length_cons] at h
      by_cases hb : blankP c = true
      · have hnb : signP c = false ∧ markP c = false := by
          simp only [blankP, Bool.or_eq_true, decide_eq_true_eq] at hb
          simp only [signP, markP, Bool.or_eq_false_iff, Bool.and_eq_false_iff, decide_eq_false_iff_not]
          omega
        obtain ⟨h1, h2⟩ := lex_blank c s hb
        rw [words_blank c s hnb.1 hnb.2 hb]
        refine ih s (by omega) ts ?_
        cases hl with
        | fin h => exact .fin (h1.symm.trans h)
        | more h t => rw [h1]; exact .more (by rw [← h1]; exact h) (h2 ▸ t)
      · have hb : blankP c = false := by simpa using hb
        by_cases hs : signP c = true
        · obtain ⟨x, s3, hx, hxs, hst, he⟩ : ∃ x s3, x ≠ [] ∧ (∀ d ∈ x, signP d = true) ∧ StopP s3 ∧ c :: s = x ++ s3 := by
            refine ⟨(c :: s).takeWhile signP, (c :: s).dropWhile signP, by rw [List.takeWhile_cons, hs]; simp, ?_, ?_, (List.takeWhile_append_dropWhile).symm⟩
            · intro d hd
              exact List.all_eq_true.1 (List.all_takeWhile) d hd
            · cases hq : (c :: s).dropWhile signP with
              | nil => trivial
              | cons d r =>
                have := List.head_dropWhile_not signP (l := c :: s) (by rw [hq]; simp)
                simp only [hq, List.head_cons] at this
                exact (by simpa using this : signP d = false)
          obtain ⟨h1, h2⟩ := lex_word x s3 hx hxs hst
          rw [he] at hl ⊢
          have hlt : s3.length ≤ n := by
            have := congrArg List.length he
            rw [List.length_append, List.length_cons] at this
            have := List.length_pos_iff.2 hx
            omega
          rw [words_one x s3 hx hxs hst]
          cases hl with
          | fin h => exact absurd (h1 ▸ h) hx
          | @more _ ts' h t =>
            rw [h2] at t
            rw [h1]
            rcases ih s3 hlt ts' t with e | ⟨e, d, hd, hm⟩
            · exact .inl (by rw [e]; rfl)
            · exact .inr ⟨by rw [e]; rfl, d, hd, List.mem_cons_of_mem _ hm⟩
        · have hs : signP c = false := by simpa using hs
          obtain ⟨h1, h2⟩ := lex_one c s hs hb
          cases hl with
          | fin h => rw [h1] at h; cases h
          | @more _ ts' h t =>
            rw [h2] at t
            rw [h1]
            by_cases hm : markP c = true
            · rw [words_mark c s hs hm]
              rcases ih s (by omega) ts' t with e | ⟨e, d, hd, hm⟩
              · exact .inl (by rw [e]; rfl)
              · exact .inr ⟨by rw [e]; rfl, d, hd, List.mem_cons_of_mem _ hm⟩
            · have hm : markP c = false := by simpa using hm
              exact .inr ⟨by simp [wordsP, hs, hm, hb], c, by simp [badP, hs, hm, hb], by simp⟩

/-- The program's answer of a text, by its words. -/
def gramP (ts : List Tok) : Option FmB := match anyG ts with
  | some (f, []) => some f
  | _ => none

theorem bad_any {c : UInt8} (hc : badP c = true) {ts : List Tok} (hm : [c] ∈ ts) : gramP ts = none := by
  have hx : ∀ d : UInt8, badP d = false → c ≠ d := fun d hd e => by rw [e, hd] at hc; cases hc
  have hp : parseR [c] = none := by
    have h46 : ¬ c.toNat = 46 := fun e => hx 46 (by decide) (UInt8.toNat_inj.1 e)
    simp [parseR, cutDot, h46]
  have hn : numW [c] = none := by
    unfold numW
    rw [if_neg]
    intro h
    simp only [Bool.and_eq_true, List.all_cons, List.all_nil, decide_eq_true_eq] at h
    simp only [badP, signP, Bool.and_eq_true, Bool.not_eq_true', Bool.or_eq_false_iff, Bool.and_eq_false_iff, decide_eq_false_iff_not] at hc
    omega
  unfold gramP
  cases h : anyG ts with
  | none => rfl
  | some p =>
    obtain ⟨f, r⟩ := p
    have := (stays (x := [c]) (fun e => hx 40 (by decide) (List.cons.inj e).1) (fun e => hx 41 (by decide) (List.cons.inj e).1) (fun e => hx 44 (by decide) (List.cons.inj e).1) (fun e => by cases e) (fun e => by cases e) (fun e => by cases e) (fun e => by cases e) (fun e => by cases e) hp hn _).1 _ _ _ h hm
    cases r with
    | nil => cases this
    | cons y r => rfl

/-- The document's answer is the program's. -/
theorem parse_gram {s : List UInt8} {ts : List Tok} (h : Lexes s ts) : parseF s = if 2048 < s.length then (zeroF, 12) else match gramP ts with
    | none => (zeroF, 11)
    | some f => if isF f then (f, 0) else (zeroF, 12) := by
  unfold parseF
  by_cases hl : 2048 < s.length
  · rw [if_pos hl, if_pos hl]
  · rw [if_neg hl, if_neg hl]
    rcases words_lex _ s (Nat.le_refl _) ts h with e | ⟨e, c, hc, hm⟩
    · rw [e]
      unfold gramP anyG
      simp only
      cases h3 : anyP (4 * ts.length + 8) ts with
      | none => rfl
      | some p =>
        obtain ⟨f, r⟩ := p
        cases r with
        | nil => simp
        | cons y r => simp
    · rw [e, bad_any hc hm]
end Go.Proofs.YtojbhlbknjnioaaGreatDoor
