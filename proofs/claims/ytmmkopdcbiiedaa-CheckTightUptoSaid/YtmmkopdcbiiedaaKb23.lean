/- Texts that the proof leans on, in one: RefSGet, RefKGet, StepEq. -/
import Derived.Test.YtmmkopdcbiiedaaKb21
import Derived.Test.YtmmkopdcbiiedaaKb22
import Derived.Test.YtmmkopdcbiiedaaKb9
import Derived.Test.YtmmkopdcbiiedaaKb10
/- The contract of the document's Get, of layer 6. -/
namespace Go.Proofs.Ytmmkopdcbiiedaa
open Go.RowKit

theorem getEnd_rest {c s : CredB} {l r : List UInt8} (h : getEnd c l = .ok s r) : r = l := by
  unfold getEnd at h
  split at h
  · simp only [GetC.ok.injEq] at h; exact h.2.symm
  · cases h

theorem getWho_len {c s : CredB} {l r : List UInt8} (h : getWho c l = .ok s r) : r.length ≤ l.length := by
  unfold getWho at h
  split at h
  · rw [getEnd_rest h]; exact nameRest_len l
  · cases h
theorem getWord_len {c s : CredB} {l r : List UInt8} (h : getWord c l = .ok s r) : r.length ≤ l.length := by
  unfold getWord at h
  split at h
  · rw [getEnd_rest h]; exact nameRest_len l
  · cases h
theorem getC_len {c s : CredB} {l r : List UInt8} (h : getC c l = .ok s r) : r.length ≤ l.length := by
  unfold getC at h
  split at h
  · rw [getEnd_rest h]; exact roleRest_len l
  · cases h
theorem getB_len {c s : CredB} {l r : List UInt8} (h : getB c l = .ok s r) : r.length ≤ l.length := by
  have h1 := roleRest_len l
  unfold getB at h
  split at h
  · split at h
    · exact Nat.le_trans (getWord_len h) h1
    · split at h
      · exact Nat.le_trans (getC_len h) h1
      · rw [getEnd_rest h]; exact h1
  · cases h

theorem getHead_len {k : Int} {s : CredB} {l r : List UInt8} (h : getHead k l = .ok s r) : r.length ≤ l.length := by
  have h1 := roleRest_len l
  unfold getHead at h
  split at h
  · split at h
    · exact Nat.le_trans (getWho_len h) h1
    · exact Nat.le_trans (getB_len h) h1
  · cases h

theorem credGet_len {s : CredB} {l r : List UInt8} (h : credGet l = .ok s r) : r.length ≤ l.length := by
  have h1 : (numRest l).length ≤ l.length := by unfold numRest; rw [List.length_drop]; omega
  unfold credGet at h
  split at h
  · split at h
    · exact Nat.le_trans (getHead_len h) h1
    · cases h
  · cases h

end Go.Proofs.Ytmmkopdcbiiedaa

/- The contract of the document's Get, of layer 9. -/
namespace Go.Proofs.Ytmmkopdcbiiedaa
open Go.RowKit

theorem getEnd_right {c s : CredB} {l r : List UInt8} (h : getEnd c l = .ok s r) : isCred s = true := by
  unfold getEnd at h
  split at h
  · rename_i hc
    simp only [GetC.ok.injEq] at h
    rw [← h.1]; exact hc
  · cases h
theorem getWho_right {c s : CredB} {l r : List UInt8} (h : getWho c l = .ok s r) : isCred s = true := by
  unfold getWho at h
  split at h
  · exact getEnd_right h
  · cases h
theorem getWord_right {c s : CredB} {l r : List UInt8} (h : getWord c l = .ok s r) : isCred s = true := by
  unfold getWord at h
  split at h
  · exact getEnd_right h
  · cases h
theorem getC_right {c s : CredB} {l r : List UInt8} (h : getC c l = .ok s r) : isCred s = true := by
  unfold getC at h
  split at h
  · exact getEnd_right h
  · cases h
theorem getB_right {c s : CredB} {l r : List UInt8} (h : getB c l = .ok s r) : isCred s = true := by
  unfold getB at h
  split at h
  · split at h
    · exact getWord_right h
    · split at h
      · exact getC_right h
      · exact getEnd_right h
  · cases h
theorem getHead_right {k : Int} {s : CredB} {l r : List UInt8} (h : getHead k l = .ok s r) : isCred s = true := by
  unfold getHead at h
  split at h
  · split at h
    · exact getWho_right h
    · exact getB_right h
  · cases h
theorem credGet_right {s : CredB} {l r : List UInt8} (h : credGet l = .ok s r) : isCred s = true := by
  unfold credGet at h
  split at h
  · split at h
    · exact getHead_right h
    · cases h
  · cases h

inductive GetK where
  | bad (e : Nat)
  | ok (ls : List StepB) (rest : List UInt8)

/-- What is got: n steps, behind those that have been got. -/
def chainGo : Nat → List UInt8 → List StepB → GetK
  | 0, l, acc => .ok acc l
  | n + 1, l, acc => match credGet l with
    | .bad e => .bad e
    | .ok c r => if nameOk r = true then chainGo n (nameRest r) (acc ++ [⟨c, (c.head, nameOf r)⟩]) else .bad (nameBad r)
def chainGet (l : List UInt8) (most : Int) : GetK := if errNum l most = 0 then chainGo (numOf l) (numRest l) [] else .bad (errNum l most)

/-- How far the loop is. -/
def ChainAt (n i : Nat) (r0 l : List UInt8) (e : Int) (out : List StepB) : Prop :=
  (e = 0 → chainGo n r0 [] = chainGo (n - i) l out ∧ l.length ≤ 9223372036854775807 ∧ ∀ x ∈ out, stepShort x 9223372036854775807) ∧ (e ≠ 0 → ∃ m : Nat, chainGo n r0 [] = .bad m ∧ e = m)

theorem chainGo_bad {n i m : Nat} {r0 l : List UInt8} {out : List StepB} (h : ChainAt n i r0 l 0 out) (hi : i < n) (hg : credGet l = .bad m) : chainGo n r0 [] = .bad m := by
  rw [(h.1 rfl).1]
  obtain ⟨q, hq⟩ : ∃ q, n - i = q + 1 := ⟨n - i - 1, by omega⟩
  rw [hq, chainGo, hg]
theorem chainGo_no {n i : Nat} {r0 l r : List UInt8} {c : CredB} {out : List StepB} (h : ChainAt n i r0 l 0 out) (hi : i < n) (hg : credGet l = .ok c r) (hn : nameOk r = false) : chainGo n r0 [] = .bad (nameBad r) := by
  rw [(h.1 rfl).1]
  obtain ⟨q, hq⟩ : ∃ q, n - i = q + 1 := ⟨n - i - 1, by omega⟩
  rw [hq, chainGo, hg]
  simp [hn]
theorem chainGo_yes {n i : Nat} {r0 l r : List UInt8} {c : CredB} {out : List StepB} (h : ChainAt n i r0 l 0 out) (hi : i < n) (hg : credGet l = .ok c r) (hn : nameOk r = true) : chainGo n r0 [] = chainGo (n - (i + 1)) (nameRest r) (out ++ [⟨c, (c.head, nameOf r)⟩]) := by
  rw [(h.1 rfl).1]
  obtain ⟨q, hq⟩ : ∃ q, n - i = q + 1 := ⟨n - i - 1, by omega⟩
  rw [hq, chainGo, hg, show n - (i + 1) = q by omega]
  simp [hn]

/-- What Get leaves. -/
def GotToK (l : List UInt8) (most : Int) (out : List StepB) (l' : List UInt8) (e' : Int) : Prop := match chainGet l most with
  | .ok ls rest => out = ls ∧ e' = 0 ∧ l' = rest
  | .bad n => out = [] ∧ e' = n ∧ e' ≠ 0

/-- A name that is got of a tape, whatever its error is. -/
theorem name_step (X : Nat) (l : List UInt8) (e : Int) (w : World) (hl : e = 0 → l.length ≤ 9223372036854775807) (hX : TapeAt w X l e) :
    Calls Try.prog 58 #[.pointer (some ⟨X, 0, none⟩)] w fun en w' => ∃ s l' e', en = .returned (.string ⟨s.toArray⟩) ∧ TapeAt w' X l' e' ∧ Chg (· = X) w w' ∧ ((e = 0 ∧ nameOk l = true ∧ s = nameOf l ∧ l' = nameRest l ∧ e' = 0) ∨ (e = 0 ∧ nameOk l = false ∧ e' = nameBad l) ∨ (e ≠ 0 ∧ e' = e)) := by
  by_cases he : e = 0
  · subst he
    cases hok : nameOk l with
    | true =>
      refine (nget_ok X l w (hl rfl) hX hok).mono ?_
      rintro en w' ⟨rfl, h1, h2⟩
      exact ⟨_, _, _, rfl, h1, h2, .inl ⟨rfl, rfl, rfl, rfl, rfl⟩⟩
    | false =>
      refine (nget_no X l w (hl rfl) hX hok).mono ?_
      rintro en w' ⟨rfl, ⟨l', h1⟩, h2⟩
      exact ⟨[], _, _, rfl, h1, h2, .inr (.inl ⟨rfl, rfl, rfl⟩)⟩
  · refine (nget_bad X l e w he hX).mono ?_
    rintro en w' ⟨rfl, rfl⟩
    exact ⟨[], _, _, rfl, hX, Chg.refl _ _, .inr (.inr ⟨he, rfl⟩)⟩

set_option maxRecDepth 100000 in
set_option maxHeartbeats 8000000 in
theorem rkget (X : Nat) (l : List UInt8) (most : Int) (w : World) (hm0 : 0 ≤ most) (hm : most ≤ 1000) (hl : l.length ≤ 9223372036854775807) (hX : TapeAt w X l 0) :
    Calls Try.prog 23 #[.pointer (some ⟨X, 0, none⟩), .int .i64 most] w fun en w' => ∃ out ao cap l' e', en = .returned (.slice ao out.length cap) ∧ StepsAt (fun k => w.heap.size ≤ k ∧ k < w'.heap.size) w' ao out ∧ TapeAt w' X l' e' ∧ GotToK l most out l' e' ∧ Chg (· = X) w w' := by
  obtain ⟨i0, hi, hz0, hz1, hz2⟩ := info_parts Try.info34
  have HI := hid (And.intro hi (And.intro hz0 (And.intro hz1 hz2)))
  have hXl : X < w.heap.size := lt_blk hX
  have HNU := hid (tnum_any X l most w hl hX)
  have HLL := hid hl
  clear hi hz0 hz1 hz2 hX hl
  go_enter Try.func23, Try.ntmps23
  go_wp2_with fail
  refine HNU.out.mono ?_
  clear HNU
  rintro e w1 (⟨he0, rfl, hX1, hc1⟩ | ⟨he0, rfl, ⟨l1, hX1⟩, hc1⟩)
  · obtain ⟨n, hn⟩ : ∃ n, n = (numN 9 l 0 0).1 := ⟨_, rfl⟩
    have hn1 : n ≤ 1000 := by
      have h := he0
      unfold errNum at h
      split at h
      · split at h
        · cases h
        · omega
      · exact absurd h (by assumption)
    rw [← hn]
    have HCG : Hid (chainGet l most = chainGo n (numRest l) []) := hid (by unfold chainGet numOf; rw [if_pos he0, ← hn])
    have H0 : Hid (TapeAt w1 X (numRest l) 0 ∧ Chg (· = X) w w1 ∧ ChainAt n 0 (numRest l) (numRest l) 0 []) := hid ⟨hX1, hc1, fun _ => ⟨rfl, by have := HLL.out; unfold numRest; rw [List.length_drop]; omega, fun x hx => (by cases hx)⟩, fun h => absurd rfl h⟩
    generalize numRest l = r0 at *
    clear hX1 hc1 hn he0
    go_wp2
    go_loopw [6, 7] (fun v i wr => ∃ (k : Nat) (out : List StepB) (ao' : Option Addr) (cap' : Nat) (l' : List UInt8) (e' : Int), k ≤ n ∧ out.length ≤ k ∧ v = .slice ao' out.length cap' ∧ i = .int .i64 k ∧ Hid (OwnSt w.heap.size wr (.slice ao' out.length cap') out ∧ TapeAt wr X l' e' ∧ Chg (· = X) w wr ∧ ChainAt n k r0 l' e' out)) (fun _ i _ => n - (intOf i).toNat)
    case atStart => exact ⟨0, [], none, 0, r0, 0, Nat.zero_le _, Nat.zero_le _, rfl, rfl, hid ⟨World.ownsRow_nil _ _ _ _, H0.out⟩⟩
    case round =>
      obtain ⟨k, out, ao', cap', l', e', hk, hol, rfl, rfl, HR⟩ := hrel
      clear H0
      have x1 := cell_blk HR.out.2.1 1
      simp only [List.getElem?_toArray, List.getElem?_cons_zero, List.getElem?_cons_succ] at x1
      by_cases hlt : k < n
      · by_cases he : e' = 0
        · subst he
          have hcg := cget_to X l' wr (HR.out.2.2.2.1 rfl).2.1 HR.out.2.1
          have HG := hid hcg
          have HKL := hid hlt
          clear hcg
          go_wp2_with fail
          refine HG.out.mono ?_
          clear HG x1
          rintro e w4 ⟨rfl, ⟨l4, e4, hX4, hg4⟩, hc4⟩
          have HC2 : Hid ((∃ m : Nat, credGet l' = .bad m ∧ e4 = m ∧ e4 ≠ 0) ∨ (∃ r, credGet l' = .ok (credGot l' noCred) r ∧ e4 = 0 ∧ l4 = r)) := hid (by
            unfold GotTo at hg4
            unfold credGot
            cases hcr : credGet l' with
            | bad m => rw [hcr] at hg4; exact .inl ⟨m, rfl, hg4.1, hg4.2⟩
            | ok c r => rw [hcr] at hg4; exact .inr ⟨r, rfl, hg4.1, hg4.2⟩)
          generalize credGot l' noCred = c2 at *
          have hal : Chg (fun _ => False) w4 (w4.alloc (.cells #[.int .i64 c2.kind, .string ⟨c2.head.1.toArray⟩, .string ⟨c2.head.2.toArray⟩, .string ⟨c2.who.toArray⟩, .string ⟨c2.b.1.toArray⟩, .string ⟨c2.b.2.toArray⟩, .string ⟨c2.c.1.toArray⟩, .string ⟨c2.c.2.toArray⟩, .string ⟨c2.w2.toArray⟩] 32)) := (Chg.refl _ w4).alloc _
          have hcb : (w4.alloc (.cells #[.int .i64 c2.kind, .string ⟨c2.head.1.toArray⟩, .string ⟨c2.head.2.toArray⟩, .string ⟨c2.who.toArray⟩, .string ⟨c2.b.1.toArray⟩, .string ⟨c2.b.2.toArray⟩, .string ⟨c2.c.1.toArray⟩, .string ⟨c2.c.2.toArray⟩, .string ⟨c2.w2.toArray⟩] 32)).heap[w4.heap.size]? = some (.cells (credBox c2) 32 (0, 0)) := heap_alloc_new w4 _
          have hXne : X < w4.heap.size := lt_blk hX4
          have HO4 : Hid (OwnSt w.heap.size (w4.alloc (.cells #[.int .i64 c2.kind, .string ⟨c2.head.1.toArray⟩, .string ⟨c2.head.2.toArray⟩, .string ⟨c2.who.toArray⟩, .string ⟨c2.b.1.toArray⟩, .string ⟨c2.b.2.toArray⟩, .string ⟨c2.c.1.toArray⟩, .string ⟨c2.c.2.toArray⟩, .string ⟨c2.w2.toArray⟩] 32)) (.slice ao' out.length cap') out ∧ TapeAt (w4.alloc (.cells #[.int .i64 c2.kind, .string ⟨c2.head.1.toArray⟩, .string ⟨c2.head.2.toArray⟩, .string ⟨c2.who.toArray⟩, .string ⟨c2.b.1.toArray⟩, .string ⟨c2.b.2.toArray⟩, .string ⟨c2.c.1.toArray⟩, .string ⟨c2.c.2.toArray⟩, .string ⟨c2.w2.toArray⟩] 32)) X l4 e4 ∧ Chg (· = X) w (w4.alloc (.cells #[.int .i64 c2.kind, .string ⟨c2.head.1.toArray⟩, .string ⟨c2.head.2.toArray⟩, .string ⟨c2.who.toArray⟩, .string ⟨c2.b.1.toArray⟩, .string ⟨c2.b.2.toArray⟩, .string ⟨c2.c.1.toArray⟩, .string ⟨c2.c.2.toArray⟩, .string ⟨c2.w2.toArray⟩] 32)) ∧ (w4.alloc (.cells #[.int .i64 c2.kind, .string ⟨c2.head.1.toArray⟩, .string ⟨c2.head.2.toArray⟩, .string ⟨c2.who.toArray⟩, .string ⟨c2.b.1.toArray⟩, .string ⟨c2.b.2.toArray⟩, .string ⟨c2.c.1.toArray⟩, .string ⟨c2.c.2.toArray⟩, .string ⟨c2.w2.toArray⟩] 32)).heap[w4.heap.size]? = some (.cells (credBox c2) 32 (0, 0))) := hid ⟨World.ownsRow.alloc (HR.out.1.keep hc4 (fun i e h => by have := (ownsRow_lt HR.out.1 i e).1; have h2 : i = X := h; omega)) _, blk_keep hX4 hal id, (HR.out.2.2.1.trans hc4 (fun _ _ h => h)).trans hal (fun _ _ h => h.elim), hcb⟩
          have HNM := hid (name_step X l4 e4 (w4.alloc (.cells #[.int .i64 c2.kind, .string ⟨c2.head.1.toArray⟩, .string ⟨c2.head.2.toArray⟩, .string ⟨c2.who.toArray⟩, .string ⟨c2.b.1.toArray⟩, .string ⟨c2.b.2.toArray⟩, .string ⟨c2.c.1.toArray⟩, .string ⟨c2.c.2.toArray⟩, .string ⟨c2.w2.toArray⟩] 32)) (fun h0 => by
            rcases HC2.out with ⟨m, _, h1, h2⟩ | ⟨r, h1, _, h3⟩
            · exact absurd h0 h2
            · rw [h3]; exact Nat.le_trans (credGet_len h1) (HR.out.2.2.2.1 rfl).2.1) HO4.out.2.1)
          clear hal hcb hX4 hg4 hc4
          unfold credV credBox
          go_wp2_with fail
          generalize (w4.alloc (.cells #[.int .i64 c2.kind, .string ⟨c2.head.1.toArray⟩, .string ⟨c2.head.2.toArray⟩, .string ⟨c2.who.toArray⟩, .string ⟨c2.b.1.toArray⟩, .string ⟨c2.b.2.toArray⟩, .string ⟨c2.c.1.toArray⟩, .string ⟨c2.c.2.toArray⟩, .string ⟨c2.w2.toArray⟩] 32)) = w5 at *
          refine HNM.out.mono ?_
          clear HNM
          rintro e w6 ⟨s2, l6, e6, rfl, hX6, hc6, hs6⟩
          have hcb6 := blk_keep HO4.out.2.2.2 hc6 (fun h => by have h2 : w4.heap.size = X := h; omega)
          obtain ⟨a0, a1, a2, a3, a4, a5, a6, a7, a8⟩ := cred_at_blk hcb6
          simp only [Nat.zero_add] at a0 a1 a2 a3 a4 a5 a6 a7 a8
          have HO6 : Hid (OwnSt w.heap.size w6 (.slice ao' out.length cap') out ∧ TapeAt w6 X l6 e6 ∧ Chg (· = X) w w6) := hid ⟨HO4.out.1.keep hc6 (fun i e h => by have := (ownsRow_lt HR.out.1 i e).1; have h2 : i = X := h; omega), hX6, HO4.out.2.2.1.trans hc6 (fun _ _ h => h)⟩
          have HCH : Hid (ChainAt n (k + 1) r0 l6 e6 (out ++ [⟨c2, (c2.head, s2)⟩])) := hid (by
            have hb := HR.out.2.2.2
            rcases HC2.out with ⟨m, h1, h2, h3⟩ | ⟨r, h1, h2, h3⟩
            · rcases hs6 with ⟨q, _⟩ | ⟨q, _⟩ | ⟨_, q⟩
              · exact absurd q h3
              · exact absurd q h3
              · exact ⟨fun h => absurd (q ▸ h) h3, fun _ => ⟨m, chainGo_bad hb HKL.out h1, q.trans h2⟩⟩
            · subst h3
              rcases hs6 with ⟨_, q1, q2, q3, q4⟩ | ⟨_, q1, q2⟩ | ⟨q, _⟩
              · subst q2 q3 q4
                refine ⟨fun _ => ⟨chainGo_yes hb HKL.out h1 q1, Nat.le_trans (nameRest_len l4) (Nat.le_trans (credGet_len h1) (hb.1 rfl).2.1), fun x hx => ?_⟩, fun h => absurd rfl h⟩
                rcases List.mem_append.1 hx with h | h
                · exact (hb.1 rfl).2.2 x h
                · rw [List.mem_singleton.1 h]
                  have hcr := credGet_right h1
                  have hsh := isCred_short hcr
                  have hnm : isName (nameOf l4) = true := by simp [nameOk] at q1; exact q1.2
                  exact ⟨hsh.mono (by omega), Nat.le_trans hsh.1 (by omega), Nat.le_trans hsh.2.1 (by omega), Nat.le_trans (isName_len hnm).2 (by omega)⟩
              · exact ⟨fun h => absurd (q2 ▸ h) (nameBad_ne l4), fun _ => ⟨nameBad l4, chainGo_no hb HKL.out h1 q1, q2⟩⟩
              · exact absurd h2 q)
          clear hcb6 hX6 hc6 hs6 HO4 HC2 HR
          have hal : Chg (fun _ => False) w6 (w6.alloc (.cells #[.int .i64 c2.kind, .string ⟨c2.head.1.toArray⟩, .string ⟨c2.head.2.toArray⟩, .string ⟨c2.who.toArray⟩, .string ⟨c2.b.1.toArray⟩, .string ⟨c2.b.2.toArray⟩, .string ⟨c2.c.1.toArray⟩, .string ⟨c2.c.2.toArray⟩, .string ⟨c2.w2.toArray⟩, .string ⟨c2.head.1.toArray⟩, .string ⟨c2.head.2.toArray⟩, .string ⟨s2.toArray⟩] 34)) := (Chg.refl _ w6).alloc _
          have hnb := heap_alloc_new w6 (.cells #[.int .i64 c2.kind, .string ⟨c2.head.1.toArray⟩, .string ⟨c2.head.2.toArray⟩, .string ⟨c2.who.toArray⟩, .string ⟨c2.b.1.toArray⟩, .string ⟨c2.b.2.toArray⟩, .string ⟨c2.c.1.toArray⟩, .string ⟨c2.c.2.toArray⟩, .string ⟨c2.w2.toArray⟩, .string ⟨c2.head.1.toArray⟩, .string ⟨c2.head.2.toArray⟩, .string ⟨s2.toArray⟩] 34)
          have HO2 := hid (And.intro (World.ownsRow.alloc HO6.out.1 (.cells #[.int .i64 c2.kind, .string ⟨c2.head.1.toArray⟩, .string ⟨c2.head.2.toArray⟩, .string ⟨c2.who.toArray⟩, .string ⟨c2.b.1.toArray⟩, .string ⟨c2.b.2.toArray⟩, .string ⟨c2.c.1.toArray⟩, .string ⟨c2.c.2.toArray⟩, .string ⟨c2.w2.toArray⟩, .string ⟨c2.head.1.toArray⟩, .string ⟨c2.head.2.toArray⟩, .string ⟨s2.toArray⟩] 34)) (And.intro (blk_keep HO6.out.2.1 hal id) (HO6.out.2.2.trans hal (fun _ _ h => h.elim))))
          have hsz := HO6.out.2.2.size
          clear hal hnb
          go_wp2_with (at_builtin; refine wpList_append_own_at _ rfl (.tmp 29) (.tmp 36) 22 rfl w.heap.size 34 i0 (.agg #[.int .i64 0, .string ⟨#[]⟩, .string ⟨#[]⟩, .string ⟨#[]⟩, .string ⟨#[]⟩, .string ⟨#[]⟩, .string ⟨#[]⟩, .string ⟨#[]⟩, .string ⟨#[]⟩, .string ⟨#[]⟩, .string ⟨#[]⟩, .string ⟨#[]⟩]) 12 184 Try.underlying22 HI.out.1 HI.out.2.1 HI.out.2.2.1 HI.out.2.2.2 rfl (by decide) _ _ _ rfl HO2.out.1 ⟨w6.heap.size, 0, none⟩ 1 1 (stepCells ⟨c2, (c2.head, s2)⟩) rfl rfl ?c1 ?c2 ?c3 ?c4 ?c5 ?_)

          case c1 =>
            intro j u hj
            have hq := heap_alloc_new w6 (.cells #[.int .i64 c2.kind, .string ⟨c2.head.1.toArray⟩, .string ⟨c2.head.2.toArray⟩, .string ⟨c2.who.toArray⟩, .string ⟨c2.b.1.toArray⟩, .string ⟨c2.b.2.toArray⟩, .string ⟨c2.c.1.toArray⟩, .string ⟨c2.c.2.toArray⟩, .string ⟨c2.w2.toArray⟩, .string ⟨c2.head.1.toArray⟩, .string ⟨c2.head.2.toArray⟩, .string ⟨s2.toArray⟩] 34)
            rw [add_off, cell_blk hq, Nat.zero_add]
            show (stepCells ⟨c2, (c2.head, s2)⟩).toArray[j]? = some u
            rw [List.getElem?_toArray]
            exact hj
          case c2 => exact step_one _
          case c3 => unfold maxLen; omega
          case c4 => omega
          case c5 => have := HO2.out.2.2.size; exact this
          clear a0 a1 a2 a3 a4 a5 a6 a7 a8
          intro v' w8 hown hgrow _ _
          have ho2 : OwnSt w.heap.size w8 v' (out ++ [⟨c2, (c2.head, s2)⟩]) := by
            unfold OwnSt
            rw [stepRow_snoc, List.length_append]
            exact hown
          have hX8 : TapeAt w8 X l6 e6 := by
            have := HO2.out.2.1
            unfold TapeAt at this ⊢
            rw [hgrow.block X (lt_blk this) (fun e => by have := (ownsRow_lt HO2.out.1 X e.symm).1; omega)]
            exact this
          have hc8 : Chg (· = X) w w8 := HO2.out.2.2.grown hgrow (fun i e hi => by have := (ownsRow_lt HO2.out.1 i e).1; omega)
          have hzl : (out ++ [(⟨c2, (c2.head, s2)⟩ : StepB)]).length = out.length + 1 := by simp
          obtain ⟨zs, HZ⟩ : ∃ zs, Hid (zs = out ++ [(⟨c2, (c2.head, s2)⟩ : StepB)]) := ⟨_, hid rfl⟩
          rw [← HZ.out] at ho2 hzl HCH
          obtain ⟨a9, c9, hv9⟩ := ho2.shape
          subst hv9
          have H8 := hid (And.intro ho2 (And.intro hX8 (And.intro hc8 HCH.out)))
          clear hown hgrow ho2 hX8 hc8 HO2 HO6 HZ HCH
          go_wp2
          go_roundw
          case rel => exact ⟨k + 1, zs, a9, c9, l6, e6, by have := HKL.out; omega, by omega, rfl, by go_num, H8⟩
          case measure => have := HKL.out; simp [intOf]; omega
        · have z1 : (e' == 0) = false := by simpa using he
          have z2 : (e' != 0) = true := by simpa using he
          obtain ⟨m, hm1, hm2⟩ := HR.out.2.2.2.2 he
          have HRES : Hid (GotToK l most [] l' e') := hid (by unfold GotToK; rw [HCG.out, hm1]; exact ⟨rfl, hm2, he⟩)
          clear hm1 hm2
          go_wp2
          go_ret
          exact ⟨[], none, 0, l', e', rfl, StepsAt.nil _ _ _, HR.out.2.1, HRES.out, HR.out.2.2.1⟩
      · have hk2 : k = n := by omega
        by_cases he : e' = 0
        · subst he
          have hb := HR.out.2.2.2.1 rfl
          have HRES : Hid (GotToK l most out l' 0) := hid (by unfold GotToK; rw [HCG.out, hb.1, hk2, Nat.sub_self, chainGo]; exact ⟨rfl, rfl, rfl⟩)
          obtain ⟨a7, c7, hv7, hst7, _⟩ := HR.out.1.steps hb.2.2
          cases hv7
          have HST := hid hst7
          clear hb hst7
          go_wp2
          go_ret
          exact ⟨out, ao', cap', l', 0, rfl, HST.out, HR.out.2.1, HRES.out, HR.out.2.2.1⟩
        · have z2 : (e' != 0) = true := by simpa using he
          obtain ⟨m, hm1, hm2⟩ := HR.out.2.2.2.2 he
          have HRES : Hid (GotToK l most [] l' e') := hid (by unfold GotToK; rw [HCG.out, hm1]; exact ⟨rfl, hm2, he⟩)
          clear hm1 hm2
          go_wp2
          go_ret
          exact ⟨[], none, 0, l', e', rfl, StepsAt.nil _ _ _, HR.out.2.1, HRES.out, HR.out.2.2.1⟩
  · have HRES : Hid (GotToK l most [] l1 (errNum l most : Nat)) := hid (by unfold GotToK chainGet; rw [if_neg he0]; exact ⟨rfl, rfl, by omega⟩)
    have x1 := cell_blk hX1 1
    simp only [List.getElem?_toArray, List.getElem?_cons_zero, List.getElem?_cons_succ] at x1
    have z1 : (((errNum l most : Nat) : Int) == 0) = false := by simp; omega
    have z2 : (((errNum l most : Nat) : Int) != 0) = true := by simp; omega
    have HX1 := hid (And.intro hX1 hc1)
    clear hX1 hc1 he0
    generalize ((errNum l most : Nat) : Int) = er at *
    go_wp2
    go_loopw [6, 7] (fun v i wr => v = .slice none 0 0 ∧ i = .int .i64 0 ∧ wr = w1) (fun _ _ _ => 1)
    case atStart => exact ⟨rfl, rfl, rfl⟩
    case round =>
      obtain ⟨rfl, rfl, rfl⟩ := hrel
      go_wp2
      go_ret
      exact ⟨[], none, 0, l1, er, rfl, StepsAt.nil _ _ _, HX1.out.1, HRES.out, HX1.out.2⟩
end Go.Proofs.Ytmmkopdcbiiedaa

/- '==' and '!=' at steps whose cells are told. -/
namespace Go.Proofs.Ytmmkopdcbiiedaa
open Go.RowKit

def eqK (a b : StepB) : Bool := decide (a = b)
theorem eqK_iff (a b : StepB) : eqK a b = decide (a.c.kind = b.c.kind ∧ a.c.head.1 = b.c.head.1 ∧ a.c.head.2 = b.c.head.2 ∧ a.c.who = b.c.who ∧ a.c.b.1 = b.c.b.1 ∧ a.c.b.2 = b.c.b.2 ∧ a.c.c.1 = b.c.c.1 ∧ a.c.c.2 = b.c.c.2 ∧ a.c.w2 = b.c.w2 ∧ a.f.1.1 = b.f.1.1 ∧ a.f.1.2 = b.f.1.2 ∧ a.f.2 = b.f.2) := by
  unfold eqK
  apply decide_eq_decide.2
  obtain ⟨⟨k, ⟨h1, h2⟩, w1, ⟨b1, b2⟩, ⟨c1, c2⟩, w2⟩, ⟨⟨f1, f2⟩, f3⟩⟩ := a
  obtain ⟨⟨k', ⟨h1', h2'⟩, w1', ⟨b1', b2'⟩, ⟨c1', c2'⟩, w2'⟩, ⟨⟨f1', f2'⟩, f3'⟩⟩ := b
  simp [and_assoc]

set_option maxRecDepth 100000 in
set_option maxHeartbeats 4000000 in
theorem run_neqgK (x y : Operand) (a b : StepB) (w : World) : Sem.run Try.prog (eqGuard BinOp.neq 34 x y (.agg #[.int .i64 a.c.kind, .string ⟨a.c.head.1.toArray⟩, .string ⟨a.c.head.2.toArray⟩, .string ⟨a.c.who.toArray⟩, .string ⟨a.c.b.1.toArray⟩, .string ⟨a.c.b.2.toArray⟩, .string ⟨a.c.c.1.toArray⟩, .string ⟨a.c.c.2.toArray⟩, .string ⟨a.c.w2.toArray⟩, .string ⟨a.f.1.1.toArray⟩, .string ⟨a.f.1.2.toArray⟩, .string ⟨a.f.2.toArray⟩]) (.agg #[.int .i64 b.c.kind, .string ⟨b.c.head.1.toArray⟩, .string ⟨b.c.head.2.toArray⟩, .string ⟨b.c.who.toArray⟩, .string ⟨b.c.b.1.toArray⟩, .string ⟨b.c.b.2.toArray⟩, .string ⟨b.c.c.1.toArray⟩, .string ⟨b.c.c.2.toArray⟩, .string ⟨b.c.w2.toArray⟩, .string ⟨b.f.1.1.toArray⟩, .string ⟨b.f.1.2.toArray⟩, .string ⟨b.f.2.toArray⟩])) w = .ok () w := by
  go_simp
set_option maxRecDepth 100000 in
set_option maxHeartbeats 4000000 in
theorem run_neqK (a b : StepB) (w : World) : Sem.run Try.prog (binOp BinOp.neq 34 (.agg #[.int .i64 a.c.kind, .string ⟨a.c.head.1.toArray⟩, .string ⟨a.c.head.2.toArray⟩, .string ⟨a.c.who.toArray⟩, .string ⟨a.c.b.1.toArray⟩, .string ⟨a.c.b.2.toArray⟩, .string ⟨a.c.c.1.toArray⟩, .string ⟨a.c.c.2.toArray⟩, .string ⟨a.c.w2.toArray⟩, .string ⟨a.f.1.1.toArray⟩, .string ⟨a.f.1.2.toArray⟩, .string ⟨a.f.2.toArray⟩]) (.agg #[.int .i64 b.c.kind, .string ⟨b.c.head.1.toArray⟩, .string ⟨b.c.head.2.toArray⟩, .string ⟨b.c.who.toArray⟩, .string ⟨b.c.b.1.toArray⟩, .string ⟨b.c.b.2.toArray⟩, .string ⟨b.c.c.1.toArray⟩, .string ⟨b.c.c.2.toArray⟩, .string ⟨b.c.w2.toArray⟩, .string ⟨b.f.1.1.toArray⟩, .string ⟨b.f.1.2.toArray⟩, .string ⟨b.f.2.toArray⟩])) w = .ok (.bool (!eqK a b)) w := by
  rw [eqK_iff]
  go_simp
  by_cases h0 : a.c.kind = b.c.kind
  rotate_left
  · simp [h0]
  simp only [h0, if_true, decide_true, Bool.not_true, Bool.false_or]
  by_cases h1 : a.c.head.1 = b.c.head.1
  rotate_left
  · simp [h1]
  simp only [h1, if_true, decide_true, Bool.not_true, Bool.false_or]
  by_cases h2 : a.c.head.2 = b.c.head.2
  rotate_left
  · simp [h2]
  simp only [h2, if_true, decide_true, Bool.not_true, Bool.false_or]
  by_cases h3 : a.c.who = b.c.who
  rotate_left
  · simp [h3]
  simp only [h3, if_true, decide_true, Bool.not_true, Bool.false_or]
  by_cases h4 : a.c.b.1 = b.c.b.1
  rotate_left
  · simp [h4]
  simp only [h4, if_true, decide_true, Bool.not_true, Bool.false_or]
  by_cases h5 : a.c.b.2 = b.c.b.2
  rotate_left
  · simp [h5]
  simp only [h5, if_true, decide_true, Bool.not_true, Bool.false_or]
  by_cases h6 : a.c.c.1 = b.c.c.1
  rotate_left
  · simp [h6]
  simp only [h6, if_true, decide_true, Bool.not_true, Bool.false_or]
  by_cases h7 : a.c.c.2 = b.c.c.2
  rotate_left
  · simp [h7]
  simp only [h7, if_true, decide_true, Bool.not_true, Bool.false_or]
  by_cases h8 : a.c.w2 = b.c.w2
  rotate_left
  · simp [h8]
  simp only [h8, if_true, decide_true, Bool.not_true, Bool.false_or]
  by_cases h9 : a.f.1.1 = b.f.1.1
  rotate_left
  · simp [h9]
  simp only [h9, if_true, decide_true, Bool.not_true, Bool.false_or]
  by_cases h10 : a.f.1.2 = b.f.1.2
  rotate_left
  · simp [h10]
  simp only [h10, if_true, decide_true, Bool.not_true, Bool.false_or]
  by_cases h11 : a.f.2 = b.f.2 <;> simp [h11]
end Go.Proofs.Ytmmkopdcbiiedaa
