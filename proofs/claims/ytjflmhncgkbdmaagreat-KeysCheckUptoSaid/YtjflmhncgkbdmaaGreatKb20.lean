/- Texts that the proof leans on, in one: RefSGet, PkGet, End. -/
import Derived.Test.YtjflmhncgkbdmaaGreatKb15
import Derived.Test.YtjflmhncgkbdmaaGreatKb19
import Derived.Test.YtjflmhncgkbdmaaGreatKb7
import Derived.Test.YtjflmhncgkbdmaaGreatKb16
import Derived.Test.YtjflmhncgkbdmaaGreatKb17
import Derived.Test.YtjflmhncgkbdmaaGreatKb4
import Derived.Test.YtjflmhncgkbdmaaGreatKb2
import Derived.Defers
import Derived.Recover
/- The contract of the document's Get, of layer 6. -/
namespace Go.Proofs.YtjflmhncgkbdmaaGreat
open Go.RowKit

inductive GetS where
  | bad (e : Nat)
  | ok (s : SignB) (rest : List UInt8)

/-- What is got behind a credential: a tag of eight bytes. -/
def signEnd (c : CredB) (l : List UInt8) : GetS :=
  if errText l 8 = 0 then (if (nameOf l).length = 8 then .ok ⟨c, nameOf l⟩ (nameRest l) else .bad 11) else .bad (errText l 8)
def signGet (l : List UInt8) : GetS := match credGet l with
  | .bad n => .bad n
  | .ok c rest => signEnd c rest
def signGot (l : List UInt8) : SignB := match signGet l with
  | .bad _ => noSign
  | .ok s _ => s
def GotToS (l l' : List UInt8) (e' : Int) : Prop := match signGet l with
  | .ok _ rest => e' = 0 ∧ l' = rest
  | .bad n => e' = n ∧ e' ≠ 0

theorem getEnd_rest {c s : CredB} {l r : List UInt8} (h : getEnd c l = .ok s r) : r = l := by
  unfold getEnd at h
  split at h
  · simp only [GetC.ok.injEq] at h; exact h.2.symm
  · cases h

theorem getWho_len {c s : CredB} {l r : List UInt8} (h : getWho c l = .ok s r) : r.length ≤ l.length := by
  unfold getWho at h
  split at h
  · rw [getEnd_rest h]; exact nameRest_len l
  · cases h
theorem getWord_len {c s : CredB} {l r : List UInt8} (h : getWord c l = .ok s r) : r.length ≤ l.length := by
  unfold getWord at h
  split at h
  · rw [getEnd_rest h]; exact nameRest_len l
  · cases h
theorem getC_len {c s : CredB} {l r : List UInt8} (h : getC c l = .ok s r) : r.length ≤ l.length := by
  unfold getC at h
  split at h
  · rw [getEnd_rest h]; exact roleRest_len l
  · cases h
theorem getB_len {c s : CredB} {l r : List UInt8} (h : getB c l = .ok s r) : r.length ≤ l.length := by
  have h1 := roleRest_len l
  unfold getB at h
  split at h
  · split at h
    · exact Nat.le_trans (getWord_len h) h1
    · split at h
      · exact Nat.le_trans (getC_len h) h1
      · rw [getEnd_rest h]; exact h1
  · cases h

theorem getHead_len {k : Int} {s : CredB} {l r : List UInt8} (h : getHead k l = .ok s r) : r.length ≤ l.length := by
  have h1 := roleRest_len l
  unfold getHead at h
  split at h
  · split at h
    · exact Nat.le_trans (getWho_len h) h1
    · exact Nat.le_trans (getB_len h) h1
  · cases h

theorem credGet_len {s : CredB} {l r : List UInt8} (h : credGet l = .ok s r) : r.length ≤ l.length := by
  have h1 : (numRest l).length ≤ l.length := by unfold numRest; rw [List.length_drop]; omega
  unfold credGet at h
  split at h
  · split at h
    · exact Nat.le_trans (getHead_len h) h1
    · cases h
  · cases h

/-- A text that is read of a tape, whatever the tape's error is. -/
def XStep (l : List UInt8) (e : Int) (s : List UInt8) (l' : List UInt8) (e' : Int) : Prop :=
  (e = 0 ∧ errText l 8 = 0 ∧ s = nameOf l ∧ l' = nameRest l ∧ e' = 0) ∨ (e = 0 ∧ errText l 8 ≠ 0 ∧ s = [] ∧ e' = errText l 8) ∨ (e ≠ 0 ∧ s = [] ∧ e' = e)

theorem text_step (X : Nat) (l : List UInt8) (e : Int) (w : World) (hl : e = 0 → l.length ≤ 9223372036854775807) (hX : TapeAt w X l e) :
    Calls Tryz.prog 57 #[.pointer (some ⟨X, 0, none⟩), .int .i64 8] w fun en w' => ∃ s l' e', en = .returned (.string ⟨s.toArray⟩) ∧ TapeAt w' X l' e' ∧ XStep l e s l' e' ∧ Chg (· = X) w w' := by
  by_cases he : e = 0
  · subst he
    refine (ttext_any X l 8 w (hl rfl) hX).mono ?_
    rintro en w' (⟨h1, rfl, h2, h3⟩ | ⟨h1, rfl, ⟨⟨l', h2⟩, h3⟩⟩)
    · exact ⟨nameOf l, _, _, rfl, h2, .inl ⟨rfl, h1, rfl, rfl, rfl⟩, h3⟩
    · exact ⟨[], _, _, rfl, h2, .inr (.inl ⟨rfl, h1, rfl, rfl⟩), h3⟩
  · refine (ttext_bad X l e 8 w he hX).mono ?_
    rintro en w' ⟨rfl, rfl⟩
    exact ⟨[], _, _, rfl, hX, .inr (.inr ⟨he, rfl, rfl⟩), Chg.refl _ _⟩

/-- How all of it goes: well, or with a text that isn't eight bytes long, or with an error. -/
def SEnd (l : List UInt8) (c : CredB) (s l' : List UInt8) (e' : Int) : Prop :=
  (e' = 0 ∧ s.length = 8 ∧ signGet l = .ok ⟨c, s⟩ l') ∨ (e' = 0 ∧ s.length ≠ 8 ∧ signGet l = .bad 11) ∨ (e' ≠ 0 ∧ ∃ n : Nat, e' = n ∧ signGet l = .bad n)

theorem sEnd_of {l : List UInt8} {l1 s l2 : List UInt8} {e1 e2 : Int} (h1 : GotTo l l1 e1) (h2 : XStep l1 e1 s l2 e2) : SEnd l (credGot l noCred) s l2 e2 := by
  rw [GotTo] at h1
  cases hg : credGet l with
  | bad n =>
    rw [hg] at h1
    obtain ⟨h3, h4⟩ := h1
    rcases h2 with ⟨h5, _⟩ | ⟨h5, _⟩ | ⟨_, h6, h7⟩
    · exact absurd h5 h4
    · exact absurd h5 h4
    · exact .inr (.inr ⟨by rw [h7]; exact h4, n, by rw [h7, h3], by rw [signGet, hg]⟩)
  | ok c rest =>
    rw [hg] at h1
    obtain ⟨rfl, rfl⟩ := h1
    have hc : credGot l noCred = c := by rw [credGot, hg]
    have hs : signGet l = signEnd c l1 := by rw [signGet, hg]
    rw [hc, SEnd, hs, signEnd]
    rcases h2 with ⟨_, h5, rfl, rfl, rfl⟩ | ⟨_, h5, rfl, rfl⟩ | ⟨h5, _⟩
    · rw [if_pos h5]
      by_cases h8 : (nameOf l1).length = 8
      · exact .inl ⟨rfl, h8, by rw [if_pos h8]⟩
      · exact .inr (.inl ⟨rfl, h8, by rw [if_neg h8]⟩)
    · exact .inr (.inr ⟨by omega, _, rfl, by rw [if_neg h5]⟩)
    · exact absurd rfl h5

def SGetPost (X : Nat) (l : List UInt8) (w : World) (e : Ending) (w' : World) : Prop :=
  ∃ v, e = .returned v ∧ SignVal (fun k => w.heap.size ≤ k ∧ k < w'.heap.size) w' v (signGot l) ∧ (∃ l' e', TapeAt w' X l' e' ∧ GotToS l l' e') ∧ Chg (· = X) w w'

set_option maxRecDepth 100000 in
set_option maxHeartbeats 4000000 in
theorem rsget_any (X : Nat) (l : List UInt8) (w : World) (hl : l.length ≤ 9223372036854775807) (hX : TapeAt w X l 0) :
    Calls Tryz.prog 27 #[.pointer (some ⟨X, 0, none⟩)] w (SGetPost X l w) := by
  have hXlt : X < w.heap.size := lt_blk hX
  have hc0 : Chg (fun _ => False) w (w.alloc (.cells #[.int .i64 0, .string ⟨#[]⟩, .string ⟨#[]⟩, .string ⟨#[]⟩, .string ⟨#[]⟩, .string ⟨#[]⟩, .string ⟨#[]⟩, .string ⟨#[]⟩, .string ⟨#[]⟩, .slice none 0 0] 38)) := (Chg.refl _ w).alloc _
  have hB : (w.alloc (.cells #[.int .i64 0, .string ⟨#[]⟩, .string ⟨#[]⟩, .string ⟨#[]⟩, .string ⟨#[]⟩, .string ⟨#[]⟩, .string ⟨#[]⟩, .string ⟨#[]⟩, .string ⟨#[]⟩, .slice none 0 0] 38)).heap[w.heap.size]? = some (.cells (signBox noCred (.slice none 0 0)) 38 (0, 0)) := heap_alloc_new w _
  have hX1 : TapeAt (w.alloc (.cells #[.int .i64 0, .string ⟨#[]⟩, .string ⟨#[]⟩, .string ⟨#[]⟩, .string ⟨#[]⟩, .string ⟨#[]⟩, .string ⟨#[]⟩, .string ⟨#[]⟩, .string ⟨#[]⟩, .slice none 0 0] 38)) X l 0 := blk_keep hX hc0 id
  have hn := cget_to X l (w.alloc (.cells #[.int .i64 0, .string ⟨#[]⟩, .string ⟨#[]⟩, .string ⟨#[]⟩, .string ⟨#[]⟩, .string ⟨#[]⟩, .string ⟨#[]⟩, .string ⟨#[]⟩, .string ⟨#[]⟩, .slice none 0 0] 38)) hl hX1
  have HH := hid (And.intro hn (And.intro hc0 hB))
  clear hn hc0 hB hX1
  go_enter Tryz.func27, Tryz.ntmps27
  go_wp2_with fail
  obtain ⟨hn, hc0, hB⟩ := HH.out
  clear HH
  generalize (w.alloc (.cells #[.int .i64 0, .string ⟨#[]⟩, .string ⟨#[]⟩, .string ⟨#[]⟩, .string ⟨#[]⟩, .string ⟨#[]⟩, .string ⟨#[]⟩, .string ⟨#[]⟩, .string ⟨#[]⟩, .slice none 0 0] 38)) = w1 at *
  generalize hBB : w.heap.size = B at *
  refine hn.mono ?_
  rintro en w2 ⟨rfl, ⟨l', e', hX2, hgt⟩, hc2⟩
  have hB2 := blk_keep hB hc2 (show ¬ B = X by omega)
  have hcw2 : Chg (· = X) w w2 := (hc0.mono (fun _ _ h => h.elim)).trans hc2 (fun _ _ h => h)
  have hgt := hid hgt
  clear hn hc0 hB hc2
  generalize hg : credGot l noCred = c at *
  have HG := hid hg
  clear hg
  have HX2 := hid (And.intro hX2 (And.intro hB2 hcw2))
  clear hX2 hB2 hcw2
  unfold credV credBox
  go_wp2_with fail
  obtain ⟨hX2, hB2, hcw2⟩ := HX2.out
  clear HX2
  have hcA : Chg (fun _ => False) w2 (w2.alloc (.cells #[.int .i64 c.kind, .string ⟨c.head.1.toArray⟩, .string ⟨c.head.2.toArray⟩, .string ⟨c.who.toArray⟩, .string ⟨c.b.1.toArray⟩, .string ⟨c.b.2.toArray⟩, .string ⟨c.c.1.toArray⟩, .string ⟨c.c.2.toArray⟩, .string ⟨c.w2.toArray⟩] 35)) := (Chg.refl _ w2).alloc _
  have hA3 : (w2.alloc (.cells #[.int .i64 c.kind, .string ⟨c.head.1.toArray⟩, .string ⟨c.head.2.toArray⟩, .string ⟨c.who.toArray⟩, .string ⟨c.b.1.toArray⟩, .string ⟨c.b.2.toArray⟩, .string ⟨c.c.1.toArray⟩, .string ⟨c.c.2.toArray⟩, .string ⟨c.w2.toArray⟩] 35)).heap[w2.heap.size]? = some (.cells (credBox c) 35 (0, 0)) := heap_alloc_new w2 _
  have hB3 := blk_keep hB2 hcA id
  have hX3 : TapeAt (w2.alloc (.cells #[.int .i64 c.kind, .string ⟨c.head.1.toArray⟩, .string ⟨c.head.2.toArray⟩, .string ⟨c.who.toArray⟩, .string ⟨c.b.1.toArray⟩, .string ⟨c.b.2.toArray⟩, .string ⟨c.c.1.toArray⟩, .string ⟨c.c.2.toArray⟩, .string ⟨c.w2.toArray⟩] 35)) X l' e' := blk_keep hX2 hcA id
  have hc3 : Chg (· = X) w (w2.alloc (.cells #[.int .i64 c.kind, .string ⟨c.head.1.toArray⟩, .string ⟨c.head.2.toArray⟩, .string ⟨c.who.toArray⟩, .string ⟨c.b.1.toArray⟩, .string ⟨c.b.2.toArray⟩, .string ⟨c.c.1.toArray⟩, .string ⟨c.c.2.toArray⟩, .string ⟨c.w2.toArray⟩] 35)) := hcw2.trans hcA (fun _ _ h => h.elim)
  have hBlt : B < w2.heap.size := lt_blk hB2
  have hlr : e' = 0 → l'.length ≤ 9223372036854775807 := fun h => by
    have := hgt.out
    rw [GotTo] at this
    cases hgc : credGet l with
    | ok cc rest => rw [hgc] at this; have h3 := credGet_len hgc; obtain ⟨_, h4⟩ := this; rw [h4]; omega
    | bad n => rw [hgc] at this; omega
  generalize (w2.alloc (.cells #[.int .i64 c.kind, .string ⟨c.head.1.toArray⟩, .string ⟨c.head.2.toArray⟩, .string ⟨c.who.toArray⟩, .string ⟨c.b.1.toArray⟩, .string ⟨c.b.2.toArray⟩, .string ⟨c.c.1.toArray⟩, .string ⟨c.c.2.toArray⟩, .string ⟨c.w2.toArray⟩] 35)) = w3 at *
  generalize hAA : w2.heap.size = A at *
  clear hX2 hB2 hcw2 hcA
  refine (text_step X l' e' w3 hlr hX3).mono ?_
  rintro en w4 ⟨s, l2, e2, rfl, hX4, hst, hc34⟩
  have hA4 := blk_keep hA3 hc34 (show ¬ A = X by omega)
  have hB4 := blk_keep hB3 hc34 (show ¬ B = X by omega)
  have hc4 := hc3.trans hc34 (fun _ _ h => h)
  have hse : SEnd l c s l2 e2 := by have := sEnd_of hgt.out hst; rw [HG.out] at this; exact this
  clear hA3 hB3 hX3 hc3 hc34 hst hlr hgt HG
  rcases hse with ⟨rfl, h8, hsg⟩ | ⟨rfl, h8, hsg⟩ | ⟨hne, n, hn, hsg⟩
  · have hcv := conv_str s w4
    have hg1 := grownCap_ge w4 s.length 0 5
    have hg2 := grownCap_le_maxLen w4 s.length 0 5 (by rw [h8]; unfold maxLen; omega)
    generalize grownCap w4 s.length 0 5 = gc at *
    have hba := bytes_of s w4.drew gc hg1 hg2 ((bytesRow ⟨s.toArray⟩ gc).size, (bytesRow ⟨s.toArray⟩ gc).size + 1)
    have hcc : Chg (fun _ => False) w4 (w4.drew.alloc (.cells (bytesRow ⟨s.toArray⟩ gc) 5 ((bytesRow ⟨s.toArray⟩ gc).size, (bytesRow ⟨s.toArray⟩ gc).size + 1))) := ((Chg.refl _ w4).drew).alloc _
    have hlt5 : w4.heap.size < (w4.drew.alloc (.cells (bytesRow ⟨s.toArray⟩ gc) 5 ((bytesRow ⟨s.toArray⟩ gc).size, (bytesRow ⟨s.toArray⟩ gc).size + 1))).heap.size := by show w4.drew.heap.size < _; simp
    have hA4lt : A < w4.heap.size := lt_blk hA4
    have hsz : w4.drew.heap.size = w4.heap.size := rfl
    rw [hsz] at hba
    generalize (w4.drew.alloc (.cells (bytesRow ⟨s.toArray⟩ gc) 5 ((bytesRow ⟨s.toArray⟩ gc).size, (bytesRow ⟨s.toArray⟩ gc).size + 1))) = w5 at *
    have x1 := cell_blk hX4 1
    simp only [List.getElem?_toArray, List.getElem?_cons_zero, List.getElem?_cons_succ] at x1
    obtain ⟨a0, a1, a2, a3, a4, a5, a6, a7, a8⟩ := cred_at_blk hA4
    simp only [Nat.zero_add] at a0 a1 a2 a3 a4 a5 a6 a7 a8
    have hB5 := blk_keep hB4 hcc id
    have hX5 : TapeAt w5 X l2 0 := blk_keep hX4 hcc id
    have hc5 := hc4.trans hcc (fun _ _ h => h.elim)
    have hse4 : w.heap.size ≤ w4.heap.size := hc4.size
    obtain ⟨hq, b9⟩ := cred_at_sign hB5
    obtain ⟨b0, b1, b2, b3, b4, b5, b6, b7, b8⟩ := hq
    simp only [Nat.zero_add, noCred, noneR] at b0 b1 b2 b3 b4 b5 b6 b7 b8
    have g0 := froz_blk hB5 0
    have g1 := froz_blk hB5 1
    have g2 := froz_blk hB5 2
    have g3 := froz_blk hB5 3
    have g4 := froz_blk hB5 4
    have g5 := froz_blk hB5 5
    have g6 := froz_blk hB5 6
    have g7 := froz_blk hB5 7
    have g8 := froz_blk hB5 8
    have g9 := froz_blk hB5 9
    have z8 : ((s.length : Int) != 8) = false := by rw [bne_eq_false_iff_eq]; omega
    rw [h8] at hcv hba
    generalize hR : w4.heap.size = R at *
    have hset := setSign_blk c (.slice (some ⟨R, 0, none⟩) 8 gc) hB5
    have hcs := setSign_chg w5 B c (.slice (some ⟨R, 0, none⟩) 8 gc)
    have hX6 : TapeAt (setSign w5 B c (.slice (some ⟨R, 0, none⟩) 8 gc)) X l2 0 := blk_keep hX5 hcs (show ¬ X = B by omega)
    have hc6 : Chg (· = X) w (setSign w5 B c (.slice (some ⟨R, 0, none⟩) 8 gc)) := hc5.trans hcs (fun i hi e => by have : i = B := e; omega)
    have hbt := hba.keep hcs (fun i hi e => by have : i = R := hi; have : i = B := e; omega)
    have HH := hid (And.intro hset (And.intro hX6 (And.intro hc6 (And.intro hbt (And.intro hcs.size (And.intro hlt5 hse4))))))
    clear hba hcc hX4 hA4 hB4 hc4 hg1 hg2 hB5 hX5 hc5 hse4 hlt5 hsz hset hcs hX6 hc6 hbt
    go_wp2
    refine bodyPost_ret (results_cell_row (P := Tryz.prog) rfl _ _ B 38 _ (0, 0) _ rfl HH.out.1 Tryz.underlying38 rfl (by kernel_rfl)) rfl ?_
    exact ⟨_, rfl, by rw [signGot, hsg]; exact ⟨some ⟨R, 0, none⟩, gc, by show signV c (.slice _ 8 gc) = signV c (.slice _ s.length gc); rw [h8], by show BytesAt _ _ (.slice _ s.length gc) s; rw [h8]; exact HH.out.2.2.2.1.mono (fun i hi => by have h1 := HH.out.2.2.2.2.1; have h2 := HH.out.2.2.2.2.2.1; have h3 := HH.out.2.2.2.2.2.2; have : i = R := hi; exact ⟨by omega, Nat.lt_of_lt_of_le (show i < w5.heap.size by omega) h1⟩)⟩, ⟨_, _, HH.out.2.1, by rw [GotToS, hsg]; exact ⟨rfl, rfl⟩⟩, HH.out.2.2.1⟩
  · have x1 := cell_blk hX4 1
    simp only [List.getElem?_toArray, List.getElem?_cons_zero, List.getElem?_cons_succ] at x1
    have f1 := froz_blk hX4 1
    have z8 : ((s.length : Int) != 8) = true := by rw [bne_iff_ne]; omega
    have hX5 : TapeAt (w4.setCell ⟨X, 1, none⟩ (.int .i64 11)) X l2 11 := set_blk hX4 1 (.int .i64 11)
    have hcx := setCell_chg w4 X 1 (.int .i64 11)
    have hB5 := blk_keep hB4 hcx (show ¬ B = X by omega)
    have hc5 := hc4.trans hcx (fun _ _ h => h)
    obtain ⟨hq, b9⟩ := cred_at_sign hB5
    obtain ⟨b0, b1, b2, b3, b4, b5, b6, b7, b8⟩ := hq
    simp only [Nat.zero_add, noCred, noneR] at b0 b1 b2 b3 b4 b5 b6 b7 b8
    have g0 := froz_blk hB5 0
    have g1 := froz_blk hB5 1
    have g2 := froz_blk hB5 2
    have g3 := froz_blk hB5 3
    have g4 := froz_blk hB5 4
    have g5 := froz_blk hB5 5
    have g6 := froz_blk hB5 6
    have g7 := froz_blk hB5 7
    have g8 := froz_blk hB5 8
    have g9 := froz_blk hB5 9
    have hset := setSign_blk noCred (.slice none 0 0) hB5
    have hcs := setSign_chg (w4.setCell ⟨X, 1, none⟩ (.int .i64 11)) B noCred (.slice none 0 0)
    have hX6 : TapeAt (setSign (w4.setCell ⟨X, 1, none⟩ (.int .i64 11)) B noCred (.slice none 0 0)) X l2 11 := by
      have hk := blk_keep hX5 hcs (show ¬ X = B by omega)
      exact hk
    have hc6 : Chg (· = X) w (setSign (w4.setCell ⟨X, 1, none⟩ (.int .i64 11)) B noCred (.slice none 0 0)) := hc5.trans hcs (fun i hi e => by have : i = B := e; omega)
    have HH := hid (And.intro hset (And.intro hX6 hc6))
    clear hX5 hcx hB5 hc5 hX4 hB4 hc4 hA4 hset hcs hX6 hc6
    have hsg := hsg
    go_wp2
    refine bodyPost_ret (results_cell_row (P := Tryz.prog) rfl _ _ B 38 _ (0, 0) _ rfl HH.out.1 Tryz.underlying38 rfl (by kernel_rfl)) rfl ?_
    exact ⟨_, rfl, by rw [signGot, hsg]; exact ⟨none, 0, rfl, BytesAt.nil _ _⟩, ⟨_, _, HH.out.2.1, by rw [GotToS, hsg]; exact ⟨rfl, by decide⟩⟩, HH.out.2.2⟩
  · have x1 := cell_blk hX4 1
    simp only [List.getElem?_toArray, List.getElem?_cons_zero, List.getElem?_cons_succ] at x1
    have z1 : (e2 == 0) = false := beq_eq_false_iff_ne.2 hne
    have z2 : (e2 != 0) = true := by rw [bne_iff_ne]; exact hne
    obtain ⟨hq, b9⟩ := cred_at_sign hB4
    obtain ⟨b0, b1, b2, b3, b4, b5, b6, b7, b8⟩ := hq
    simp only [Nat.zero_add, noCred, noneR] at b0 b1 b2 b3 b4 b5 b6 b7 b8
    have g0 := froz_blk hB4 0
    have g1 := froz_blk hB4 1
    have g2 := froz_blk hB4 2
    have g3 := froz_blk hB4 3
    have g4 := froz_blk hB4 4
    have g5 := froz_blk hB4 5
    have g6 := froz_blk hB4 6
    have g7 := froz_blk hB4 7
    have g8 := froz_blk hB4 8
    have g9 := froz_blk hB4 9
    have hset := setSign_blk noCred (.slice none 0 0) hB4
    have hcs := setSign_chg w4 B noCred (.slice none 0 0)
    have hX6 : TapeAt (setSign w4 B noCred (.slice none 0 0)) X l2 e2 := by
      have hk := blk_keep hX4 hcs (show ¬ X = B by omega)
      exact hk
    have hc6 : Chg (· = X) w (setSign w4 B noCred (.slice none 0 0)) := hc4.trans hcs (fun i hi e => by have : i = B := e; omega)
    have HH := hid (And.intro hset (And.intro hX6 hc6))
    have HE := hid (And.intro hn hne)
    clear hX4 hB4 hc4 hA4 hset hcs hX6 hc6 hn hne
    go_wp2
    refine bodyPost_ret (results_cell_row (P := Tryz.prog) rfl _ _ B 38 _ (0, 0) _ rfl HH.out.1 Tryz.underlying38 rfl (by kernel_rfl)) rfl ?_
    exact ⟨_, rfl, by rw [signGot, hsg]; exact ⟨none, 0, rfl, BytesAt.nil _ _⟩, ⟨_, _, HH.out.2.1, by rw [GotToS, hsg]; exact HE.out⟩, HH.out.2.2⟩
end Go.Proofs.YtjflmhncgkbdmaaGreat

/- The contract of keys.Get. -/
namespace Go.Proofs.YtjflmhncgkbdmaaGreat
open Go.RowKit Go.Maps

/-- Get of a signed one: it stops, or it is read. -/
def SGotPost (D : Nat → Prop) (R : Nat) (l : List UInt8) (w : World) (e : Ending) (w' : World) : Prop :=
  (∃ b, signGet l = .bad b ∧ Stops R b w e w') ∨
  (∃ s rest v, signGet l = .ok s rest ∧ e = .returned v ∧ SignVal (fun k => w.heap.size ≤ k ∧ k < w'.heap.size) w' v s ∧ ∃ vb, BytesAt D w' vb rest ∧ ReaderAt w' R true vb 0 ∧ Chg (· = R) w w')

theorem text_len {l : List UInt8} {m : Int} (h : errText l m = 0) : (nameOf l).length = (numN 9 l 0 0).1 := by
  unfold errText at h
  by_cases hz : (numN 9 l 0 0).2.2 = 0
  · rw [if_pos hz] at h
    by_cases h1 : m < ((numN 9 l 0 0).1 : Int)
    · rw [if_pos h1] at h; cases h
    · rw [if_neg h1] at h
      by_cases h2 : l.length - (numN 9 l 0 0).2.1 < (numN 9 l 0 0).1
      · rw [if_pos h2] at h; cases h
      · unfold nameOf; simp; omega
  · rw [if_neg hz] at h
    exact absurd h hz

theorem Stops.before {R : Nat} {b : Int} {w w1 w' : World} {e : Ending} (h : Stops R b w1 e w') (hc : Chg (· = R) w w1) : Stops R b w e w' := by
  obtain ⟨rfl, ao, m, cp, h1, h2⟩ := h
  exact ⟨rfl, ao, m, cp, h1, hc.trans h2 (fun _ _ h => h)⟩

set_option maxRecDepth 100000 in
set_option maxHeartbeats 4000000 in
theorem pkget {D : Nat → Prop} {R : Nat} {v : Value} {l : List UInt8} {w : World} (hl : l.length ≤ 140737488355328) (hv : BytesAt D w v l) (hDR : ¬ D R) (hDl : ∀ i, D i → i < w.heap.size) (hR : ReaderAt w R true v 0) :
    Calls Tryz.prog 26 #[.pointer (some ⟨R, 0, none⟩)] w (SGotPost D R l w) := by
  have hRw : R < w.heap.size := lt_blk hR
  have hcA : Chg (fun _ => False) w (w.alloc (.cells #[.int .i64 0, .string ⟨#[]⟩, .string ⟨#[]⟩, .string ⟨#[]⟩, .string ⟨#[]⟩, .string ⟨#[]⟩, .string ⟨#[]⟩, .string ⟨#[]⟩, .string ⟨#[]⟩, .slice none 0 0] 38)) := (Chg.refl _ w).alloc _
  have hA : (w.alloc (.cells #[.int .i64 0, .string ⟨#[]⟩, .string ⟨#[]⟩, .string ⟨#[]⟩, .string ⟨#[]⟩, .string ⟨#[]⟩, .string ⟨#[]⟩, .string ⟨#[]⟩, .string ⟨#[]⟩, .slice none 0 0] 38)).heap[w.heap.size]? = some (.cells (signBox noCred (.slice none 0 0)) 38 (0, 0)) := heap_alloc_new w _
  have hsz1 : (w.alloc (.cells #[.int .i64 0, .string ⟨#[]⟩, .string ⟨#[]⟩, .string ⟨#[]⟩, .string ⟨#[]⟩, .string ⟨#[]⟩, .string ⟨#[]⟩, .string ⟨#[]⟩, .string ⟨#[]⟩, .slice none 0 0] 38)).heap.size = w.heap.size + 1 := by simp
  have hget := pcget_any (D := D) hl (hv.keep hcA (fun _ _ => id)) hDR (fun i hi => by have := hDl i hi; rw [hsz1]; omega) (blk_keep hR hcA id)
  have HG := hid (And.intro hget (And.intro hA (And.intro hcA hDl)))
  clear hcA hA hget hR hv hDl hsz1
  go_enter Tryz.func26, Tryz.ntmps26
  go_wp2_with fail
  obtain ⟨hget, hA, hcA, hDl⟩ := HG.out
  clear HG
  generalize (w.alloc (.cells #[.int .i64 0, .string ⟨#[]⟩, .string ⟨#[]⟩, .string ⟨#[]⟩, .string ⟨#[]⟩, .string ⟨#[]⟩, .string ⟨#[]⟩, .string ⟨#[]⟩, .string ⟨#[]⟩, .slice none 0 0] 38)) = w1 at *
  generalize hAe : w.heap.size = A at *
  have HAe := hid hAe
  clear hAe
  have hc1 : Chg (· = R) w w1 := hcA.mono (fun _ _ h => h.elim)
  refine hget.mono ?_
  rintro e u1 (⟨b, hb, hst⟩ | ⟨c, l1, hb, rfl, vb, hv1, hR1, hch⟩)
  · have HS : Hid (SGotPost D R l w e u1) := hid (.inl ⟨b, by rw [signGet, hb], hst.before hc1⟩)
    obtain ⟨rfl, _⟩ := hst
    exact ⟨rfl, HS.out⟩
  · have hA1 := blk_keep hA hch (show ¬ A = R by omega)
    have hcu := hc1.trans hch (fun _ _ h => h)
    have hl1 := credGet_len hb
    have hsz1 := hcu.size
    have HB : Hid (signGet l = signEnd c l1) := hid (by rw [signGet, hb])
    clear hget hA hcA hc1 hch hb
    by_cases he : errText l1 8 = 0
    · have htx := rtext_reads (most := 8) (by omega) hv1 hDR hR1 he
      have HL := hid (text_len he)
      have HE : Hid (signEnd c l1 = if (nameOf l1).length = 8 then .ok ⟨c, nameOf l1⟩ (nameRest l1) else .bad 11) := hid (by rw [signEnd, if_pos he])
      have HX := hid (And.intro hA1 hcu)
      have hDl2 := hid hDl
      clear hv1 hR1 he hA1 hcu hDl
      go_wp2_with fail
      refine htx.mono ?_
      rintro e u2 ⟨ta, tcap, rfl, hby, vc, hv2, hR2, hch2⟩
      change BytesAt _ u2 (.slice ta _ tcap) (nameOf l1) at hby
      change BytesAt D u2 vc (nameRest l1) at hv2
      obtain ⟨n, hn⟩ : ∃ n, (numN 9 l1 0 0).1 = n := ⟨_, rfl⟩
      rw [hn] at HL hby
      obtain ⟨hA1, hcu⟩ := HX.out
      have hA2 := blk_keep hA1 hch2 (show ¬ A = R by omega)
      have hcu2 := hcu.trans hch2 (fun _ _ h => h)
      have hsz2 := hch2.size
      have hlt2 := lt_blk hA2
      have hB3 : (u2.alloc (.cells #[.int .i64 c.kind, .string ⟨c.head.1.toArray⟩, .string ⟨c.head.2.toArray⟩, .string ⟨c.who.toArray⟩, .string ⟨c.b.1.toArray⟩, .string ⟨c.b.2.toArray⟩, .string ⟨c.c.1.toArray⟩, .string ⟨c.c.2.toArray⟩, .string ⟨c.w2.toArray⟩, .slice ta n tcap] 38)).heap[u2.heap.size]? = some (.cells (signBox c (.slice ta n tcap)) 38 (0, 0)) := heap_alloc_new u2 _
      have hal : Chg (fun _ => False) u2 (u2.alloc (.cells #[.int .i64 c.kind, .string ⟨c.head.1.toArray⟩, .string ⟨c.head.2.toArray⟩, .string ⟨c.who.toArray⟩, .string ⟨c.b.1.toArray⟩, .string ⟨c.b.2.toArray⟩, .string ⟨c.c.1.toArray⟩, .string ⟨c.c.2.toArray⟩, .string ⟨c.w2.toArray⟩, .slice ta n tcap] 38)) := (Chg.refl _ u2).alloc _
      have HX3 := hid (And.intro hB3 (And.intro (blk_keep hA2 hal id) (And.intro (hcu2.trans hal (fun _ _ h => h.elim)) (And.intro (hby.keep hal (fun _ _ => id)) (And.intro (hv2.keep hal (fun _ _ => id)) (blk_keep hR2 hal id))))))
      have HA2 := hid (And.intro hA2 (And.intro hcu2 (And.intro hby (And.intro hv2 (And.intro hR2 (lt_blk hA1))))))
      have hn9 : n ≤ 9223372036854775807 := by have := HL.out; have h2 := bytes_len63 hby; omega
      clear htx hby hv2 hR2 hch2 hA1 hcu hA2 hcu2 hB3 hal HX
      simp only [hn]
      clear hn
      unfold credV credBox
      by_cases h8 : n = 8
      · have z : ((n : Int) == 8) = true := beq_iff_eq.2 (by omega)
        have z2 : ((n : Int) != 8) = false := by rw [bne, z]; rfl
        have HF : Hid (signGet l = .ok ⟨c, nameOf l1⟩ (nameRest l1)) := hid (by rw [HB.out, HE.out, if_pos (by have := HL.out; omega)])
        have H8 := hid h8
        clear h8
        obtain ⟨hA2, hcu2, hby, hv2, hR2, hlt1⟩ := HA2.out
        have hset := setSign_blk c (.slice ta n tcap) hA2
        have hcs := setSign_chg u2 A c (.slice ta n tcap)
        have hch : Chg (· = R) w (setSign u2 A c (.slice ta n tcap)) := hcu2.trans hcs (fun i hi e => by have h1 := HAe.out; have h2 : i = A := e; omega)
        have hal : Chg (fun _ => False) (setSign u2 A c (.slice ta n tcap)) ((setSign u2 A c (.slice ta n tcap)).alloc (.cells #[.int .i64 c.kind, .string ⟨c.head.1.toArray⟩, .string ⟨c.head.2.toArray⟩, .string ⟨c.who.toArray⟩, .string ⟨c.b.1.toArray⟩, .string ⟨c.b.2.toArray⟩, .string ⟨c.c.1.toArray⟩, .string ⟨c.c.2.toArray⟩, .string ⟨c.w2.toArray⟩, .slice ta n tcap] 38)) := (Chg.refl _ _).alloc _
        have HY := hid (And.intro (blk_keep hset hal id) (And.intro (hch.trans hal (fun _ _ h => h.elim)) (And.intro ((hby.keep hcs (fun i hi e => by have h1 := hi.1; have h2 : i = A := e; omega)).keep hal (fun _ _ => id)) (And.intro ((hv2.keep hcs (fun i hi e => by have h1 := hDl2.out i hi; have h2 : i = A := e; omega)).keep hal (fun _ _ => id)) (blk_keep (blk_keep hR2 hcs (show ¬ R = A by omega)) hal id)))))
        have HSZ : Hid (w.heap.size ≤ u1.heap.size ∧ u2.heap.size ≤ ((setSign u2 A c (.slice ta n tcap)).alloc (.cells #[.int .i64 c.kind, .string ⟨c.head.1.toArray⟩, .string ⟨c.head.2.toArray⟩, .string ⟨c.who.toArray⟩, .string ⟨c.b.1.toArray⟩, .string ⟨c.b.2.toArray⟩, .string ⟨c.c.1.toArray⟩, .string ⟨c.c.2.toArray⟩, .string ⟨c.w2.toArray⟩, .slice ta n tcap] 38)).heap.size) := hid ⟨hsz1, Nat.le_trans hcs.size hal.size⟩
        clear hset hcs hch hal hcu2 hby hv2 hR2 hlt1 HX3
        obtain ⟨⟨y0, y1, y2, y3, y4, y5, y6, y7, y8⟩, y9⟩ := cred_at_sign hA2
        simp only [Nat.zero_add, noCred, noneR] at y0 y1 y2 y3 y4 y5 y6 y7 y8
        have g0 := froz_blk hA2 0
        have g1 := froz_blk hA2 1
        have g2 := froz_blk hA2 2
        have g3 := froz_blk hA2 3
        have g4 := froz_blk hA2 4
        have g5 := froz_blk hA2 5
        have g6 := froz_blk hA2 6
        have g7 := froz_blk hA2 7
        have g8 := froz_blk hA2 8
        have g9 := froz_blk hA2 9
        clear HA2 hA2
        go_wp2
        refine bodyPost_ret (results_cell_row (P := Tryz.prog) rfl _ _ A 38 _ (0, 0) _ rfl HY.out.1 Tryz.underlying38 rfl (by kernel_rfl)) rfl ?_
        obtain ⟨_, h2, h3, h4, h5⟩ := HY.out
        obtain ⟨s1, s2⟩ := HSZ.out
        have hnl := HL.out
        subst hnl
        exact .inr ⟨_, _, _, HF.out, rfl, ⟨ta, tcap, rfl, h3.mono (fun i hi => ⟨by have := hi.1; omega, Nat.lt_of_lt_of_le hi.2 s2⟩)⟩, vc, h4, h5, h2⟩
      · have z : ((n : Int) == 8) = false := beq_eq_false_iff_ne.2 (by omega)
        have z2 : ((n : Int) != 8) = true := bne_iff_ne.2 (by omega)
        have HF : Hid (signGet l = .bad 11) := hid (by rw [HB.out, HE.out, if_neg (by have := HL.out; omega)])
        clear h8
        obtain ⟨hB3, hA3, hcw3, hby3, hv3, hR3⟩ := HX3.out
        obtain ⟨ao8, cp8, e8⟩ := hv3.shape
        subst e8
        have r0 := cell_blk hR3 0
        have r2 := cell_blk hR3 2
        have f2 := froz_blk hR3 2
        simp only [List.getElem?_toArray, List.getElem?_cons_zero, List.getElem?_cons_succ] at r0 r2
        have hfail := fail_stops R 11 (.bool true) (u2.alloc (.cells #[.int .i64 c.kind, .string ⟨c.head.1.toArray⟩, .string ⟨c.head.2.toArray⟩, .string ⟨c.who.toArray⟩, .string ⟨c.b.1.toArray⟩, .string ⟨c.b.2.toArray⟩, .string ⟨c.c.1.toArray⟩, .string ⟨c.c.2.toArray⟩, .string ⟨c.w2.toArray⟩, .slice ta n tcap] 38)) rfl r0 r2 f2
        have HY := hid (And.intro hR3 (And.intro hcw3 hfail))
        clear hB3 hA3 hcw3 hby3 hv3 hR3 r0 r2 f2 hfail HX3 HA2
        go_wp2_with fail
        obtain ⟨h1, h2, hfail⟩ := HY.out
        refine hfail.mono ?_
        rintro e w9 ⟨rfl, rfl⟩
        exact ⟨rfl, .inl ⟨_, HF.out, rfl, _, _, _, set_blk h1 2 (.int .i64 11), h2.trans (setCell_chg _ R 2 _) (fun _ _ h => h)⟩⟩
    · have htx := rtext_stops (most := 8) (by omega) hv1 hR1 he
      have HF : Hid (signGet l = .bad (errText l1 8)) := hid (by rw [HB.out, signEnd, if_neg he])
      have HC := hid hcu
      clear hv1 hR1 he hA1 hcu
      go_wp2_with fail
      refine htx.mono ?_
      rintro e u2 hst
      have HS : Hid (SGotPost D R l w e u2) := hid (.inl ⟨_, HF.out, hst.before HC.out⟩)
      obtain ⟨rfl, _⟩ := hst
      exact ⟨rfl, HS.out⟩
end Go.Proofs.YtjflmhncgkbdmaaGreat

/- The contract of a reader's end. -/
namespace Go.Proofs.YtjflmhncgkbdmaaGreat
open Go.RowKit

def Ended (R : Nat) (r : Int) (w : World) (e : Ending) (w' : World) : Prop :=
  e = .returned (.int .i64 r) ∧ ReaderAt w' R false (.slice none 0 0) 0 ∧ Chg (· = R) w w'

theorem ended_mk {R : Nat} {r : Int} {w : World} {op : Bool} {v : Value} {flt : Int} (hR : ReaderAt w R op v flt) :
    Ended R r w (.returned (.int .i64 r)) (((w.setCell ⟨R, 0, none⟩ (.bool false)).setCell ⟨R, 1, none⟩ (.slice none 0 0)).setCell ⟨R, 2, none⟩ (.int .i64 0)) := by
  refine ⟨rfl, ?_, ?_⟩
  · exact set_blk (set_blk (set_blk hR 0 (.bool false)) 1 (.slice none 0 0)) 2 (.int .i64 0)
  · exact (((Chg.refl (· = R) w).setCell (p := ⟨R, _, none⟩) (fun _ => rfl) _).setCell (p := ⟨R, _, none⟩) (fun _ => rfl) _).setCell (p := ⟨R, _, none⟩) (fun _ => rfl) _

set_option maxRecDepth 100000 in
theorem end_fault (R n cap : Nat) (flt : Int) (ao : Option Addr) (op : Bool) (w : World) (hR : ReaderAt w R op (.slice ao n cap) flt) (hf : (flt == 0) = false) :
    Calls Tryz.prog 52 #[.pointer (some ⟨R, 0, none⟩)] w (Ended R flt w) := by
  have h0 := cell_blk hR 0
  have h1 := cell_blk hR 1
  have h2 := cell_blk hR 2
  have f0 := froz_blk hR 0
  have f1 := froz_blk hR 1
  have f2 := froz_blk hR 2
  simp only [List.getElem?_toArray, List.getElem?_cons_zero, List.getElem?_cons_succ] at h0 h1 h2
  go_enter Tryz.func52, Tryz.ntmps52
  go_wp2
  go_ret
  exact ended_mk hR

set_option maxRecDepth 100000 in
theorem end_trail (R n cap : Nat) (ao : Option Addr) (op : Bool) (w : World) (hR : ReaderAt w R op (.slice ao n cap) 0) (hn : 0 < (n : Int)) :
    Calls Tryz.prog 52 #[.pointer (some ⟨R, 0, none⟩)] w (Ended R 13 w) := by
  have h0 := cell_blk hR 0
  have h1 := cell_blk hR 1
  have h2 := cell_blk hR 2
  have f0 := froz_blk hR 0
  have f1 := froz_blk hR 1
  have f2 := froz_blk hR 2
  simp only [List.getElem?_toArray, List.getElem?_cons_zero, List.getElem?_cons_succ] at h0 h1 h2
  go_enter Tryz.func52, Tryz.ntmps52
  go_wp2
  go_ret
  exact ended_mk hR

set_option maxRecDepth 100000 in
theorem end_ok (R cap : Nat) (ao : Option Addr) (op : Bool) (w : World) (hR : ReaderAt w R op (.slice ao 0 cap) 0) :
    Calls Tryz.prog 52 #[.pointer (some ⟨R, 0, none⟩)] w (Ended R 0 w) := by
  have h0 := cell_blk hR 0
  have h1 := cell_blk hR 1
  have h2 := cell_blk hR 2
  have f0 := froz_blk hR 0
  have f1 := froz_blk hR 1
  have f2 := froz_blk hR 2
  simp only [List.getElem?_toArray, List.getElem?_cons_zero, List.getElem?_cons_succ] at h0 h1 h2
  go_enter Tryz.func52, Tryz.ntmps52
  go_wp2
  go_ret
  exact ended_mk hR

theorem end_any (R n cap : Nat) (flt : Int) (ao : Option Addr) (op : Bool) (w : World) (hR : ReaderAt w R op (.slice ao n cap) flt) :
    Calls Tryz.prog 52 #[.pointer (some ⟨R, 0, none⟩)] w (Ended R (endOf flt n) w) := by
  unfold endOf
  by_cases hf : flt = 0
  · subst hf
    rw [if_pos rfl]
    by_cases hn : 0 < n
    · rw [if_pos hn]
      exact end_trail R n cap ao op w hR (by omega)
    · rw [if_neg hn]
      obtain rfl : n = 0 := by omega
      exact end_ok R cap ao op w hR
  · rw [if_neg hf]
    exact end_fault R n cap flt ao op w hR (by simpa using hf)

end Go.Proofs.YtjflmhncgkbdmaaGreat
