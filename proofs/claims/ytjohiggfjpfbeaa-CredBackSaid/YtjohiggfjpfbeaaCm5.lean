/- Texts that the proof leans on, in one: RoleGet, RoleRef, RoleParse, BackNum, RoleBackMath, CredGet, CredOrd, RoleOwn, CredOwn, RoleProg. -/
import Derived.Test.YtjohiggfjpfbeaaCm4
import Derived.Test.YtjohiggfjpfbeaaCm1
import Derived.Test.YtjohiggfjpfbeaaCm2
import Derived.Deep.QuietTactic
import Derived.BigQuiet
import Derived.Maps.AppendAt
import Derived.Test.YtjohiggfjpfbeaaCm3
/- The contract of the document's Get of layer 4. -/
namespace Go.Proofs.Ytjohiggfjpfbeaa
open Go.RowKit

/-- The role that comes next, what is left behind it, the error there. -/
def roleOk (l : List UInt8) : Bool := nameOk l && nameOk (nameRest l)
def roleOf (l : List UInt8) : RoleB := (nameOf l, nameOf (nameRest l))
def roleRest (l : List UInt8) : List UInt8 := nameRest (nameRest l)
def roleBad (l : List UInt8) : Nat := if nameOk l = true then nameBad (nameRest l) else nameBad l
def roleErr (l : List UInt8) : Int := if roleOk l = true then endOf 0 (roleRest l).length else roleBad l
def roleGot (l : List UInt8) (z : RoleB) : RoleB := if roleOk l = true then roleOf l else z

theorem roleBad_ne (l : List UInt8) : ¬ ((roleBad l : Int) = 0) := by
  unfold roleBad
  split
  · exact nameBad_ne _
  · exact nameBad_ne _

theorem nameRest_len (l : List UInt8) : (nameRest l).length ≤ l.length := by
  unfold nameRest
  simp

set_option maxRecDepth 100000 in
theorem rget_ok (X : Nat) (l : List UInt8) (w : World) (hl : l.length ≤ 9223372036854775807) (hX : TapeAt w X l 0) (hok : roleOk l = true) :
    Calls Try.prog 61 #[.pointer (some ⟨X, 0, none⟩)] w fun e w' => e = .returned (roleV (roleOf l)) ∧ TapeAt w' X (roleRest l) 0 ∧ Chg (· = X) w w' := by
  have hok' : nameOk l = true ∧ nameOk (nameRest l) = true := by simpa [roleOk] using hok
  have hl1 := nameRest_len l
  clear hok
  go_enter Try.func61, Try.ntmps61
  have hc0 : Chg (fun _ => False) w (w.alloc (.cells #[.string ⟨#[]⟩, .string ⟨#[]⟩] 23)) := (Chg.refl _ w).alloc _
  have hC := heap_alloc_new w (.cells #[.string ⟨#[]⟩, .string ⟨#[]⟩] 23)
  have hX0 : TapeAt _ X l 0 := blk_keep hX hc0 id
  have hXC : X < w.heap.size := lt_blk hX
  go_wp2_with fail
  generalize w.alloc (.cells #[.string ⟨#[]⟩, .string ⟨#[]⟩] 23) = w1 at *
  generalize hCC : w.heap.size = C at *
  refine (nget_ok X l w1 hl hX0 hok'.1).mono ?_
  rintro e w2 ⟨rfl, hX2, hc2⟩
  have hC2 := blk_keep hC hc2 (by omega)
  go_wp2_with fail
  refine (nget_ok X (nameRest l) w2 (by omega) hX2 hok'.2).mono ?_
  rintro e w3 ⟨rfl, hX3, hc3⟩
  have hC3 := blk_keep hC2 hc3 (by omega)
  have x1 := cell_blk hX3 1
  have q0 := cell_blk hC3 0
  have q1 := cell_blk hC3 1
  have f0 := froz_blk hC3 0
  have f1 := froz_blk hC3 1
  simp only [List.getElem?_toArray, List.getElem?_cons_zero, List.getElem?_cons_succ] at x1 q0 q1
  have hcw : Chg (· = X) w w3 := ((hc0.mono (fun _ _ h => h.elim)).trans hc2 (fun _ _ h => h)).trans hc3 (fun _ _ h => h)
  have HR : Hid (roleOf l = (nameOf l, nameOf (nameRest l))) := rfl
  clear hX0 hc0 hC hX2 hc2 hC2 hc3 hok'
  generalize nameOf l = o at *
  generalize nameOf (nameRest l) = x at *
  have hs1 := setCell_chg w3 C 0 (.string ⟨o.toArray⟩)
  have hs2 := setCell_chg (w3.setCell ⟨C, 0, none⟩ (.string ⟨o.toArray⟩)) C 1 (.string ⟨x.toArray⟩)
  have hsX : TapeAt ((w3.setCell ⟨C, 0, none⟩ (.string ⟨o.toArray⟩)).setCell ⟨C, 1, none⟩ (.string ⟨x.toArray⟩)) X (nameRest (nameRest l)) 0 := blk_keep (blk_keep hX3 hs1 (by omega)) hs2 (by omega)
  have hch : Chg (· = X) w ((w3.setCell ⟨C, 0, none⟩ (.string ⟨o.toArray⟩)).setCell ⟨C, 1, none⟩ (.string ⟨x.toArray⟩)) := (hcw.trans hs1 (fun i hi h => by omega)).trans hs2 (fun i hi h => by omega)
  have hD : ((w3.setCell ⟨C, 0, none⟩ (.string ⟨o.toArray⟩)).setCell ⟨C, 1, none⟩ (.string ⟨x.toArray⟩)).heap[C]? = some (.cells #[.string ⟨o.toArray⟩, .string ⟨x.toArray⟩] 23 (0, 0)) := set_blk (set_blk hC3 0 (.string ⟨o.toArray⟩)) 1 (.string ⟨x.toArray⟩)
  have HH := hid (And.intro hD (And.intro hsX hch))
  clear hs1 hs2 hsX hch hcw hX3 hC3 hD
  go_wp2
  refine bodyPost_ret (results_cell_row (P := Try.prog) rfl _ _ C 23 _ (0, 0) _ rfl HH.out.1 Try.underlying23 rfl (by kernel_rfl)) rfl ?_
  exact ⟨by rw [HR.out]; rfl, HH.out.2.1, HH.out.2.2⟩

/-- A role of nothing. -/
def noRole : RoleB := ([], [])

set_option maxRecDepth 100000 in
theorem rget_no (X : Nat) (l : List UInt8) (w : World) (hl : l.length ≤ 9223372036854775807) (hX : TapeAt w X l 0) (hok : roleOk l = false) :
    Calls Try.prog 61 #[.pointer (some ⟨X, 0, none⟩)] w fun e w' => e = .returned (roleV noRole) ∧ (∃ l', TapeAt w' X l' (roleBad l)) ∧ Chg (· = X) w w' := by
  have hl1 := nameRest_len l
  go_enter Try.func61, Try.ntmps61
  have hc0 : Chg (fun _ => False) w (w.alloc (.cells #[.string ⟨#[]⟩, .string ⟨#[]⟩] 23)) := (Chg.refl _ w).alloc _
  have hC := heap_alloc_new w (.cells #[.string ⟨#[]⟩, .string ⟨#[]⟩] 23)
  have hX0 : TapeAt _ X l 0 := blk_keep hX hc0 id
  have hXC : X < w.heap.size := lt_blk hX
  go_wp2_with fail
  generalize w.alloc (.cells #[.string ⟨#[]⟩, .string ⟨#[]⟩] 23) = w1 at *
  generalize hCC : w.heap.size = C at *
  have tail : ∀ (w3 : World) (l' : List UInt8) (bad : Nat), TapeAt w3 X l' bad → w3.heap[C]? = some (.cells #[.string ⟨#[]⟩, .string ⟨#[]⟩] 23 (0, 0)) → Chg (· = X) w w3 →
      ((w3.setCell ⟨C, 0, none⟩ (.string ⟨#[]⟩)).setCell ⟨C, 1, none⟩ (.string ⟨#[]⟩)).heap[C]? = some (.cells #[.string ⟨#[]⟩, .string ⟨#[]⟩] 23 (0, 0)) ∧ (∃ l', TapeAt ((w3.setCell ⟨C, 0, none⟩ (.string ⟨#[]⟩)).setCell ⟨C, 1, none⟩ (.string ⟨#[]⟩)) X l' bad) ∧ Chg (· = X) w ((w3.setCell ⟨C, 0, none⟩ (.string ⟨#[]⟩)).setCell ⟨C, 1, none⟩ (.string ⟨#[]⟩)) := fun w3 l' bad h1 h2 h3 => by
    have hs1 := setCell_chg w3 C 0 (.string ⟨#[]⟩)
    have hs2 := setCell_chg (w3.setCell ⟨C, 0, none⟩ (.string ⟨#[]⟩)) C 1 (.string ⟨#[]⟩)
    exact ⟨set_blk (set_blk h2 0 (.string ⟨#[]⟩)) 1 (.string ⟨#[]⟩), ⟨l', blk_keep (blk_keep h1 hs1 (by omega)) hs2 (by omega)⟩, (h3.trans hs1 (fun i hi h => by omega)).trans hs2 (fun i hi h => by omega)⟩
  cases h1 : nameOk l with
  | false =>
    have hb : Hid (roleBad l = nameBad l) := hid (by rw [roleBad, if_neg (by rw [h1]; decide)])
    have hne : (nameBad l : Int) ≠ 0 := nameBad_ne l
    refine (nget_no X l w1 hl hX0 h1).mono ?_
    rintro e w2 ⟨rfl, ⟨l2, hX2⟩, hc2⟩
    rw [← hb.out] at hX2 hne
    have hC2 := blk_keep hC hc2 (by omega)
    go_wp2_with fail
    refine (nget_bad X l2 (roleBad l) w2 hne hX2).mono ?_
    rintro e w' ⟨rfl, rfl⟩
    have HH := hid (tail w2 l2 (roleBad l) hX2 hC2 ((hc0.mono (fun _ _ h => h.elim)).trans hc2 (fun _ _ h => h)))
    have x1 := cell_blk hX2 1
    have q0 := cell_blk hC2 0
    have q1 := cell_blk hC2 1
    have f0 := froz_blk hC2 0
    have f1 := froz_blk hC2 1
    have z2 : ((roleBad l : Int) != 0) = true := by rw [bne_iff_ne]; exact hne
    simp only [List.getElem?_toArray, List.getElem?_cons_zero, List.getElem?_cons_succ] at x1 q0 q1
    clear hX0 hc0 hC hX2 hc2 hC2 h1 hok hne tail
    generalize hbb : roleBad l = bad at *
    have HB := hid hbb
    clear hbb
    go_wp2
    refine bodyPost_ret (results_cell_row (P := Try.prog) rfl _ _ C 23 _ (0, 0) _ rfl HH.out.1 Try.underlying23 rfl (by kernel_rfl)) rfl ?_
    exact ⟨rfl, by rw [HB.out]; exact HH.out.2⟩
  | true =>
    have h2 : nameOk (nameRest l) = false := by simpa [roleOk, h1] using hok
    have hb : Hid (roleBad l = nameBad (nameRest l)) := hid (by rw [roleBad, if_pos h1])
    have hne : (nameBad (nameRest l) : Int) ≠ 0 := nameBad_ne _
    refine (nget_ok X l w1 hl hX0 h1).mono ?_
    rintro e w2 ⟨rfl, hX2, hc2⟩
    have hC2 := blk_keep hC hc2 (by omega)
    go_wp2_with fail
    refine (nget_no X (nameRest l) w2 (by omega) hX2 h2).mono ?_
    rintro e w3 ⟨rfl, ⟨l3, hX3⟩, hc3⟩
    rw [← hb.out] at hX3 hne
    have hC3 := blk_keep hC2 hc3 (by omega)
    have HH := hid (tail w3 l3 (roleBad l) hX3 hC3 (((hc0.mono (fun _ _ h => h.elim)).trans hc2 (fun _ _ h => h)).trans hc3 (fun _ _ h => h)))
    have x1 := cell_blk hX3 1
    have q0 := cell_blk hC3 0
    have q1 := cell_blk hC3 1
    have f0 := froz_blk hC3 0
    have f1 := froz_blk hC3 1
    have z2 : ((roleBad l : Int) != 0) = true := by rw [bne_iff_ne]; exact hne
    simp only [List.getElem?_toArray, List.getElem?_cons_zero, List.getElem?_cons_succ] at x1 q0 q1
    clear hX0 hc0 hC hX2 hc2 hC2 hX3 hc3 hC3 h1 h2 hok hne tail
    generalize hbb : roleBad l = bad at *
    have HB := hid hbb
    clear hbb
    generalize nameOf l = o at *
    go_wp2
    refine bodyPost_ret (results_cell_row (P := Try.prog) rfl _ _ C 23 _ (0, 0) _ rfl HH.out.1 Try.underlying23 rfl (by kernel_rfl)) rfl ?_
    exact ⟨rfl, by rw [HB.out]; exact HH.out.2⟩

/-- The document's Get of a role, and what End says then. -/
theorem rget_end (X : Nat) (l : List UInt8) (w : World) (hl : l.length ≤ 9223372036854775807) (hX : TapeAt w X l 0) :
    Calls Try.prog 61 #[.pointer (some ⟨X, 0, none⟩)] w fun e w' => e = .returned (roleV (roleGot l noRole)) ∧ (∃ l' e', TapeAt w' X l' e' ∧ tapeEnd l' e' = roleErr l) ∧ Chg (· = X) w w' := by
  cases hok : roleOk l with
  | true =>
    refine (rget_ok X l w hl hX hok).mono ?_
    rintro e w' ⟨rfl, h1, h2⟩
    exact ⟨by rw [roleGot, if_pos hok], ⟨_, _, h1, by rw [roleErr, if_pos hok]; rfl⟩, h2⟩
  | false =>
    have hne : ¬ (roleOk l = true) := by rw [hok]; decide
    refine (rget_no X l w hl hX hok).mono ?_
    rintro e w' ⟨rfl, ⟨l', h1⟩, h2⟩
    exact ⟨by rw [roleGot, if_neg hne], ⟨_, _, h1, by rw [roleErr, if_neg hne, tapeEnd, endOf, if_neg (roleBad_ne l)]⟩, h2⟩

end Go.Proofs.Ytjohiggfjpfbeaa

/- The contracts of the document's Right of layer 4. -/
namespace Go.Proofs.Ytjohiggfjpfbeaa
open Go.RowKit

theorem rright_ref (r : RoleB) (w : World) (h1 : r.1.length ≤ 9223372036854775807) (h2 : r.2.length ≤ 9223372036854775807) :
    Calls Try.prog 34 #[roleV r] w fun e w' => e = .returned (.bool (isRole r)) ∧ Chg (fun _ => False) w w' := by
  obtain ⟨o, x⟩ := r
  have hc : Chg (fun _ => False) w (w.alloc (.cells #[.string ⟨o.toArray⟩, .string ⟨x.toArray⟩] 23)) := (Chg.refl _ w).alloc _
  have HC := hid hc
  clear hc
  cases ho : isName o with
  | false =>
    have hh : Hid (isRole (o, x) = false) := hid (by simp [isRole, ho])
    show Calls Try.prog 34 #[.agg #[.string ⟨o.toArray⟩, .string ⟨x.toArray⟩]] w _
    go_enter Try.func34, Try.ntmps34
    go_wp2_with (go_at_call 35; refine (refright_any o _ h1).mono ?_; rintro e w' ⟨rfl, rfl⟩; rw [ho])
    go_ret
    exact ⟨by rw [hh.out]; rfl, HC.out⟩
  | true =>
    have hh : Hid (isRole (o, x) = isName x) := hid (by simp [isRole, ho])
    show Calls Try.prog 34 #[.agg #[.string ⟨o.toArray⟩, .string ⟨x.toArray⟩]] w _
    go_enter Try.func34, Try.ntmps34
    go_wp2_with fail
    refine (refright_any o _ h1).mono ?_
    rintro e w' ⟨rfl, rfl⟩
    rw [ho]
    go_wp2_with fail
    refine (refright_any x _ h2).mono ?_
    rintro e w' ⟨rfl, rfl⟩
    go_wp2
    go_ret
    exact ⟨by rw [hh.out]; rfl, HC.out⟩
end Go.Proofs.Ytjohiggfjpfbeaa

/- Which role a text is. -/
namespace Go.Proofs.Ytjohiggfjpfbeaa
open Go.RowKit

/-- The text ahead of the first full stop, and the one behind it. -/
def cutDot : List UInt8 → Option (List UInt8 × List UInt8)
  | [] => none
  | c :: l => if c.toNat = 46 then some ([], l) else (cutDot l).map fun p => (c :: p.1, p.2)
def parseR (s : List UInt8) : Option RoleB := match cutDot s with
  | none => none
  | some r => if isRole r = true then some r else none

theorem results_row_tmp {fn : Func} {p u : Tmp} {ty : TypeId} (h : fn.results = #[.cell p ty, .tmp u]) (tmps : Array Value) (w : World) (g : Nat) (cs : Array Value)
    (hp : tmps.getD p undef = .pointer (some ⟨g, 0, none⟩)) (hl : (loadVar ty ⟨g, 0, none⟩).run Try.prog w = .ok (.agg cs) w) :
    (results fn tmps).run Try.prog w = .ok (.tuple #[.agg cs, tmps.getD u undef]) w := by
  rw [results_cell_tmp h, hp]
  simp [asAddr, Result.andThen, hl]

theorem cutDot_none : ∀ (s : List UInt8), (∀ c ∈ s, c.toNat ≠ 46) → cutDot s = none
  | [], _ => rfl
  | c :: l, h => by
    rw [cutDot, if_neg (h c (by simp)), cutDot_none l (fun d hd => h d (List.mem_cons_of_mem _ hd))]
    rfl

theorem cutDot_at : ∀ (s : List UInt8) (k : Nat) (hk : k < s.length), (∀ c ∈ s.take k, c.toNat ≠ 46) → s[k].toNat = 46 → cutDot s = some (s.take k, s.drop (k + 1))
  | c :: l, 0, _, _, h => by
    have : c.toNat = 46 := h
    rw [cutDot, if_pos this]
    rfl
  | c :: l, k + 1, hk, hn, h => by
    rw [cutDot, if_neg (hn c (by simp)), cutDot_at l k (by simpa using hk) (fun d hd => hn d (by rw [List.take_succ_cons]; exact List.mem_cons_of_mem _ hd)) (by simpa using h)]
    rfl

def ParsePost (s : List UInt8) (w : World) (e : Ending) (w' : World) : Prop :=
  e = .returned (.tuple #[roleV ((parseR s).getD noRole), .bool (parseR s).isSome]) ∧ Chg (fun _ => False) w w'
end Go.Proofs.Ytjohiggfjpfbeaa

/- A number's bytes, written and read again. -/
namespace Go.Proofs.Ytjohiggfjpfbeaa
open Go.RowKit

theorem u8_eq {a b : UInt8} (h : a.toNat = b.toNat) : a = b := UInt8.toNat_inj.1 h

theorem digits_join (n m k : Nat) : n + (128 + m % 128 - 128) * 128 ^ k + m / 128 * 128 ^ (k + 1) = n + m * 128 ^ k := by
  have h1 : 128 + m % 128 - 128 = m % 128 := by omega
  have h2 : m % 128 + m / 128 * 128 = m := by omega
  rw [h1, Nat.pow_succ]
  generalize 128 ^ k = c
  have h3 : m / 128 * (c * 128) = m / 128 * 128 * c := by rw [Nat.mul_assoc, Nat.mul_comm c 128]
  rw [h3, Nat.add_assoc, ← Nat.add_mul, h2]

/-- What is written is read again. -/
theorem numN_enc : ∀ (f m k n : Nat) (r : List UInt8), (enc m).length ≤ f → (k = 0 ∨ 0 < m) → numN f (enc m ++ r) k n = (n + m * 128 ^ k, k + (enc m).length, 0)
  | 0, m, _, _, _, hf, _ => by have := enc_pos m; omega
  | f + 1, m, k, n, r, hf, hk => by
    by_cases h : m < 128
    · rw [enc_small h, List.singleton_append]
      unfold numN
      rw [ds_toNat h, if_neg (by omega), if_pos h]
      simp
    · rw [enc_big (by omega), List.cons_append]
      rw [enc_big (by omega), List.length_cons] at hf
      unfold numN
      have hm := Nat.mod_lt m (show 0 < 128 by decide)
      rw [dg_toNat, if_neg (by omega), if_neg (by omega), numN_enc f (m / 128) (k + 1) _ r (by omega) (.inr (by omega))]
      have e : n + (128 + m % 128 - 128) * 128 ^ k + m / 128 * 128 ^ (k + 1) = n + m * 128 ^ k := digits_join n m k
      rw [e, List.length_cons]
      congr 2
      omega

/-- What is read without an error was written so. -/
theorem numN_inv : ∀ (f : Nat) (l : List UInt8) (k n : Nat), (numN f l k n).2.2 = 0 →
    ∃ m, (k = 0 ∨ 0 < m) ∧ (numN f l k n).1 = n + m * 128 ^ k ∧ (numN f l k n).2.1 = k + (enc m).length ∧ l = enc m ++ l.drop (enc m).length
  | 0, _, _, _, h => by simp [numN] at h
  | _ + 1, [], _, _, h => by simp [numN] at h
  | f + 1, d :: l, k, n, h => by
    unfold numN at h ⊢
    by_cases h1 : d.toNat = 0 ∧ 0 < k
    · rw [if_pos h1] at h
      simp at h
    · rw [if_neg h1] at h ⊢
      by_cases h2 : d.toNat < 128
      · rw [if_pos h2]
        have e : enc d.toNat = [d] := by
          rw [enc_small h2]
          congr 1
          exact u8_eq (ds_toNat h2)
        refine ⟨d.toNat, by omega, rfl, ?_, ?_⟩
        · rw [e]; rfl
        · rw [e]; rfl
      · rw [if_neg h2] at h ⊢
        have hd := UInt8.toNat_lt d
        obtain ⟨m, hm, e1, e2, e3⟩ := numN_inv f l (k + 1) _ h
        have hm0 : 0 < m := by omega
        have e : enc (d.toNat - 128 + m * 128) = d :: enc m := by
          rw [enc_big (by omega)]
          have a1 : (d.toNat - 128 + m * 128) / 128 = m := by omega
          rw [a1]
          congr 1
          exact u8_eq (by rw [dg_toNat]; omega)
        refine ⟨d.toNat - 128 + m * 128, .inr (by omega), ?_, ?_, ?_⟩
        · rw [e1, Nat.add_mul, Nat.pow_succ, Nat.add_assoc, Nat.mul_assoc, Nat.mul_comm 128 (128 ^ k)]
        · rw [e2, e, List.length_cons]; omega
        · rw [e, List.length_cons, List.drop_succ_cons, List.cons_append, ← e3]

/-- A number ahead of other bytes. -/
theorem numN_enc9 {m : Nat} (h : m < 9223372036854775808) (r : List UInt8) : numN 9 (enc m ++ r) 0 0 = (m, (enc m).length, 0) := by
  rw [numN_enc 9 m 0 0 r (enc_length9 h) (.inl rfl)]
  simp

/-- The bytes that are left behind a number, and the number's. -/
theorem numN_take {l : List UInt8} (h : (numN 9 l 0 0).2.2 = 0) : l = enc (numN 9 l 0 0).1 ++ l.drop (numN 9 l 0 0).2.1 := by
  obtain ⟨m, _, e1, e2, e3⟩ := numN_inv 9 l 0 0 h
  simp only [Nat.pow_zero, Nat.mul_one, Nat.zero_add] at e1 e2
  rw [e1, e2]
  exact e3

end Go.Proofs.Ytjohiggfjpfbeaa

/- Roles put and got, told and parsed, and their order: plain words. -/
namespace Go.Proofs.Ytjohiggfjpfbeaa
open Go.RowKit

theorem cmpR_neg (a b : RoleB) : cmpR a b = -cmpR b a := by
  unfold cmpR
  rcases ltR_ord.tri a b with h | h | h
  · rw [h, ltR_ord.asymm h]; simp
  · subst h; rw [ltR_ord.irrefl]; simp
  · rw [h, ltR_ord.asymm h]; simp

theorem cmpR_bound (a b : RoleB) : -1 ≤ cmpR a b ∧ cmpR a b ≤ 1 := by
  unfold cmpR
  split
  · omega
  · split <;> omega

theorem cmpR_zero (a b : RoleB) : (cmpR a b == 0) = eqR a b := by
  unfold cmpR eqR
  rcases ltR_ord.tri a b with h | h | h
  · have hne : a ≠ b := fun e => by subst e; rw [ltR_ord.irrefl] at h; cases h
    rw [h]
    have : (a == b) = false := by simpa using hne
    rw [this]; rfl
  · subst h; rw [ltR_ord.irrefl]; simp
  · have hne : a ≠ b := fun e => by subst e; rw [ltR_ord.irrefl] at h; cases h
    rw [h, ltR_ord.asymm h]
    have : (a == b) = false := by simpa using hne
    rw [this]; rfl

theorem cmpR_le (a b : RoleB) : cmpR a b ≤ 0 ↔ ltR b a = false := by
  unfold cmpR
  cases h : ltR a b with
  | true => rw [ltR_ord.asymm h]; simp
  | false =>
    cases h2 : ltR b a with
    | true => simp
    | false => simp

theorem cmpR_trans (a b c : RoleB) (h1 : cmpR a b ≤ 0) (h2 : cmpR b c ≤ 0) : cmpR a c ≤ 0 := by
  rw [cmpR_le] at *
  cases h : ltR c a with
  | false => rfl
  | true =>
    rcases ltR_ord.tri a b with k | k | k
    · have := ltR_ord.trans _ _ _ h k; rw [h2] at this; cases this
    · subst k; rw [h] at h2; cases h2
    · rw [k] at h1; cases h1

theorem name_nodot {s : List UInt8} (h : isName s = true) : ∀ c ∈ s, c.toNat ≠ 46 := by
  cases s with
  | nil => intro c hc; cases hc
  | cons d l =>
    simp only [isName, Bool.and_eq_true] at h
    intro c hc he
    have := List.all_eq_true.1 h.2 c hc
    rcases okByte_yes this with k | k | k <;> omega

theorem cutDot_app : ∀ (o x : List UInt8), (∀ c ∈ o, c.toNat ≠ 46) → cutDot (o ++ (46 :: x)) = some (o, x)
  | [], x, _ => by rw [List.nil_append, cutDot, if_pos (by decide)]
  | c :: l, x, h => by
    rw [List.cons_append, cutDot, if_neg (h c (by simp)), cutDot_app l x (fun d hd => h d (List.mem_cons_of_mem _ hd))]
    rfl

theorem parse_text {r : RoleB} (h : isRole r = true) : parseR (roleText r) = some r := by
  have hn : isName r.1 = true := by simp only [isRole, Bool.and_eq_true] at h; exact h.1
  rw [parseR, roleText, cutDot_app r.1 r.2 (name_nodot hn)]
  exact if_pos h

theorem name_enc {o : List UInt8} (h : isName o = true) (x : List UInt8) : nameOk ((enc o.length ++ o) ++ x) = true ∧ nameOf ((enc o.length ++ o) ++ x) = o ∧ nameRest ((enc o.length ++ o) ++ x) = x := by
  have hl := isName_len h
  have hN := numN_enc9 (m := o.length) (by omega) (o ++ x)
  rw [← List.append_assoc] at hN
  have h1 : errText ((enc o.length ++ o) ++ x) 16 = 0 := by
    unfold errText
    rw [hN]
    simp only [if_true, List.length_append]
    rw [if_neg (by omega), if_neg (by omega)]
  have h2 : nameOf ((enc o.length ++ o) ++ x) = o := by
    unfold nameOf
    rw [hN]
    simp
  refine ⟨by rw [nameOk, decide_eq_true h1, h2, h]; rfl, h2, ?_⟩
  unfold nameRest
  rw [hN, List.append_assoc, ← List.drop_drop]
  simp

theorem role_put_got {r : RoleB} (h : isRole r = true) : roleErr (roleEnc r) = 0 ∧ roleGot (roleEnc r) noRole = r := by
  have hn : isName r.1 = true ∧ isName r.2 = true := by simpa [isRole] using h
  obtain ⟨a1, a2, a3⟩ := name_enc hn.1 (enc r.2.length ++ r.2)
  obtain ⟨b1, b2, b3⟩ := name_enc hn.2 []
  rw [List.append_nil] at b1 b2 b3
  have hok : roleOk (roleEnc r) = true := by rw [roleOk, roleEnc, a1, a3, b1]; rfl
  have hof : roleOf (roleEnc r) = r := by rw [roleOf, roleEnc, a2, a3, b2]
  have hrs : roleRest (roleEnc r) = [] := by rw [roleRest, roleEnc, a3, b3]
  exact ⟨by rw [roleErr, if_pos hok, hrs]; rfl, by rw [roleGot, if_pos hok, hof]⟩
end Go.Proofs.Ytjohiggfjpfbeaa

/- Which credential any bytes are, and the error; what is put is got: plain words. -/
namespace Go.Proofs.Ytjohiggfjpfbeaa
open Go.RowKit

/-- What comes next: an error, or a credential and what is left. -/
inductive GetC where
  | bad (e : Nat)
  | ok (c : CredB) (rest : List UInt8)

def numBad (l : List UInt8) : Nat := (numN 9 l 0 0).2.2
def numOf (l : List UInt8) : Nat := (numN 9 l 0 0).1
def numRest (l : List UInt8) : List UInt8 := l.drop (numN 9 l 0 0).2.1

/-- The last part, and whether it is right as a whole. -/
def getEnd (c : CredB) (l : List UInt8) : GetC := if isCred c then .ok c l else .bad 11
def getWord (c : CredB) (l : List UInt8) : GetC := if nameOk l then getEnd { c with w2 := nameOf l } (nameRest l) else .bad (nameBad l)
def getC (c : CredB) (l : List UInt8) : GetC := if roleOk l then getEnd { c with c := roleOf l } (roleRest l) else .bad (roleBad l)
def getB (c : CredB) (l : List UInt8) : GetC :=
  if roleOk l then (if c.kind = 3 then getWord { c with b := roleOf l } (roleRest l) else if c.kind = 4 then getC { c with b := roleOf l } (roleRest l) else getEnd { c with b := roleOf l } (roleRest l)) else .bad (roleBad l)
def getWho (c : CredB) (l : List UInt8) : GetC := if nameOk l then getEnd { c with who := nameOf l } (nameRest l) else .bad (nameBad l)
def getHead (k : Int) (l : List UInt8) : GetC :=
  if roleOk l then (if k = 1 then getWho { noCred with kind := k, head := roleOf l } (roleRest l) else getB { noCred with kind := k, head := roleOf l } (roleRest l)) else .bad (roleBad l)
def credGet (l : List UInt8) : GetC :=
  if numBad l = 0 then (if 1 ≤ numOf l ∧ numOf l ≤ 4 then getHead (numOf l : Nat) (numRest l) else .bad 11) else .bad (numBad l)

/-- How Read ends, and what was got. -/
def credErr (l : List UInt8) : Int := match credGet l with
  | .bad e => e
  | .ok _ rest => endOf 0 rest.length
def credGot (l : List UInt8) (z : CredB) : CredB := match credGet l with
  | .bad _ => z
  | .ok c _ => c

theorem role_enc {r : RoleB} (h : isRole r = true) (x : List UInt8) : roleOk (roleEnc r ++ x) = true ∧ roleOf (roleEnc r ++ x) = r ∧ roleRest (roleEnc r ++ x) = x := by
  have hn : isName r.1 = true ∧ isName r.2 = true := by simpa [isRole] using h
  obtain ⟨a1, a2, a3⟩ := name_enc hn.1 ((enc r.2.length ++ r.2) ++ x)
  obtain ⟨b1, b2, b3⟩ := name_enc hn.2 x
  have e : roleEnc r ++ x = (enc r.1.length ++ r.1) ++ ((enc r.2.length ++ r.2) ++ x) := by rw [roleEnc, List.append_assoc]
  rw [e]
  exact ⟨by rw [roleOk, a1, a3, b1]; rfl, by rw [roleOf, a2, a3, b2], by rw [roleRest, a3, b3]⟩

/-- A right credential's kind. -/
theorem isCred_kind {c : CredB} (h : isCred c = true) : c.kind = 1 ∨ c.kind = 2 ∨ c.kind = 3 ∨ c.kind = 4 := by
  unfold isCred at h
  by_cases h1 : c.kind = 1
  · exact .inl h1
  · by_cases h2 : c.kind = 2
    · exact .inr (.inl h2)
    · by_cases h3 : c.kind = 3
      · exact .inr (.inr (.inl h3))
      · rw [if_neg h1, if_neg h2, if_neg h3] at h
        simp only [Bool.and_eq_true, beq_iff_eq] at h
        exact .inr (.inr (.inr h.2.2.1))

theorem isCred_head {c : CredB} (h : isCred c = true) : isRole c.head = true := by
  unfold isCred at h
  simp only [Bool.and_eq_true] at h
  exact h.1

theorem isCred_one {c : CredB} (h : isCred c = true) (k : c.kind = 1) : isName c.who = true ∧ c.b = noneR ∧ c.c = noneR ∧ c.w2 = [] := by
  unfold isCred at h
  rw [if_pos k] at h
  simp only [Bool.and_eq_true, beq_iff_eq] at h
  exact h.2

theorem isCred_two {c : CredB} (h : isCred c = true) (k : c.kind = 2) : c.who = [] ∧ isRole c.b = true ∧ c.c = noneR ∧ c.w2 = [] := by
  unfold isCred at h
  rw [if_neg (by omega), if_pos k] at h
  simp only [Bool.and_eq_true, beq_iff_eq] at h
  exact ⟨h.2.1.1, h.2.1.2, h.2.2⟩

theorem isCred_three {c : CredB} (h : isCred c = true) (k : c.kind = 3) : c.who = [] ∧ isRole c.b = true ∧ c.c = noneR ∧ c.b.1 = c.head.1 ∧ isName c.w2 = true := by
  unfold isCred at h
  rw [if_neg (by omega), if_neg (by omega), if_pos k] at h
  simp only [Bool.and_eq_true, beq_iff_eq] at h
  exact ⟨h.2.1.1, h.2.1.2, h.2.2⟩

theorem isCred_four {c : CredB} (h : isCred c = true) (k : c.kind = 4) : c.who = [] ∧ isRole c.b = true ∧ c.w2 = [] ∧ isRole c.c = true ∧ ltR c.b c.c = true := by
  unfold isCred at h
  rw [if_neg (by omega), if_neg (by omega), if_neg (by omega)] at h
  simp only [Bool.and_eq_true, beq_iff_eq] at h
  exact ⟨h.2.1.1, h.2.1.2, h.2.2.2⟩

theorem num_enc {m : Nat} (h : m < 9223372036854775808) (x : List UInt8) : numBad (enc m ++ x) = 0 ∧ numOf (enc m ++ x) = m ∧ numRest (enc m ++ x) = x := by
  have hN := numN_enc9 h x
  exact ⟨by rw [numBad, hN], by rw [numOf, hN], by rw [numRest, hN]; simp⟩

/-- What has bytes is got. -/
theorem credGet_enc {c : CredB} (h : isCred c = true) (x : List UInt8) : credGet (credEnc c ++ x) = .ok c x := by
  have hk := isCred_kind h
  have hh := isCred_head h
  obtain ⟨k, hd, who, b, cc, w2⟩ := c
  dsimp only at hk hh
  have e : credEnc ⟨k, hd, who, b, cc, w2⟩ ++ x = enc k.toNat ++ (roleEnc hd ++ (credTail ⟨k, hd, who, b, cc, w2⟩ ++ x)) := by
    simp only [credEnc, List.append_assoc]
  obtain ⟨n1, n2, n3⟩ := num_enc (m := k.toNat) (by omega) (roleEnc hd ++ (credTail ⟨k, hd, who, b, cc, w2⟩ ++ x))
  obtain ⟨r1, r2, r3⟩ := role_enc hh (credTail ⟨k, hd, who, b, cc, w2⟩ ++ x)
  have hkk : ((k.toNat : Nat) : Int) = k := by omega
  rw [e, credGet, if_pos n1, n2, n3, if_pos (by omega), getHead, if_pos r1, r2, r3, hkk]
  rcases hk with k1 | k1 | k1 | k1
  · obtain ⟨a1, a2, a3, a4⟩ := isCred_one h k1
    dsimp only at a1 a2 a3 a4
    subst k1 a2 a3 a4
    obtain ⟨m1, m2, m3⟩ := name_enc a1 x
    rw [if_pos rfl, show credTail ⟨1, hd, who, noneR, noneR, []⟩ = enc who.length ++ who from rfl, getWho, if_pos m1, m2, m3, getEnd]
    exact if_pos h
  · obtain ⟨a1, a2, a3, a4⟩ := isCred_two h k1
    dsimp only at a1 a2 a3 a4
    subst k1 a1 a3 a4
    obtain ⟨m1, m2, m3⟩ := role_enc a2 x
    rw [if_neg (by decide), show credTail ⟨2, hd, [], b, noneR, []⟩ = roleEnc b from rfl, getB, if_pos m1, m2, m3]
    rw [if_neg (show ¬ (2 : Int) = 3 by decide), if_neg (show ¬ (2 : Int) = 4 by decide), getEnd]
    exact if_pos h
  · obtain ⟨a1, a2, a3, a4, a5⟩ := isCred_three h k1
    dsimp only at a1 a2 a3 a4 a5
    subst k1 a1 a3
    obtain ⟨m1, m2, m3⟩ := role_enc a2 (encS w2 ++ x)
    obtain ⟨q1, q2, q3⟩ := name_enc a5 x
    rw [if_neg (by decide), show credTail ⟨3, hd, [], b, noneR, w2⟩ = roleEnc b ++ encS w2 from rfl, List.append_assoc, getB, if_pos m1, m2, m3]
    rw [if_pos rfl, encS, getWord, if_pos q1, q2, q3, getEnd]
    exact if_pos h
  · obtain ⟨a1, a2, a3, a4, a5⟩ := isCred_four h k1
    dsimp only at a1 a2 a3 a4 a5
    subst k1 a1 a3
    obtain ⟨m1, m2, m3⟩ := role_enc a2 (roleEnc cc ++ x)
    obtain ⟨q1, q2, q3⟩ := role_enc a4 x
    rw [if_neg (by decide), show credTail ⟨4, hd, [], b, cc, []⟩ = roleEnc b ++ roleEnc cc from rfl, List.append_assoc, getB, if_pos m1, m2, m3]
    rw [if_neg (show ¬ (4 : Int) = 3 by decide), if_pos rfl, getC, if_pos q1, q2, q3, getEnd]
    exact if_pos h

theorem credEnc_inj {a b : CredB} (ha : isCred a = true) (hb : isCred b = true) (h : credEnc a = credEnc b) : a = b := by
  have h1 := credGet_enc ha []
  have h2 := credGet_enc hb []
  rw [h, h2] at h1
  cases h1
  rfl

theorem credEnc_ne (c : CredB) : credEnc c ≠ [] := by
  unfold credEnc
  have := enc_pos c.kind.toNat
  intro h
  have h2 := congrArg List.length h
  rw [List.length_append] at h2
  simp only [List.length_nil] at h2
  omega

/-- Two that compare as one are one, if they are right. -/
theorem cmpC_zero {a b : CredB} (ha : isCred a = true) (hb : isCred b = true) : cmpC a b = 0 ↔ a = b := by
  unfold cmpC credBytes
  rw [if_pos ha, if_pos hb]
  constructor
  · intro h
    rcases ltS_ord.tri (credEnc a) (credEnc b) with k | k | k
    · rw [if_pos k] at h; cases h
    · exact credEnc_inj ha hb k
    · have k2 := ltS_ord.asymm k
      rw [if_neg (by rw [k2]; decide), if_pos k] at h; cases h
  · rintro rfl
    have := ltS_ord.irrefl (credEnc a)
    rw [this]
    rfl

theorem cmpC_neg (a b : CredB) : cmpC a b = -cmpC b a := by
  unfold cmpC
  rcases ltS_ord.tri (credBytes a) (credBytes b) with k | k | k
  · rw [if_pos k, if_neg (by rw [ltS_ord.asymm k]; decide), if_pos k]
  · rw [k, ltS_ord.irrefl]; rfl
  · rw [if_neg (by rw [ltS_ord.asymm k]; decide), if_pos k, if_pos k]; rfl
end Go.Proofs.Ytjohiggfjpfbeaa

/- The order of credentials, made whole: by their bytes, then by their fields; sets of right ones: plain words. -/
namespace Go.Proofs.Ytjohiggfjpfbeaa
open Go.RowKit

theorem Ord.comap {α β : Type} {lt : β → β → Bool} (o : Ord lt) (f : α → β) (hf : ∀ a b, f a = f b → a = b) : Ord (fun a b => lt (f a) (f b)) where
  irrefl a := o.irrefl (f a)
  trans a b c h1 h2 := o.trans _ _ _ h1 h2
  tri a b := by
    rcases o.tri (f a) (f b) with h | h | h
    · exact .inl h
    · exact .inr (.inl (hf a b h))
    · exact .inr (.inr h)

def ltI (a b : Int) : Bool := decide (a < b)
theorem ltI_ord : Ord ltI where
  irrefl a := by simp [ltI]
  trans a b c h1 h2 := by simp only [ltI, decide_eq_true_eq] at *; omega
  tri a b := by simp only [ltI, decide_eq_true_eq]; omega

/-- Bytes first, then each field. -/
def credKey (c : CredB) : List UInt8 × (Int × (RoleB × (List UInt8 × (RoleB × (RoleB × List UInt8))))) := (credBytes c, (c.kind, (c.head, (c.who, (c.b, (c.c, c.w2))))))
def ltKey : (List UInt8 × (Int × (RoleB × (List UInt8 × (RoleB × (RoleB × List UInt8)))))) → (List UInt8 × (Int × (RoleB × (List UInt8 × (RoleB × (RoleB × List UInt8)))))) → Bool :=
  lexLt ltS (lexLt ltI (lexLt ltR (lexLt ltS (lexLt ltR (lexLt ltR ltS)))))
theorem ltKey_ord : Ord ltKey := lexLt_ord ltS_ord (lexLt_ord ltI_ord (lexLt_ord ltR_ord (lexLt_ord ltS_ord (lexLt_ord ltR_ord (lexLt_ord ltR_ord ltS_ord)))))
theorem credKey_inj (a b : CredB) (h : credKey a = credKey b) : a = b := by
  obtain ⟨k, hd, who, b1, c1, w2⟩ := a
  obtain ⟨k', hd', who', b1', c1', w2'⟩ := b
  simp only [credKey, Prod.mk.injEq] at h
  obtain ⟨_, h1, h2, h3, h4, h5, h6⟩ := h
  subst h1 h2 h3 h4 h5 h6
  rfl

def ltC (a b : CredB) : Bool := ltKey (credKey a) (credKey b)
theorem ltC_ord : Ord ltC := ltKey_ord.comap credKey credKey_inj
def SetC (ls out : List CredB) : Prop := SetG ltC isCred ls out
theorem SetC.one {ls a b : List CredB} (ha : SetC ls a) (hb : SetC ls b) : a = b := SetG.one ltC_ord ha hb

/-- Of right ones it is the bytes' order. -/
theorem ltC_right {a b : CredB} (ha : isCred a = true) (hb : isCred b = true) : ltC a b = ltS (credBytes a) (credBytes b) := by
  cases h : ltS (credBytes a) (credBytes b) with
  | true => simp [ltC, ltKey, lexLt, credKey, h]
  | false =>
    rcases ltC_ord.tri a b with k | k | k
    · rw [k]
      simp only [ltC, ltKey, credKey] at k
      rw [lexLt, Bool.or_eq_true, Bool.and_eq_true, beq_iff_eq] at k
      rcases k with k | ⟨k1, k2⟩
      · rw [show ltS (credBytes a) (credBytes b) = true from k] at h; cases h
      · have e : a = b := by
          unfold credBytes at k1
          simp only [ha, hb, if_true] at k1
          exact credEnc_inj ha hb k1
        subst e
        have := ltC_ord.irrefl a
        have h3 : ltC a a = true := by
          simp only [ltC, ltKey, credKey]
          rw [lexLt, Bool.or_eq_true, Bool.and_eq_true, beq_iff_eq]
          exact .inr ⟨rfl, k2⟩
        rw [this] at h3
        cases h3
    · subst k; exact ltC_ord.irrefl a
    · exact ltC_ord.asymm k

theorem cmpC_lt {a b : CredB} (ha : isCred a = true) (hb : isCred b = true) : decide (cmpC a b < 0) = ltC a b := by
  rw [ltC_right ha hb]
  unfold cmpC
  cases h : ltS (credBytes a) (credBytes b) with
  | true => simp
  | false => cases h2 : ltS (credBytes b) (credBytes a) <;> simp
end Go.Proofs.Ytjohiggfjpfbeaa

/- Lists of roles of the call's own. -/
namespace Go.Proofs.Ytjohiggfjpfbeaa
open Go.RowKit

theorem Try.info23 : (Try.prog.info? 23).map (fun i => (i.zero, i.size, i.bytes)) = some (some (.agg #[.string ⟨#[]⟩, .string ⟨#[]⟩]), 2, 32) := by kernel_rfl

theorem ownsRow_keep {S : Nat → Prop} {B E n s : Nat} {w w' : World} {v : Value} {xs : List Value} (h : w.ownsRow B E s v n xs) (hc : Chg S w w') (hr : ∀ k, v.ownBlock = some k → ¬ S k) : w'.ownsRow B E s v n xs := by
  refine ⟨h.1, ?_⟩
  rcases h.2 with hn | ⟨g, cap, cur, hv, hg, hh, r⟩
  · exact .inl hn
  · exact .inr ⟨g, cap, cur, hv, hg, blk_keep hh hc (hr g (by rw [hv]; rfl)), r⟩

theorem ownsRow_lt {B E n s : Nat} {w : World} {v : Value} {xs : List Value} (h : w.ownsRow B E s v n xs) (k : Nat) (hk : v.ownBlock = some k) : B ≤ k ∧ k < w.heap.size := by
  rcases h.2 with ⟨hn, _⟩ | ⟨g, cap, cur, hv, hg, hh, r⟩
  · rw [hn] at hk; cases hk
  · rw [hv] at hk; cases hk; exact ⟨hg, lt_blk hh⟩

def roleRow (ls : List RoleB) : List Value := ls.flatMap roleCells

theorem roleRow_length (ls : List RoleB) : (roleRow ls).length = ls.length * 2 := by
  induction ls with
  | nil => rfl
  | cons x l ih => simp only [roleRow, List.flatMap_cons, List.length_append, List.length_cons] at ih ⊢; rw [ih]; simp [roleCells]; omega

theorem roleRow_get : ∀ (ls : List RoleB) (i : Nat) (h : i < ls.length), (roleRow ls)[i * 2]? = some (.string ⟨ls[i].1.toArray⟩) ∧ (roleRow ls)[i * 2 + 1]? = some (.string ⟨ls[i].2.toArray⟩)
  | x :: l, 0, _ => ⟨rfl, rfl⟩
  | x :: l, i + 1, h => by
    have := roleRow_get l i (by simpa using h)
    have e : roleRow (x :: l) = .string ⟨x.1.toArray⟩ :: .string ⟨x.2.toArray⟩ :: roleRow l := rfl
    rw [e, show (i + 1) * 2 = i * 2 + 1 + 1 by omega]
    exact this

theorem roleRow_snoc (ls : List RoleB) (x : RoleB) : roleRow (ls ++ [x]) = roleRow ls ++ roleCells x := by
  simp [roleRow]

/-- A list of roles of the call's own. -/
def OwnR (B : Nat) (w : World) (v : Value) (ls : List RoleB) : Prop := w.ownsRow B 23 2 v ls.length (roleRow ls)

theorem OwnR.roles {B : Nat} {w : World} {v : Value} {ls : List RoleB} (h : OwnR B w v ls) (hb : ∀ x ∈ ls, x.1.length ≤ 9223372036854775807 ∧ x.2.length ≤ 9223372036854775807) :
    ∃ ao cap, v = .slice ao ls.length cap ∧ RolesAt (fun k => B ≤ k ∧ k < w.heap.size) w ao ls ∧ (ao = none → cap = 0) := by
  rcases h.2 with ⟨rfl, h0⟩ | ⟨g, cap, cur, rfl, hg, hh, h1, h2, h3, h4⟩
  · have : ls = [] := List.eq_nil_of_length_eq_zero h0
    subst this
    exact ⟨none, 0, rfl, RolesAt.nil _ _ _, fun _ => rfl⟩
  · refine ⟨_, _, rfl, fun i hi => ⟨g, 0, rfl, ⟨hg, lt_blk hh⟩, ?_, ?_, hb _ (List.getElem_mem hi)⟩, fun e => by cases e⟩
    · have := h.cells (g := g) rfl (i * 2) _ (roleRow_get ls i hi).1
      rw [add_off] at this
      exact this
    · have := h.cells (g := g) rfl (i * 2 + 1) _ (roleRow_get ls i hi).2
      rw [add_off] at this
      exact this

theorem OwnR.shape {B : Nat} {w : World} {v : Value} {ls : List RoleB} (h : OwnR B w v ls) : ∃ ao cap, v = .slice ao ls.length cap := by
  rcases h.2 with ⟨rfl, h0⟩ | ⟨g, cap, cur, rfl, _⟩
  · exact ⟨none, 0, by rw [h0]⟩
  · exact ⟨_, _, rfl⟩

theorem OwnR.keep {S : Nat → Prop} {B : Nat} {w w' : World} {v : Value} {ls : List RoleB} (h : OwnR B w v ls) (hc : Chg S w w') (hr : ∀ k, v.ownBlock = some k → ¬ S k) : OwnR B w' v ls := ownsRow_keep h hc hr

theorem role_cells_new (w : World) (x : RoleB) (j : Nat) (u : Value) (h : (roleCells x)[j]? = some u) : (w.alloc (.cells #[.string ⟨x.1.toArray⟩, .string ⟨x.2.toArray⟩] 23)).cell? ((⟨w.heap.size, 0, none⟩ : Addr).add j) = some u := by
  rw [add_off, cell_blk (heap_alloc_new w _), Nat.zero_add]
  match j, h with
  | 0, h => exact h
  | 1, h => exact h

/-- What Set leaves: the set, in new memory. -/
def SetPostR (ls : List RoleB) (w : World) (e : Ending) (w' : World) : Prop :=
  ∃ out ao cap, e = .returned (.slice ao out.length cap) ∧ SetR ls out ∧ RolesAt (fun k => w.heap.size ≤ k ∧ k < w'.heap.size) w' ao out ∧ Chg (fun _ => False) w w' ∧ (ao = none → cap = 0)

def lenOfV : Value → Nat
  | .slice _ n _ => n
  | _ => 0

theorem roles_lit (ls : List RoleB) (w : World) (f : Nat × Nat) (hb : ∀ x ∈ ls, x.1.length ≤ 9223372036854775807 ∧ x.2.length ≤ 9223372036854775807) :
    RolesAt (fun k => k = w.heap.size) (w.alloc (.cells (roleRow ls).toArray 23 f)) (some ⟨w.heap.size, 0, none⟩) ls := fun i hi =>
  ⟨w.heap.size, 0, rfl, rfl, by rw [cell_blk (heap_alloc_new w _), Nat.zero_add, List.getElem?_toArray]; exact (roleRow_get ls i hi).1, by rw [cell_blk (heap_alloc_new w _), Nat.zero_add, List.getElem?_toArray]; exact (roleRow_get ls i hi).2, hb _ (List.getElem_mem hi)⟩
end Go.Proofs.Ytjohiggfjpfbeaa

/- Lists of credentials of the call's own. -/
namespace Go.Proofs.Ytjohiggfjpfbeaa
open Go.RowKit

theorem Try.info25 : (Try.prog.info? 25).map (fun i => (i.zero, i.size, i.bytes)) = some (some (.agg #[.int .i64 0, .string ⟨#[]⟩, .string ⟨#[]⟩, .string ⟨#[]⟩, .string ⟨#[]⟩, .string ⟨#[]⟩, .string ⟨#[]⟩, .string ⟨#[]⟩, .string ⟨#[]⟩]), 9, 136) := by kernel_rfl

def credRow (ls : List CredB) : List Value := ls.flatMap credCells

theorem credRow_length (ls : List CredB) : (credRow ls).length = ls.length * 9 := by
  induction ls with
  | nil => rfl
  | cons x l ih => simp only [credRow, List.flatMap_cons, List.length_append, List.length_cons] at ih ⊢; rw [ih]; simp [credCells]; omega

theorem credRow_get : ∀ (ls : List CredB) (i j : Nat) (h : i < ls.length) (_ : j < 9), (credRow ls)[i * 9 + j]? = (credCells ls[i])[j]?
  | x :: l, 0, j, _, hj => by
    rw [show 0 * 9 + j = j by omega, credRow, List.flatMap_cons, List.getElem?_append_left (by simpa [credCells] using hj)]
    rfl
  | x :: l, i + 1, j, h, hj => by
    have := credRow_get l i j (by simpa using h) hj
    rw [credRow, List.flatMap_cons, List.getElem?_append_right (by simp [credCells]; omega)]
    rw [show (i + 1) * 9 + j - (credCells x).length = i * 9 + j by simp [credCells]; omega]
    exact this

theorem credRow_snoc (ls : List CredB) (x : CredB) : credRow (ls ++ [x]) = credRow ls ++ credCells x := by
  simp [credRow]

/-- A list of credentials of the call's own. -/
def OwnC (B : Nat) (w : World) (v : Value) (ls : List CredB) : Prop := w.ownsRow B 25 9 v ls.length (credRow ls)

theorem cred_at_cells {w : World} {g o : Nat} {c : CredB} (h : ∀ j, j < 9 → w.cell? ⟨g, o + j, none⟩ = (credCells c)[j]?) : CredAt w g o c :=
  ⟨h 0 (by omega), h 1 (by omega), h 2 (by omega), h 3 (by omega), h 4 (by omega), h 5 (by omega), h 6 (by omega), h 7 (by omega), h 8 (by omega)⟩

theorem OwnC.creds {B : Nat} {w : World} {v : Value} {ls : List CredB} (h : OwnC B w v ls) (hb : ∀ x ∈ ls, credShort x 9223372036854775807) :
    ∃ ao cap, v = .slice ao ls.length cap ∧ CredsAt (fun k => B ≤ k ∧ k < w.heap.size) w ao ls ∧ (ao = none → cap = 0) := by
  rcases h.2 with ⟨rfl, h0⟩ | ⟨g, cap, cur, rfl, hg, hh, h1, h2, h3, h4⟩
  · have : ls = [] := List.eq_nil_of_length_eq_zero h0
    subst this
    exact ⟨none, 0, rfl, CredsAt.nil _ _ _, fun _ => rfl⟩
  · refine ⟨_, _, rfl, fun i hi => ⟨g, 0, rfl, ⟨hg, lt_blk hh⟩, cred_at_cells fun j hj => ?_, hb _ (List.getElem_mem hi)⟩, fun e => by cases e⟩
    have hs : j < (credCells ls[i]).length := by simpa [credCells] using hj
    have hget := credRow_get ls i j hi hj
    rw [List.getElem?_eq_getElem hs] at hget ⊢
    have := h.cells (g := g) rfl (i * 9 + j) _ hget
    rw [add_off] at this
    rw [Nat.zero_add] at this ⊢
    exact this

theorem OwnC.shape {B : Nat} {w : World} {v : Value} {ls : List CredB} (h : OwnC B w v ls) : ∃ ao cap, v = .slice ao ls.length cap := by
  rcases h.2 with ⟨rfl, h0⟩ | ⟨g, cap, cur, rfl, _⟩
  · exact ⟨none, 0, by rw [h0]⟩
  · exact ⟨_, _, rfl⟩

theorem OwnC.keep {S : Nat → Prop} {B : Nat} {w w' : World} {v : Value} {ls : List CredB} (h : OwnC B w v ls) (hc : Chg S w w') (hr : ∀ k, v.ownBlock = some k → ¬ S k) : OwnC B w' v ls := ownsRow_keep h hc hr

theorem cred_cells_new (w : World) (x : CredB) (j : Nat) (u : Value) (h : (credCells x)[j]? = some u) : (w.alloc (.cells (credBox x) 25)).cell? ((⟨w.heap.size, 0, none⟩ : Addr).add j) = some u := by
  rw [add_off, cell_blk (heap_alloc_new w _), Nat.zero_add, show credBox x = (credCells x).toArray from rfl, List.getElem?_toArray]
  exact h

/-- What Set leaves: the set, in new memory. -/
def SetPostC (ls : List CredB) (w : World) (e : Ending) (w' : World) : Prop :=
  ∃ out ao cap, e = .returned (.slice ao out.length cap) ∧ SetC ls out ∧ CredsAt (fun k => w.heap.size ≤ k ∧ k < w'.heap.size) w' ao out ∧ Chg (fun _ => False) w w' ∧ (ao = none → cap = 0)

theorem isCred_short {c : CredB} (h : isCred c = true) : credShort c 16 := by
  have hh := isCred_head h
  simp only [isRole, Bool.and_eq_true] at hh
  have l1 := (isName_len hh.1).2
  have l2 := (isName_len hh.2).2
  have hr : ∀ r : RoleB, isRole r = true → r.1.length ≤ 16 ∧ r.2.length ≤ 16 := fun r hr => by
    simp only [isRole, Bool.and_eq_true] at hr
    exact ⟨(isName_len hr.1).2, (isName_len hr.2).2⟩
  rcases isCred_kind h with k | k | k | k
  · obtain ⟨a1, a2, a3, a4⟩ := isCred_one h k
    exact ⟨l1, l2, (isName_len a1).2, by rw [a2]; simp [noneR], by rw [a2]; simp [noneR], by rw [a3]; simp [noneR], by rw [a3]; simp [noneR], by rw [a4]; simp⟩
  · obtain ⟨a1, a2, a3, a4⟩ := isCred_two h k
    exact ⟨l1, l2, by rw [a1]; simp, (hr _ a2).1, (hr _ a2).2, by rw [a3]; simp [noneR], by rw [a3]; simp [noneR], by rw [a4]; simp⟩
  · obtain ⟨a1, a2, a3, a4, a5⟩ := isCred_three h k
    exact ⟨l1, l2, by rw [a1]; simp, (hr _ a2).1, (hr _ a2).2, by rw [a3]; simp [noneR], by rw [a3]; simp [noneR], (isName_len a5).2⟩
  · obtain ⟨a1, a2, a3, a4, a5⟩ := isCred_four h k
    exact ⟨l1, l2, by rw [a1]; simp, (hr _ a2).1, (hr _ a2).2, (hr _ a4).1, (hr _ a4).2, by rw [a3]; simp⟩
end Go.Proofs.Ytjohiggfjpfbeaa

/- The contracts of the program's Right, Text, Put, Get of layer 4. -/
namespace Go.Proofs.Ytjohiggfjpfbeaa
open Go.RowKit

theorem role_len {r : RoleB} (h : isRole r = true) : r.1.length ≤ 16 ∧ r.2.length ≤ 16 := by
  simp only [isRole, Bool.and_eq_true] at h
  exact ⟨(isName_len h.1).2, (isName_len h.2).2⟩

theorem pright (r : RoleB) (w : World) (h1 : r.1.length ≤ 9223372036854775807) (h2 : r.2.length ≤ 9223372036854775807) :
    Calls Try.prog 47 #[roleV r] w fun e w' => e = .returned (.bool (isRole r)) ∧ Chg (fun _ => False) w w' := by
  obtain ⟨o, x⟩ := r
  have hc : Chg (fun _ => False) w (w.alloc (.cells #[.string ⟨o.toArray⟩, .string ⟨x.toArray⟩] 23)) := (Chg.refl _ w).alloc _
  have HC := hid hc
  clear hc
  show Calls Try.prog 47 #[.agg #[.string ⟨o.toArray⟩, .string ⟨x.toArray⟩]] w _
  cases ho : isName o with
  | false =>
    have hh : Hid (isRole (o, x) = false) := hid (by simp [isRole, ho])
    go_enter Try.func47, Try.ntmps47
    go_wp2_with fail
    refine (right_any o _ h1).mono ?_
    rintro e w' ⟨rfl, rfl⟩
    rw [ho]
    go_wp2
    go_ret
    exact ⟨by rw [hh.out]; rfl, HC.out⟩
  | true =>
    have hh : Hid (isRole (o, x) = isName x) := hid (by simp [isRole, ho])
    go_enter Try.func47, Try.ntmps47
    go_wp2_with fail
    refine (right_any o _ h1).mono ?_
    rintro e w' ⟨rfl, rfl⟩
    rw [ho]
    go_wp2_with fail
    refine (right_any x _ h2).mono ?_
    rintro e w' ⟨rfl, rfl⟩
    go_wp2
    go_ret
    exact ⟨by rw [hh.out]; rfl, HC.out⟩

theorem ptext (r : RoleB) (w : World) (h1 : r.1.length ≤ 1048576) (h2 : r.2.length ≤ 1048576) :
    Calls Try.prog 49 #[roleV r] w fun e w' => e = .returned (.string ⟨(roleText r).toArray⟩) ∧ Chg (fun _ => False) w w' := by
  obtain ⟨o, x⟩ := r
  dsimp only at h1 h2
  have hc : Chg (fun _ => False) w (w.alloc (.cells #[.string ⟨o.toArray⟩, .string ⟨x.toArray⟩] 23)) := (Chg.refl _ w).alloc _
  have HC := hid hc
  clear hc
  show Calls Try.prog 49 #[.agg #[.string ⟨o.toArray⟩, .string ⟨x.toArray⟩]] w _
  have hb1 : ¬ 9223372036854775807 < o.length + 1 := by omega
  have hb2 : ¬ 9223372036854775807 < o.length + 1 + x.length := by omega
  go_enter Try.func49, Try.ntmps49
  go_wp2
  go_ret
  refine ⟨congrArg (fun b => Ending.returned (.string b)) ?_, HC.out⟩
  show (⟨o.toArray⟩ : ByteArray) ++ ⟨([46] : List UInt8).toArray⟩ ++ ⟨x.toArray⟩ = ⟨(roleText (o, x)).toArray⟩
  rw [ByteArray.mk_append_mk, ByteArray.mk_append_mk]
  simp [roleText]

theorem pput_no (p : Value) (r : RoleB) (w : World) (h1 : r.1.length ≤ 9223372036854775807) (h2 : r.2.length ≤ 9223372036854775807) (hn : isRole r = false) :
    Calls Try.prog 51 #[p, roleV r] w fun e w' => e = .returned (.bool false) ∧ Chg (fun _ => False) w w' := by
  obtain ⟨o, x⟩ := r
  have hc : Chg (fun _ => False) w (w.alloc (.cells #[.string ⟨o.toArray⟩, .string ⟨x.toArray⟩] 23)) := (Chg.refl _ w).alloc _
  show Calls Try.prog 51 #[p, .agg #[.string ⟨o.toArray⟩, .string ⟨x.toArray⟩]] w _
  go_enter Try.func51, Try.ntmps51
  go_wp2_with fail
  refine (pright (o, x) _ h1 h2).mono ?_
  rintro e w1 ⟨rfl, hc1⟩
  rw [hn]
  have HC := hid (hc.trans hc1 (fun _ _ h => h))
  clear hc hc1
  go_wp2
  go_ret
  exact ⟨rfl, HC.out⟩

theorem pput_nil (r : RoleB) (w : World) (h1 : r.1.length ≤ 9223372036854775807) (h2 : r.2.length ≤ 9223372036854775807) :
    Calls Try.prog 51 #[.pointer none, roleV r] w fun e w' => e = .returned (.bool false) ∧ Chg (fun _ => False) w w' := by
  cases hn : isRole r with
  | false => exact pput_no _ r w h1 h2 hn
  | true =>
    obtain ⟨o, x⟩ := r
    have hc : Chg (fun _ => False) w (w.alloc (.cells #[.string ⟨o.toArray⟩, .string ⟨x.toArray⟩] 23)) := (Chg.refl _ w).alloc _
    have hA := heap_alloc_new w (.cells #[.string ⟨o.toArray⟩, .string ⟨x.toArray⟩] 23)
    show Calls Try.prog 51 #[.pointer none, .agg #[.string ⟨o.toArray⟩, .string ⟨x.toArray⟩]] w _
    go_enter Try.func51, Try.ntmps51
    go_wp2_with fail
    refine (pright (o, x) _ h1 h2).mono ?_
    rintro e w1 ⟨rfl, hc1⟩
    rw [hn]
    have hA1 := blk_keep hA hc1 id
    have hcw := hc.trans hc1 (fun _ _ h => h)
    have a0 := cell_blk hA1 0
    simp only [List.getElem?_toArray, List.getElem?_cons_zero] at a0
    clear hc hc1 hA hA1
    go_wp2_with fail
    refine (put_nil o w1 h1).mono ?_
    rintro e w2 ⟨rfl, hc2⟩
    have HC := hid (hcw.trans hc2 (fun _ _ h => h))
    clear hcw hc2
    go_wp2
    go_ret
    exact ⟨rfl, HC.out⟩

set_option maxRecDepth 100000 in
theorem pput_yes (B P cap : Nat) (ao : Option Addr) (zs : List UInt8) (r : RoleB) (w : World) (hp : PenAt B w P ao cap zs) (hB : B ≤ w.heap.size) (hPB : P < B) (hx : zs.length ≤ 999000) (hn : isRole r = true) :
    Calls Try.prog 51 #[.pointer (some ⟨P, 0, none⟩), roleV r] w fun e w' => e = .returned (.bool true) ∧ PenPost B P ao (zs ++ roleEnc r) w w' := by
  obtain ⟨o, x⟩ := r
  have hl := role_len hn
  have hn2 : isName o = true ∧ isName x = true := by simpa [isRole] using hn
  dsimp only at hl
  have hc : Chg (fun _ => False) w (w.alloc (.cells #[.string ⟨o.toArray⟩, .string ⟨x.toArray⟩] 23)) := (Chg.refl _ w).alloc _
  have hA := heap_alloc_new w (.cells #[.string ⟨o.toArray⟩, .string ⟨x.toArray⟩] 23)
  have hPl := lt_blk hp.cell
  have hrow0 : ∀ k, rowOf ao = some k → B ≤ k ∧ k < w.heap.size := fun k hk => hp.row.lt k ((rowOf_block _ _ _).trans hk)
  have hp1 := hp.keep hc id (fun _ _ => id)
  show Calls Try.prog 51 #[.pointer (some ⟨P, 0, none⟩), .agg #[.string ⟨o.toArray⟩, .string ⟨x.toArray⟩]] w _
  go_enter Try.func51, Try.ntmps51
  go_wp2_with fail
  refine (pright (o, x) _ (by show o.length ≤ _; omega) (by show x.length ≤ _; omega)).mono ?_
  rintro e w1 ⟨rfl, hc1⟩
  rw [hn]
  have hA1 := blk_keep hA hc1 id
  have hp2 := hp1.keep hc1 id (fun _ _ => id)
  have hcw := hc.trans hc1 (fun _ _ h => h)
  have a0 := cell_blk hA1 0
  simp only [List.getElem?_toArray, List.getElem?_cons_zero] at a0
  clear hc hc1 hA hp1
  have hs1 := hcw.size
  go_wp2_with fail
  refine (put_yes B P cap ao zs o w1 hp2 (by omega) hPB (by omega) hn2.1).mono ?_
  rintro e w2 ⟨rfl, ao2, cap2, hp3, hch⟩
  have hA2 := blk_keep hA1 hch.chg (fun h => h.elim (fun h => by omega) (fun h => by have := (hrow0 _ h).2; omega))
  have hs2 := hch.chg.size
  have a1 := cell_blk hA2 1
  simp only [List.getElem?_toArray, List.getElem?_cons_zero, List.getElem?_cons_succ] at a1
  have hel : (enc o.length ++ o).length ≤ 32 := by rw [enc_small (by omega)]; simp; omega
  clear a0 hA1 hp2 hA2
  go_wp2_with fail
  refine (put_yes B P cap2 ao2 (zs ++ (enc o.length ++ o)) x w2 hp3 (by omega) hPB (by rw [List.length_append]; omega) hn2.2).mono ?_
  rintro e w3 ⟨rfl, ao3, cap3, hp4, hch2⟩
  have HH := hid (And.intro hp4 (And.intro hch2 (And.intro hch hcw)))
  clear hp3 hp4 hch hch2 hcw a1
  go_wp2
  go_ret
  obtain ⟨h4, h5, h6, h7⟩ := HH.out
  refine ⟨rfl, ao3, cap3, by rw [List.append_assoc] at h4; exact h4, ?_⟩
  have h8 := h6.trans h5
  refine ⟨(h7.mono (fun _ _ h => h.elim)).trans h8.chg (fun i _ h => h), ?_⟩
  rcases h8.row with h | ⟨g, k1, k2⟩
  · exact .inl h
  · have := h7.size
    exact .inr ⟨g, k1, by omega⟩
/-- Get of a role, of an open reader. -/
def GetOkR (D : Nat → Prop) (R : Nat) (l : List UInt8) (w : World) (e : Ending) (w' : World) : Prop :=
  e = .returned (roleV (roleOf l)) ∧ ∃ v', BytesAt D w' v' (roleRest l) ∧ ReaderAt w' R true v' 0 ∧ Chg (· = R) w w'

set_option maxRecDepth 100000 in
theorem pget_reads {D : Nat → Prop} {R : Nat} {v : Value} {l : List UInt8} {w : World} (hl : l.length ≤ 140737488355328) (hv : BytesAt D w v l) (hDR : ¬ D R) (hDl : ∀ i, D i → i < w.heap.size) (hR : ReaderAt w R true v 0) (hok : roleOk l = true) :
    Calls Try.prog 58 #[.pointer (some ⟨R, 0, none⟩)] w (GetOkR D R l w) := by
  have hok' : nameOk l = true ∧ nameOk (nameRest l) = true := by simpa [roleOk] using hok
  have hl1 := nameRest_len l
  clear hok
  have hc0 : Chg (fun _ => False) w (w.alloc (.cells #[.string ⟨#[]⟩, .string ⟨#[]⟩] 23)) := (Chg.refl _ w).alloc _
  have hC := heap_alloc_new w (.cells #[.string ⟨#[]⟩, .string ⟨#[]⟩] 23)
  have hR0 : ReaderAt _ R true v 0 := blk_keep hR hc0 id
  have hRC : R < w.heap.size := lt_blk hR
  have hv0 := hv.keep hc0 (fun _ _ => id)
  go_enter Try.func58, Try.ntmps58
  go_wp2_with fail
  generalize w.alloc (.cells #[.string ⟨#[]⟩, .string ⟨#[]⟩] 23) = w1 at *
  generalize hCC : w.heap.size = C at *
  refine (get_reads hl hv0 hDR hR0 hok'.1).mono ?_
  rintro e w2 ⟨rfl, v2, hv2, hR2, hc2⟩
  have hC2 := blk_keep hC hc2 (by omega)
  go_wp2_with fail
  refine (get_reads (by omega) hv2 hDR hR2 hok'.2).mono ?_
  rintro e w3 ⟨rfl, v3, hv3, hR3, hc3⟩
  have hC3 := blk_keep hC2 hc3 (by omega)
  have q0 := cell_blk hC3 0
  have q1 := cell_blk hC3 1
  have f0 := froz_blk hC3 0
  have f1 := froz_blk hC3 1
  simp only [List.getElem?_toArray, List.getElem?_cons_zero, List.getElem?_cons_succ] at q0 q1
  have hcw : Chg (· = R) w w3 := ((hc0.mono (fun _ _ h => h.elim)).trans hc2 (fun _ _ h => h)).trans hc3 (fun _ _ h => h)
  have HR : Hid (roleOf l = (nameOf l, nameOf (nameRest l))) := rfl
  have HRR : Hid (roleRest l = nameRest (nameRest l)) := rfl
  clear hv hR hR0 hv0 hc0 hC hv2 hR2 hc2 hC2 hc3 hok'
  generalize nameOf l = o at *
  generalize nameOf (nameRest l) = x at *
  generalize nameRest (nameRest l) = rest at *
  have hs1 := setCell_chg w3 C 0 (.string ⟨o.toArray⟩)
  have hs2 := setCell_chg (w3.setCell ⟨C, 0, none⟩ (.string ⟨o.toArray⟩)) C 1 (.string ⟨x.toArray⟩)
  have hsR : ReaderAt ((w3.setCell ⟨C, 0, none⟩ (.string ⟨o.toArray⟩)).setCell ⟨C, 1, none⟩ (.string ⟨x.toArray⟩)) R true v3 0 := blk_keep (blk_keep hR3 hs1 (by omega)) hs2 (by omega)
  have hsv := (hv3.keep hs1 (fun i hi h => by have := hDl i hi; omega)).keep hs2 (fun i hi h => by have := hDl i hi; omega)
  have hch : Chg (· = R) w ((w3.setCell ⟨C, 0, none⟩ (.string ⟨o.toArray⟩)).setCell ⟨C, 1, none⟩ (.string ⟨x.toArray⟩)) := (hcw.trans hs1 (fun i hi h => by omega)).trans hs2 (fun i hi h => by omega)
  have hD : ((w3.setCell ⟨C, 0, none⟩ (.string ⟨o.toArray⟩)).setCell ⟨C, 1, none⟩ (.string ⟨x.toArray⟩)).heap[C]? = some (.cells #[.string ⟨o.toArray⟩, .string ⟨x.toArray⟩] 23 (0, 0)) := set_blk (set_blk hC3 0 (.string ⟨o.toArray⟩)) 1 (.string ⟨x.toArray⟩)
  have HH := hid (And.intro hD (And.intro hsv (And.intro hsR hch)))
  clear hs1 hs2 hsR hch hcw hR3 hv3 hC3 hD hsv
  go_wp2
  refine bodyPost_ret (results_cell_row (P := Try.prog) rfl _ _ C 23 _ (0, 0) _ rfl HH.out.1 Try.underlying23 rfl (by kernel_rfl)) rfl ?_
  exact ⟨by rw [HR.out]; rfl, v3, by rw [HRR.out]; exact HH.out.2.1, HH.out.2.2⟩

set_option maxRecDepth 100000 in
theorem pget_stops {D : Nat → Prop} {R : Nat} {v : Value} {l : List UInt8} {w : World} (hl : l.length ≤ 140737488355328) (hv : BytesAt D w v l) (hDR : ¬ D R) (hR : ReaderAt w R true v 0) (hok : roleOk l = false) :
    Calls Try.prog 58 #[.pointer (some ⟨R, 0, none⟩)] w (Stops R (roleBad l) w) := by
  have hl1 := nameRest_len l
  have hc0 : Chg (fun _ => False) w (w.alloc (.cells #[.string ⟨#[]⟩, .string ⟨#[]⟩] 23)) := (Chg.refl _ w).alloc _
  have hR0 : ReaderAt _ R true v 0 := blk_keep hR hc0 id
  have hv0 := hv.keep hc0 (fun _ _ => id)
  have hc0' : Chg (· = R) w (w.alloc (.cells #[.string ⟨#[]⟩, .string ⟨#[]⟩] 23)) := hc0.mono (fun _ _ h => h.elim)
  cases h1 : nameOk l with
  | false =>
    have hb : roleBad l = nameBad l := by rw [roleBad, if_neg (by rw [h1]; decide)]
    rw [hb]
    have hst := get_stops hl hv0 hDR hR0 h1
    generalize nameBad l = bad at *
    clear hb h1 hok
    go_enter Try.func58, Try.ntmps58
    go_wp2_with fail
    refine hst.mono ?_
    rintro e w2 ⟨rfl, ao, m, cp, hr, hc⟩
    exact ⟨rfl, rfl, ao, m, cp, hr, hc0'.trans hc (fun _ _ h => h)⟩
  | true =>
    have h2 : nameOk (nameRest l) = false := by simpa [roleOk, h1] using hok
    have hb : roleBad l = nameBad (nameRest l) := by rw [roleBad, if_pos h1]
    rw [hb]
    have hrd := get_reads hl hv0 hDR hR0 h1
    go_enter Try.func58, Try.ntmps58
    go_wp2_with fail
    refine hrd.mono ?_
    rintro e w2 ⟨rfl, v2, hv2, hR2, hc2⟩
    have hst := get_stops (by omega) hv2 hDR hR2 h2
    have hcw := hc0'.trans hc2 (fun _ _ h => h)
    clear hb h1 h2 hok hrd hc0 hc0' hR0 hv0 hc2 hv hR hv2 hR2
    generalize nameBad (nameRest l) = bad at *
    generalize nameOf l = o at *
    go_wp2_with fail
    refine hst.mono ?_
    rintro e w3 ⟨rfl, ao, m, cp, hr, hc⟩
    exact ⟨rfl, rfl, ao, m, cp, hr, hcw.trans hc (fun _ _ h => h)⟩
end Go.Proofs.Ytjohiggfjpfbeaa
