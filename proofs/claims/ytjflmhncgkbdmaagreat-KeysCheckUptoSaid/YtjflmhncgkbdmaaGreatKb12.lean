/- Texts that the proof leans on, in one: RefRoleLess, RefCredRight, RefKey, PkIssuer. -/
import Derived.Test.YtjflmhncgkbdmaaGreatKb7
import Derived.Test.YtjflmhncgkbdmaaGreatKb2
import Derived.Test.YtjflmhncgkbdmaaGreatKb8
import Derived.Test.YtjflmhncgkbdmaaGreatKb10
import Derived.Test.YtjflmhncgkbdmaaGreatKb11
/- The contract of the document's Less of layer 4. -/
namespace Go.Proofs.YtjflmhncgkbdmaaGreat
open Go.RowKit

theorem less_ref (a b : RoleB) (w : World) :
    Calls Tryz.prog 77 #[roleV a, roleV b] w fun e w' => e = .returned (.bool (ltR a b)) ∧ Chg (fun _ => False) w w' := by
  obtain ⟨o, x⟩ := a
  obtain ⟨p, y⟩ := b
  have hc : Chg (fun _ => False) w ((w.alloc (.cells #[.string ⟨o.toArray⟩, .string ⟨x.toArray⟩] 33)).alloc (.cells #[.string ⟨p.toArray⟩, .string ⟨y.toArray⟩] 33)) := ((Chg.refl _ w).alloc _).alloc _
  have HC := hid hc
  clear hc
  show Calls Tryz.prog 77 #[.agg #[.string ⟨o.toArray⟩, .string ⟨x.toArray⟩], .agg #[.string ⟨p.toArray⟩, .string ⟨y.toArray⟩]] w _
  cases h1 : Op.bytesLess o p with
  | true =>
    have hh : Hid (ltR (o, x) (p, y) = true) := hid (by rw [ltR_def]; simp [ltS, h1])
    go_enter Tryz.func77, Tryz.ntmps77
    go_wp2
    go_ret
    exact ⟨by rw [hh.out]; rfl, HC.out⟩
  | false =>
    by_cases h2 : o = p
    · subst h2
      have e1 : (o == o) = true := by simp
      have hh : Hid (ltR (o, x) (o, y) = Op.bytesLess x y) := hid (by rw [ltR_def]; simp [ltS, h1])
      go_enter Tryz.func77, Tryz.ntmps77
      go_wp2
      go_ret
      exact ⟨by rw [hh.out]; rfl, HC.out⟩
    · have e1 : (o == p) = false := by simpa using h2
      have hh : Hid (ltR (o, x) (p, y) = false) := hid (by rw [ltR_def]; simp [ltS, h1, h2])
      clear h2
      go_enter Tryz.func77, Tryz.ntmps77
      go_wp2
      go_ret
      exact ⟨by rw [hh.out]; rfl, HC.out⟩
end Go.Proofs.YtjflmhncgkbdmaaGreat

/- The contract of the document's Right of layer 5. -/
namespace Go.Proofs.YtjflmhncgkbdmaaGreat
open Go.RowKit

theorem isCred_not1 {c : CredB} (k : c.kind ≠ 1) (h : (c.who == [] && isRole c.b) = false) : isCred c = false := by
  unfold isCred
  rw [if_neg k, h]
  simp

set_option maxRecDepth 100000 in
set_option maxHeartbeats 2000000 in
theorem cright_ref (c : CredB) (w : World) (hs : credShort c 9223372036854775807) :
    Calls Tryz.prog 45 #[credV c] w fun e w' => e = .returned (.bool (isCred c)) ∧ Chg (fun _ => False) w w' := by
  have hc0 : Chg (fun _ => False) w ((w.alloc (.cells (credBox c) 35)).alloc (.cells #[.string ⟨#[]⟩, .string ⟨#[]⟩] 33)) := ((Chg.refl _ w).alloc _).alloc _
  have hA := blk_keep (heap_alloc_new w (.cells (credBox c) 35)) ((Chg.refl (fun _ => False) _).alloc (.cells #[.string ⟨#[]⟩, .string ⟨#[]⟩] 33)) id
  have hN := heap_alloc_new (w.alloc (.cells (credBox c) 35)) (.cells #[.string ⟨#[]⟩, .string ⟨#[]⟩] 33)
  rw [show (w.alloc (.cells (credBox c) 35)).heap.size = w.heap.size + 1 by simp] at hN
  obtain ⟨k, ⟨ho, hw⟩, who, ⟨bo, bw⟩, ⟨co, cw⟩, w2⟩ := c
  obtain ⟨s1, s2, s3, s4, s5, s6, s7, s8⟩ := hs
  dsimp only at s1 s2 s3 s4 s5 s6 s7 s8
  have hd := cred_at_blk hA
  have n0 := cell_blk hN 0
  have n1 := cell_blk hN 1
  simp only [List.getElem?_toArray, List.getElem?_cons_zero, List.getElem?_cons_succ] at n0 n1
  obtain ⟨a0, a1, a2, a3, a4, a5, a6, a7, a8⟩ := hd
  simp only [Nat.zero_add] at a0 a1 a2 a3 a4 a5 a6 a7 a8
  show Calls Tryz.prog 45 #[.agg #[.int .i64 k, .string ⟨ho.toArray⟩, .string ⟨hw.toArray⟩, .string ⟨who.toArray⟩, .string ⟨bo.toArray⟩, .string ⟨bw.toArray⟩, .string ⟨co.toArray⟩, .string ⟨cw.toArray⟩, .string ⟨w2.toArray⟩]] w _
  clear hA hN
  cases hr : isRole (ho, hw) with
  | false =>
    have hh : Hid (isCred ⟨k, (ho, hw), who, (bo, bw), (co, cw), w2⟩ = false) := hid (by simp [isCred, hr])
    go_enter Tryz.func45, Tryz.ntmps45
    go_wp2_with fail
    refine (rright_ref (ho, hw) _ s1 s2).mono ?_
    rintro e w1 ⟨rfl, hc1⟩
    rw [hr]
    have HC := hid (hc0.trans hc1 (fun _ _ h => h))
    clear hc0 hc1
    go_wp2
    go_ret
    exact ⟨by rw [hh.out]; rfl, HC.out⟩
  | true =>
    go_enter Tryz.func45, Tryz.ntmps45
    go_wp2_with fail
    refine (rright_ref (ho, hw) _ s1 s2).mono ?_
    rintro e w1 ⟨rfl, hc1⟩
    rw [hr]
    have hcw := hc0.trans hc1 (fun _ _ h => h)
    replace a0 := hc1.cell a0 id
    replace a1 := hc1.cell a1 id
    replace a2 := hc1.cell a2 id
    replace a3 := hc1.cell a3 id
    replace a4 := hc1.cell a4 id
    replace a5 := hc1.cell a5 id
    replace a6 := hc1.cell a6 id
    replace a7 := hc1.cell a7 id
    replace a8 := hc1.cell a8 id
    replace n0 := hc1.cell n0 id
    replace n1 := hc1.cell n1 id
    have HC := hid hcw
    clear hc0 hc1 hcw
    by_cases k1 : k = 1
    · subst k1
      have hh : Hid (isCred ⟨1, (ho, hw), who, (bo, bw), (co, cw), w2⟩ = (isName who && ((bo == [] && bw == []) && ((co == [] && cw == []) && w2 == [])))) := hid (by
        simp only [isCred, hr, if_true, Bool.true_and]
        rfl)
      go_wp2_with fail
      refine (refright_any who _ s3).mono ?_
      rintro e w2 ⟨rfl, rfl⟩
      cases hx : isName who <;> clear s1 s2 s3 s4 s5 s6 s7 s8 <;> go_wp2 <;> (go_ret; refine ⟨congrArg (fun b => Ending.returned (.bool b)) ?_, HC.out⟩; rw [hh.out, hx]; simp [*])
    · by_cases hw0 : who = []
      · subst hw0
        have z1 : (k == 1) = false := beq_eq_false_iff_ne.2 k1
        go_wp2_with fail
        refine (rright_ref (bo, bw) _ s4 s5).mono ?_
        rintro e w3 ⟨rfl, hc3⟩
        replace a0 := hc3.cell a0 id
        replace a1 := hc3.cell a1 id
        replace a4 := hc3.cell a4 id
        replace a5 := hc3.cell a5 id
        replace a6 := hc3.cell a6 id
        replace a7 := hc3.cell a7 id
        replace a8 := hc3.cell a8 id
        replace n0 := hc3.cell n0 id
        replace n1 := hc3.cell n1 id
        have HC2 := hid (HC.out.trans hc3 (fun _ _ h => h))
        clear HC hc3 a2 a3
        cases hb : isRole (bo, bw) with
        | false =>
          have hh : Hid (isCred ⟨k, (ho, hw), [], (bo, bw), (co, cw), w2⟩ = false) := hid (isCred_not1 k1 (by simp [hb]))
          go_wp2
          go_ret
          exact ⟨by rw [hh.out]; rfl, HC2.out⟩
        | true =>
          have hh : Hid (isCred ⟨k, (ho, hw), [], (bo, bw), (co, cw), w2⟩ = (if k = 2 then (co == [] && cw == []) && w2 == [] else if k = 3 then (co == [] && cw == []) && (bo == ho && isName w2) else k == 4 && (w2 == [] && (isRole (co, cw) && ltR (bo, bw) (co, cw))))) := hid (by
            simp only [isCred, hr, hb, if_neg k1, Bool.true_and, Bool.and_true]
            rfl)
          by_cases k2 : k = 2
          · subst k2
            clear s1 s2 s3 s4 s5 s6 s7 s8
            go_wp2 <;> (go_ret; refine ⟨congrArg (fun b => Ending.returned (.bool b)) ?_, HC2.out⟩; rw [hh.out]; simp [*])
          · have z2 : (k == 2) = false := beq_eq_false_iff_ne.2 k2
            by_cases k3 : k = 3
            · subst k3
              clear s1 s2 s3 s4 s5 s6 s7
              go_wp2_with fail
              · refine (refright_any w2 _ s8).mono ?_
                rintro e w4 ⟨rfl, rfl⟩
                generalize isName w2 = nw at *
                go_wp2
                go_ret
                exact ⟨congrArg (fun b => Ending.returned (.bool b)) (by rw [hh.out]; simp [*]), HC2.out⟩
              all_goals (go_ret; exact ⟨congrArg (fun b => Ending.returned (.bool b)) (by rw [hh.out]; simp [*]), HC2.out⟩)
            · have z3 : (k == 3) = false := beq_eq_false_iff_ne.2 k3
              by_cases k4 : k = 4
              · subst k4
                by_cases hz : w2 = []
                · subst hz
                  go_wp2_with fail
                  refine (rright_ref (co, cw) _ s6 s7).mono ?_
                  rintro e w4 ⟨rfl, hc4⟩
                  replace a4 := hc4.cell a4 id
                  replace a5 := hc4.cell a5 id
                  replace a6 := hc4.cell a6 id
                  replace a7 := hc4.cell a7 id
                  have HC3 := hid (HC2.out.trans hc4 (fun _ _ h => h))
                  clear HC2 hc4 a0 a1 a8 n0 n1
                  cases hcr : isRole (co, cw) with
                  | false =>
                    rw [hcr] at hh
                    go_wp2
                    go_ret
                    exact ⟨by rw [hh.out]; rfl, HC3.out⟩
                  | true =>
                    rw [hcr] at hh
                    go_wp2_with fail
                    refine (less_ref (bo, bw) (co, cw) _).mono ?_
                    rintro e w5 ⟨rfl, hc5⟩
                    have HC4 := hid (HC3.out.trans hc5 (fun _ _ h => h))
                    clear HC3 hc5
                    generalize ltR (bo, bw) (co, cw) = lt at *
                    go_wp2
                    go_ret
                    exact ⟨by rw [hh.out]; rfl, HC4.out⟩
                · clear s1 s2 s3 s4 s5 s6 s7 s8
                  go_wp2
                  go_ret
                  exact ⟨congrArg (fun b => Ending.returned (.bool b)) (by rw [hh.out]; simp [*]), HC2.out⟩
              · have z4 : (k == 4) = false := beq_eq_false_iff_ne.2 k4
                clear s1 s2 s3 s4 s5 s6 s7 s8
                go_wp2
                go_ret
                exact ⟨congrArg (fun b => Ending.returned (.bool b)) (by rw [hh.out]; simp [*]), HC2.out⟩
      · have hh : Hid (isCred ⟨k, (ho, hw), who, (bo, bw), (co, cw), w2⟩ = false) := hid (isCred_not1 k1 (by simp [hw0]))
        have z1 : (k == 1) = false := beq_eq_false_iff_ne.2 k1
        have z0 : (who != []) = true := by simp [hw0]
        clear s1 s2 s3 s4 s5 s6 s7 s8
        go_wp2
        go_ret
        exact ⟨by rw [hh.out]; rfl, HC.out⟩
end Go.Proofs.YtjflmhncgkbdmaaGreat

/- Whose key signs: the contract of the document's key, of layer 6. -/
namespace Go.Proofs.YtjflmhncgkbdmaaGreat
open Go.RowKit

def keyStr (l : List KeyB) (c : CredB) : List UInt8 := if signErr l c = 0 then keyOf l c.head.1 else []

set_option maxRecDepth 100000 in
set_option maxHeartbeats 2000000 in
theorem rkey_any {D : Nat → Prop} (ao : Option Addr) (cp : Nat) (l : List KeyB) (c : CredB) (w : World) (hn : l.length ≤ 4611686018427387904) (h : KeysAt D w ao l) (hs : credShort c 9223372036854775807) :
    Calls Tryz.prog 40 #[.slice ao l.length cp, credV c] w fun e w' => e = .returned (.tuple #[.string ⟨(keyStr l c).toArray⟩, .int .i64 (signErr l c)]) ∧ Chg (fun _ => False) w w' := by
  have hA1 : (w.alloc (.cells #[.int .i64 c.kind, .string ⟨c.head.1.toArray⟩, .string ⟨c.head.2.toArray⟩, .string ⟨c.who.toArray⟩, .string ⟨c.b.1.toArray⟩, .string ⟨c.b.2.toArray⟩, .string ⟨c.c.1.toArray⟩, .string ⟨c.c.2.toArray⟩, .string ⟨c.w2.toArray⟩] 35)).heap[w.heap.size]? = some (.cells (credBox c) 35 (0, 0)) := heap_alloc_new w _
  have hc1 : Chg (fun _ => False) w (w.alloc (.cells #[.int .i64 c.kind, .string ⟨c.head.1.toArray⟩, .string ⟨c.head.2.toArray⟩, .string ⟨c.who.toArray⟩, .string ⟨c.b.1.toArray⟩, .string ⟨c.b.2.toArray⟩, .string ⟨c.c.1.toArray⟩, .string ⟨c.c.2.toArray⟩, .string ⟨c.w2.toArray⟩] 35)) := (Chg.refl _ w).alloc _
  have hrt := cright_ref c (w.alloc (.cells #[.int .i64 c.kind, .string ⟨c.head.1.toArray⟩, .string ⟨c.head.2.toArray⟩, .string ⟨c.who.toArray⟩, .string ⟨c.b.1.toArray⟩, .string ⟨c.b.2.toArray⟩, .string ⟨c.c.1.toArray⟩, .string ⟨c.c.2.toArray⟩, .string ⟨c.w2.toArray⟩] 35)) hs
  have HH := hid (And.intro hrt (And.intro hA1 hc1))
  clear hrt hA1 hc1
  show Calls Tryz.prog 40 #[.slice ao l.length cp, .agg #[.int .i64 c.kind, .string ⟨c.head.1.toArray⟩, .string ⟨c.head.2.toArray⟩, .string ⟨c.who.toArray⟩, .string ⟨c.b.1.toArray⟩, .string ⟨c.b.2.toArray⟩, .string ⟨c.c.1.toArray⟩, .string ⟨c.c.2.toArray⟩, .string ⟨c.w2.toArray⟩]] w _
  go_enter Tryz.func40, Tryz.ntmps40
  go_wp2_with fail
  obtain ⟨hrt, hA1, hc1⟩ := HH.out
  clear HH
  refine hrt.mono ?_
  rintro e w2 ⟨rfl, hc12⟩
  have hA2 := blk_keep hA1 hc12 id
  have hc2 := hc1.trans hc12 (fun _ _ h => h)
  clear hrt hA1 hc1 hc12
  generalize w.heap.size = A at *
  cases hi : isCred c with
  | false =>
    have HF : Hid (signErr l c = 11 ∧ keyStr l c = []) := hid (by
      have : signErr l c = 11 := by rw [signErr, hi]; rfl
      exact ⟨this, by rw [keyStr, this]; rfl⟩)
    have HC := hid hc2
    clear hA2 hc2 hi h
    go_wp2
    go_ret2
    exact ⟨by rw [HF.out.1, HF.out.2]; rfl, HC.out⟩
  | true =>
    have HI := hid hi
    have h2 := h.keep hc2 (fun _ _ => id)
    clear h hi
    go_wp2
    go_loopw [13] (fun i wr => ∃ k : Nat, k ≤ l.length ∧ i = .int .i64 k ∧ Hid (hasWho (l.take k) c.head.1 = false) ∧ Chg (fun _ => False) w2 wr) (fun i _ => l.length - (intOf i).toNat)
    case atStart => exact ⟨0, Nat.zero_le _, rfl, by rw [List.take_zero]; rfl, Chg.refl _ _⟩
    case round =>
      obtain ⟨k, hk, rfl, hf, hc3⟩ := hrel
      have hcw := hc2.trans hc3 (fun _ _ h => h)
      by_cases hlt : k < l.length
      · obtain ⟨b, off, rfl, _, hka⟩ := (h2.keep hc3 (fun _ _ => id)) k hlt
        obtain ⟨q, hq⟩ : ∃ q, q = l[k] := ⟨_, rfl⟩
        rw [← hq] at hka
        obtain ⟨c0, ⟨ka, cap, c1, hby⟩, l0, l1⟩ := hka
        have hA3 := blk_keep hA2 hc3 id
        obtain ⟨a0, a1, a2, a3, a4, a5, a6, a7, a8⟩ := cred_at_blk hA3
        simp only [Nat.zero_add] at a1
        clear a0 a2 a3 a4 a5 a6 a7 a8
        have hAlt := lt_blk hA3
        have hal : Chg (fun _ => False) wr (wr.alloc (.cells #[.string ⟨q.who.toArray⟩, .slice ka q.key.length cap] 72)) := (Chg.refl _ wr).alloc _
        have hcv := conv_bytes (hby.keep hal (fun _ _ => id))
        have HC := hid (And.intro hcw (And.intro hal hc3))
        have HQ := hid hq
        have HA := hid hA2
        have H2 := hid h2
        clear hcw hal hc3 hA2 hA3 h2 hc2 hby hq
        by_cases he : q.who = c.head.1
        · have HF : Hid (signErr l c = 0 ∧ keyStr l c = q.key) := hid (by
            obtain ⟨h1, h3⟩ := keyAt_first (o := c.head.1) hf.out hlt (by rw [← HQ.out]; exact he)
            have : signErr l c = 0 := by rw [signErr, HI.out, if_pos rfl, if_pos h3]
            exact ⟨this, by rw [keyStr, this, if_pos rfl, keyOf, h1, HQ.out]; rfl⟩)
          have e2 : (q.who == c.head.1) = true := beq_iff_eq.2 he
          clear he
          go_wp2
          go_ret2
          exact ⟨by rw [HF.out.1, HF.out.2]; rfl, HC.out.1.trans HC.out.2.1 (fun _ _ h => h)⟩
        · have HX : Hid (hasWho (l.take (k + 1)) c.head.1 = false) := hid (hasWho_take hlt hf.out (by rw [← HQ.out]; exact he))
          have e2 : (q.who == c.head.1) = false := beq_eq_false_iff_ne.2 he
          clear he hcv
          go_wp2
          go_roundw
          case rel => exact ⟨k + 1, by omega, by go_num, HX, HC.out.2.2.trans HC.out.2.1 (fun _ _ h => h)⟩
          case measure => simp [intOf]; omega
      · have HF : Hid (signErr l c = 21 ∧ keyStr l c = []) := hid (by
          have h1 := hf.out
          rw [List.take_of_length_le (by omega)] at h1
          have : signErr l c = 21 := by rw [signErr, HI.out, if_pos rfl, h1]; rfl
          exact ⟨this, by rw [keyStr, this]; rfl⟩)
        have HC := hid hcw
        clear hcw hc3 hc2 hA2 h2
        go_wp2
        go_ret2
        exact ⟨by rw [HF.out.1, HF.out.2]; rfl, HC.out⟩
end Go.Proofs.YtjflmhncgkbdmaaGreat

/- The contract of the program's way to find the key that signs a credential. -/
namespace Go.Proofs.YtjflmhncgkbdmaaGreat
open Go.RowKit Go.Maps

def IssPost (D : Nat → Prop) (l : List KeyB) (c : CredB) (w : World) (e : Ending) (w' : World) : Prop :=
  ∃ ao cap, e = .returned (.tuple #[.slice ao (keyStr l c).length cap, .int .i64 (signErr l c : Nat)]) ∧ BytesAt D w' (.slice ao (keyStr l c).length cap) (keyStr l c) ∧ Chg (fun _ => False) w w'

theorem piss_nil (c : CredB) (w : World) : Calls Tryz.prog 33 #[.pointer none, credV c] w fun e w' => e = .returned (.tuple #[.slice none 0 0, .int .i64 1]) ∧ Chg (fun _ => False) w w' := by
  have HC := hid (show Chg (fun _ => False) w (w.alloc (.cells #[.int .i64 c.kind, .string ⟨c.head.1.toArray⟩, .string ⟨c.head.2.toArray⟩, .string ⟨c.who.toArray⟩, .string ⟨c.b.1.toArray⟩, .string ⟨c.b.2.toArray⟩, .string ⟨c.c.1.toArray⟩, .string ⟨c.c.2.toArray⟩, .string ⟨c.w2.toArray⟩] 35)) from (Chg.refl _ w).alloc _)
  show Calls Tryz.prog 33 #[.pointer none, .agg #[.int .i64 c.kind, .string ⟨c.head.1.toArray⟩, .string ⟨c.head.2.toArray⟩, .string ⟨c.who.toArray⟩, .string ⟨c.b.1.toArray⟩, .string ⟨c.b.2.toArray⟩, .string ⟨c.c.1.toArray⟩, .string ⟨c.c.2.toArray⟩, .string ⟨c.w2.toArray⟩]] w _
  go_enter Tryz.func33, Tryz.ntmps33
  go_wp2
  go_ret2
  exact ⟨rfl, HC.out⟩

def issSpecs (g A mb : Nat) (o : List UInt8) (v : Value) (b : Bool) : List Spec := [.eq (.pointer (some ⟨g, 0, none⟩)), .any, .any, .eq (.pointer (some ⟨A, 0, none⟩)), .any, .any, .eq (v), .eq (.bool b), .any, .any, .any, .any, .any, .eq (.tuple #[v, .bool b]), .eq (.pointer (some ⟨g, 0, none⟩)), .eq (.pointer (some ⟨g, 0, none⟩)), .eq (.pointer (some ⟨g, 0, none⟩)), .eq (.map (some mb)), .eq (.pointer (some ⟨A, 1, none⟩)), .eq (.pointer (some ⟨A, 1, none⟩)), .eq (.string ⟨o.toArray⟩), .eq (.tuple #[v, .bool b]), .eq (v), .eq (.bool b)]

set_option maxRecDepth 100000 in
set_option maxHeartbeats 2000000 in
theorem piss {D : Nat → Prop} (g : Nat) (l : List KeyB) (c : CredB) (w : World) (h : RegAt D w g l) (hs : credShort c 9223372036854775807) :
    Calls Tryz.prog 33 #[.pointer (some ⟨g, 0, none⟩), credV c] w (IssPost D l c w) := by
  obtain ⟨⟨mb, hg, _, hM⟩, _⟩ := h
  have hA1 : (w.alloc (.cells #[.int .i64 c.kind, .string ⟨c.head.1.toArray⟩, .string ⟨c.head.2.toArray⟩, .string ⟨c.who.toArray⟩, .string ⟨c.b.1.toArray⟩, .string ⟨c.b.2.toArray⟩, .string ⟨c.c.1.toArray⟩, .string ⟨c.c.2.toArray⟩, .string ⟨c.w2.toArray⟩] 35)).heap[w.heap.size]? = some (.cells (credBox c) 35 (0, 0)) := heap_alloc_new w _
  have hc1 : Chg (fun _ => False) w (w.alloc (.cells #[.int .i64 c.kind, .string ⟨c.head.1.toArray⟩, .string ⟨c.head.2.toArray⟩, .string ⟨c.who.toArray⟩, .string ⟨c.b.1.toArray⟩, .string ⟨c.b.2.toArray⟩, .string ⟨c.c.1.toArray⟩, .string ⟨c.c.2.toArray⟩, .string ⟨c.w2.toArray⟩] 35)) := (Chg.refl _ w).alloc _
  have hrt := pcright c (w.alloc (.cells #[.int .i64 c.kind, .string ⟨c.head.1.toArray⟩, .string ⟨c.head.2.toArray⟩, .string ⟨c.who.toArray⟩, .string ⟨c.b.1.toArray⟩, .string ⟨c.b.2.toArray⟩, .string ⟨c.c.1.toArray⟩, .string ⟨c.c.2.toArray⟩, .string ⟨c.w2.toArray⟩] 35)) hs
  have HH := hid (And.intro hrt (And.intro hA1 (And.intro hc1 (And.intro (blk_keep hg hc1 id) (hM.keep hc1 id (fun _ _ => id))))))
  have HO := hid hs.1
  clear hrt hA1 hc1 hg hM hs
  show Calls Tryz.prog 33 #[.pointer (some ⟨g, 0, none⟩), .agg #[.int .i64 c.kind, .string ⟨c.head.1.toArray⟩, .string ⟨c.head.2.toArray⟩, .string ⟨c.who.toArray⟩, .string ⟨c.b.1.toArray⟩, .string ⟨c.b.2.toArray⟩, .string ⟨c.c.1.toArray⟩, .string ⟨c.c.2.toArray⟩, .string ⟨c.w2.toArray⟩]] w _
  go_enter Tryz.func33, Tryz.ntmps33
  go_wp2_with fail
  obtain ⟨hrt, hA1, hc1, hg, hM⟩ := HH.out
  clear HH
  generalize (w.alloc (.cells #[.int .i64 c.kind, .string ⟨c.head.1.toArray⟩, .string ⟨c.head.2.toArray⟩, .string ⟨c.who.toArray⟩, .string ⟨c.b.1.toArray⟩, .string ⟨c.b.2.toArray⟩, .string ⟨c.c.1.toArray⟩, .string ⟨c.c.2.toArray⟩, .string ⟨c.w2.toArray⟩] 35)) = w1 at *
  refine hrt.mono ?_
  rintro e w2 ⟨rfl, hc12⟩
  have hA2 := (cred_at_blk (blk_keep hA1 hc12 id)).k1
  have hg2 := blk_keep hg hc12 id
  have hc2 := hc1.trans hc12 (fun _ _ h => h)
  have hM2 := hM.keep hc12 id (fun _ _ => id)
  clear hrt hA1 hg hc1 hM hc12
  obtain ⟨A, hAe⟩ : ∃ A, w.heap.size = A := ⟨_, rfl⟩
  simp only [hAe] at hA2
  have HX := hid (And.intro hg2 hA2)
  have HC := hid hc2
  have HM := hid hM2
  have HAe := hid hAe
  simp only [hAe]
  clear hA2 hg2 hc2 hM2 hAe
  cases hi : isCred c with
  | false =>
    have HF : Hid (signErr l c = 11 ∧ keyStr l c = []) := hid (by
      have : signErr l c = 11 := by rw [signErr, if_neg (by rw [hi]; decide)]
      exact ⟨this, by rw [keyStr, if_neg (by rw [this]; decide)]⟩)
    clear hi
    go_wp2
    go_ret2
    exact ⟨none, 0, by rw [HF.out.1, HF.out.2]; rfl, by rw [HF.out.2]; exact BytesAt.nil _ _, HC.out⟩
  | true =>
    have HI := hid hi
    clear hi
    go_wp2_with fail
    obtain ⟨o, ho⟩ : ∃ o, c.head.1 = o := ⟨_, rfl⟩
    have hol := HO.out
    rw [ho] at HX hol
    have HOe := hid ho
    clear ho HO
    cases hno : hasWho l o with
    | true =>
          obtain ⟨ao, cp, hba, hlk⟩ := HM.out.look hol hno
          obtain ⟨v, hve⟩ : ∃ v, Value.slice ao (keyOf l o).length cp = v := ⟨_, rfl⟩
          obtain ⟨b, hbv⟩ : ∃ b, true = b := ⟨_, rfl⟩
          have HL : Hid (∀ w', Chg (fun _ => False) w2 w' → (Instr.lookup 74 (.map (some mb)) (.string ⟨o.toArray⟩) true).run Tryz.prog w' = .ok (.tuple #[v, .bool b]) w') := hid (fun w' hc => by rw [← hbv, ← hve]; exact hlk w' (hc.block mb HM.out.lt id))
          have HB := hid (And.intro hve (And.intro hbv (And.intro hba hno)))
          clear hve hbv hba hno hlk
          refine wp_region_specs (issSpecs g A mb o v b) [14, 15, 16, 17, 18, 19, 20, 21, 13, 22, 23, 6, 7] [0, 3] (by kernel_rfl) (by kernel_rfl) (by rfl) (by kernel_rfl) ?start ?obs ?fin
          case start =>
            simp only [List.forall_mem_cons]; exact ⟨⟨_, rfl, rfl⟩, ⟨_, rfl, rfl⟩, fun _ h => by cases h⟩
          case obs =>
            clear HC HB
            refine Obs.cons none (by kernel_rfl) ?_ ?_
            · refine Ob.plain fun a w hR hk K k => ?_
              obtain ⟨_, e0, f0⟩ := hk 0 (by decide)
              clear hk
              go_simp
              exact k _ _ (Chg.refl _ _) f0
            refine Obs.cons none (by kernel_rfl) ?_ ?_
            · refine Ob.plain fun a w hR hk K k => ?_
              obtain ⟨_, e14, rfl⟩ := hk 14 (by decide)
              clear hk
              go_simp
              exact k _ _ (Chg.refl _ _) rfl
            refine Obs.cons none (by kernel_rfl) ?_ ?_
            · refine Ob.plain fun a w hR hk K k => ?_
              obtain ⟨_, e15, rfl⟩ := hk 15 (by decide)
              clear hk
              go_simp
              exact k _ _ (Chg.refl _ _) rfl
            refine Obs.cons none (by kernel_rfl) ?_ ?_
            · refine Ob.plain fun a w hR hk K k => ?_
              obtain ⟨_, e16, rfl⟩ := hk 16 (by decide)
              clear hk
              have zz := hR.cell (cell_blk HX.out.1 0) id
              go_simp
              exact k _ _ (Chg.refl _ _) rfl
            refine Obs.cons none (by kernel_rfl) ?_ ?_
            · refine Ob.plain fun a w hR hk K k => ?_
              obtain ⟨_, e3, rfl⟩ := hk 3 (by decide)
              clear hk
              go_simp
              exact k _ _ (Chg.refl _ _) rfl
            refine Obs.cons none (by kernel_rfl) ?_ ?_
            · refine Ob.plain fun a w hR hk K k => ?_
              obtain ⟨_, e18, rfl⟩ := hk 18 (by decide)
              clear hk
              go_simp
              exact k _ _ (Chg.refl _ _) rfl
            refine Obs.cons none (by kernel_rfl) ?_ ?_
            · refine Ob.plain fun a w hR hk K k => ?_
              obtain ⟨_, e19, rfl⟩ := hk 19 (by decide)
              clear hk
              have zz := hR.cell HX.out.2 id
              go_simp
              exact k _ _ (Chg.refl _ _) rfl
            refine Obs.cons none (by kernel_rfl) ?_ ?_
            · refine Ob.plain fun a w hR hk K k => ?_
              obtain ⟨_, e17, rfl⟩ := hk 17 (by decide)
              obtain ⟨_, e20, rfl⟩ := hk 20 (by decide)
              clear hk
              have q := HL.out w hR
              go_simp
              exact k _ _ (Chg.refl _ _) rfl
            refine Obs.cons none (by kernel_rfl) ?_ ?_
            · refine Ob.plain fun a w hR hk K k => ?_
              obtain ⟨_, e21, f21⟩ := hk 21 (by decide)
              clear hk
              go_simp
              exact k _ _ (Chg.refl _ _) f21
            refine Obs.cons none (by kernel_rfl) ?_ ?_
            · refine Ob.plain fun a w hR hk K k => ?_
              obtain ⟨_, e13, rfl⟩ := hk 13 (by decide)
              clear hk
              go_simp
              exact k _ _ (Chg.refl _ _) rfl
            refine Obs.cons none (by kernel_rfl) ?_ ?_
            · refine Ob.plain fun a w hR hk K k => ?_
              obtain ⟨_, e13, rfl⟩ := hk 13 (by decide)
              clear hk
              go_simp
              exact k _ _ (Chg.refl _ _) rfl
            refine Obs.cons none (by kernel_rfl) ?_ ?_
            · refine Ob.plain fun a w hR hk K k => ?_
              obtain ⟨_, e22, f22⟩ := hk 22 (by decide)
              clear hk
              go_simp
              exact k _ _ (Chg.refl _ _) f22
            refine Obs.cons none (by kernel_rfl) ?_ ?_
            · refine Ob.plain fun a w hR hk K k => ?_
              obtain ⟨_, e23, f23⟩ := hk 23 (by decide)
              clear hk
              go_simp
              exact k _ _ (Chg.refl _ _) f23
            exact Obs.nil
          case fin =>
            intro vals w9 hc9 hv
            have h6 : vals 6 = v := hv 6 (by decide)
            have h7 : vals 7 = .bool b := hv 7 (by decide)
            simp only [putAll, List.setIfInBounds_toArray, List.set_cons_zero, List.set_cons_succ, h6, h7]
            obtain ⟨hve, hbv, hba, hno⟩ := HB.out
            have HC9 := hid (HC.out.trans hc9 (fun _ _ h => h))
            have HB9 := hid (hba.keep hc9 (fun _ _ => id))
            have HF : Hid (signErr l c = 0 ∧ keyStr l c = keyOf l o) := hid (by
              have : signErr l c = 0 := by rw [signErr, if_pos HI.out, HOe.out, hno, if_pos rfl]
              exact ⟨this, by rw [keyStr, if_pos this, HOe.out]⟩)
            rw [← hve, ← hbv]
            clear hve hbv hba hno hc9 hv h6 h7 HC HX HL HM HB HI HOe hol
            go_wp2
            go_ret2
            exact ⟨ao, cp, by rw [HF.out.1, HF.out.2]; rfl, by rw [HF.out.2]; exact HB9.out, HC9.out⟩
    | false =>
          obtain ⟨v, hve⟩ : ∃ v, Value.slice none 0 0 = v := ⟨_, rfl⟩
          obtain ⟨b, hbv⟩ : ∃ b, false = b := ⟨_, rfl⟩
          have HL : Hid (∀ w', Chg (fun _ => False) w2 w' → (Instr.lookup 74 (.map (some mb)) (.string ⟨o.toArray⟩) true).run Tryz.prog w' = .ok (.tuple #[v, .bool b]) w') := hid (fun w' hc => by rw [← hbv, ← hve]; exact (HM.out.keep hc id (fun _ _ => id)).miss hol hno)
          have HB := hid (And.intro hve (And.intro hbv hno))
          clear hve hbv hno
          refine wp_region_specs (issSpecs g A mb o v b) [14, 15, 16, 17, 18, 19, 20, 21, 13, 22, 23, 6, 7] [0, 3] (by kernel_rfl) (by kernel_rfl) (by rfl) (by kernel_rfl) ?start2 ?obs2 ?fin2
          case start2 =>
            simp only [List.forall_mem_cons]; exact ⟨⟨_, rfl, rfl⟩, ⟨_, rfl, rfl⟩, fun _ h => by cases h⟩
          case obs2 =>
            clear HC HB
            refine Obs.cons none (by kernel_rfl) ?_ ?_
            · refine Ob.plain fun a w hR hk K k => ?_
              obtain ⟨_, e0, f0⟩ := hk 0 (by decide)
              clear hk
              go_simp
              exact k _ _ (Chg.refl _ _) f0
            refine Obs.cons none (by kernel_rfl) ?_ ?_
            · refine Ob.plain fun a w hR hk K k => ?_
              obtain ⟨_, e14, rfl⟩ := hk 14 (by decide)
              clear hk
              go_simp
              exact k _ _ (Chg.refl _ _) rfl
            refine Obs.cons none (by kernel_rfl) ?_ ?_
            · refine Ob.plain fun a w hR hk K k => ?_
              obtain ⟨_, e15, rfl⟩ := hk 15 (by decide)
              clear hk
              go_simp
              exact k _ _ (Chg.refl _ _) rfl
            refine Obs.cons none (by kernel_rfl) ?_ ?_
            · refine Ob.plain fun a w hR hk K k => ?_
              obtain ⟨_, e16, rfl⟩ := hk 16 (by decide)
              clear hk
              have zz := hR.cell (cell_blk HX.out.1 0) id
              go_simp
              exact k _ _ (Chg.refl _ _) rfl
            refine Obs.cons none (by kernel_rfl) ?_ ?_
            · refine Ob.plain fun a w hR hk K k => ?_
              obtain ⟨_, e3, rfl⟩ := hk 3 (by decide)
              clear hk
              go_simp
              exact k _ _ (Chg.refl _ _) rfl
            refine Obs.cons none (by kernel_rfl) ?_ ?_
            · refine Ob.plain fun a w hR hk K k => ?_
              obtain ⟨_, e18, rfl⟩ := hk 18 (by decide)
              clear hk
              go_simp
              exact k _ _ (Chg.refl _ _) rfl
            refine Obs.cons none (by kernel_rfl) ?_ ?_
            · refine Ob.plain fun a w hR hk K k => ?_
              obtain ⟨_, e19, rfl⟩ := hk 19 (by decide)
              clear hk
              have zz := hR.cell HX.out.2 id
              go_simp
              exact k _ _ (Chg.refl _ _) rfl
            refine Obs.cons none (by kernel_rfl) ?_ ?_
            · refine Ob.plain fun a w hR hk K k => ?_
              obtain ⟨_, e17, rfl⟩ := hk 17 (by decide)
              obtain ⟨_, e20, rfl⟩ := hk 20 (by decide)
              clear hk
              have q := HL.out w hR
              go_simp
              exact k _ _ (Chg.refl _ _) rfl
            refine Obs.cons none (by kernel_rfl) ?_ ?_
            · refine Ob.plain fun a w hR hk K k => ?_
              obtain ⟨_, e21, f21⟩ := hk 21 (by decide)
              clear hk
              go_simp
              exact k _ _ (Chg.refl _ _) f21
            refine Obs.cons none (by kernel_rfl) ?_ ?_
            · refine Ob.plain fun a w hR hk K k => ?_
              obtain ⟨_, e13, rfl⟩ := hk 13 (by decide)
              clear hk
              go_simp
              exact k _ _ (Chg.refl _ _) rfl
            refine Obs.cons none (by kernel_rfl) ?_ ?_
            · refine Ob.plain fun a w hR hk K k => ?_
              obtain ⟨_, e13, rfl⟩ := hk 13 (by decide)
              clear hk
              go_simp
              exact k _ _ (Chg.refl _ _) rfl
            refine Obs.cons none (by kernel_rfl) ?_ ?_
            · refine Ob.plain fun a w hR hk K k => ?_
              obtain ⟨_, e22, f22⟩ := hk 22 (by decide)
              clear hk
              go_simp
              exact k _ _ (Chg.refl _ _) f22
            refine Obs.cons none (by kernel_rfl) ?_ ?_
            · refine Ob.plain fun a w hR hk K k => ?_
              obtain ⟨_, e23, f23⟩ := hk 23 (by decide)
              clear hk
              go_simp
              exact k _ _ (Chg.refl _ _) f23
            exact Obs.nil
          case fin2 =>
            intro vals w9 hc9 hv
            have h6 : vals 6 = v := hv 6 (by decide)
            have h7 : vals 7 = .bool b := hv 7 (by decide)
            simp only [putAll, List.setIfInBounds_toArray, List.set_cons_zero, List.set_cons_succ, h6, h7]
            obtain ⟨hve, hbv, hno⟩ := HB.out
            have HC9 := hid (HC.out.trans hc9 (fun _ _ h => h))
            have HF : Hid (signErr l c = 21 ∧ keyStr l c = []) := hid (by
              have : signErr l c = 21 := by rw [signErr, if_pos HI.out, HOe.out, hno]; rfl
              exact ⟨this, by rw [keyStr, if_neg (by rw [this]; decide)]⟩)
            rw [← hve, ← hbv]
            clear hve hbv hno hc9 hv h6 h7 HC HX HL HM HB HI HOe hol
            go_wp2
            go_ret2
            exact ⟨none, 0, by rw [HF.out.1, HF.out.2]; rfl, by rw [HF.out.2]; exact BytesAt.nil _ _, HC9.out⟩
end Go.Proofs.YtjflmhncgkbdmaaGreat
