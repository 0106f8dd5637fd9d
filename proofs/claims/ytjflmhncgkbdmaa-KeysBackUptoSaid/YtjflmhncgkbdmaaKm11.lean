/- Texts that the proof leans on, in one: RefRoleLess, RefCredRight, RefKey, PkIssuer. -/
import Derived.Test.YtjflmhncgkbdmaaKm6
import Derived.Test.YtjflmhncgkbdmaaKm2
import Derived.Test.YtjflmhncgkbdmaaKm7
import Derived.Test.YtjflmhncgkbdmaaKm8
import Derived.Test.YtjflmhncgkbdmaaKm10
/- The contract of the document's Less of layer 4. -/
namespace Go.Proofs.Ytjflmhncgkbdmaa
open Go.RowKit

end Go.Proofs.Ytjflmhncgkbdmaa

/- The contract of the document's Right of layer 5. -/
namespace Go.Proofs.Ytjflmhncgkbdmaa
open Go.RowKit

theorem isCred_not1 {c : CredB} (k : c.kind ≠ 1) (h : (c.who == [] && isRole c.b) = false) : isCred c = false := by
  unfold isCred
  rw [if_neg k, h]
  simp

end Go.Proofs.Ytjflmhncgkbdmaa

/- Whose key signs: the contract of the document's key, of layer 6. -/
namespace Go.Proofs.Ytjflmhncgkbdmaa
open Go.RowKit

def keyStr (l : List KeyB) (c : CredB) : List UInt8 := if signErr l c = 0 then keyOf l c.head.1 else []

end Go.Proofs.Ytjflmhncgkbdmaa

/- The contract of the program's way to find the key that signs a credential. -/
namespace Go.Proofs.Ytjflmhncgkbdmaa
open Go.RowKit Go.Maps

def IssPost (D : Nat → Prop) (l : List KeyB) (c : CredB) (w : World) (e : Ending) (w' : World) : Prop :=
  ∃ ao cap, e = .returned (.tuple #[.slice ao (keyStr l c).length cap, .int .i64 (signErr l c : Nat)]) ∧ BytesAt D w' (.slice ao (keyStr l c).length cap) (keyStr l c) ∧ Chg (fun _ => False) w w'

theorem piss_nil (c : CredB) (w : World) : Calls Try.prog 20 #[.pointer none, credV c] w fun e w' => e = .returned (.tuple #[.slice none 0 0, .int .i64 1]) ∧ Chg (fun _ => False) w w' := by
  have HC := hid (show Chg (fun _ => False) w (w.alloc (.cells #[.int .i64 c.kind, .string ⟨c.head.1.toArray⟩, .string ⟨c.head.2.toArray⟩, .string ⟨c.who.toArray⟩, .string ⟨c.b.1.toArray⟩, .string ⟨c.b.2.toArray⟩, .string ⟨c.c.1.toArray⟩, .string ⟨c.c.2.toArray⟩, .string ⟨c.w2.toArray⟩] 26)) from (Chg.refl _ w).alloc _)
  show Calls Try.prog 20 #[.pointer none, .agg #[.int .i64 c.kind, .string ⟨c.head.1.toArray⟩, .string ⟨c.head.2.toArray⟩, .string ⟨c.who.toArray⟩, .string ⟨c.b.1.toArray⟩, .string ⟨c.b.2.toArray⟩, .string ⟨c.c.1.toArray⟩, .string ⟨c.c.2.toArray⟩, .string ⟨c.w2.toArray⟩]] w _
  go_enter Try.func20, Try.ntmps20
  go_wp2
  go_ret2
  exact ⟨rfl, HC.out⟩

def issSpecs (g A mb : Nat) (o : List UInt8) (v : Value) (b : Bool) : List Spec := [.eq (.pointer (some ⟨g, 0, none⟩)), .any, .any, .eq (.pointer (some ⟨A, 0, none⟩)), .any, .any, .eq (v), .eq (.bool b), .any, .any, .any, .any, .any, .eq (.tuple #[v, .bool b]), .eq (.pointer (some ⟨g, 0, none⟩)), .eq (.pointer (some ⟨g, 0, none⟩)), .eq (.pointer (some ⟨g, 0, none⟩)), .eq (.map (some mb)), .eq (.pointer (some ⟨A, 1, none⟩)), .eq (.pointer (some ⟨A, 1, none⟩)), .eq (.string ⟨o.toArray⟩), .eq (.tuple #[v, .bool b]), .eq (v), .eq (.bool b)]

set_option maxRecDepth 100000 in
set_option maxHeartbeats 2000000 in
theorem piss {D : Nat → Prop} (g : Nat) (l : List KeyB) (c : CredB) (w : World) (h : RegAt D w g l) (hs : credShort c 9223372036854775807) :
    Calls Try.prog 20 #[.pointer (some ⟨g, 0, none⟩), credV c] w (IssPost D l c w) := by
  obtain ⟨⟨mb, hg, _, hM⟩, _⟩ := h
  have hA1 : (w.alloc (.cells #[.int .i64 c.kind, .string ⟨c.head.1.toArray⟩, .string ⟨c.head.2.toArray⟩, .string ⟨c.who.toArray⟩, .string ⟨c.b.1.toArray⟩, .string ⟨c.b.2.toArray⟩, .string ⟨c.c.1.toArray⟩, .string ⟨c.c.2.toArray⟩, .string ⟨c.w2.toArray⟩] 26)).heap[w.heap.size]? = some (.cells (credBox c) 26 (0, 0)) := heap_alloc_new w _
  have hc1 : Chg (fun _ => False) w (w.alloc (.cells #[.int .i64 c.kind, .string ⟨c.head.1.toArray⟩, .string ⟨c.head.2.toArray⟩, .string ⟨c.who.toArray⟩, .string ⟨c.b.1.toArray⟩, .string ⟨c.b.2.toArray⟩, .string ⟨c.c.1.toArray⟩, .string ⟨c.c.2.toArray⟩, .string ⟨c.w2.toArray⟩] 26)) := (Chg.refl _ w).alloc _
  have hrt := pcright c (w.alloc (.cells #[.int .i64 c.kind, .string ⟨c.head.1.toArray⟩, .string ⟨c.head.2.toArray⟩, .string ⟨c.who.toArray⟩, .string ⟨c.b.1.toArray⟩, .string ⟨c.b.2.toArray⟩, .string ⟨c.c.1.toArray⟩, .string ⟨c.c.2.toArray⟩, .string ⟨c.w2.toArray⟩] 26)) hs
  have HH := hid (And.intro hrt (And.intro hA1 (And.intro hc1 (And.intro (blk_keep hg hc1 id) (hM.keep hc1 id (fun _ _ => id))))))
  have HO := hid hs.1
  clear hrt hA1 hc1 hg hM hs
  show Calls Try.prog 20 #[.pointer (some ⟨g, 0, none⟩), .agg #[.int .i64 c.kind, .string ⟨c.head.1.toArray⟩, .string ⟨c.head.2.toArray⟩, .string ⟨c.who.toArray⟩, .string ⟨c.b.1.toArray⟩, .string ⟨c.b.2.toArray⟩, .string ⟨c.c.1.toArray⟩, .string ⟨c.c.2.toArray⟩, .string ⟨c.w2.toArray⟩]] w _
  go_enter Try.func20, Try.ntmps20
  go_wp2_with fail
  obtain ⟨hrt, hA1, hc1, hg, hM⟩ := HH.out
  clear HH
  generalize (w.alloc (.cells #[.int .i64 c.kind, .string ⟨c.head.1.toArray⟩, .string ⟨c.head.2.toArray⟩, .string ⟨c.who.toArray⟩, .string ⟨c.b.1.toArray⟩, .string ⟨c.b.2.toArray⟩, .string ⟨c.c.1.toArray⟩, .string ⟨c.c.2.toArray⟩, .string ⟨c.w2.toArray⟩] 26)) = w1 at *
  refine hrt.mono ?_
  rintro e w2 ⟨rfl, hc12⟩
  have hA2 := (cred_at_blk (blk_keep hA1 hc12 id)).k1
  have hg2 := blk_keep hg hc12 id
  have hc2 := hc1.trans hc12 (fun _ _ h => h)
  have hM2 := hM.keep hc12 id (fun _ _ => id)
  clear hrt hA1 hg hc1 hM hc12
  obtain ⟨A, hAe⟩ : ∃ A, w.heap.size = A := ⟨_, rfl⟩
  simp only [hAe] at hA2
  have HX := hid (And.intro hg2 hA2)
  have HC := hid hc2
  have HM := hid hM2
  have HAe := hid hAe
  simp only [hAe]
  clear hA2 hg2 hc2 hM2 hAe
  cases hi : isCred c with
  | false =>
    have HF : Hid (signErr l c = 11 ∧ keyStr l c = []) := hid (by
      have : signErr l c = 11 := by rw [signErr, if_neg (by rw [hi]; decide)]
      exact ⟨this, by rw [keyStr, if_neg (by rw [this]; decide)]⟩)
    clear hi
    go_wp2
    go_ret2
    exact ⟨none, 0, by rw [HF.out.1, HF.out.2]; rfl, by rw [HF.out.2]; exact BytesAt.nil _ _, HC.out⟩
  | true =>
    have HI := hid hi
    clear hi
    go_wp2_with fail
    obtain ⟨o, ho⟩ : ∃ o, c.head.1 = o := ⟨_, rfl⟩
    have hol := HO.out
    rw [ho] at HX hol
    have HOe := hid ho
    clear ho HO
    cases hno : hasWho l o with
    | true =>
          obtain ⟨ao, cp, hba, hlk⟩ := HM.out.look hol hno
          obtain ⟨v, hve⟩ : ∃ v, Value.slice ao (keyOf l o).length cp = v := ⟨_, rfl⟩
          obtain ⟨b, hbv⟩ : ∃ b, true = b := ⟨_, rfl⟩
          have HL : Hid (∀ w', Chg (fun _ => False) w2 w' → (Instr.lookup 58 (.map (some mb)) (.string ⟨o.toArray⟩) true).run Try.prog w' = .ok (.tuple #[v, .bool b]) w') := hid (fun w' hc => by rw [← hbv, ← hve]; exact hlk w' (hc.block mb HM.out.lt id))
          have HB := hid (And.intro hve (And.intro hbv (And.intro hba hno)))
          clear hve hbv hba hno hlk
          refine wp_region_specs (issSpecs g A mb o v b) [14, 15, 16, 17, 18, 19, 20, 21, 13, 22, 23, 6, 7] [0, 3] (by kernel_rfl) (by kernel_rfl) (by rfl) (by kernel_rfl) ?start ?obs ?fin
          case start =>
            simp only [List.forall_mem_cons]; exact ⟨⟨_, rfl, rfl⟩, ⟨_, rfl, rfl⟩, fun _ h => by cases h⟩
          case obs =>
            clear HC HB
            refine Obs.cons none (by kernel_rfl) ?_ ?_
            · refine Ob.plain fun a w hR hk K k => ?_
              obtain ⟨_, e0, f0⟩ := hk 0 (by decide)
              clear hk
              go_simp
              exact k _ _ (Chg.refl _ _) f0
            refine Obs.cons none (by kernel_rfl) ?_ ?_
            · refine Ob.plain fun a w hR hk K k => ?_
              obtain ⟨_, e14, rfl⟩ := hk 14 (by decide)
              clear hk
              go_simp
              exact k _ _ (Chg.refl _ _) rfl
            refine Obs.cons none (by kernel_rfl) ?_ ?_
            · refine Ob.plain fun a w hR hk K k => ?_
              obtain ⟨_, e15, rfl⟩ := hk 15 (by decide)
              clear hk
              go_simp
              exact k _ _ (Chg.refl _ _) rfl
            refine Obs.cons none (by kernel_rfl) ?_ ?_
            · refine Ob.plain fun a w hR hk K k => ?_
              obtain ⟨_, e16, rfl⟩ := hk 16 (by decide)
              clear hk
              have zz := hR.cell (cell_blk HX.out.1 0) id
              go_simp
              exact k _ _ (Chg.refl _ _) rfl
            refine Obs.cons none (by kernel_rfl) ?_ ?_
            · refine Ob.plain fun a w hR hk K k => ?_
              obtain ⟨_, e3, rfl⟩ := hk 3 (by decide)
              clear hk
              go_simp
              exact k _ _ (Chg.refl _ _) rfl
            refine Obs.cons none (by kernel_rfl) ?_ ?_
            · refine Ob.plain fun a w hR hk K k => ?_
              obtain ⟨_, e18, rfl⟩ := hk 18 (by decide)
              clear hk
              go_simp
              exact k _ _ (Chg.refl _ _) rfl
            refine Obs.cons none (by kernel_rfl) ?_ ?_
            · refine Ob.plain fun a w hR hk K k => ?_
              obtain ⟨_, e19, rfl⟩ := hk 19 (by decide)
              clear hk
              have zz := hR.cell HX.out.2 id
              go_simp
              exact k _ _ (Chg.refl _ _) rfl
            refine Obs.cons none (by kernel_rfl) ?_ ?_
            · refine Ob.plain fun a w hR hk K k => ?_
              obtain ⟨_, e17, rfl⟩ := hk 17 (by decide)
              obtain ⟨_, e20, rfl⟩ := hk 20 (by decide)
              clear hk
              have q := HL.out w hR
              go_simp
              exact k _ _ (Chg.refl _ _) rfl
            refine Obs.cons none (by kernel_rfl) ?_ ?_
            · refine Ob.plain fun a w hR hk K k => ?_
              obtain ⟨_, e21, f21⟩ := hk 21 (by decide)
              clear hk
              go_simp
              exact k _ _ (Chg.refl _ _) f21
            refine Obs.cons none (by kernel_rfl) ?_ ?_
            · refine Ob.plain fun a w hR hk K k => ?_
              obtain ⟨_, e13, rfl⟩ := hk 13 (by decide)
              clear hk
              go_simp
              exact k _ _ (Chg.refl _ _) rfl
            refine Obs.cons none (by kernel_rfl) ?_ ?_
            · refine Ob.plain fun a w hR hk K k => ?_
              obtain ⟨_, e13, rfl⟩ := hk 13 (by decide)
              clear hk
              go_simp
              exact k _ _ (Chg.refl _ _) rfl
            refine Obs.cons none (by kernel_rfl) ?_ ?_
            · refine Ob.plain fun a w hR hk K k => ?_
              obtain ⟨_, e22, f22⟩ := hk 22 (by decide)
              clear hk
              go_simp
              exact k _ _ (Chg.refl _ _) f22
            refine Obs.cons none (by kernel_rfl) ?_ ?_
            · refine Ob.plain fun a w hR hk K k => ?_
              obtain ⟨_, e23, f23⟩ := hk 23 (by decide)
              clear hk
              go_simp
              exact k _ _ (Chg.refl _ _) f23
            exact Obs.nil
          case fin =>
            intro vals w9 hc9 hv
            have h6 : vals 6 = v := hv 6 (by decide)
            have h7 : vals 7 = .bool b := hv 7 (by decide)
            simp only [putAll, List.setIfInBounds_toArray, List.set_cons_zero, List.set_cons_succ, h6, h7]
            obtain ⟨hve, hbv, hba, hno⟩ := HB.out
            have HC9 := hid (HC.out.trans hc9 (fun _ _ h => h))
            have HB9 := hid (hba.keep hc9 (fun _ _ => id))
            have HF : Hid (signErr l c = 0 ∧ keyStr l c = keyOf l o) := hid (by
              have : signErr l c = 0 := by rw [signErr, if_pos HI.out, HOe.out, hno, if_pos rfl]
              exact ⟨this, by rw [keyStr, if_pos this, HOe.out]⟩)
            rw [← hve, ← hbv]
            clear hve hbv hba hno hc9 hv h6 h7 HC HX HL HM HB HI HOe hol
            go_wp2
            go_ret2
            exact ⟨ao, cp, by rw [HF.out.1, HF.out.2]; rfl, by rw [HF.out.2]; exact HB9.out, HC9.out⟩
    | false =>
          obtain ⟨v, hve⟩ : ∃ v, Value.slice none 0 0 = v := ⟨_, rfl⟩
          obtain ⟨b, hbv⟩ : ∃ b, false = b := ⟨_, rfl⟩
          have HL : Hid (∀ w', Chg (fun _ => False) w2 w' → (Instr.lookup 58 (.map (some mb)) (.string ⟨o.toArray⟩) true).run Try.prog w' = .ok (.tuple #[v, .bool b]) w') := hid (fun w' hc => by rw [← hbv, ← hve]; exact (HM.out.keep hc id (fun _ _ => id)).miss hol hno)
          have HB := hid (And.intro hve (And.intro hbv hno))
          clear hve hbv hno
          refine wp_region_specs (issSpecs g A mb o v b) [14, 15, 16, 17, 18, 19, 20, 21, 13, 22, 23, 6, 7] [0, 3] (by kernel_rfl) (by kernel_rfl) (by rfl) (by kernel_rfl) ?start2 ?obs2 ?fin2
          case start2 =>
            simp only [List.forall_mem_cons]; exact ⟨⟨_, rfl, rfl⟩, ⟨_, rfl, rfl⟩, fun _ h => by cases h⟩
          case obs2 =>
            clear HC HB
            refine Obs.cons none (by kernel_rfl) ?_ ?_
            · refine Ob.plain fun a w hR hk K k => ?_
              obtain ⟨_, e0, f0⟩ := hk 0 (by decide)
              clear hk
              go_simp
              exact k _ _ (Chg.refl _ _) f0
            refine Obs.cons none (by kernel_rfl) ?_ ?_
            · refine Ob.plain fun a w hR hk K k => ?_
              obtain ⟨_, e14, rfl⟩ := hk 14 (by decide)
              clear hk
              go_simp
              exact k _ _ (Chg.refl _ _) rfl
            refine Obs.cons none (by kernel_rfl) ?_ ?_
            · refine Ob.plain fun a w hR hk K k => ?_
              obtain ⟨_, e15, rfl⟩ := hk 15 (by decide)
              clear hk
              go_simp
              exact k _ _ (Chg.refl _ _) rfl
            refine Obs.cons none (by kernel_rfl) ?_ ?_
            · refine Ob.plain fun a w hR hk K k => ?_
              obtain ⟨_, e16, rfl⟩ := hk 16 (by decide)
              clear hk
              have zz := hR.cell (cell_blk HX.out.1 0) id
              go_simp
              exact k _ _ (Chg.refl _ _) rfl
            refine Obs.cons none (by kernel_rfl) ?_ ?_
            · refine Ob.plain fun a w hR hk K k => ?_
              obtain ⟨_, e3, rfl⟩ := hk 3 (by decide)
              clear hk
              go_simp
              exact k _ _ (Chg.refl _ _) rfl
            refine Obs.cons none (by kernel_rfl) ?_ ?_
            · refine Ob.plain fun a w hR hk K k => ?_
              obtain ⟨_, e18, rfl⟩ := hk 18 (by decide)
              clear hk
              go_simp
              exact k _ _ (Chg.refl _ _) rfl
            refine Obs.cons none (by kernel_rfl) ?_ ?_
            · refine Ob.plain fun a w hR hk K k => ?_
              obtain ⟨_, e19, rfl⟩ := hk 19 (by decide)
              clear hk
              have zz := hR.cell HX.out.2 id
              go_simp
              exact k _ _ (Chg.refl _ _) rfl
            refine Obs.cons none (by kernel_rfl) ?_ ?_
            · refine Ob.plain fun a w hR hk K k => ?_
              obtain ⟨_, e17, rfl⟩ := hk 17 (by decide)
              obtain ⟨_, e20, rfl⟩ := hk 20 (by decide)
              clear hk
              have q := HL.out w hR
              go_simp
              exact k _ _ (Chg.refl _ _) rfl
            refine Obs.cons none (by kernel_rfl) ?_ ?_
            · refine Ob.plain fun a w hR hk K k => ?_
              obtain ⟨_, e21, f21⟩ := hk 21 (by decide)
              clear hk
              go_simp
              exact k _ _ (Chg.refl _ _) f21
            refine Obs.cons none (by kernel_rfl) ?_ ?_
            · refine Ob.plain fun a w hR hk K k => ?_
              obtain ⟨_, e13, rfl⟩ := hk 13 (by decide)
              clear hk
              go_simp
              exact k _ _ (Chg.refl _ _) rfl
            refine Obs.cons none (by kernel_rfl) ?_ ?_
            · refine Ob.plain fun a w hR hk K k => ?_
              obtain ⟨_, e13, rfl⟩ := hk 13 (by decide)
              clear hk
              go_simp
              exact k _ _ (Chg.refl _ _) rfl
            refine Obs.cons none (by kernel_rfl) ?_ ?_
            · refine Ob.plain fun a w hR hk K k => ?_
              obtain ⟨_, e22, f22⟩ := hk 22 (by decide)
              clear hk
              go_simp
              exact k _ _ (Chg.refl _ _) f22
            refine Obs.cons none (by kernel_rfl) ?_ ?_
            · refine Ob.plain fun a w hR hk K k => ?_
              obtain ⟨_, e23, f23⟩ := hk 23 (by decide)
              clear hk
              go_simp
              exact k _ _ (Chg.refl _ _) f23
            exact Obs.nil
          case fin2 =>
            intro vals w9 hc9 hv
            have h6 : vals 6 = v := hv 6 (by decide)
            have h7 : vals 7 = .bool b := hv 7 (by decide)
            simp only [putAll, List.setIfInBounds_toArray, List.set_cons_zero, List.set_cons_succ, h6, h7]
            obtain ⟨hve, hbv, hno⟩ := HB.out
            have HC9 := hid (HC.out.trans hc9 (fun _ _ h => h))
            have HF : Hid (signErr l c = 21 ∧ keyStr l c = []) := hid (by
              have : signErr l c = 21 := by rw [signErr, if_pos HI.out, HOe.out, hno]; rfl
              exact ⟨this, by rw [keyStr, if_neg (by rw [this]; decide)]⟩)
            rw [← hve, ← hbv]
            clear hve hbv hno hc9 hv h6 h7 HC HX HL HM HB HI HOe hol
            go_wp2
            go_ret2
            exact ⟨none, 0, by rw [HF.out.1, HF.out.2]; rfl, by rw [HF.out.2]; exact BytesAt.nil _ _, HC9.out⟩
end Go.Proofs.Ytjflmhncgkbdmaa
