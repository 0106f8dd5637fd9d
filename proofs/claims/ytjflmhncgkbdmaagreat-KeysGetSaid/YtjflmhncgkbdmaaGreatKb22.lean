/- Texts that the proof leans on, in one: TagGood, PkCheck, Wr, PcCmp, PcCompare, RoleSort0, ShelfW. -/
import Derived.Test.YtjflmhncgkbdmaaGreatKb15
import Derived.Test.YtjflmhncgkbdmaaGreatKb2
import Derived.Test.YtjflmhncgkbdmaaGreatKb16
import Derived.Test.YtjflmhncgkbdmaaGreatKb13
import Derived.Test.YtjflmhncgkbdmaaGreatKb8
import Derived.Maps.AppendAt
import Derived.Test.YtjflmhncgkbdmaaGreatKb1
import Derived.Test.YtjflmhncgkbdmaaGreatKb10
import Derived.Lib.Bytealg
import Derived.Test.YtjflmhncgkbdmaaGreatKb6
import Derived.Shelf.SlSortCmp.WholeK
import Derived.Shelf.SlSortCmp.NoneTotal
import Derived.Ground.SlsfProg
import Derived.Test.YtjflmhncgkbdmaaGreatProg
/- The contracts of bytes.Equal and Good. -/
namespace Go.Proofs.YtjflmhncgkbdmaaGreat
open Go.RowKit

theorem equal_any {D1 D2 : Nat → Prop} (v1 v2 : Value) (l1 l2 : List UInt8) (w : World) (h1 : BytesAt D1 w v1 l1) (h2 : BytesAt D2 w v2 l2) :
    Calls Tryz.prog 60 #[v1, v2] w fun e w' => e = .returned (.bool (l1 == l2)) ∧ w = w' := by
  have c1 := conv_bytes h1
  have c2 := conv_bytes h2
  clear h1 h2
  go_enter Tryz.func60, Tryz.ntmps60
  go_wp2
  go_ret
  exact ⟨rfl, rfl⟩

theorem good_yes {D : Nat → Prop} (a1 a2 a3 : Option Addr) (c1 c2 c3 : Nat) (key b t : List UInt8) (w : World) (h1 : 1 ≤ key.length) (h2 : key.length ≤ 32) (hb : b.length ≤ 9223372036854775807)
   (k1 : BytesAt D w (.slice a1 key.length c1) key) (k2 : BytesAt D w (.slice a2 b.length c2) b) (k3 : BytesAt D w (.slice a3 t.length c3) t) :
    Calls Tryz.prog 34 #[.slice a1 key.length c1, .slice a2 b.length c2, .slice a3 t.length c3] w fun e w' => e = .returned (.bool (tagOf key b == t)) ∧ Chg (fun _ => False) w w' := by
  go_enter Tryz.func34, Tryz.ntmps34
  go_wp2_with (first
    | (go_at_call 59; refine (rightKey_yes _ _ _ _ h1 h2).mono ?_; rintro e w' ⟨rfl, rfl⟩)
    | (go_at_call 39; refine (make_yes _ _ _ _ key b _ h1 h2 hb k1 k2).mono ?_; rintro e w' ⟨g, rfl, hg, hcells, hc⟩; have k3' := k3.keep hc (fun _ _ => id); have kt := tagCells_bytes _ hcells; have HC := hid hc; clear k1 k2 k3 hcells hc)
    | (go_at_call 60; refine (equal_any _ _ _ _ _ kt k3').mono ?_; rintro e w' ⟨rfl, rfl⟩))
  go_ret
  exact ⟨rfl, HC.out⟩

theorem good_at {D1 D2 D3 : Nat → Prop} (a1 a2 a3 : Option Addr) (c1 c2 c3 n1 n2 n3 : Nat) (key b t : List UInt8) (w : World) (h1 : 1 ≤ key.length) (h2 : key.length ≤ 32) (hb : b.length ≤ 9223372036854775807)
   (l1 : key.length = n1) (l2 : b.length = n2) (l3 : t.length = n3) (k1 : BytesAt D1 w (.slice a1 n1 c1) key) (k2 : BytesAt D2 w (.slice a2 n2 c2) b) (k3 : BytesAt D3 w (.slice a3 n3 c3) t) :
    Calls Tryz.prog 34 #[.slice a1 n1 c1, .slice a2 n2 c2, .slice a3 n3 c3] w fun e w' => e = .returned (.bool (tagOf key b == t)) ∧ Chg (fun _ => False) w w' := by
  subst l1
  subst l2
  subst l3
  exact good_yes (D := fun _ => True) a1 a2 a3 c1 c2 c3 key b t w h1 h2 hb (k1.mono fun _ _ => trivial) (k2.mono fun _ _ => trivial) (k3.mono fun _ _ => trivial)

theorem good_no (a1 : Option Addr) (v2 v3 : Value) (n1 c1 : Nat) (w : World) (h : n1 = 0 ∨ 32 < n1) (hn : n1 ≤ 9223372036854775807) :
    Calls Tryz.prog 34 #[.slice a1 n1 c1, v2, v3] w fun e w' => e = .returned (.bool false) ∧ w = w' := by
  go_enter Tryz.func34, Tryz.ntmps34
  go_wp2_with (go_at_call 59; refine (rightKey_no _ _ _ _ h hn).mono ?_; rintro e w' ⟨rfl, rfl⟩)
  go_ret
  exact ⟨rfl, rfl⟩

end Go.Proofs.YtjflmhncgkbdmaaGreat

/- The contract of the program's Check. -/
namespace Go.Proofs.YtjflmhncgkbdmaaGreat
open Go.RowKit Go.Maps

def pckSpecs (A : Nat) (c : CredB) (tag key eb : List UInt8) (ta ka : Option Addr) (cap kc : Nat) (d : Bool) : List Spec := [.any, .any, .any, .eq (.pointer (some ⟨A, 0, none⟩)), .any, .eq (.slice ka key.length kc), .eq (.int .i64 0), .any, .any, .any, .any, .any, .any, .any, .eq (.int .i64 0), .eq (.bool true), .eq (.bool true), .eq (.slice ka key.length kc), .eq (.pointer (some ⟨A, 0, none⟩)), .eq (credV c), .bytes eb.length eb, .eq (.pointer (some ⟨A, 9, none⟩)), .eq (.slice ta tag.length cap), .eq (.bool d), .eq (.bool (!d)), .eq (.bool (!d)), .any]
def pckSpecsN (A : Nat) (e : Int) : List Spec := [.any, .any, .any, .eq (.pointer (some ⟨A, 0, none⟩)), .any, .any, .eq (.int .i64 e), .any, .any, .any, .any, .any, .any, .any, .eq (.int .i64 e), .eq (.bool false), .eq (.bool false), .any, .any, .any, .any, .any, .any, .any, .any, .eq (.bool false), .any]

set_option maxRecDepth 100000 in
set_option maxHeartbeats 2000000 in
theorem pcheck {D E : Nat → Prop} (g : Nat) (l : List KeyB) (c : CredB) (tag : List UInt8) (ta : Option Addr) (cap : Nat) (w : World) (h : RegAt D w g l) (hreg : newErr l = 0) (hs : credShort c 9223372036854775807) (hb : BytesAt E w (.slice ta tag.length cap) tag) :
    Calls Tryz.prog 9 #[.pointer (some ⟨g, 0, none⟩), signV c (.slice ta tag.length cap)] w fun e w' => e = .returned (.int .i64 (checkErr l ⟨c, tag⟩ : Nat)) ∧ Chg (fun _ => False) w w' := by
  have hA1 : (w.alloc (.cells #[.int .i64 c.kind, .string ⟨c.head.1.toArray⟩, .string ⟨c.head.2.toArray⟩, .string ⟨c.who.toArray⟩, .string ⟨c.b.1.toArray⟩, .string ⟨c.b.2.toArray⟩, .string ⟨c.c.1.toArray⟩, .string ⟨c.c.2.toArray⟩, .string ⟨c.w2.toArray⟩, .slice ta tag.length cap] 38)).heap[w.heap.size]? = some (.cells (signBox c (.slice ta tag.length cap)) 38 (0, 0)) := heap_alloc_new w _
  have hc1 : Chg (fun _ => False) w (w.alloc (.cells #[.int .i64 c.kind, .string ⟨c.head.1.toArray⟩, .string ⟨c.head.2.toArray⟩, .string ⟨c.who.toArray⟩, .string ⟨c.b.1.toArray⟩, .string ⟨c.b.2.toArray⟩, .string ⟨c.c.1.toArray⟩, .string ⟨c.c.2.toArray⟩, .string ⟨c.w2.toArray⟩, .slice ta tag.length cap] 38)) := (Chg.refl _ w).alloc _
  have hkc := piss g l c (w.alloc (.cells #[.int .i64 c.kind, .string ⟨c.head.1.toArray⟩, .string ⟨c.head.2.toArray⟩, .string ⟨c.who.toArray⟩, .string ⟨c.b.1.toArray⟩, .string ⟨c.b.2.toArray⟩, .string ⟨c.c.1.toArray⟩, .string ⟨c.c.2.toArray⟩, .string ⟨c.w2.toArray⟩, .slice ta tag.length cap] 38)) (RegAt.keep h hc1 (fun _ _ => id)) hs
  have HH := hid (And.intro hkc (And.intro hA1 (And.intro hc1 (hb.keep hc1 (fun _ _ => id)))))
  have HR := hid hreg
  clear hkc hA1 hc1 hb hreg h
  show Calls Tryz.prog 9 #[.pointer (some ⟨g, 0, none⟩), .agg #[.int .i64 c.kind, .string ⟨c.head.1.toArray⟩, .string ⟨c.head.2.toArray⟩, .string ⟨c.who.toArray⟩, .string ⟨c.b.1.toArray⟩, .string ⟨c.b.2.toArray⟩, .string ⟨c.c.1.toArray⟩, .string ⟨c.c.2.toArray⟩, .string ⟨c.w2.toArray⟩, .slice ta tag.length cap]] w _
  go_enter Tryz.func9, Tryz.ntmps9
  go_wp2_with fail
  obtain ⟨hkc, hA1, hc1, hb⟩ := HH.out
  clear HH
  generalize (w.alloc (.cells #[.int .i64 c.kind, .string ⟨c.head.1.toArray⟩, .string ⟨c.head.2.toArray⟩, .string ⟨c.who.toArray⟩, .string ⟨c.b.1.toArray⟩, .string ⟨c.b.2.toArray⟩, .string ⟨c.c.1.toArray⟩, .string ⟨c.c.2.toArray⟩, .string ⟨c.w2.toArray⟩, .slice ta tag.length cap] 38)) = w1 at *
  refine hkc.mono ?_
  rintro e w2 ⟨ka, kc, rfl, hkb, hc12⟩
  have hA2 := blk_keep hA1 hc12 id
  have hc2 := hc1.trans hc12 (fun _ _ h => h)
  have hb2 := hb.keep hc12 (fun _ _ => id)
  clear hkc hA1 hc1 hc12 hb
  generalize w.heap.size = A at *
  have HX := hid (And.intro hA2 hb2)
  have HC := hid hc2
  clear hA2 hb2 hc2
  by_cases h0 : signErr l c = 0
  · obtain ⟨hi, hw⟩ := signErr_ok h0
    obtain ⟨key, hkey⟩ : ∃ key, keyStr l c = key := ⟨_, rfl⟩
    obtain ⟨eb, heb⟩ : ∃ eb, credBytes c = eb := ⟨_, rfl⟩
    have hk0 : keyOf l c.head.1 = key := by rw [← hkey, keyStr, if_pos h0]
    obtain ⟨d, hd⟩ : ∃ d, (tagOf key eb == tag) = d := ⟨_, rfl⟩
    have HE2 : Hid (checkErr l ⟨c, tag⟩ = if d then 0 else 20) := hid (by rw [checkErr, if_pos h0, signTag, hk0, show credEnc c = eb by rw [← heb, credBytes, if_pos hi]]; by_cases e : tagOf key eb = tag <;> simp [← hd, e])
    have HK : Hid (1 ≤ key.length ∧ key.length ≤ 32) := hid (by rw [← hk0]; exact key_size HR.out hw)
    have HEB := hid heb
    rw [hkey] at hkb
    have HKB := hid hkb
    rw [h0, hkey]
    have HD := hid hd
    clear hkey hk0 heb h0 hi hw hkb hd
    go_wp2_with fail
    refine wp_region_specs (pckSpecs A c tag key eb ta ka cap kc d) [14, 15, 16, 17, 18, 19, 20, 21, 22, 23, 24, 25] [3, 5, 6] (by kernel_rfl) (by kernel_rfl) (by rfl) (by kernel_rfl) ?start ?obs ?fin
    case start =>
      simp only [List.forall_mem_cons]; exact ⟨⟨_, rfl, rfl⟩, ⟨_, rfl, rfl⟩, ⟨_, rfl, rfl⟩, fun _ h => by cases h⟩
    case obs =>
      clear HC HE2
      refine Obs.cons none (by kernel_rfl) ?_ ?_
      · refine Ob.plain fun a w hR hk K k => ?_
        obtain ⟨_, e6, f6⟩ := hk 6 (by decide)
        clear hk
        go_simp
        exact k _ _ (Chg.refl _ _) f6
      refine Obs.cons none (by kernel_rfl) ?_ ?_
      · refine Ob.plain fun a w hR hk K k => ?_
        obtain ⟨_, e14, rfl⟩ := hk 14 (by decide)
        clear hk
        go_simp
        exact k _ _ (Chg.refl _ _) rfl
      refine Obs.cons none (by kernel_rfl) ?_ ?_
      · refine Ob.plain fun a w hR hk K k => ?_
        obtain ⟨_, e15, f15⟩ := hk 15 (by decide)
        clear hk
        go_simp
        exact k _ _ (Chg.refl _ _) f15
      refine Obs.cons (some (16, true)) (by kernel_rfl) ?_ ?_
      · refine Ob.yes (fun _ _ h => h) fun a w hR hk K k => ?_
        obtain ⟨_, e5, f5⟩ := hk 5 (by decide)
        clear hk
        go_simp
        exact k _ _ (Chg.refl _ _) f5
      refine Obs.cons (some (16, true)) (by kernel_rfl) ?_ ?_
      · refine Ob.yes (fun _ _ h => h) fun a w hR hk K k => ?_
        obtain ⟨_, e3, rfl⟩ := hk 3 (by decide)
        clear hk
        go_simp
        exact k _ _ (Chg.refl _ _) rfl
      refine Obs.cons (some (16, true)) (by kernel_rfl) ?_ ?_
      · refine Ob.yes (fun _ _ h => h) fun a w hR hk K k => ?_
        obtain ⟨_, e18, rfl⟩ := hk 18 (by decide)
        clear hk
        obtain ⟨hq, _⟩ := cred_at_sign HX.out.1
        obtain ⟨y0, y1, y2, y3, y4, y5, y6, y7, y8⟩ := hq.keep hR id
        simp only [Nat.zero_add] at y0 y1 y2 y3 y4 y5 y6 y7 y8
        clear hq
        go_simp
        exact k _ _ (Chg.refl _ _) rfl
      refine Obs.cons (some (16, true)) (by kernel_rfl) ?_ ?_
      · refine Ob.yes (fun _ _ h => h) fun a w hR hk K k => ?_
        obtain ⟨_, e19, rfl⟩ := hk 19 (by decide)
        clear hk
        have hcb := pcbytes c w hs
        unfold BytesPostC at hcb
        rw [HEB.out] at hcb
        go_simp
        refine hcb.mono ?_
        rintro e w2 ⟨ba, bc, rfl, hbt, hc⟩
        exact k _ _ hc ⟨ba, bc, rfl, rfl, hbt.mono (fun _ _ => trivial)⟩
      refine Obs.cons (some (16, true)) (by kernel_rfl) ?_ ?_
      · refine Ob.yes (fun _ _ h => h) fun a w hR hk K k => ?_
        obtain ⟨_, e3, rfl⟩ := hk 3 (by decide)
        clear hk
        go_simp
        exact k _ _ (Chg.refl _ _) rfl
      refine Obs.cons (some (16, true)) (by kernel_rfl) ?_ ?_
      · refine Ob.yes (fun _ _ h => h) fun a w hR hk K k => ?_
        obtain ⟨_, e21, rfl⟩ := hk 21 (by decide)
        clear hk
        have z9 := hR.cell (cred_at_sign HX.out.1).2 id
        go_simp
        exact k _ _ (Chg.refl _ _) rfl
      refine Obs.cons (some (16, true)) (by kernel_rfl) ?_ ?_
      · refine Ob.yes (fun _ _ h => h) fun a w hR hk K k => ?_
        obtain ⟨_, e17, rfl⟩ := hk 17 (by decide)
        obtain ⟨_, e20, f20⟩ := hk 20 (by decide)
        obtain ⟨_, e22, rfl⟩ := hk 22 (by decide)
        clear hk
        obtain ⟨ba, bc, rfl, hbl, hbt⟩ := f20
        have hgd := good_at ka ba ta kc bc cap key.length eb.length tag.length key eb tag w HK.out.1 HK.out.2 (bytes_len63 hbt) rfl rfl rfl (HKB.out.keep hR (fun _ _ => id)) hbt (HX.out.2.keep hR (fun _ _ => id))
        clear hbl hbt
        go_simp
        refine hgd.mono ?_
        rintro e w2 ⟨rfl, hc⟩
        exact k _ _ hc (congrArg Value.bool HD.out)
      refine Obs.cons (some (16, true)) (by kernel_rfl) ?_ ?_
      · refine Ob.yes (fun _ _ h => h) fun a w hR hk K k => ?_
        obtain ⟨_, e23, rfl⟩ := hk 23 (by decide)
        clear hk
        go_simp
        exact k _ _ (Chg.refl _ _) rfl
      refine Obs.cons none (by kernel_rfl) ?_ ?_
      · refine Ob.plain fun a w hR hk K k => ?_
        obtain ⟨_, e16, rfl⟩ := hk 16 (by decide)
        obtain ⟨_, e24, rfl⟩ := hk 24 (by decide)
        clear hk
        go_simp
        exact k _ _ (Chg.refl _ _) rfl
      exact Obs.nil
    case fin =>
      intro vals w9 hc9 hv
      have h25 : vals 25 = .bool (!d) := hv 25 (by decide)
      simp only [putAll, List.setIfInBounds_toArray, List.set_cons_zero, List.set_cons_succ, h25]
      have HC9 := hid (HC.out.trans hc9 (fun _ _ h => h))
      clear hc9 hv h25 HC HX HD
      cases d with
      | true =>
        go_wp2
        go_ret
        exact ⟨by rw [HE2.out]; rfl, HC9.out⟩
      | false =>
        go_wp2
        go_ret
        exact ⟨by rw [HE2.out]; rfl, HC9.out⟩
  · have HF : Hid (checkErr l ⟨c, tag⟩ = signErr l c) := hid (by rw [checkErr, if_neg h0])
    obtain ⟨e0, he0⟩ : ∃ e0 : Int, ((signErr l c : Nat) : Int) = e0 := ⟨_, rfl⟩
    have hne : (e0 == 0) = false := beq_eq_false_iff_ne.2 (by omega)
    rw [he0]
    have HE := hid he0
    have HNE := hid hne
    clear he0 h0 hne hkb
    go_wp2_with fail
    refine wp_region_specs (pckSpecsN A e0) [14, 15, 16, 17, 18, 19, 20, 21, 22, 23, 24, 25] [3, 5, 6] (by kernel_rfl) (by kernel_rfl) (by rfl) (by kernel_rfl) ?start2 ?obs2 ?fin2
    case start2 =>
      simp only [List.forall_mem_cons]
      exact ⟨⟨_, rfl, rfl⟩, ⟨_, rfl, trivial⟩, ⟨_, rfl, rfl⟩, fun _ h => by cases h⟩
    case obs2 =>
      clear HC
      have hne := HNE.out
      refine Obs.cons none (by kernel_rfl) ?_ ?_
      · refine Ob.plain fun a w hR hk K k => ?_
        obtain ⟨_, e6, f6⟩ := hk 6 (by decide)
        clear hk
        go_simp
        exact k _ _ (Chg.refl _ _) f6
      refine Obs.cons none (by kernel_rfl) ?_ ?_
      · refine Ob.plain fun a w hR hk K k => ?_
        obtain ⟨_, e14, rfl⟩ := hk 14 (by decide)
        clear hk
        go_simp
        exact k _ _ (Chg.refl _ _) rfl
      refine Obs.cons none (by kernel_rfl) ?_ ?_
      · refine Ob.plain fun a w hR hk K k => ?_
        obtain ⟨_, e15, f15⟩ := hk 15 (by decide)
        clear hk
        go_simp
        exact k _ _ (Chg.refl _ _) f15
      refine Obs.cons (some (16, true)) (by kernel_rfl) ?_ ?_
      · exact Ob.no (fun _ _ h => h) (Chg.refl _) (fun _ _ => trivial)
      refine Obs.cons (some (16, true)) (by kernel_rfl) ?_ ?_
      · exact Ob.no (fun _ _ h => h) (Chg.refl _) (fun _ _ => trivial)
      refine Obs.cons (some (16, true)) (by kernel_rfl) ?_ ?_
      · exact Ob.no (fun _ _ h => h) (Chg.refl _) (fun _ _ => trivial)
      refine Obs.cons (some (16, true)) (by kernel_rfl) ?_ ?_
      · exact Ob.no (fun _ _ h => h) (Chg.refl _) (fun _ _ => trivial)
      refine Obs.cons (some (16, true)) (by kernel_rfl) ?_ ?_
      · exact Ob.no (fun _ _ h => h) (Chg.refl _) (fun _ _ => trivial)
      refine Obs.cons (some (16, true)) (by kernel_rfl) ?_ ?_
      · exact Ob.no (fun _ _ h => h) (Chg.refl _) (fun _ _ => trivial)
      refine Obs.cons (some (16, true)) (by kernel_rfl) ?_ ?_
      · exact Ob.no (fun _ _ h => h) (Chg.refl _) (fun _ _ => trivial)
      refine Obs.cons (some (16, true)) (by kernel_rfl) ?_ ?_
      · exact Ob.no (fun _ _ h => h) (Chg.refl _) (fun _ _ => trivial)
      refine Obs.cons none (by kernel_rfl) ?_ ?_
      · refine Ob.plain fun a w hR hk K k => ?_
        obtain ⟨_, e16, rfl⟩ := hk 16 (by decide)
        obtain ⟨_, e24, _⟩ := hk 24 (by decide)
        clear hk
        go_simp
        exact k _ _ (Chg.refl _ _) rfl
      exact Obs.nil
    case fin2 =>
      intro vals w9 hc9 hv
      have h25 : vals 25 = .bool false := hv 25 (by decide)
      simp only [putAll, List.setIfInBounds_toArray, List.set_cons_zero, List.set_cons_succ, h25]
      have HC9 := hid (HC.out.trans hc9 (fun _ _ h => h))
      clear hc9 hv h25 HC
      go_wp2
      go_ret
      exact ⟨by rw [HF.out, HE.out]; rfl, HC9.out⟩

set_option maxRecDepth 100000 in
set_option maxHeartbeats 2000000 in
/-- Of a nil registry. -/
theorem pcheck_nil (c : CredB) (n : Nat) (ta : Option Addr) (cap : Nat) (w : World) :
    Calls Tryz.prog 9 #[.pointer none, signV c (.slice ta n cap)] w fun e w' => e = .returned (.int .i64 1) ∧ Chg (fun _ => False) w w' := by
  have hc1 : Chg (fun _ => False) w (w.alloc (.cells #[.int .i64 c.kind, .string ⟨c.head.1.toArray⟩, .string ⟨c.head.2.toArray⟩, .string ⟨c.who.toArray⟩, .string ⟨c.b.1.toArray⟩, .string ⟨c.b.2.toArray⟩, .string ⟨c.c.1.toArray⟩, .string ⟨c.c.2.toArray⟩, .string ⟨c.w2.toArray⟩, .slice ta n cap] 38)) := (Chg.refl _ w).alloc _
  have hkc := piss_nil c (w.alloc (.cells #[.int .i64 c.kind, .string ⟨c.head.1.toArray⟩, .string ⟨c.head.2.toArray⟩, .string ⟨c.who.toArray⟩, .string ⟨c.b.1.toArray⟩, .string ⟨c.b.2.toArray⟩, .string ⟨c.c.1.toArray⟩, .string ⟨c.c.2.toArray⟩, .string ⟨c.w2.toArray⟩, .slice ta n cap] 38))
  have HH := hid (And.intro hkc hc1)
  clear hkc hc1
  show Calls Tryz.prog 9 #[.pointer none, .agg #[.int .i64 c.kind, .string ⟨c.head.1.toArray⟩, .string ⟨c.head.2.toArray⟩, .string ⟨c.who.toArray⟩, .string ⟨c.b.1.toArray⟩, .string ⟨c.b.2.toArray⟩, .string ⟨c.c.1.toArray⟩, .string ⟨c.c.2.toArray⟩, .string ⟨c.w2.toArray⟩, .slice ta n cap]] w _
  go_enter Tryz.func9, Tryz.ntmps9
  go_wp2_with fail
  obtain ⟨hkc, hc1⟩ := HH.out
  clear HH
  generalize (w.alloc (.cells #[.int .i64 c.kind, .string ⟨c.head.1.toArray⟩, .string ⟨c.head.2.toArray⟩, .string ⟨c.who.toArray⟩, .string ⟨c.b.1.toArray⟩, .string ⟨c.b.2.toArray⟩, .string ⟨c.c.1.toArray⟩, .string ⟨c.c.2.toArray⟩, .string ⟨c.w2.toArray⟩, .slice ta n cap] 38)) = w1 at *
  refine hkc.mono ?_
  rintro e w2 ⟨rfl, hc12⟩
  have hc2 := hc1.trans hc12 (fun _ _ h => h)
  clear hkc hc1 hc12
  generalize w.heap.size = A at *
  have HC := hid hc2
  clear hc2
  · obtain ⟨e0, he0⟩ : ∃ e0 : Int, 1 = e0 := ⟨_, rfl⟩
    have hne : (e0 == 0) = false := beq_eq_false_iff_ne.2 (by omega)
    rw [he0]
    have HE := hid he0
    have HNE := hid hne
    clear he0 hne
    go_wp2_with fail
    refine wp_region_specs (pckSpecsN A e0) [14, 15, 16, 17, 18, 19, 20, 21, 22, 23, 24, 25] [3, 5, 6] (by kernel_rfl) (by kernel_rfl) (by rfl) (by kernel_rfl) ?start2 ?obs2 ?fin2
    case start2 =>
      simp only [List.forall_mem_cons]
      exact ⟨⟨_, rfl, rfl⟩, ⟨_, rfl, trivial⟩, ⟨_, rfl, rfl⟩, fun _ h => by cases h⟩
    case obs2 =>
      clear HC
      have hne := HNE.out
      refine Obs.cons none (by kernel_rfl) ?_ ?_
      · refine Ob.plain fun a w hR hk K k => ?_
        obtain ⟨_, e6, f6⟩ := hk 6 (by decide)
        clear hk
        go_simp
        exact k _ _ (Chg.refl _ _) f6
      refine Obs.cons none (by kernel_rfl) ?_ ?_
      · refine Ob.plain fun a w hR hk K k => ?_
        obtain ⟨_, e14, rfl⟩ := hk 14 (by decide)
        clear hk
        go_simp
        exact k _ _ (Chg.refl _ _) rfl
      refine Obs.cons none (by kernel_rfl) ?_ ?_
      · refine Ob.plain fun a w hR hk K k => ?_
        obtain ⟨_, e15, f15⟩ := hk 15 (by decide)
        clear hk
        go_simp
        exact k _ _ (Chg.refl _ _) f15
      refine Obs.cons (some (16, true)) (by kernel_rfl) ?_ ?_
      · exact Ob.no (fun _ _ h => h) (Chg.refl _) (fun _ _ => trivial)
      refine Obs.cons (some (16, true)) (by kernel_rfl) ?_ ?_
      · exact Ob.no (fun _ _ h => h) (Chg.refl _) (fun _ _ => trivial)
      refine Obs.cons (some (16, true)) (by kernel_rfl) ?_ ?_
      · exact Ob.no (fun _ _ h => h) (Chg.refl _) (fun _ _ => trivial)
      refine Obs.cons (some (16, true)) (by kernel_rfl) ?_ ?_
      · exact Ob.no (fun _ _ h => h) (Chg.refl _) (fun _ _ => trivial)
      refine Obs.cons (some (16, true)) (by kernel_rfl) ?_ ?_
      · exact Ob.no (fun _ _ h => h) (Chg.refl _) (fun _ _ => trivial)
      refine Obs.cons (some (16, true)) (by kernel_rfl) ?_ ?_
      · exact Ob.no (fun _ _ h => h) (Chg.refl _) (fun _ _ => trivial)
      refine Obs.cons (some (16, true)) (by kernel_rfl) ?_ ?_
      · exact Ob.no (fun _ _ h => h) (Chg.refl _) (fun _ _ => trivial)
      refine Obs.cons (some (16, true)) (by kernel_rfl) ?_ ?_
      · exact Ob.no (fun _ _ h => h) (Chg.refl _) (fun _ _ => trivial)
      refine Obs.cons none (by kernel_rfl) ?_ ?_
      · refine Ob.plain fun a w hR hk K k => ?_
        obtain ⟨_, e16, rfl⟩ := hk 16 (by decide)
        obtain ⟨_, e24, _⟩ := hk 24 (by decide)
        clear hk
        go_simp
        exact k _ _ (Chg.refl _ _) rfl
      exact Obs.nil
    case fin2 =>
      intro vals w9 hc9 hv
      have h25 : vals 25 = .bool false := hv 25 (by decide)
      simp only [putAll, List.setIfInBounds_toArray, List.set_cons_zero, List.set_cons_succ, h25]
      have HC9 := hid (HC.out.trans hc9 (fun _ _ h => h))
      clear hc9 hv h25 HC
      go_wp2
      go_ret
      exact ⟨by have := HE.out; subst this; rfl, HC9.out⟩
end Go.Proofs.YtjflmhncgkbdmaaGreat

/- Credentials with their bytes beside them: lists of the call's own. -/
namespace Go.Proofs.YtjflmhncgkbdmaaGreat
open Go.RowKit

/-- A credential with its bytes, in a slice. -/
structure WrB where
  c : CredB
  ao : Option Addr
  cap : Nat
  deriving Inhabited

def wrCells (t : WrB) : List Value :=
  [.int .i64 t.c.kind, .string ⟨t.c.head.1.toArray⟩, .string ⟨t.c.head.2.toArray⟩, .string ⟨t.c.who.toArray⟩, .string ⟨t.c.b.1.toArray⟩, .string ⟨t.c.b.2.toArray⟩, .string ⟨t.c.c.1.toArray⟩, .string ⟨t.c.c.2.toArray⟩, .string ⟨t.c.w2.toArray⟩, .slice t.ao (credBytes t.c).length t.cap]
def wrBox (t : WrB) : Array Value :=
  #[.int .i64 t.c.kind, .string ⟨t.c.head.1.toArray⟩, .string ⟨t.c.head.2.toArray⟩, .string ⟨t.c.who.toArray⟩, .string ⟨t.c.b.1.toArray⟩, .string ⟨t.c.b.2.toArray⟩, .string ⟨t.c.c.1.toArray⟩, .string ⟨t.c.c.2.toArray⟩, .string ⟨t.c.w2.toArray⟩, .slice t.ao (credBytes t.c).length t.cap]
theorem wrCells_len (t : WrB) : (wrCells t).length = 10 := rfl

/-! ### Rows of elements of k cells each. -/

theorem flat_len {α : Type} (enc : α → List Value) (k : Nat) (hk : ∀ x, (enc x).length = k) : ∀ ls : List α, (ls.flatMap enc).length = ls.length * k
  | [] => by simp
  | x :: l => by
    rw [List.flatMap_cons, List.length_append, flat_len enc k hk l, hk, List.length_cons, Nat.add_mul]
    omega

theorem flat_get {α : Type} (enc : α → List Value) (k : Nat) (hk : ∀ x, (enc x).length = k) : ∀ (ls : List α) (i j : Nat) (h : i < ls.length) (_ : j < k), (ls.flatMap enc)[i * k + j]? = (enc ls[i])[j]?
  | x :: l, 0, j, _, hj => by
    rw [Nat.zero_mul, Nat.zero_add, List.flatMap_cons, List.getElem?_append_left (by rw [hk]; exact hj)]
    rfl
  | x :: l, i + 1, j, h, hj => by
    have := flat_get enc k hk l i j (by simpa using h) hj
    rw [List.flatMap_cons, List.getElem?_append_right (by rw [hk, Nat.add_mul]; omega), hk]
    rw [show (i + 1) * k + j - k = i * k + j by rw [Nat.add_mul]; omega]
    exact this

def wrRow (ls : List WrB) : List Value := ls.flatMap wrCells
theorem wrRow_snoc (ls : List WrB) (x : WrB) : wrRow (ls ++ [x]) = wrRow ls ++ wrCells x := by simp [wrRow]

def OwnW (B : Nat) (w : World) (v : Value) (ls : List WrB) : Prop := w.ownsRow B 118 10 v ls.length (wrRow ls)

theorem OwnW.keep {S : Nat → Prop} {B : Nat} {w w' : World} {v : Value} {ls : List WrB} (h : OwnW B w v ls) (hc : Chg S w w') (hr : ∀ k, v.ownBlock = some k → ¬ S k) : OwnW B w' v ls := ownsRow_keep h hc hr

theorem OwnW.shape {B : Nat} {w : World} {v : Value} {ls : List WrB} (h : OwnW B w v ls) : ∃ ao cap, v = .slice ao ls.length cap := by
  rcases h.2 with ⟨rfl, h0⟩ | ⟨g, cap, cur, rfl, _⟩
  · exact ⟨none, 0, by rw [h0]⟩
  · exact ⟨_, _, rfl⟩

theorem Tryz.info118 : (Tryz.prog.info? 118).map (fun i => (i.zero, i.size, i.bytes)) = some (some (.agg #[.int .i64 0, .string ⟨#[]⟩, .string ⟨#[]⟩, .string ⟨#[]⟩, .string ⟨#[]⟩, .string ⟨#[]⟩, .string ⟨#[]⟩, .string ⟨#[]⟩, .string ⟨#[]⟩, .slice none 0 0]), 10, 160) := by kernel_rfl

theorem wr_cells_new (w : World) (x : WrB) (j : Nat) (u : Value) (h : (wrCells x)[j]? = some u) : (w.alloc (.cells (wrBox x) 118)).cell? ((⟨w.heap.size, 0, none⟩ : Addr).add j) = some u := by
  rw [add_off, cell_blk (heap_alloc_new w _), Nat.zero_add, show wrBox x = (wrCells x).toArray from rfl, List.getElem?_toArray]
  exact h

theorem wr_one (x : WrB) : ∀ u ∈ wrCells x, u.oneCell' = true := by
  intro u hu
  simp only [wrCells, List.mem_cons, List.not_mem_nil, or_false] at hu
  rcases hu with rfl | rfl | rfl | rfl | rfl | rfl | rfl | rfl | rfl | rfl <;> rfl

/-- The bytes beside each can be read, from blocks that came up from lo on, other than the block ob. -/
def ReadsW (lo : Nat) (w : World) (ob : Option Nat) (ls : List WrB) : Prop :=
  ∀ t, t ∈ ls → isCred t.c = true ∧ BytesAt (fun b => lo ≤ b ∧ b < w.heap.size ∧ some b ≠ ob) w (.slice t.ao (credBytes t.c).length t.cap) (credBytes t.c)

theorem ReadsW.keep {lo : Nat} {w w' : World} {ob : Option Nat} {ls : List WrB} {S : Nat → Prop} (h : ReadsW lo w ob ls) (hc : Chg S w w') (hS : ∀ k, S k → k < w.heap.size → lo ≤ k → some k = ob) : ReadsW lo w' ob ls := fun t ht => by
  obtain ⟨h1, h2⟩ := h t ht
  refine ⟨h1, (h2.keep hc ?_).mono ?_⟩
  · rintro i ⟨a, b, c⟩ hs
    exact c (hS i hs b a)
  · rintro i ⟨a, b, c⟩
    exact ⟨a, Nat.lt_of_lt_of_le b hc.size, c⟩

theorem ReadsW.off {lo : Nat} {w : World} {ob ob' : Option Nat} {ls : List WrB} (h : ReadsW lo w ob ls) (hob : ob' = ob ∨ ∃ n, ob' = some n ∧ w.heap.size ≤ n) : ReadsW lo w ob' ls := fun t ht => by
  obtain ⟨h1, h2⟩ := h t ht
  refine ⟨h1, h2.mono ?_⟩
  rintro i ⟨a, b, c⟩
  refine ⟨a, b, fun e => ?_⟩
  rcases hob with rfl | ⟨n, rfl, hn⟩
  · exact c e
  · cases e; omega

theorem ReadsW.snoc {lo : Nat} {w : World} {ob : Option Nat} {ls : List WrB} {x : WrB} (h : ReadsW lo w ob ls) (hc : isCred x.c = true) (hb : BytesAt (fun b => lo ≤ b ∧ b < w.heap.size ∧ some b ≠ ob) w (.slice x.ao (credBytes x.c).length x.cap) (credBytes x.c)) : ReadsW lo w ob (ls ++ [x]) := fun t ht => by
  rcases List.mem_append.1 ht with h1 | h1
  · exact h t h1
  · rw [List.mem_singleton] at h1; subst h1; exact ⟨hc, hb⟩

theorem ReadsW.nil (lo : Nat) (w : World) (ob : Option Nat) : ReadsW lo w ob [] := fun t ht => by cases ht

theorem BytesAt.both {D E : Nat → Prop} {w : World} {v : Value} {l : List UInt8} (h : BytesAt D w v l) (k : BytesAt E w v l) : BytesAt (fun i => D i ∧ E i) w v l := by
  rcases h with h | ⟨b, off, cap, e1, e2, e3, e4, e5⟩
  · exact .inl h
  · rcases k with k | ⟨b', off', cap', f1, f2, f3, f4, f5⟩
    · exact .inl k
    · rw [e1] at f1
      cases f1
      exact .inr ⟨b, off, cap, e1, e2, e3, ⟨e4, f4⟩, e5⟩

/-- What an append of one leaves, in the words of the walk of Set. -/
theorem wr_grown {lo : Nat} {w w2 : World} {v v' : Value} {ls : List WrB} {x : WrB} (hown : w2.ownsRow lo 118 10 v' (ls.length + 1) (wrRow ls ++ wrCells x)) (hgrow : w.grownBy w2 v.ownBlock) (hat : v'.ownBlock = v.ownBlock ∨ v'.ownBlock = some w.heap.size)
    (hr : ReadsW lo w v.ownBlock ls) (hx : isCred x.c = true) (hb : BytesAt (fun b => lo ≤ b ∧ b < w.heap.size ∧ some b ≠ v.ownBlock) w (.slice x.ao (credBytes x.c).length x.cap) (credBytes x.c)) :
    OwnW lo w2 v' (ls ++ [x]) ∧ ReadsW lo w2 v'.ownBlock (ls ++ [x]) := by
  refine ⟨?_, ?_⟩
  · unfold OwnW
    rw [wrRow_snoc, List.length_append, List.length_singleton]
    exact hown
  · have h1 := hr.snoc hx hb
    have hc : Chg (fun k => some k = v.ownBlock) w w2 := (Chg.refl _ w).grown hgrow (fun k e _ => e.symm)
    have h2 : ReadsW lo w v'.ownBlock (ls ++ [x]) := h1.off (by
      rcases hat with e | e
      · exact .inl e
      · exact .inr ⟨_, e, Nat.le_refl _⟩)
    intro t ht
    obtain ⟨k1, k2⟩ := h1 t ht
    obtain ⟨_, k3⟩ := h2 t ht
    refine ⟨k1, ((k2.both k3).keep hc (fun i hi e => hi.1.2.2 e)).mono ?_⟩
    rintro i ⟨_, f1, f2, f3⟩
    exact ⟨f1, Nat.lt_of_lt_of_le f2 hc.size, f3⟩
end Go.Proofs.YtjflmhncgkbdmaaGreat

/- bytes.Compare at two slices that can be read. -/
namespace Go.Proofs.YtjflmhncgkbdmaaGreat
open Go.RowKit

theorem run_loadBytes {P : Program} (b off : Nat) (w : World) : ∀ (l : List UInt8) (k : Nat) (acc : List UInt8), (∀ i (h : i < l.length), w.cell? ⟨b, off + k + i, none⟩ = some (.int .u8 (l[i].toNat : Int))) →
    (Extern.Bytes.loadBytes ⟨b, off + k, none⟩ l.length ⟨acc.toArray⟩).run P w = .ok ⟨(acc ++ l).toArray⟩ w
  | [], k, acc, _ => by
    rw [List.append_nil]
    rfl
  | x :: l, k, acc, h => by
    have h0 := h 0 (by simp)
    simp only [Nat.add_zero, List.getElem_cons_zero] at h0
    have ih := run_loadBytes (P := P) b off w l (k + 1) (acc ++ [x]) (fun i hi => by
      have := h (i + 1) (by simpa using hi)
      rw [show off + (k + 1) + i = off + k + (i + 1) by omega]
      simpa using this)
    show Sem.run P (do match ← load ⟨b, off + k, none⟩ with
      | .int .u8 y => Extern.Bytes.loadBytes ((⟨b, off + k, none⟩ : Addr).add 1) l.length ((⟨acc.toArray⟩ : ByteArray).push y.toNat.toUInt8)
      | _ => stuck "loadBytes: a byte expected") w = _
    rw [Sem.run_bind, _root_.Go.run_load, h0]
    simp only [Result.andThen]
    have e1 : ((⟨acc.toArray⟩ : ByteArray).push ((x.toNat : Int).toNat.toUInt8)) = ⟨(acc ++ [x]).toArray⟩ := by
      have : ((x.toNat : Int).toNat.toUInt8) = x := by simp
      rw [this]
      simp [ByteArray.push]
    rw [e1, show ((⟨b, off + k, none⟩ : Addr).add 1) = ⟨b, off + (k + 1), none⟩ from rfl, ih]
    simp

theorem run_bytesOf {P : Program} {D : Nat → Prop} {w : World} {v : Value} {l : List UInt8} (h : BytesAt D w v l) : (Extern.Bytes.bytesOf v).run P w = .ok ⟨l.toArray⟩ w := by
  rcases h with ⟨ao, cp, rfl, rfl, _⟩ | ⟨b, off, cap, rfl, _, _, _, hc⟩
  · cases ao <;> rfl
  · have := run_loadBytes (P := P) b off w l 0 [] (fun i hi => by rw [Nat.add_zero]; exact hc i hi)
    rw [Nat.add_zero, List.nil_append] at this
    exact this

theorem run_compareSlices {P : Program} {D E : Nat → Prop} {w : World} {u v : Value} {a b : List UInt8} (ha : BytesAt D w u a) (hb : BytesAt E w v b) :
    (Extern.BytealgCompare.compare #[u, v]).run P w = .ok (.int .i64 (Lib.compareBytes a b)) w := by
  change Sem.run P (do pure (goInt (Extern.BytealgCompare.cmp (← Extern.Bytes.bytesOf u) (← Extern.Bytes.bytesOf v)))) w = _
  rw [Sem.run_bind, run_bytesOf ha]
  simp only [Result.andThen]
  rw [Sem.run_bind, run_bytesOf hb]
  simp only [Result.andThen, Sem.run_pure]
  rw [Lib.cmp_eq]
  rfl

set_option maxRecDepth 100000 in
theorem bytes_compare {D E : Nat → Prop} {u v : Value} {a b : List UInt8} (w : World) (ha : BytesAt D w u a) (hb : BytesAt E w v b) :
    Calls Tryz.prog 69 #[u, v] w fun e w' => e = .returned (.int .i64 (Lib.compareBytes a b)) ∧ w = w' := by
  have hrun := run_compareSlices (P := Tryz.prog) ha hb
  have HR := hid hrun
  clear hrun ha hb
  go_enter Tryz.func69, Tryz.ntmps69
  go_wp2
  rw [run_callFunc_extern Tryz.func94 (by kernel_rfl) (by kernel_rfl) (by kernel_rfl) (e := Extern.BytealgCompare.compare) (by kernel_rfl), HR.out]
  simp only [Result.andThen]
  rw [Oper.upon_value]
  go_wp2
  go_ret
  exact ⟨rfl, rfl⟩
end Go.Proofs.YtjflmhncgkbdmaaGreat

/- cred.Compare: the program's contract. -/
namespace Go.Proofs.YtjflmhncgkbdmaaGreat
open Go.RowKit

theorem cmpC_eq (a b : CredB) : Lib.compareBytes (credBytes a) (credBytes b) = cmpC a b := by rw [cmpB_eq]; rfl

def compareSpecs (A B : Nat) (a b : CredB) : List Spec := [.any, .any, .eq (.pointer (some ⟨A, 0, none⟩)), .eq (.pointer (some ⟨B, 0, none⟩)), .eq (.int .i64 (cmpC a b)), .eq (credV a), .bytes (credBytes a).length (credBytes a), .eq (credV b), .bytes (credBytes b).length (credBytes b), .eq (.int .i64 (cmpC a b))]

end Go.Proofs.YtjflmhncgkbdmaaGreat

/- A row that a sort has put in order: what its block holds, and that nothing else has turned. -/
namespace Go.Proofs.YtjflmhncgkbdmaaGreat
open Go.RowKit Go.Sort Go.Lib
theorem heap_putRow {w : World} {g n : Nat} {os : Array Obj} {cur : Array Value} {e : TypeId} {fr : Nat × Nat} (F : Array Value) (hb : w.heap[g]? = some (.cells cur e fr)) :
    (grow (putRow id (Sort.ahead w n) g 0 F) os).heap[g]? = some (.cells (putCells id 0 F cur) e fr) := by
  have hg : g < w.heap.size := (Array.getElem?_eq_some_iff.1 hb).1
  rw [heap_grow_old _ _ (by simpa using hg)]
  simp [putRow, mapBlock, Sort.ahead, Array.getElem?_modify, hb, onCells]

theorem chg_putRow {w : World} {g n : Nat} {os : Array Obj} (F : Array Value) (S : Nat → Prop) (hS : S g) : Chg S w (grow (putRow id (Sort.ahead w n) g 0 F) os) := by
  refine ⟨rfl, rfl, rfl, by simp, fun k hk hs => ?_⟩
  rw [heap_grow_old _ _ (by simpa using hk)]
  have : g ≠ k := fun e => hs (e ▸ hS)
  simp [putRow, mapBlock, Sort.ahead, Array.getElem?_modify, this]

end Go.Proofs.YtjflmhncgkbdmaaGreat

/-
  DERIVED: THE SHELF's CONTRACTS AT THIS DUMP, IN PLAIN WORDS (tools/lay-plain.mjs out of 'TryzShelfW.lean', which tools/lay-shelf.mjs wrote): THE SAME DECLARATIONS UNDER THE SAME NAMES: 'import', 'namespace', 'open', 'def', 'theorem' AND NOTHING ELSE: no command of the shelf's: FOR A HAND-IN. Each laying: the table of numbers ('.._ren') and one theorem, a field a fact of the dump's own or the kernel's comparison; each contract: ONE APPLICATION.
-/
namespace Go.Proofs
open Go.Shelf
def Tryz.sortW_ren : Go.Shelf.Ren := ⟨fun | 6 => 67 | 15 => 92 | 14 => 93 | 28 => 107 | 29 => 108 | 20 => 109 | 21 => 110 | 22 => 111 | 23 => 112 | 24 => 113 | 25 => 114 | 26 => 115 | 27 => 116 | 46 => 124 | 47 => 119 | 48 => 120 | 49 => 125 | 50 => 126 | 57 => 129 | n => n, fun | 22 => 116 | 24 => 118 | 25 => 121 | 3 => 3 | 39 => 138 | 0 => 0 | 53 => 156 | 55 => 122 | 4 => 4 | 46 => 148 | 45 => 147 | 50 => 153 | 5 => 5 | 9 => 9 | 66 => 164 | 70 => 168 | 76 => 172 | 77 => 173 | n => n, fun | n => n⟩
theorem Tryz.sortW : Go.Proofs.SlLaysF0.n6 Tryz.prog Tryz.sortW_ren := {
  mixed := by kernel_rfl
  f6 := ⟨Tryz.f67.name, by decide, Tryz.func67.trans (congrArg some (by kernel_rfl))⟩
  f14 := ⟨Tryz.f93.name, by decide, Tryz.func93.trans (congrArg some (by kernel_rfl))⟩
  f15 := Tryz.func92.trans (congrArg some (by kernel_rfl))
  f20 := ⟨Tryz.f109.name, by decide, Tryz.func109.trans (congrArg some (by kernel_rfl))⟩
  f21 := ⟨Tryz.f110.name, by decide, Tryz.func110.trans (congrArg some (by kernel_rfl))⟩
  f22 := ⟨Tryz.f111.name, by decide, Tryz.func111.trans (congrArg some (by kernel_rfl))⟩
  f23 := ⟨Tryz.f112.name, by decide, Tryz.func112.trans (congrArg some (by kernel_rfl))⟩
  f24 := ⟨Tryz.f113.name, by decide, Tryz.func113.trans (congrArg some (by kernel_rfl))⟩
  f25 := ⟨Tryz.f114.name, by decide, Tryz.func114.trans (congrArg some (by kernel_rfl))⟩
  f26 := ⟨Tryz.f115.name, by decide, Tryz.func115.trans (congrArg some (by kernel_rfl))⟩
  f27 := ⟨Tryz.f116.name, by decide, Tryz.func116.trans (congrArg some (by kernel_rfl))⟩
  f28 := Tryz.func107.trans (congrArg some (by kernel_rfl))
  f29 := Tryz.func108.trans (congrArg some (by kernel_rfl))
  f46 := ⟨Tryz.f124.name, by decide, Tryz.func124.trans (congrArg some (by kernel_rfl))⟩
  f47 := Tryz.func119.trans (congrArg some (by kernel_rfl))
  f48 := Tryz.func120.trans (congrArg some (by kernel_rfl))
  f49 := ⟨Tryz.f125.name, by decide, Tryz.func125.trans (congrArg some (by kernel_rfl))⟩
  f50 := ⟨Tryz.f126.name, by decide, Tryz.func126.trans (congrArg some (by kernel_rfl))⟩
  f57 := ⟨Tryz.f129.name, by decide, Tryz.func129.trans (congrArg some (by kernel_rfl))⟩
  t0 := Tryz.underlying0
  a0 := Tryz.isAgg0
  z0 := Tryz.sizeOf0
  v0 := Tryz.zeroValue0
  t3 := Tryz.underlying3
  a3 := Tryz.isAgg3
  z3 := Tryz.sizeOf3
  v3 := Tryz.zeroValue3
  t4 := Tryz.underlying4
  a4 := Tryz.isAgg4
  z4 := Tryz.sizeOf4
  v4 := Tryz.zeroValue4
  t5 := Tryz.underlying5
  a5 := Tryz.isAgg5
  z5 := Tryz.sizeOf5
  v5 := Tryz.zeroValue5
  t9 := Tryz.underlying9
  a9 := Tryz.isAgg9
  z9 := Tryz.sizeOf9
  v9 := Tryz.zeroValue9
  t22 := Tryz.underlying116
  a22 := Tryz.isAgg116
  z22 := Tryz.sizeOf116
  v22 := Tryz.zeroValue116
  t25 := Tryz.underlying121
  a25 := Tryz.isAgg121
  z25 := Tryz.sizeOf121
  v25 := Tryz.zeroValue121
  t39 := Tryz.underlying138
  a39 := Tryz.isAgg138
  z39 := Tryz.sizeOf138
  v39 := Tryz.zeroValue138
  t45 := Tryz.underlying147
  a45 := Tryz.isAgg147
  z45 := Tryz.sizeOf147
  v45 := Tryz.zeroValue147
  t46 := Tryz.underlying148
  a46 := Tryz.isAgg148
  z46 := Tryz.sizeOf148
  v46 := Tryz.zeroValue148
  t50 := Tryz.underlying153
  a50 := Tryz.isAgg153
  z50 := Tryz.sizeOf153
  v50 := Tryz.zeroValue153
  t53 := Tryz.underlying156
  a53 := Tryz.isAgg156
  z53 := Tryz.sizeOf156
  v53 := Tryz.zeroValue156
  t55 := Tryz.underlying122
  a55 := Tryz.isAgg122
  z55 := Tryz.sizeOf122
  v55 := Tryz.zeroValue122
  t66 := Tryz.underlying164
  a66 := Tryz.isAgg164
  z66 := Tryz.sizeOf164
  v66 := Tryz.zeroValue164
  t70 := Tryz.underlying168
  a70 := Tryz.isAgg168
  z70 := Tryz.sizeOf168
  v70 := Tryz.zeroValue168
  t76 := Tryz.underlying172
  a76 := Tryz.isAgg172
  z76 := Tryz.sizeOf172
  v76 := Tryz.zeroValue172
  t77 := Tryz.underlying173
  a77 := Tryz.isAgg173
  z77 := Tryz.sizeOf173
  v77 := Tryz.zeroValue173 }
end Go.Proofs
