/- The contracts of bytes.Equal and Good. -/
import Derived.Test.YtjipfbggoeiakaaTagMake
import Derived.Test.YtjipfbggoeiakaaRow
namespace Go.Proofs.Ytjipfbggoeiakaa
open Go.RowKit

theorem conv_bytes {D : Nat → Prop} {v : Value} {l : List UInt8} {w : World} (h : BytesAt D w v l) : (convert 25 9 v).run Try.prog w = .ok (.string ⟨l.toArray⟩) w := by
  rcases h with ⟨ao, cp, rfl, rfl, h0⟩ | ⟨b, off, cap, rfl, h1, h2, h3, h4⟩
  · cases ao with
    | none => exact run_convert_bytes_nil w 25 5 Try.underlying25 Try.underlying5 0 cp 9 Try.underlying9
    | some x => exact run_convert_bytes_back w 25 9 5 x cp [] Try.underlying25 Try.underlying5 Try.underlying9 (fun j hj => by simp at hj)
  · refine run_convert_bytes_back w 25 9 5 ⟨b, off, none⟩ cap l Try.underlying25 Try.underlying5 Try.underlying9 (fun j hj => ?_)
    rw [add_off]
    exact h4 j hj

theorem equal_any {D1 D2 : Nat → Prop} (v1 v2 : Value) (l1 l2 : List UInt8) (w : World) (h1 : BytesAt D1 w v1 l1) (h2 : BytesAt D2 w v2 l2) :
    Calls Try.prog 49 #[v1, v2] w fun e w' => e = .returned (.bool (l1 == l2)) ∧ w = w' := by
  have c1 := conv_bytes h1
  have c2 := conv_bytes h2
  clear h1 h2
  go_enter Try.func49, Try.ntmps49
  go_wp2
  go_ret
  exact ⟨rfl, rfl⟩

theorem good_yes {D : Nat → Prop} (a1 a2 a3 : Option Addr) (c1 c2 c3 : Nat) (key b t : List UInt8) (w : World) (h1 : 1 ≤ key.length) (h2 : key.length ≤ 32) (hb : b.length ≤ 9223372036854775807)
   (k1 : BytesAt D w (.slice a1 key.length c1) key) (k2 : BytesAt D w (.slice a2 b.length c2) b) (k3 : BytesAt D w (.slice a3 t.length c3) t) :
    Calls Try.prog 38 #[.slice a1 key.length c1, .slice a2 b.length c2, .slice a3 t.length c3] w fun e w' => e = .returned (.bool (tagOf key b == t)) ∧ Chg (fun _ => False) w w' := by
  go_enter Try.func38, Try.ntmps38
  go_wp2_with (first
    | (go_at_call 48; refine (rightKey_yes _ _ _ _ h1 h2).mono ?_; rintro e w' ⟨rfl, rfl⟩)
    | (go_at_call 37; refine (make_yes _ _ _ _ key b _ h1 h2 hb k1 k2).mono ?_; rintro e w' ⟨g, rfl, hg, hcells, hc⟩; have k3' := k3.keep hc (fun _ _ => id); have kt := tagCells_bytes _ hcells; have HC := hid hc; clear k1 k2 k3 hcells hc)
    | (go_at_call 49; refine (equal_any _ _ _ _ _ kt k3').mono ?_; rintro e w' ⟨rfl, rfl⟩))
  go_ret
  exact ⟨rfl, HC.out⟩

theorem good_at {D1 D2 D3 : Nat → Prop} (a1 a2 a3 : Option Addr) (c1 c2 c3 n1 n2 n3 : Nat) (key b t : List UInt8) (w : World) (h1 : 1 ≤ key.length) (h2 : key.length ≤ 32) (hb : b.length ≤ 9223372036854775807)
   (l1 : key.length = n1) (l2 : b.length = n2) (l3 : t.length = n3) (k1 : BytesAt D1 w (.slice a1 n1 c1) key) (k2 : BytesAt D2 w (.slice a2 n2 c2) b) (k3 : BytesAt D3 w (.slice a3 n3 c3) t) :
    Calls Try.prog 38 #[.slice a1 n1 c1, .slice a2 n2 c2, .slice a3 n3 c3] w fun e w' => e = .returned (.bool (tagOf key b == t)) ∧ Chg (fun _ => False) w w' := by
  subst l1
  subst l2
  subst l3
  exact good_yes (D := fun _ => True) a1 a2 a3 c1 c2 c3 key b t w h1 h2 hb (k1.mono fun _ _ => trivial) (k2.mono fun _ _ => trivial) (k3.mono fun _ _ => trivial)

theorem good_no (a1 : Option Addr) (v2 v3 : Value) (n1 c1 : Nat) (w : World) (h : n1 = 0 ∨ 32 < n1) (hn : n1 ≤ 9223372036854775807) :
    Calls Try.prog 38 #[.slice a1 n1 c1, v2, v3] w fun e w' => e = .returned (.bool false) ∧ w = w' := by
  go_enter Try.func38, Try.ntmps38
  go_wp2_with (go_at_call 48; refine (rightKey_no _ _ _ _ h hn).mono ?_; rintro e w' ⟨rfl, rfl⟩)
  go_ret
  exact ⟨rfl, rfl⟩

end Go.Proofs.Ytjipfbggoeiakaa
