/- Texts that the proof leans on, in one: PcRoles, ChRoles. -/
import Derived.Test.YtjaplnainlbldaaSc24
import Derived.Test.YtjaplnainlbldaaSc7
/- cred.Roles: the program's contract. -/
namespace Go.Proofs.Ytjaplnainlbldaa
open Go.RowKit

theorem ownR_new (w : World) (B : Nat) (hB : B ≤ w.heap.size) (r : RoleB) : OwnR B (w.alloc (.cells #[.string ⟨r.1.toArray⟩, .string ⟨r.2.toArray⟩] 24)) (.slice (some ⟨w.heap.size, 0, none⟩) 1 1) [r] :=
  ⟨rfl, .inr ⟨w.heap.size, 1, _, rfl, hB, heap_alloc_new w _, Nat.le_refl _, by unfold maxLen; omega, rfl, rfl⟩⟩

theorem role_cells_two (w : World) (x y : RoleB) (j : Nat) (u : Value) (h : (roleCells x ++ roleCells y)[j]? = some u) : (w.alloc (.cells #[.string ⟨x.1.toArray⟩, .string ⟨x.2.toArray⟩, .string ⟨y.1.toArray⟩, .string ⟨y.2.toArray⟩] 24)).cell? ((⟨w.heap.size, 0, none⟩ : Addr).add j) = some u := by
  rw [add_off, cell_blk (heap_alloc_new w _), Nat.zero_add]
  match j, h with
  | 0, h => exact h
  | 1, h => exact h
  | 2, h => exact h
  | 3, h => exact h

end Go.Proofs.Ytjaplnainlbldaa

/- cred.Roles: the program's contract, and that its list has room. -/
namespace Go.Proofs.Ytjaplnainlbldaa
open Go.RowKit

def RolesPost2 (ls : List RoleB) (w : World) (e : Ending) (w' : World) : Prop :=
  ∃ ao cap, e = .returned (.slice ao ls.length cap) ∧ RolesAt (fun k => w.heap.size ≤ k) w' ao ls ∧ Chg (fun _ => False) w w' ∧ ls.length ≤ cap ∧ cap ≤ 9223372036854775807
theorem OwnR.post2 {B : Nat} {w w' : World} {v : Value} {ls : List RoleB} (h : OwnR B w' v ls) (hB : B = w.heap.size) (hc : Chg (fun _ => False) w w') (hb : ∀ x ∈ ls, x.1.length ≤ 9223372036854775807 ∧ x.2.length ≤ 9223372036854775807) : RolesPost2 ls w (.returned v) w' := by
  subst hB
  obtain ⟨ao, cap, hv, hr, _⟩ := h.roles hb
  subst hv
  refine ⟨ao, cap, rfl, hr.mono (fun _ h => h.1), hc, ?_⟩
  rcases h.2 with ⟨e, h0⟩ | ⟨g, cp, cur, e, _, _, h1, h2, _⟩
  · injection e with _ _ e3
    rw [h0, e3]
    exact ⟨Nat.le_refl _, Nat.zero_le _⟩
  · injection e with _ _ e3
    subst e3
    exact ⟨h1, by unfold maxLen at h2; omega⟩

set_option maxRecDepth 100000 in
set_option maxHeartbeats 2000000 in
theorem chroles1 (h1 h2 who b1 b2 c1 c2 w2 : List UInt8) (w : World) (hr : isCred ⟨1, (h1, h2), who, (b1, b2), (c1, c2), w2⟩ = true) :
    Calls Try.prog 101 #[credV ⟨1, (h1, h2), who, (b1, b2), (c1, c2), w2⟩] w (RolesPost2 [(h1, h2)] w) := by
  obtain ⟨i0, hi, hz0, hz1, hz2⟩ := info_parts Try.info24
  have hshort := isCred_short hr
  obtain ⟨s1, s2, s3, s4, s5, s6, s7, s8⟩ := hshort
  dsimp only at s1 s2 s3 s4 s5 s6 s7 s8
  have hA1 := heap_alloc_new w (.cells (credBox ⟨1, (h1, h2), who, (b1, b2), (c1, c2), w2⟩) 36)
  have hc01 : Chg (fun _ => False) w (w.alloc (.cells (credBox ⟨1, (h1, h2), who, (b1, b2), (c1, c2), w2⟩) 36)) := (Chg.refl _ w).alloc _
  have hrt := pcright ⟨1, (h1, h2), who, (b1, b2), (c1, c2), w2⟩ (w.alloc (.cells (credBox ⟨1, (h1, h2), who, (b1, b2), (c1, c2), w2⟩) 36)) ((isCred_short hr).mono' (by decide))
  rw [hr] at hrt
  have HH := hid (And.intro hrt (And.intro hA1 hc01))
  clear hrt hA1 hc01 hr
  show Calls Try.prog 101 #[.agg #[.int .i64 1, .string ⟨h1.toArray⟩, .string ⟨h2.toArray⟩, .string ⟨who.toArray⟩, .string ⟨b1.toArray⟩, .string ⟨b2.toArray⟩, .string ⟨c1.toArray⟩, .string ⟨c2.toArray⟩, .string ⟨w2.toArray⟩]] w _
  go_enter Try.func101, Try.ntmps101
  go_wp2_with fail
  obtain ⟨hrt, hA1, hc01⟩ := HH.out
  clear HH
  refine hrt.mono ?_
  rintro e v2 ⟨rfl, hc2⟩
  have hA2 := blk_keep hA1 hc2 id
  have hcw := hc01.trans hc2 (fun _ _ h => h)
  clear hrt hA1 hc01 hc2
  generalize hAz : w.heap.size = A at *
  have HAz := hid hAz
  clear hAz
  obtain ⟨a0, a1, a2, a3, a4, a5, a6, a7, a8⟩ := cred_at_blk hA2
  simp only [Nat.zero_add] at a0 a1 a2 a3 a4 a5 a6 a7 a8
  have hle : A ≤ v2.heap.size := by have := hcw.size; rw [HAz.out] at this; exact this
  have hltA : A < v2.heap.size := lt_blk hA2
  have hown := ownR_new v2 A hle (h1, h2)
  have hcn : Chg (fun _ => False) w (v2.alloc (.cells #[.string ⟨h1.toArray⟩, .string ⟨h2.toArray⟩] 24)) := hcw.alloc _
  have hsz : (v2.alloc (.cells #[.string ⟨h1.toArray⟩, .string ⟨h2.toArray⟩] 24)).heap.size = v2.heap.size + 1 := by simp
  have HK := hid (And.intro hown (And.intro hcn (And.intro hsz hle)))
  clear hA2 hcw hown hcn hsz hle
  go_wp2
  go_ret
  obtain ⟨hown, hcn, hsz, hle⟩ := HK.out
  exact hown.post2 HAz.out.symm hcn (by simp; omega)

set_option maxRecDepth 100000 in
set_option maxHeartbeats 2000000 in
theorem chroles2 (h1 h2 who b1 b2 c1 c2 w2 : List UInt8) (w : World) (hr : isCred ⟨2, (h1, h2), who, (b1, b2), (c1, c2), w2⟩ = true) :
    Calls Try.prog 101 #[credV ⟨2, (h1, h2), who, (b1, b2), (c1, c2), w2⟩] w (RolesPost2 [(h1, h2), (b1, b2)] w) := by
  obtain ⟨i0, hi, hz0, hz1, hz2⟩ := info_parts Try.info24
  have hshort := isCred_short hr
  obtain ⟨s1, s2, s3, s4, s5, s6, s7, s8⟩ := hshort
  dsimp only at s1 s2 s3 s4 s5 s6 s7 s8
  have hA1 := heap_alloc_new w (.cells (credBox ⟨2, (h1, h2), who, (b1, b2), (c1, c2), w2⟩) 36)
  have hc01 : Chg (fun _ => False) w (w.alloc (.cells (credBox ⟨2, (h1, h2), who, (b1, b2), (c1, c2), w2⟩) 36)) := (Chg.refl _ w).alloc _
  have hrt := pcright ⟨2, (h1, h2), who, (b1, b2), (c1, c2), w2⟩ (w.alloc (.cells (credBox ⟨2, (h1, h2), who, (b1, b2), (c1, c2), w2⟩) 36)) ((isCred_short hr).mono' (by decide))
  rw [hr] at hrt
  have HH := hid (And.intro hrt (And.intro hA1 hc01))
  clear hrt hA1 hc01 hr
  show Calls Try.prog 101 #[.agg #[.int .i64 2, .string ⟨h1.toArray⟩, .string ⟨h2.toArray⟩, .string ⟨who.toArray⟩, .string ⟨b1.toArray⟩, .string ⟨b2.toArray⟩, .string ⟨c1.toArray⟩, .string ⟨c2.toArray⟩, .string ⟨w2.toArray⟩]] w _
  go_enter Try.func101, Try.ntmps101
  go_wp2_with fail
  obtain ⟨hrt, hA1, hc01⟩ := HH.out
  clear HH
  refine hrt.mono ?_
  rintro e v2 ⟨rfl, hc2⟩
  have hA2 := blk_keep hA1 hc2 id
  have hcw := hc01.trans hc2 (fun _ _ h => h)
  clear hrt hA1 hc01 hc2
  generalize hAz : w.heap.size = A at *
  have HAz := hid hAz
  clear hAz
  obtain ⟨a0, a1, a2, a3, a4, a5, a6, a7, a8⟩ := cred_at_blk hA2
  simp only [Nat.zero_add] at a0 a1 a2 a3 a4 a5 a6 a7 a8
  have hle : A ≤ v2.heap.size := by have := hcw.size; rw [HAz.out] at this; exact this
  have hltA : A < v2.heap.size := lt_blk hA2
  have hown := ownR_new v2 A hle (h1, h2)
  have hcn : Chg (fun _ => False) w (v2.alloc (.cells #[.string ⟨h1.toArray⟩, .string ⟨h2.toArray⟩] 24)) := hcw.alloc _
  have hsz : (v2.alloc (.cells #[.string ⟨h1.toArray⟩, .string ⟨h2.toArray⟩] 24)).heap.size = v2.heap.size + 1 := by simp
  have HK := hid (And.intro hown (And.intro hcn (And.intro hsz hle)))
  clear hA2 hcw hown hcn hsz hle
  go_wp2_with (at_builtin; refine wpList_append_own_at _ rfl (.tmp 15) (.tmp 18) 59 rfl A 24 i0 (.agg #[.string ⟨#[]⟩, .string ⟨#[]⟩]) 2 32 Try.underlying59 hi hz0 hz1 hz2 rfl (by decide) _ _ _ rfl (World.ownsRow.alloc HK.out.1 _) ⟨v2.heap.size + 1, 0, none⟩ 1 1 (roleCells (b1, b2)) rfl rfl ?c1 ?c2 ?c3 ?c4 ?c5 ?_)
  case c1 => exact fun j u hj => by have := role_cells_new (v2.alloc (.cells #[.string ⟨h1.toArray⟩, .string ⟨h2.toArray⟩] 24)) (b1, b2) j u hj; rw [HK.out.2.2.1] at this; exact this
  case c2 => intro u hu; simp only [roleCells, List.mem_cons, List.not_mem_nil, or_false] at hu; rcases hu with rfl | rfl <;> rfl
  case c3 => unfold maxLen; simp
  case c4 => simp
  case c5 => simp; omega
  intro v' w3 hown hgrow _ hat
  have ho2 : OwnR A w3 v' ([(h1, h2)] ++ [(b1, b2)]) := by
    unfold OwnR
    exact hown
  obtain ⟨hown0, hcn, hsz, hle⟩ := HK.out
  have hc2 : Chg (fun _ => False) w w3 := (hcn.alloc _).grown hgrow (fun k e hk => by cases e; rw [HAz.out] at hk; exact absurd hk (by show ¬ v2.heap.size < A; omega))
  have HF := hid (And.intro ho2 hc2)
  clear hown hgrow hat ho2 hc2 hown0 hcn hsz hle HK a0 a1 a2 a3 a4 a5 a6 a7 a8
  go_wp2
  go_ret
  exact HF.out.1.post2 HAz.out.symm HF.out.2 (by simp; omega)

set_option maxRecDepth 100000 in
set_option maxHeartbeats 2000000 in
theorem chroles3 (h1 h2 who b1 b2 c1 c2 w2 : List UInt8) (w : World) (hr : isCred ⟨3, (h1, h2), who, (b1, b2), (c1, c2), w2⟩ = true) :
    Calls Try.prog 101 #[credV ⟨3, (h1, h2), who, (b1, b2), (c1, c2), w2⟩] w (RolesPost2 [(h1, h2), (b1, b2)] w) := by
  obtain ⟨i0, hi, hz0, hz1, hz2⟩ := info_parts Try.info24
  have hshort := isCred_short hr
  obtain ⟨s1, s2, s3, s4, s5, s6, s7, s8⟩ := hshort
  dsimp only at s1 s2 s3 s4 s5 s6 s7 s8
  have hA1 := heap_alloc_new w (.cells (credBox ⟨3, (h1, h2), who, (b1, b2), (c1, c2), w2⟩) 36)
  have hc01 : Chg (fun _ => False) w (w.alloc (.cells (credBox ⟨3, (h1, h2), who, (b1, b2), (c1, c2), w2⟩) 36)) := (Chg.refl _ w).alloc _
  have hrt := pcright ⟨3, (h1, h2), who, (b1, b2), (c1, c2), w2⟩ (w.alloc (.cells (credBox ⟨3, (h1, h2), who, (b1, b2), (c1, c2), w2⟩) 36)) ((isCred_short hr).mono' (by decide))
  rw [hr] at hrt
  have HH := hid (And.intro hrt (And.intro hA1 hc01))
  clear hrt hA1 hc01 hr
  show Calls Try.prog 101 #[.agg #[.int .i64 3, .string ⟨h1.toArray⟩, .string ⟨h2.toArray⟩, .string ⟨who.toArray⟩, .string ⟨b1.toArray⟩, .string ⟨b2.toArray⟩, .string ⟨c1.toArray⟩, .string ⟨c2.toArray⟩, .string ⟨w2.toArray⟩]] w _
  go_enter Try.func101, Try.ntmps101
  go_wp2_with fail
  obtain ⟨hrt, hA1, hc01⟩ := HH.out
  clear HH
  refine hrt.mono ?_
  rintro e v2 ⟨rfl, hc2⟩
  have hA2 := blk_keep hA1 hc2 id
  have hcw := hc01.trans hc2 (fun _ _ h => h)
  clear hrt hA1 hc01 hc2
  generalize hAz : w.heap.size = A at *
  have HAz := hid hAz
  clear hAz
  obtain ⟨a0, a1, a2, a3, a4, a5, a6, a7, a8⟩ := cred_at_blk hA2
  simp only [Nat.zero_add] at a0 a1 a2 a3 a4 a5 a6 a7 a8
  have hle : A ≤ v2.heap.size := by have := hcw.size; rw [HAz.out] at this; exact this
  have hltA : A < v2.heap.size := lt_blk hA2
  have hown := ownR_new v2 A hle (h1, h2)
  have hcn : Chg (fun _ => False) w (v2.alloc (.cells #[.string ⟨h1.toArray⟩, .string ⟨h2.toArray⟩] 24)) := hcw.alloc _
  have hsz : (v2.alloc (.cells #[.string ⟨h1.toArray⟩, .string ⟨h2.toArray⟩] 24)).heap.size = v2.heap.size + 1 := by simp
  have HK := hid (And.intro hown (And.intro hcn (And.intro hsz hle)))
  clear hA2 hcw hown hcn hsz hle
  go_wp2_with (at_builtin; refine wpList_append_own_at _ rfl (.tmp 15) (.tmp 18) 59 rfl A 24 i0 (.agg #[.string ⟨#[]⟩, .string ⟨#[]⟩]) 2 32 Try.underlying59 hi hz0 hz1 hz2 rfl (by decide) _ _ _ rfl (World.ownsRow.alloc HK.out.1 _) ⟨v2.heap.size + 1, 0, none⟩ 1 1 (roleCells (b1, b2)) rfl rfl ?c1 ?c2 ?c3 ?c4 ?c5 ?_)
  case c1 => exact fun j u hj => by have := role_cells_new (v2.alloc (.cells #[.string ⟨h1.toArray⟩, .string ⟨h2.toArray⟩] 24)) (b1, b2) j u hj; rw [HK.out.2.2.1] at this; exact this
  case c2 => intro u hu; simp only [roleCells, List.mem_cons, List.not_mem_nil, or_false] at hu; rcases hu with rfl | rfl <;> rfl
  case c3 => unfold maxLen; simp
  case c4 => simp
  case c5 => simp; omega
  intro v' w3 hown hgrow _ hat
  have ho2 : OwnR A w3 v' ([(h1, h2)] ++ [(b1, b2)]) := by
    unfold OwnR
    exact hown
  obtain ⟨hown0, hcn, hsz, hle⟩ := HK.out
  have hc2 : Chg (fun _ => False) w w3 := (hcn.alloc _).grown hgrow (fun k e hk => by cases e; rw [HAz.out] at hk; exact absurd hk (by show ¬ v2.heap.size < A; omega))
  have HF := hid (And.intro ho2 hc2)
  clear hown hgrow hat ho2 hc2 hown0 hcn hsz hle HK a0 a1 a2 a3 a4 a5 a6 a7 a8
  go_wp2
  go_ret
  exact HF.out.1.post2 HAz.out.symm HF.out.2 (by simp; omega)

set_option maxRecDepth 100000 in
set_option maxHeartbeats 2000000 in
theorem chroles4 (h1 h2 who b1 b2 c1 c2 w2 : List UInt8) (w : World) (hr : isCred ⟨4, (h1, h2), who, (b1, b2), (c1, c2), w2⟩ = true) :
    Calls Try.prog 101 #[credV ⟨4, (h1, h2), who, (b1, b2), (c1, c2), w2⟩] w (RolesPost2 [(h1, h2), (b1, b2), (c1, c2)] w) := by
  obtain ⟨i0, hi, hz0, hz1, hz2⟩ := info_parts Try.info24
  have hshort := isCred_short hr
  obtain ⟨s1, s2, s3, s4, s5, s6, s7, s8⟩ := hshort
  dsimp only at s1 s2 s3 s4 s5 s6 s7 s8
  have hA1 := heap_alloc_new w (.cells (credBox ⟨4, (h1, h2), who, (b1, b2), (c1, c2), w2⟩) 36)
  have hc01 : Chg (fun _ => False) w (w.alloc (.cells (credBox ⟨4, (h1, h2), who, (b1, b2), (c1, c2), w2⟩) 36)) := (Chg.refl _ w).alloc _
  have hrt := pcright ⟨4, (h1, h2), who, (b1, b2), (c1, c2), w2⟩ (w.alloc (.cells (credBox ⟨4, (h1, h2), who, (b1, b2), (c1, c2), w2⟩) 36)) ((isCred_short hr).mono' (by decide))
  rw [hr] at hrt
  have HH := hid (And.intro hrt (And.intro hA1 hc01))
  clear hrt hA1 hc01 hr
  show Calls Try.prog 101 #[.agg #[.int .i64 4, .string ⟨h1.toArray⟩, .string ⟨h2.toArray⟩, .string ⟨who.toArray⟩, .string ⟨b1.toArray⟩, .string ⟨b2.toArray⟩, .string ⟨c1.toArray⟩, .string ⟨c2.toArray⟩, .string ⟨w2.toArray⟩]] w _
  go_enter Try.func101, Try.ntmps101
  go_wp2_with fail
  obtain ⟨hrt, hA1, hc01⟩ := HH.out
  clear HH
  refine hrt.mono ?_
  rintro e v2 ⟨rfl, hc2⟩
  have hA2 := blk_keep hA1 hc2 id
  have hcw := hc01.trans hc2 (fun _ _ h => h)
  clear hrt hA1 hc01 hc2
  generalize hAz : w.heap.size = A at *
  have HAz := hid hAz
  clear hAz
  obtain ⟨a0, a1, a2, a3, a4, a5, a6, a7, a8⟩ := cred_at_blk hA2
  simp only [Nat.zero_add] at a0 a1 a2 a3 a4 a5 a6 a7 a8
  have hle : A ≤ v2.heap.size := by have := hcw.size; rw [HAz.out] at this; exact this
  have hltA : A < v2.heap.size := lt_blk hA2
  have hown := ownR_new v2 A hle (h1, h2)
  have hcn : Chg (fun _ => False) w (v2.alloc (.cells #[.string ⟨h1.toArray⟩, .string ⟨h2.toArray⟩] 24)) := hcw.alloc _
  have hsz : (v2.alloc (.cells #[.string ⟨h1.toArray⟩, .string ⟨h2.toArray⟩] 24)).heap.size = v2.heap.size + 1 := by simp
  have HK := hid (And.intro hown (And.intro hcn (And.intro hsz hle)))
  clear hA2 hcw hown hcn hsz hle
  go_wp2_with (at_builtin; refine wpList_append_own_at _ rfl (.tmp 22) (.tmp 27) 59 rfl A 24 i0 (.agg #[.string ⟨#[]⟩, .string ⟨#[]⟩]) 2 32 Try.underlying59 hi hz0 hz1 hz2 rfl (by decide) _ _ _ rfl (World.ownsRow.alloc HK.out.1 _) ⟨v2.heap.size + 1, 0, none⟩ 2 2 (roleCells (b1, b2) ++ roleCells (c1, c2)) rfl rfl ?c1 ?c2 ?c3 ?c4 ?c5 ?_)
  case c1 => exact fun j u hj => by have := role_cells_two (v2.alloc (.cells #[.string ⟨h1.toArray⟩, .string ⟨h2.toArray⟩] 24)) (b1, b2) (c1, c2) j u hj; rw [HK.out.2.2.1] at this; exact this
  case c2 => intro u hu; simp only [roleCells, List.mem_append, List.mem_cons, List.not_mem_nil, or_false] at hu; rcases hu with (rfl | rfl) | (rfl | rfl) <;> rfl
  case c3 => unfold maxLen; simp
  case c4 => simp
  case c5 => simp; omega
  intro v' w3 hown hgrow _ hat
  have ho2 : OwnR A w3 v' ([(h1, h2)] ++ [(b1, b2), (c1, c2)]) := by
    unfold OwnR
    exact hown
  obtain ⟨hown0, hcn, hsz, hle⟩ := HK.out
  have hc2 : Chg (fun _ => False) w w3 := (hcn.alloc _).grown hgrow (fun k e hk => by cases e; rw [HAz.out] at hk; exact absurd hk (by show ¬ v2.heap.size < A; omega))
  have HF := hid (And.intro ho2 hc2)
  clear hown hgrow hat ho2 hc2 hown0 hcn hsz hle HK a0 a1 a2 a3 a4 a5 a6 a7 a8
  go_wp2
  go_ret
  exact HF.out.1.post2 HAz.out.symm HF.out.2 (by simp; omega)

theorem chroles (c : CredB) (w : World) (hr : isCred c = true) :
    Calls Try.prog 101 #[credV c] w (RolesPost2 (credRoles c) w) := by
  have hk := isCred_kind hr
  obtain ⟨k, ⟨h1, h2⟩, who, ⟨b1, b2⟩, ⟨c1, c2⟩, w2⟩ := c
  dsimp only at hk
  rcases hk with rfl | rfl | rfl | rfl
  · rw [show credRoles ⟨1, (h1, h2), who, (b1, b2), (c1, c2), w2⟩ = [(h1, h2)] from (if_pos hr).trans rfl]; exact chroles1 h1 h2 who b1 b2 c1 c2 w2 w hr
  · rw [show credRoles ⟨2, (h1, h2), who, (b1, b2), (c1, c2), w2⟩ = [(h1, h2), (b1, b2)] from (if_pos hr).trans rfl]; exact chroles2 h1 h2 who b1 b2 c1 c2 w2 w hr
  · rw [show credRoles ⟨3, (h1, h2), who, (b1, b2), (c1, c2), w2⟩ = [(h1, h2), (b1, b2)] from (if_pos hr).trans rfl]; exact chroles3 h1 h2 who b1 b2 c1 c2 w2 w hr
  · rw [show credRoles ⟨4, (h1, h2), who, (b1, b2), (c1, c2), w2⟩ = [(h1, h2), (b1, b2), (c1, c2)] from (if_pos hr).trans rfl]; exact chroles4 h1 h2 who b1 b2 c1 c2 w2 w hr

end Go.Proofs.Ytjaplnainlbldaa
