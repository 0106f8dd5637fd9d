/- The law NormalTells of layer 13, at two formulas that hold together at most 1048576 values and letters. -/
import Derived.Test.YtcbfieodjbfjdaaNc35
import Derived.Test.YtcbfieodjbfjdaaNc38
import Derived.Test.YtcbfieodjbfjdaaNc36
import Derived.ChangeMaps5
import Derived.ProofKit
import Derived.OpenShut
import Derived.Test.YtcbfieodjbfjdaaNc39
namespace Go.Proofs.Ytcbfieodjbfjdaa
open Go.ChangeShapes Go.WideShapes Go.ChangeAt Go.RowKit

/-- Same of what came in and any of the call's own. -/
theorem same_with_in {D : Nat → Prop} {w : World} {n : Nat} {f : FmB} {ao : Option Addr} {cp : Nat} (h : FmIn D w n f ao cp) (hN : nodesF f ≤ 250) (hz : ∀ n, ∀ i (h : i < f.kids.length) b' off, ao = some ⟨b', off, none⟩ → FzAt w n b' (off + i * 5) f.kids[i]) : SameWith f ao cp w := by
  intro W x B hc hBw hx hnd hNx
  obtain ⟨xo, xc, hv, _⟩ := own_fms hx
  obtain ⟨op, k, r, v, kids⟩ := x
  simp only [AT.v, AT.kids] at hv
  subst hv
  have hfl : f.kids.length ≤ 90000 := by have := nodesL_len f.kids; have := nodesF_eq f; omega
  refine (fm_samez B op k r xo kids.length xc kids f n ao cp W rfl hx hnd (by omega) (h.at_.keep hc (fun _ _ => id)) (fun i hi => Nat.lt_of_lt_of_le (h.lt i hi) hc.size) h.ok h.z hfl (fun m i hi b' off e => ?_)).mono ?_
  · obtain ⟨b2, off2, e2, hDb, hfk⟩ := h.at_ i hi
    rw [e] at e2
    cases e2
    exact FzAt.keep hc (fun b hb hlt => hc.block b hlt hb) m hfk (fun _ _ => id) id (hz m i hi _ _ e)
  · rintro e w' ⟨b, rfl, hb, hc'⟩
    exact ⟨b, rfl, hb.trans eq_comm, hc'⟩

set_option maxRecDepth 100000 in
theorem normalTells_lifted (os : Os) (started : os.Started) (H : Type) (enc : TypeId × Value → H) (F : Stop.Interp) :
    ReturnsInHanded {} Try.checked os 3 .any ((Rows.OpenSpec.upto Rows.normalTellsSpec).pre6 enc Try.prog Try.f3 Rows.normalTellsUptoRow.domain false) (((Rows.OpenSpec.upto Rows.normalTellsSpec).at F).post enc Try.prog Try.f3 false true false false) := by
  refine handed_cond_shaped (C := Try.checked) (s := Rows.OpenSpec.upto Rows.normalTellsSpec) (k := Rows.uptoSmall) rfl Try.own started (by kernel_rfl) Try.func3
    (OpenSpec.witness (enc := enc) (C := Try.checked) (s := Rows.OpenSpec.upto Rows.normalTellsSpec) (k := Rows.uptoSmall) rfl false ⟨#[], #[.agg #[.int .i64 0, .int .i64 0, .string ⟨#[]⟩, .string ⟨#[]⟩, .slice none 0 0], .agg #[.int .i64 0, .int .i64 0, .string ⟨#[]⟩, .string ⟨#[]⟩, .slice none 0 0]], []⟩ 8 (by kernel_rfl) (by kernel_rfl) (by kernel_rfl)
      (x := ([.agg [.lit (.int .i64 0), .lit (.int .i64 0), .agg [.lit (.string []), .lit (.string [])], .nil], .agg [.lit (.int .i64 0), .lit (.int .i64 0), .agg [.lit (.string []), .lit (.string [])], .nil]], [], [])) (by kernel_rfl) rfl (by kernel_rfl)) ?_
  intro W base args ds gs before hshp hval0 hW hk
  have hval : ∀ (j : Nat) t v, Try.f3.params[j]? = some t → args[j]? = some v → Value.okWide Try.prog W .any base t v := hval0
  have hW' := hW
  obtain ⟨p, q, hA0, hV, rfl, hfz, hnd⟩ := hW
  have hA : DataW.TrodAll enc Try.prog W 0 (fun _ => true) true Try.f3.params.toList args.toList ds p := hA0
  rw [Try.params3] at hA hval
  obtain ⟨v0, v1, d0, d1, p0, p1, rfl, rfl, rfl, h0, h1⟩ := trodAll_two hA
  obtain ⟨rfl, rfl⟩ := trodVars_none hV
  have k0 := h0
  have k1 := h1
  have lt0 : ∀ x ∈ p0, x.block < W.heap.size := by obtain ⟨m, hm⟩ := k0; exact DataW.trod_lt m _ _ _ hm
  have lt1 : ∀ x ∈ p1, x.block < W.heap.size := by obtain ⟨m, hm⟩ := k1; exact DataW.trod_lt m _ _ _ hm
  have hk' := of_decide_eq_true hk
  simp only [List.append_nil, Rows.uptoBulkAll] at hk'
  obtain ⟨cs0, rfl, _⟩ := okWide_struct Try.underlying26 (hval 0 26 v0 rfl rfl)
  obtain ⟨fuel0, hf0⟩ := h0
  obtain ⟨f, ao, cp, hcs0, hfm, hok, hz, hg⟩ := open_fm 1048576 (x := (d0, p0)) (by dsimp only; omega) hf0
  have hcs1 : cs0.toList = fmCells f ao cp := hcs0
  have hcs2 : cs0 = (fmCells f ao cp).toArray := by rw [← hcs1]
  subst hcs2
  obtain ⟨cs1, rfl, _⟩ := okWide_struct Try.underlying26 (hval 1 26 v1 rfl rfl)
  obtain ⟨fuel1, hf1⟩ := h1
  obtain ⟨g, bo, bp, hcs3, hfm2, hok2, hz2, hg2⟩ := open_fm 1048576 (x := (d1, p1)) (by dsimp only; omega) hf1
  have hcs4 : cs1.toList = fmCells g bo bp := hcs3
  have hcs5 : cs1 = (fmCells g bo bp).toArray := by rw [← hcs4]
  subst hcs5
  dsimp only at hg hg2
  have hF : W.noneFrozen p0 := fun b o hp => hfz b o (by simp [hp])
  clear hA0 hval0
  refine (ntells_main 1048576 f g ao bo cp bp W ⟨hfm, fun _ h => h, hok, hz⟩ ⟨hfm2, fun _ h => h, hok2, hz2⟩ (by omega) (fun hN => same_with_in ⟨hfm, fun _ h => h, hok, hz⟩ hN (fun m i hi b' off e => open_fz m _ f ao cp rfl hfm hf0 hF i hi b' off e))).mono fun e W' ⟨he, hc⟩ => ?_
  subst he
  have bel : Below W.heap.size W W' := hc.below (Nat.le_refl _) (fun _ _ => id)
  exact ⟨_, rfl, _, _, _, [], _, [], hW', trodAll_mk1 (shut_bool Try.underlying4 _), (trodAll_cons_mk (Below.trod Try.laidOut (by kernel_rfl) (of_decide_eq_true (by kernel_rfl)) k0 bel lt0) (trodAll_cons_mk (Below.trod Try.laidOut (by kernel_rfl) (of_decide_eq_true (by kernel_rfl)) k1 bel lt1) trodAll_mk0)), rfl, bel.frame _, fun h => by cases h⟩

theorem normalTells_said : Rows.NormalTellsUptoSaid :=
  OpenClaim.holds_of_cond 3 Try.f3 rfl rfl rfl rfl rfl rfl rfl ⟨rfl, rfl, rfl, rfl, rfl⟩ rfl rfl rfl rfl rfl (by kernel_rfl) Try.func3 (by kernel_rfl)
    (of_decide_eq_true (by kernel_rfl)) (by unfold Func.isWrapper; first | (rw [if_pos (by decide +kernel)]; kernel_rfl) | (rw [if_neg (by decide +kernel)]; exact ⟨rfl, rfl⟩))
    (fun os started H enc _ F => normalTells_lifted os started H enc F)
end Go.Proofs.Ytcbfieodjbfjdaa
