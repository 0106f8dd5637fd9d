/- CompactFunc at a row of the call's own; isConstant, Always, Never. -/
import Derived.Test.YtlmlcjjjkplccaaNa18
import Derived.Test.YtlmlcjjjkplccaaNa19
namespace Go.Proofs.Ytlmlcjjjkplccaa
open Go.RowKit Go.Lib Go.Sort

theorem OwnRw.hold {B : Nat} {w : World} {g cap : Nat} {ts : List AT} (h : OwnRw B w (.slice (some ⟨g, 0, none⟩) ts.length cap) ts) : HoldA w g cap ts.toArray ∧ B ≤ g ∧ ts.length ≤ cap ∧ cap ≤ maxLen := by
  have hall := h.row
  rcases h.row.2 with ⟨he, _⟩ | ⟨g', cap', cur, he, hg, hh, h1, h2, h3, h4⟩
  · cases he
  · cases he
    refine ⟨⟨⟨cur, hh, h3⟩, fun j hj i hi => ?_⟩, hg, h1, h2⟩
    have hj' : j < ts.length := by simpa using hj
    have hget := rowA_get ts j i hj' hi
    have hs : i < (cellsA ts[j]).length := hi
    rw [List.getElem?_eq_getElem hs] at hget
    have := hall.cells (g := g) rfl (j * 5 + i) _ hget
    rw [add_off, Nat.zero_add] at this
    rw [this]
    simp [hj', hs]
theorem HoldA.own {B : Nat} {w : World} {g cap : Nat} {ts : List AT} (h : HoldA w g cap ts.toArray) (hg : B ≤ g) (hl : ts.length ≤ cap) (hm : cap ≤ maxLen) : w.ownsRow B 26 5 (.slice (some ⟨g, 0, none⟩) ts.length cap) ts.length (rowA ts) := by
  obtain ⟨cur, b1, b2⟩ := h.blk
  refine ⟨by rw [rowA_len], .inr ⟨g, cap, cur, rfl, hg, b1, hl, hm, b2, ?_⟩⟩
  apply List.ext_getElem?
  intro i
  rw [List.getElem?_take]
  by_cases hi : i < ts.length * 5
  · rw [if_pos hi]
    have e1 : cur.toList[i]? = cur[i]? := by simp
    rw [e1]
    have hj : i / 5 < ts.length := by omega
    have a := h.at_ (i / 5) (by simpa using hj) (i % 5) (Nat.mod_lt _ (by decide))
    rw [cell_blk b1, show i / 5 * 5 + i % 5 = i by omega] at a
    have b := rowA_get ts (i / 5) (i % 5) hj (Nat.mod_lt _ (by decide))
    rw [show i / 5 * 5 + i % 5 = i by omega] at b
    rw [a, b]
    simp [hj]
  · rw [if_neg hi, List.getElem?_eq_none (by rw [rowA_len]; omega)]
theorem blksL_sub {us ts : List AT} (h : us.Sublist ts) : (blksL us).Sublist (blksL ts) := by
  induction h with
  | slnil => exact List.Sublist.refl _
  | cons x _ ih => rw [blksL]; exact ih.trans (List.sublist_append_right _ _)
  | cons_cons x _ ih => rw [blksL, blksL]; exact (List.Sublist.refl _).append ih

theorem pcompact_fm {B : Nat} {w : World} {ao : Option Addr} {cap : Nat} {ts : List AT} (h : OwnRw B w (.slice ao ts.length cap) ts) (hN : ∀ t ∈ ts, nodesF (eraseA t) ≤ 90000) (hl : ts.length ≤ 4194304) :
    Calls Try.prog 41 #[.slice ao ts.length cap, .func (.func 15) #[] #[]] w fun e w' => (∃ (us : List AT) (cap2 : Nat), e = .returned (.slice ao us.length cap2) ∧ us.map eraseA = cmpctN (ts.map eraseA) ∧ us.Sublist ts ∧ OwnRw B w' (.slice ao us.length cap2) us) ∧ Chg (fun k => Value.ownBlock (.slice ao ts.length cap) = some k) w w' := by
  have hnd := List.nodup_append.1 h.nd
  rcases h.row.2 with ⟨he, h0⟩ | ⟨g, cap', cur, he, hg, hh, h1, h2, h3, h4⟩
  · have : ts = [] := List.eq_nil_of_length_eq_zero h0
    subst this
    cases he
    have HH := hid h
    clear h hnd hN
    go_enter Try.func41, Try.ntmps41
    go_wp2
    go_ret
    exact ⟨⟨[], 0, rfl, rfl, List.Sublist.refl _, HH.out⟩, Chg.refl _ _⟩
  · cases he
    obtain ⟨hH, _, _, _⟩ := h.hold
    have hgn : ∀ t ∈ ts, g ∉ blksA t := fun t ht hb => hnd.2.2 g (by simp [Value.ownBlock]) g (by rw [blksL_flat]; exact List.mem_flatMap.2 ⟨t, ht, hb⟩) rfl
    have hO : RowOk B w g ts.toArray := fun j hj => by
      have hj' : j < ts.length := by simpa using hj
      have e : ts.toArray[j]! = ts[j] := by simp [hj']
      have hm := List.getElem_mem hj'
      rw [e]
      refine ⟨(ownL_all _ _ _).1 h.own _ hm, ?_, hgn _ hm, hN _ hm⟩
      have h5 : [ts[j]].Sublist ts := List.singleton_sublist.2 hm
      have := (blksL_sub h5).nodup hnd.2.1
      rwa [blksL, blksL, List.append_nil] at this
    have hwk := ncompact_walk g cap ts.toArray w hH hO (by simpa using hl) (by simpa using h1) (by unfold maxLen at h2; exact h2)
    have hs : ts.toArray.size = ts.length := by simp
    rw [hs] at hwk
    have hsub := compA_sub ts.toArray
    rw [hs] at hsub
    have her := compA_erase ts.toArray ts.length (by simp)
    simp only [List.take_length] at her
    refine hwk.mono ?_
    rintro e w' ⟨rfl, hH', hc⟩
    have hlen : (compA ts.toArray ts.length).length ≤ cap := Nat.le_trans (compA_len _ _) h1
    refine ⟨⟨compA ts.toArray ts.length, cap, rfl, her, hsub, hH'.own hg hlen h2, ?_, ?_⟩, hc.mono (fun k _ hk => by subst hk; rfl)⟩
    · refine (ownL_all _ _ _).2 fun t ht => ?_
      have ht2 : t ∈ ts := hsub.subset ht
      exact ownA_keep hc t ((ownL_all _ _ _).1 h.own t ht2) (fun b hb e => hgn t ht2 (e ▸ hb))
    · exact ((List.Sublist.refl _).append (blksL_sub hsub)).nodup h.nd

theorem pisConst (op k : Int) (r : RoleB) (ao : Option Addr) (n cp : Nat) (w : World) :
    Calls Try.prog 38 #[.agg #[.int .i64 op, .int .i64 k, .string ⟨r.1.toArray⟩, .string ⟨r.2.toArray⟩, .slice ao n cp]] w fun e w' => e = .returned (.bool (decide (op ≠ 1) && decide (n = 0))) ∧ Chg (fun _ => False) w w' := by
  have hc : Chg (fun _ => False) w (w.alloc (.cells #[.int .i64 op, .int .i64 k, .string ⟨r.1.toArray⟩, .string ⟨r.2.toArray⟩, .slice ao n cp] 26)) := (Chg.refl _ w).alloc _
  have hb := heap_alloc_new w (.cells #[.int .i64 op, .int .i64 k, .string ⟨r.1.toArray⟩, .string ⟨r.2.toArray⟩, .slice ao n cp] 26)
  have s0 := cell_blk hb 0
  have s1 := cell_blk hb 1
  have s2 := cell_blk hb 2
  have s3 := cell_blk hb 3
  have s4 := cell_blk hb 4
  simp only [List.getElem?_toArray, List.getElem?_cons_zero, List.getElem?_cons_succ] at s0 s1 s2 s3 s4
  have HC := hid hc
  clear hc hb
  go_enter Try.func38, Try.ntmps38
  by_cases h1 : op = 1
  · subst h1
    go_wp2
    go_ret
    exact ⟨rfl, HC.out⟩
  · have z0 : (op == 1) = false := by simpa using h1
    have z1 : (op != 1) = true := by simpa using h1
    by_cases h2 : n = 0
    · subst h2
      go_wp2
      go_ret
      exact ⟨by simp, HC.out⟩
    · have z2 : ((n : Int) == 0) = false := by simpa using h2
      go_wp2
      go_ret
      exact ⟨by simp [h1, h2], HC.out⟩
theorem palways (w : World) : Calls Try.prog 17 #[] w fun e w' => e = .returned (.agg #[.int .i64 2, .int .i64 0, .string ⟨#[]⟩, .string ⟨#[]⟩, .slice none 0 0]) ∧ Chg (fun _ => False) w w' := by
  go_enter Try.func17, Try.ntmps17
  go_wp2
  refine bodyPost_ret (results_cell_row (P := Try.prog) rfl _ _ w.heap.size 26 _ (0, 0) _ rfl (heap_alloc_new w _) Try.underlying26 rfl (by kernel_rfl)) rfl ?_
  exact ⟨rfl, (Chg.refl _ w).alloc _⟩
theorem pnever (w : World) : Calls Try.prog 18 #[] w fun e w' => e = .returned (.agg #[.int .i64 3, .int .i64 0, .string ⟨#[]⟩, .string ⟨#[]⟩, .slice none 0 0]) ∧ Chg (fun _ => False) w w' := by
  go_enter Try.func18, Try.ntmps18
  go_wp2
  refine bodyPost_ret (results_cell_row (P := Try.prog) rfl _ _ w.heap.size 26 _ (0, 0) _ rfl (heap_alloc_new w _) Try.underlying26 rfl (by kernel_rfl)) rfl ?_
  exact ⟨rfl, (Chg.refl _ w).alloc _⟩

theorem runKids {B : Nat} {w : World} {v : Value} {ts us : List AT} (ty : TypeId) (hown : w.ownsRow B 26 5 v ts.length (rowA ts)) (sv : Value) (hs : (sv = .slice none 0 0 ∧ us = []) ∨ ∃ ad c, sv = .slice (some ad) us.length c ∧ ∀ j u, (rowA us)[j]? = some u → w.cell? (ad.add j) = some u) (h1 : ∀ u ∈ rowA us, u.oneCell' = true) (hlen : ts.length + us.length ≤ 1048576) (hB : B ≤ w.heap.size) :
    ∃ v' w', (Builtin.append_ #[24, 24] ty #[v, sv]).run Try.prog w = .ok v' w' ∧ w'.ownsRow B 26 5 v' (ts ++ us).length (rowA (ts ++ us)) ∧ Chg (fun k => v.ownBlock = some k) w w' := by
  obtain ⟨i0, hi, hz0, hz1, hz2⟩ := info_parts Try.info26
  have hra : rowA (ts ++ us) = rowA ts ++ rowA us := by simp [rowA]
  rcases hs with ⟨rfl, rfl⟩ | ⟨ad, c, rfl, hc⟩
  · exact ⟨v, w, run_append_owned_none (P := Try.prog) (w := w) B 24 ty 26 i0 5 Try.underlying24b hi v _ _ hown, by rw [List.append_nil]; exact hown, Chg.refl _ w⟩
  · obtain ⟨v', w', k1, k2, k3, k4⟩ := run_append_own_atD (P := Try.prog) w B 24 ty 26 i0 (.agg #[.int .i64 0, .int .i64 0, .string ⟨#[]⟩, .string ⟨#[]⟩, .slice none 0 0]) 5 72 Try.underlying24b hi hz0 hz1 hz2 rfl (by decide) v _ _ hown ad us.length c (rowA us) (rowA_len us) hc h1 (by unfold maxLen; omega) (by omega) hB
    exact ⟨v', w', k1, by rw [List.length_append, hra]; exact k2, (Chg.refl _ w).grown k3 fun k e _ => e⟩
theorem rowA_one {B : Nat} {w : World} {us : List AT} (h : OwnL B w us) : ∀ u ∈ rowA us, u.oneCell' = true := by
  intro u hu
  obtain ⟨t, ht, hu⟩ := List.mem_flatMap.1 hu
  exact cellsA_one ((ownL_all _ _ _).1 h t ht) u hu
/-- The Kids of a formula of the call's own, as a source. -/
theorem kids_src {B : Nat} {w : World} {t : AT} (h : OwnA B w t) : (t.v = .slice none 0 0 ∧ t.kids = []) ∨ ∃ ad c, t.v = .slice (some ad) t.kids.length c ∧ ∀ j u, (rowA t.kids)[j]? = some u → w.cell? (ad.add j) = some u := by
  rw [ownA_eq] at h
  obtain ⟨_, h2, _⟩ := h
  have hall := h2
  rcases h2.2 with ⟨e, h0⟩ | ⟨g, cap, cur, e, hg, hh, k1, k2, k3, k4⟩
  · exact .inl ⟨e, List.eq_nil_of_length_eq_zero h0⟩
  · refine .inr ⟨⟨g, 0, none⟩, cap, e, fun j u hj => ?_⟩
    rw [e] at hall
    exact hall.cells (g := g) rfl j u hj
end Go.Proofs.Ytlmlcjjjkplccaa
