/- Texts that the proof leans on, in one: RoleComp, ShelfQ, RoleSort0, RoleSort. -/
import Derived.Test.YtjaplnainlbldaaFr24
import Derived.Test.YtjaplnainlbldaaFr3
import Derived.Lib.SlicesCompact
import Derived.Shelf.SlSortCmp.WholeK
import Derived.Shelf.SlSortCmp.NoneTotal
import Derived.Ground.SlsfProg
import Derived.Test.YtjaplnainlbldaaProg
import Derived.Test.YtjaplnainlbldaaFr1
import Derived.Test.YtjaplnainlbldaaFr10
/- slices.Compact at roles, of a row of the call's own. -/
namespace Go.Proofs.Ytjaplnainlbldaa
open Go.RowKit Go.Lib Go.Sort

/-- The block g holds the roles d from its first cell on. -/
structure HoldR (w : World) (g cap : Nat) (d : Array RoleB) : Prop where
  blk : ∃ cur, w.heap[g]? = some (.cells cur 24 (0, 0)) ∧ cur.size = cap * 2
  at0 : ∀ j, j < d.size → w.cell? ⟨g, j * 2, none⟩ = some (.string ⟨d[j]!.1.toArray⟩)
  at1 : ∀ j, j < d.size → w.cell? ⟨g, j * 2 + 1, none⟩ = some (.string ⟨d[j]!.2.toArray⟩)

theorem HoldR.keep {S : Nat → Prop} {w w' : World} {g cap : Nat} {d : Array RoleB} (h : HoldR w g cap d) (hc : Chg S w w') (hS : ¬ S g) : HoldR w' g cap d :=
  ⟨by obtain ⟨cur, h1, h2⟩ := h.blk; exact ⟨cur, blk_keep h1 hc hS, h2⟩, fun j hj => hc.cell (h.at0 j hj) hS, fun j hj => hc.cell (h.at1 j hj) hS⟩

theorem HoldR.froz {w : World} {g cap : Nat} {d : Array RoleB} (h : HoldR w g cap d) (i : Nat) : w.frozen? ⟨g, i, none⟩ = false := by
  obtain ⟨cur, h1, _⟩ := h.blk
  exact froz_blk h1 i

theorem HoldR.set {w : World} {g cap k : Nat} {d : Array RoleB} {u : RoleB} (h : HoldR w g cap d) (hk : k < d.size) (hcap : d.size ≤ cap) :
    HoldR ((w.setCell ⟨g, k * 2, none⟩ (.string ⟨u.1.toArray⟩)).setCell ⟨g, k * 2 + 1, none⟩ (.string ⟨u.2.toArray⟩)) g cap (d.setIfInBounds k u) := by
  obtain ⟨cur, h1, h2⟩ := h.blk
  have hs := set_blk (set_blk h1 (k * 2) (.string ⟨u.1.toArray⟩)) (k * 2 + 1) (.string ⟨u.2.toArray⟩)
  refine ⟨⟨_, hs, by simp [h2]⟩, fun j hj => ?_, fun j hj => ?_⟩
  · rw [cell_blk hs]
    have hj' : j < d.size := by simpa using hj
    by_cases e : j = k
    · subst e
      rw [getElem!_set_same d j u hj']
      rw [Array.getElem?_setIfInBounds, if_neg (by omega), Array.getElem?_setIfInBounds, if_pos rfl, if_pos (by omega)]
    · rw [getElem!_set_other d k j u e, ← h.at0 j hj', cell_blk h1]
      rw [Array.getElem?_setIfInBounds, if_neg (by omega), Array.getElem?_setIfInBounds, if_neg (by omega)]
  · rw [cell_blk hs]
    have hj' : j < d.size := by simpa using hj
    by_cases e : j = k
    · subst e
      rw [getElem!_set_same d j u hj']
      rw [Array.getElem?_setIfInBounds, if_pos rfl, if_pos (by simp; omega)]
    · rw [getElem!_set_other d k j u e, ← h.at1 j hj', cell_blk h1]
      rw [Array.getElem?_setIfInBounds, if_neg (by omega), Array.getElem?_setIfInBounds, if_neg (by omega)]

theorem HoldR.above {w : World} {g cap o : Nat} {d : Array RoleB} {v : Value} (h : HoldR w g cap d) (ho : d.size * 2 ≤ o) : HoldR (w.setCell ⟨g, o, none⟩ v) g cap d := by
  obtain ⟨cur, h1, h2⟩ := h.blk
  have hs := set_blk h1 o v
  refine ⟨⟨_, hs, by simp [h2]⟩, fun j hj => ?_, fun j hj => ?_⟩
  · rw [cell_blk hs, ← h.at0 j hj, cell_blk h1, Array.getElem?_setIfInBounds, if_neg (by omega)]
  · rw [cell_blk hs, ← h.at1 j hj, cell_blk h1, Array.getElem?_setIfInBounds, if_neg (by omega)]

theorem HoldR.aboves {g cap : Nat} {d : Array RoleB} : ∀ (xs : List Value) (o : Nat) (w : World), HoldR w g cap d → d.size * 2 ≤ o → HoldR (w.setCells g o xs) g cap d ∧ Chg (fun k => k = g) w (w.setCells g o xs)
  | [], _, w, h, _ => ⟨h, Chg.refl _ _⟩
  | x :: r, o, w, h, ho => by
    obtain ⟨h1, h2⟩ := HoldR.aboves r (o + 1) (w.setCell ⟨g, o, none⟩ x) (h.above ho) (by omega)
    exact ⟨h1, (setCell_chg w g o x).trans h2 (fun _ _ h => h)⟩

theorem HoldR.low {w : World} {g cap : Nat} {d : Array RoleB} {c : List RoleB} (h : HoldR w g cap d) (hk : c.length ≤ d.size) (hl : ∀ j, j < c.length → d[j]! = c[j]!) : HoldR w g cap c.toArray :=
  ⟨h.blk, fun j hj => by
    have hj' : j < c.length := by simpa using hj
    have := hl j hj'
    rw [h.at0 j (by omega), this]; simp, fun j hj => by
    have hj' : j < c.length := by simpa using hj
    have := hl j hj'
    rw [h.at1 j (by omega), this]; simp⟩

set_option maxRecDepth 100000 in
set_option maxHeartbeats 4000000 in
theorem compact_walk (g cap : Nat) (d : Array RoleB) (w : World) (hH : HoldR w g cap d) (hsz : d.size ≤ 4194304) (hcap : d.size ≤ cap) (hcm : cap ≤ 9223372036854775807) :
    Calls Try.prog 120 #[.slice (some ⟨g, 0, none⟩) d.size cap] w fun e w' => e = .returned (.slice (some ⟨g, 0, none⟩) (compactUpTo d d.size).length cap) ∧ HoldR w' g cap (compactUpTo d d.size).toArray ∧ Chg (fun k => k = g) w w' := by
  have same : (∀ j, j < d.size → keeps d j = true) → (compactUpTo d d.size).length = d.size ∧ ∀ j, j < (compactUpTo d d.size).length → d[j]! = (compactUpTo d d.size)[j]! := by
    intro hall
    have e : compactUpTo d d.size = d.toList := by rw [compactUpTo_all d _ hall, range_map_get]
    rw [e]
    refine ⟨by simp, fun j hj => ?_⟩
    have hj' : j < d.size := by simpa using hj
    simp [getElem!_pos, hj']
  have HS := hid same
  clear same
  by_cases h2 : d.size < 2
  · have HH := hid hH
    clear hH
    go_enter Try.func120, Try.ntmps120
    go_wp2
    go_ret
    obtain ⟨e1, e2⟩ := HS.out (fun j hj => keeps_lt_one d j (by omega))
    exact ⟨by rw [e1]; rfl, HH.out.low (by omega) e2, Chg.refl _ _⟩
  · go_enter Try.func120, Try.ntmps120
    go_wp2
    go_loopw [3] (fun s3 wr => ∃ k : Nat, 1 ≤ k ∧ k ≤ d.size ∧ s3 = .int .i64 k ∧ HoldR wr g cap d ∧ Chg (fun k => k = g) w wr ∧ Hid (∀ j, j < k → keeps d j = true)) (fun s3 _ => d.size - (intOf s3).toNat)
    case atStart => exact ⟨1, Nat.le_refl _, by omega, rfl, hH, Chg.refl _ _, keeps_lt_one d⟩
    case round =>
      obtain ⟨k, hk1, hk, rfl, hHr, hc, A⟩ := hrel
      by_cases hlt : k < d.size
      · have c0 := hHr.at0 k hlt
        have c1 := hHr.at1 k hlt
        have p0 := hHr.at0 (k - 1) (by omega)
        have p1 := hHr.at1 (k - 1) (by omega)
        have HH := hid (And.intro hHr hc)
        clear hHr hc hH
        generalize hx : d[k]! = x at *
        generalize hy : d[k - 1]! = y at *
        have B := hid (And.intro hx hy)
        clear hx hy
        obtain ⟨xo, xw⟩ := x
        obtain ⟨yo, yw⟩ := y
        dsimp only at c0 c1 p0 p1
        by_cases hd : (xo, xw) = (yo, yw)
        · cases hd
          have f1 : (xo == xo) = true := by simp
          have f2 : (xw == xw) = true := by simp
          have hkn : keeps d k = false := keeps_neg (by omega) (by rw [B.out.1, B.out.2])
          have HK := hid hkn
          clear hkn
          go_wp2
          go_region
          go_wp2
          clear c0 c1 p0 p1 f1 f2
          go_loopw [3, 5] (fun s3 s5 wr => ∃ (kk k2 : Nat) (dk : Array RoleB), s3 = .int .i64 kk ∧ s5 = .int .i64 k2 ∧ 1 ≤ k2 ∧ k + k2 ≤ d.size ∧ Chg (fun k => k = g) w wr ∧ HoldR wr g cap dk ∧ CompInv d (k + k2) kk dk) (fun _ s5 _ => d.size - (k + (intOf s5).toNat))
          case atStart => exact ⟨k, 1, d, rfl, rfl, Nat.le_refl _, by omega, HH.out.2.drew, HH.out.1.keep ((Chg.refl (fun _ => False) _).drew) id, CompInv.start A.out HK.out⟩
          case round =>
            obtain ⟨kk, k2, dk, rfl, rfl, h1, hle, hc, hHk, hI⟩ := hrel
            have hkk := hI.lt
            have hds := hI.size
            have HK2 := hid (And.intro hHk (And.intro hc hI))
            by_cases hlt2 : k + k2 < d.size
            · have c0 := hHk.at0 (k + k2) (by omega)
              have c1 := hHk.at1 (k + k2) (by omega)
              have p0 := hHk.at0 (k + k2 - 1) (by omega)
              have p1 := hHk.at1 (k + k2 - 1) (by omega)
              rw [hI.high (k + k2) (by omega), show (k + k2) * 2 = k * 2 + k2 * 2 by omega] at c0 c1
              rw [hI.high (k + k2 - 1) (by omega), show (k + k2 - 1) * 2 = k * 2 + (k2 - 1) * 2 by omega] at p0 p1
              have q0 := hHk.at0 kk (by omega)
              have q1 := hHk.at1 kk (by omega)
              have f0 := hHk.froz (kk * 2)
              have f1 := hHk.froz (kk * 2 + 1)
              clear hHk hI hc
              generalize hu : d[k + k2]! = u at *
              generalize hv : d[k + k2 - 1]! = v at *
              have C := hid (And.intro hu hv)
              clear hu hv
              obtain ⟨xo, xw⟩ := u
              obtain ⟨yo, yw⟩ := v
              dsimp only at c0 c1 p0 p1
              by_cases hd : (xo, xw) = (yo, yw)
              · cases hd
                have g1 : (xo == xo) = true := by simp
                have g2 : (xw == xw) = true := by simp
                have HX := hid (And.intro (HK2.out.1.keep ((Chg.refl (fun _ => False) _).drew) id) (And.intro HK2.out.2.1.drew (HK2.out.2.2.skip (keeps_neg (by omega) (by rw [C.out.1, C.out.2])))))
                clear HK2
                go_wp2
                go_region
                go_wp2
                go_roundw
                case rel => exact ⟨kk, k2 + 1, dk, rfl, by go_num, by omega, by omega, HX.out.2.1, HX.out.1, HX.out.2.2⟩
                case measure => simp [intOf]; omega
              · have HX := hid (And.intro ((HK2.out.1.keep ((Chg.refl (fun _ => False) wr).drew) id).set (k := kk) (u := (xo, xw)) (by omega) (by omega)) (And.intro ((HK2.out.2.1.drew.trans (setCell_chg _ g (kk * 2) (.string ⟨xo.toArray⟩)) (fun i hi h => h)).trans (setCell_chg _ g (kk * 2 + 1) (.string ⟨xw.toArray⟩)) (fun i hi h => h)) (by have := HK2.out.2.2.keep hlt2 (keeps_pos (by rw [C.out.1, C.out.2]; exact hd)); rwa [C.out.1] at this)))
                clear HK2
                by_cases e1 : xo = yo
                · have e2 : ¬ xw = yw := fun h => hd (by rw [e1, h])
                  subst e1
                  have g1 : (xo == xo) = true := by simp
                  have g2 : (xw == yw) = false := by simpa using e2
                  clear hd e2
                  go_wp2
                  go_region
                  go_wp2
                  go_roundw
                  case rel => exact ⟨kk + 1, k2 + 1, dk.setIfInBounds kk (xo, xw), by go_num, by go_num, by omega, by omega, HX.out.2.1, HX.out.1, HX.out.2.2⟩
                  case measure => simp [intOf]; omega
                · have g1 : (xo == yo) = false := by simpa using e1
                  clear hd e1
                  go_wp2
                  go_region
                  go_wp2
                  go_roundw
                  case rel => exact ⟨kk + 1, k2 + 1, dk.setIfInBounds kk (xo, xw), by go_num, by go_num, by omega, by omega, HX.out.2.1, HX.out.1, HX.out.2.2⟩
                  case measure => simp [intOf]; omega
            · have hend : k + k2 = d.size := by omega
              have hcl : ∀ ty, (Builtin.clear_ #[59] ty #[.slice (some ⟨g, kk * 2, none⟩) (d.size - kk) (cap - kk)]).run Try.prog wr = .ok (.tuple #[]) (wr.setCells g (kk * 2) (List.replicate ((d.size - kk) * 2) (.string ⟨#[]⟩))) :=
                fun ty => run_clear_all wr 59 24 ty (.agg #[.string ⟨#[]⟩, .string ⟨#[]⟩]) (.string ⟨#[]⟩) 2 Try.underlying59 (fun w => by kernel_rfl) rfl (by decide) rfl g (kk * 2) _ _ (by omega) (fun j hj => by
                  obtain ⟨cur, b1, b2⟩ := hHk.blk
                  rw [cell_blk b1, Array.getElem?_eq_getElem (by omega)]; rfl) (fun j hj => hHk.froz _)
              rw [hend] at hI
              have hX := hHk.low (c := compactUpTo d d.size) (by rw [hI.len]; omega) (fun j hj => by
                have e := hI.low j (by rw [hI.len] at hj; exact hj)
                rw [List.getElem?_eq_getElem hj] at e
                rw [getElem!_pos (compactUpTo d d.size) j hj]
                exact (Option.some.inj e).symm)
              have hY := HoldR.aboves (List.replicate ((d.size - kk) * 2) (.string ⟨#[]⟩)) (kk * 2) wr hX (by simp [hI.len])
              have HX := hid (And.intro hI.len (And.intro hY.1 (hc.trans hY.2 (fun _ _ h => h))))
              clear hX hY hHk hI hc HK2
              go_wp2
              go_ret
              exact ⟨by rw [HX.out.1]; rfl, HX.out.2.1, HX.out.2.2⟩
        · have A2 : Hid (∀ j, j < k + 1 → keeps d j = true) := hid (fun j hj => by
            by_cases e : j = k
            · subst e
              exact keeps_pos (by rw [B.out.1, B.out.2]; exact hd)
            · exact A.out j (by omega))
          have HX := hid (And.intro (HH.out.1.keep ((Chg.refl (fun _ => False) _).drew) id) HH.out.2.drew)
          by_cases e1 : xo = yo
          · have e2 : ¬ xw = yw := fun h => hd (by rw [e1, h])
            subst e1
            have f1 : (xo == xo) = true := by simp
            have f2 : (xw == yw) = false := by simpa using e2
            clear hd e2
            go_wp2
            go_region
            go_wp2
            go_roundw
            case rel => exact ⟨k + 1, by omega, by omega, by go_num, HX.out.1, HX.out.2, A2⟩
            case measure => simp [intOf]; omega
          · have f1 : (xo == yo) = false := by simpa using e1
            clear hd e1
            go_wp2
            go_region
            go_wp2
            go_roundw
            case rel => exact ⟨k + 1, by omega, by omega, by go_num, HX.out.1, HX.out.2, A2⟩
            case measure => simp [intOf]; omega
      · have hk2 : k = d.size := by omega
        have HH := hid (And.intro hHr hc)
        clear hHr hc hH
        subst hk2
        go_wp2
        go_ret
        obtain ⟨e1, e2⟩ := HS.out A.out
        exact ⟨by rw [e1]; rfl, HH.out.1.low (by omega) e2, HH.out.2⟩

theorem comp_len (d : Array RoleB) : ∀ m, (compactUpTo d m).length ≤ m
  | 0 => by simp [compactUpTo]
  | m + 1 => by
    have := comp_len d m
    rw [compactUpTo_succ, List.length_append]
    split <;> simp <;> omega

theorem HoldR.own {B : Nat} {w : World} {g cap : Nat} {c : List RoleB} (h : HoldR w g cap c.toArray) (hg : B ≤ g) (hl : c.length ≤ cap) (hm : cap ≤ maxLen) : OwnR B w (.slice (some ⟨g, 0, none⟩) c.length cap) c := by
  obtain ⟨cur, b1, b2⟩ := h.blk
  refine ⟨by rw [roleRow_length], .inr ⟨g, cap, cur, rfl, hg, b1, hl, hm, b2, ?_⟩⟩
  apply List.ext_getElem?
  intro i
  rw [List.getElem?_take]
  by_cases hi : i < c.length * 2
  · rw [if_pos hi]
    have e1 : cur.toList[i]? = cur[i]? := by simp
    rw [e1]
    rcases (⟨i / 2, by omega⟩ : ∃ j, i = 2 * j ∨ i = 2 * j + 1) with ⟨j, rfl | rfl⟩
    · have hj : j < c.length := by omega
      have a := h.at0 j (by simpa using hj)
      rw [cell_blk b1] at a
      rw [show 2 * j = j * 2 by omega, a, (roleRow_get c j hj).1]
      simp [hj]
    · have hj : j < c.length := by omega
      have a := h.at1 j (by simpa using hj)
      rw [cell_blk b1] at a
      rw [show 2 * j + 1 = j * 2 + 1 by omega, a, (roleRow_get c j hj).2]
      simp [hj]
  · rw [if_neg hi, List.getElem?_eq_none (by rw [roleRow_length]; omega)]

theorem pcompact_own {B : Nat} {w : World} {ao : Option Addr} {cap : Nat} {ls : List RoleB} (h : OwnR B w (.slice ao ls.length cap) ls) (hl : ls.length ≤ 4194304) :
    Calls Try.prog 120 #[.slice ao ls.length cap] w fun e w' => (∃ ao2 cap2, e = .returned (.slice ao2 (Lib.compact ls).length cap2) ∧ OwnR B w' (.slice ao2 (Lib.compact ls).length cap2) (Lib.compact ls)) ∧ (∀ S : Nat → Prop, (∀ k, B ≤ k → S k) → Chg S w w') := by
  have hall := h
  rcases h.2 with ⟨he, h0⟩ | ⟨g, cap', cur, he, hg, hh, h1, h2, h3, h4⟩
  · have : ls = [] := List.eq_nil_of_length_eq_zero h0
    subst this
    cases he
    go_enter Try.func120, Try.ntmps120
    go_wp2
    go_ret
    exact ⟨⟨none, 0, rfl, hall⟩, fun S _ => Chg.refl _ _⟩
  · cases he
    have hH : HoldR w g cap ls.toArray := ⟨⟨cur, hh, h3⟩, fun j hj => by
      have hj' : j < ls.length := by simpa using hj
      have := hall.cells (g := g) rfl (j * 2) _ (roleRow_get ls j hj').1
      rw [add_off, Nat.zero_add] at this
      rw [this]; simp [hj'], fun j hj => by
      have hj' : j < ls.length := by simpa using hj
      have := hall.cells (g := g) rfl (j * 2 + 1) _ (roleRow_get ls j hj').2
      rw [add_off, Nat.zero_add] at this
      rw [this]; simp [hj']⟩
    have hwk := compact_walk g cap ls.toArray w hH (by simpa using hl) (by simpa using h1) (by unfold maxLen at h2; exact h2)
    have hs : ls.toArray.size = ls.length := by simp
    rw [hs] at hwk
    refine hwk.mono ?_
    rintro e w' ⟨rfl, hH', hc⟩
    exact ⟨⟨_, _, rfl, hH'.own hg (Nat.le_trans (comp_len ls.toArray ls.length) h1) h2⟩, fun S hS => hc.mono (fun k _ hk => by subst hk; exact hS _ hg)⟩
end Go.Proofs.Ytjaplnainlbldaa

/-
  DERIVED: THE SHELF's CONTRACTS AT THIS DUMP, IN PLAIN WORDS (tools/lay-plain.mjs out of 'TryShelfQ.lean', which tools/lay-shelf.mjs wrote): THE SAME DECLARATIONS UNDER THE SAME NAMES: 'import', 'namespace', 'open', 'def', 'theorem' AND NOTHING ELSE: no command of the shelf's: FOR A HAND-IN. Each laying: the table of numbers ('.._ren') and one theorem, a field a fact of the dump's own or the kernel's comparison; each contract: ONE APPLICATION.
-/
namespace Go.Proofs
open Go.Shelf
def Try.sortR_ren : Go.Shelf.Ren := ⟨fun | 6 => 118 | 15 => 107 | 14 => 139 | 28 => 133 | 29 => 134 | 20 => 151 | 21 => 152 | 22 => 153 | 23 => 154 | 24 => 155 | 25 => 156 | 26 => 157 | 27 => 158 | 46 => 161 | 47 => 147 | 48 => 148 | 49 => 162 | 50 => 163 | 57 => 165 | n => n, fun | 22 => 59 | 24 => 24 | 25 => 183 | 3 => 3 | 39 => 172 | 0 => 0 | 53 => 197 | 55 => 199 | 4 => 4 | 46 => 191 | 45 => 190 | 50 => 81 | 5 => 5 | 9 => 9 | 66 => 209 | 70 => 118 | 76 => 219 | 77 => 38 | n => n, fun | n => n⟩
theorem Try.sortR : Go.Proofs.SlLaysF0.n6 Try.prog Try.sortR_ren := {
  mixed := by kernel_rfl
  f6 := ⟨Try.f118.name, by decide, Try.func118.trans (congrArg some (by kernel_rfl))⟩
  f14 := ⟨Try.f139.name, by decide, Try.func139.trans (congrArg some (by kernel_rfl))⟩
  f15 := Try.func107.trans (congrArg some (by kernel_rfl))
  f20 := ⟨Try.f151.name, by decide, Try.func151.trans (congrArg some (by kernel_rfl))⟩
  f21 := ⟨Try.f152.name, by decide, Try.func152.trans (congrArg some (by kernel_rfl))⟩
  f22 := ⟨Try.f153.name, by decide, Try.func153.trans (congrArg some (by kernel_rfl))⟩
  f23 := ⟨Try.f154.name, by decide, Try.func154.trans (congrArg some (by kernel_rfl))⟩
  f24 := ⟨Try.f155.name, by decide, Try.func155.trans (congrArg some (by kernel_rfl))⟩
  f25 := ⟨Try.f156.name, by decide, Try.func156.trans (congrArg some (by kernel_rfl))⟩
  f26 := ⟨Try.f157.name, by decide, Try.func157.trans (congrArg some (by kernel_rfl))⟩
  f27 := ⟨Try.f158.name, by decide, Try.func158.trans (congrArg some (by kernel_rfl))⟩
  f28 := Try.func133.trans (congrArg some (by kernel_rfl))
  f29 := Try.func134.trans (congrArg some (by kernel_rfl))
  f46 := ⟨Try.f161.name, by decide, Try.func161.trans (congrArg some (by kernel_rfl))⟩
  f47 := Try.func147.trans (congrArg some (by kernel_rfl))
  f48 := Try.func148.trans (congrArg some (by kernel_rfl))
  f49 := ⟨Try.f162.name, by decide, Try.func162.trans (congrArg some (by kernel_rfl))⟩
  f50 := ⟨Try.f163.name, by decide, Try.func163.trans (congrArg some (by kernel_rfl))⟩
  f57 := ⟨Try.f165.name, by decide, Try.func165.trans (congrArg some (by kernel_rfl))⟩
  t0 := Try.underlying0
  a0 := Try.isAgg0
  z0 := Try.sizeOf0
  v0 := Try.zeroValue0
  t3 := Try.underlying3
  a3 := Try.isAgg3
  z3 := Try.sizeOf3
  v3 := Try.zeroValue3
  t4 := Try.underlying4
  a4 := Try.isAgg4
  z4 := Try.sizeOf4
  v4 := Try.zeroValue4
  t5 := Try.underlying5
  a5 := Try.isAgg5
  z5 := Try.sizeOf5
  v5 := Try.zeroValue5
  t9 := Try.underlying9
  a9 := Try.isAgg9
  z9 := Try.sizeOf9
  v9 := Try.zeroValue9
  t22 := Try.underlying59
  a22 := Try.isAgg59
  z22 := Try.sizeOf59
  v22 := Try.zeroValue59
  t25 := Try.underlying183
  a25 := Try.isAgg183
  z25 := Try.sizeOf183
  v25 := Try.zeroValue183
  t39 := Try.underlying172
  a39 := Try.isAgg172
  z39 := Try.sizeOf172
  v39 := Try.zeroValue172
  t45 := Try.underlying190
  a45 := Try.isAgg190
  z45 := Try.sizeOf190
  v45 := Try.zeroValue190
  t46 := Try.underlying191
  a46 := Try.isAgg191
  z46 := Try.sizeOf191
  v46 := Try.zeroValue191
  t50 := Try.underlying81
  a50 := Try.isAgg81
  z50 := Try.sizeOf81
  v50 := Try.zeroValue81
  t53 := Try.underlying197
  a53 := Try.isAgg197
  z53 := Try.sizeOf197
  v53 := Try.zeroValue197
  t55 := Try.underlying199
  a55 := Try.isAgg199
  z55 := Try.sizeOf199
  v55 := Try.zeroValue199
  t66 := Try.underlying209
  a66 := Try.isAgg209
  z66 := Try.sizeOf209
  v66 := Try.zeroValue209
  t70 := Try.underlying118
  a70 := Try.isAgg118
  z70 := Try.sizeOf118
  v70 := Try.zeroValue118
  t76 := Try.underlying219
  a76 := Try.isAgg219
  z76 := Try.sizeOf219
  v76 := Try.zeroValue219
  t77 := Try.underlying38
  a77 := Try.isAgg38
  z77 := Try.sizeOf38
  v77 := Try.zeroValue38 }
end Go.Proofs

/- A row that a sort has put in order: what its block holds, and that nothing else has turned. -/
namespace Go.Proofs.Ytjaplnainlbldaa
open Go.RowKit Go.Sort Go.Lib
theorem heap_putRow {w : World} {g n : Nat} {os : Array Obj} {cur : Array Value} {e : TypeId} {fr : Nat × Nat} (F : Array Value) (hb : w.heap[g]? = some (.cells cur e fr)) :
    (grow (putRow id (Sort.ahead w n) g 0 F) os).heap[g]? = some (.cells (putCells id 0 F cur) e fr) := by
  have hg : g < w.heap.size := (Array.getElem?_eq_some_iff.1 hb).1
  rw [heap_grow_old _ _ (by simpa using hg)]
  simp [putRow, mapBlock, Sort.ahead, Array.getElem?_modify, hb, onCells]

theorem chg_putRow {w : World} {g n : Nat} {os : Array Obj} (F : Array Value) (S : Nat → Prop) (hS : S g) : Chg S w (grow (putRow id (Sort.ahead w n) g 0 F) os) := by
  refine ⟨rfl, rfl, rfl, by simp, fun k hk hs => ?_⟩
  rw [heap_grow_old _ _ (by simpa using hk)]
  have : g ≠ k := fun e => hs (e ▸ hS)
  simp [putRow, mapBlock, Sort.ahead, Array.getElem?_modify, this]

end Go.Proofs.Ytjaplnainlbldaa

/- slices.SortFunc at roles by Compare, of a row of the call's own: a permutation of it, rising. -/
namespace Go.Proofs.Ytjaplnainlbldaa
open Go.RowKit Go.Sort Go.Lib

theorem ltOf_cmpR (x y : RoleB) : ltOf cmpR x y = ltR x y := by
  unfold ltOf cmpR
  cases h : ltR x y with
  | true => simp
  | false => cases h2 : ltR y x <;> simp

theorem swo_cmpR : SWO (ltOf cmpR) where
  irrefl x := by rw [ltOf_cmpR]; exact ltR_ord.irrefl x
  trans x y z h1 h2 := by rw [ltOf_cmpR] at *; exact ltR_ord.trans x y z h1 h2
  ntrans x y z h1 h2 := by
    rw [ltOf_cmpR] at *
    cases h3 : ltR x z with
    | false => rfl
    | true =>
      rcases ltR_ord.tri x y with h | h | h
      · rw [h] at h1; cases h1
      · subst h; rw [h3] at h2; cases h2
      · rcases ltR_ord.tri y z with k | k | k
        · rw [k] at h2; cases h2
        · subst k; rw [h3] at h1; cases h1
        · have := ltR_ord.trans _ _ _ (ltR_ord.trans _ _ _ h3 k) h
          rw [ltR_ord.irrefl] at this; cases this

theorem psort_own {B : Nat} {w : World} {ao : Option Addr} {cap : Nat} {ls : List RoleB} (h : OwnR B w (.slice ao ls.length cap) ls) (hl : ls.length ≤ 4194304) :
    Calls Try.prog 118 #[.slice ao ls.length cap, .func (.func 119) #[] #[]] w fun e w' => e = .returned (.tuple #[]) ∧ (∃ ts : List RoleB, ts.Perm ls ∧ (ts.Pairwise fun x y => ltR y x = false) ∧ OwnR B w' (.slice ao ts.length cap) ts) ∧ (∀ S : Nat → Prop, (∀ k, B ≤ k → S k) → Chg S w w') := by
  have hall := h
  rcases h.2 with ⟨he, h0⟩ | ⟨g, cap', cur, he, hg, hh, h1, h2, h3, h4⟩
  · have : ls = [] := List.eq_nil_of_length_eq_zero h0
    subst this
    cases he
    have hcon := AnyF.slices_SortFunc_none Try.sortR none 0 (.func (.func 119) #[] #[]) w
    change Calls Try.prog 118 _ _ _ at hcon
    refine hcon.mono ?_
    rintro e w' ⟨rfl, rfl⟩
    exact ⟨rfl, ⟨[], List.Perm.refl _, List.Pairwise.nil, hall⟩, fun S _ => Chg.refl _ _⟩
  · cases he
    have hs : ls.toArray.size = ls.length := by simp
    have hH : HoldsK roleCells 2 w g 0 ls.toArray := by
      intro t ht
      rw [size_flatK, hs] at ht
      refine ⟨?_, by simp [World.frozen?, hh]⟩
      rw [get_flatK _ _ _ _ (by rw [hs]; exact ht)]
      have hj : t / 2 < ls.length := by omega
      rw [show ls.toArray[t / 2]! = ls[t / 2] by simp [hj]]
      rcases Nat.mod_two_eq_zero_or_one t with e | e
      · have := hall.cells (g := g) rfl (t / 2 * 2) _ (roleRow_get ls (t / 2) hj).1
        rw [add_off, Nat.zero_add, show t / 2 * 2 = t by omega] at this
        rw [Nat.zero_add, this, e]
        rfl
      · have := hall.cells (g := g) rfl (t / 2 * 2 + 1) _ (roleRow_get ls (t / 2) hj).2
        rw [add_off, Nat.zero_add, show t / 2 * 2 + 1 = t by omega] at this
        rw [Nat.zero_add, this, e]
        rfl
    have eg : ∀ args w, (callFunc 119 args).run Try.prog w = .ok (.enter 119 args) w := enters_of Try.func119 (by kernel_rfl) rfl
    have hcmp : CmpLays Try.prog 119 #[] roleCells 2 cmpR g 0 ls.toArray.size w := fun _ _ _ _ x y => pcompare_grows x y _
    have hcon := AnyQ.slices_SortFunc Try.sortR 2 Try.isAgg24 Try.sizeOf24 roleCells (fun _ => rfl) (fun x v hv => by simp [roleCells] at hv; rcases hv with rfl | rfl <;> rfl) cmpR swo_cmpR 119 #[] g 0 cap ls.toArray w eg hcmp hH (lt_blk hh) (by rw [hs]; omega)
    change Calls Try.prog 118 _ _ _ at hcon
    rw [hs] at hcon
    refine hcon.mono ?_
    rintro e w' ⟨rfl, d', n, os, hp, hso, rfl⟩
    have hds : d'.size = ls.length := by rw [hp.1, hs]
    have hHK : HoldsK roleCells 2 (grow (putRowK roleCells 2 (Sort.ahead w n) g 0 d') os) g 0 d' :=
      holdsK_grow _ _ _ _ _ _ _ (by show g < (putRow id (Sort.ahead w n) g 0 _).heap.size; simpa [putRow, mapBlock, Sort.ahead] using lt_blk hh) (holdsK_putRowK _ _ _ _ _ ls.toArray d' hH (by rw [hds, hs]))
    have hR : HoldR (grow (putRowK roleCells 2 (Sort.ahead w n) g 0 d') os) g cap d'.toList.toArray := by
      refine ⟨⟨_, heap_putRow _ hh, by simp [putCells, h3]⟩, fun j hj => ?_, fun j hj => ?_⟩
      · have := (hHK.cell (i := j) (c := 0) (by simpa using hj) (by decide)).1
        rw [Nat.zero_add] at this
        exact this
      · have := (hHK.cell (i := j) (c := 1) (by simpa using hj) (by decide)).1
        rw [Nat.zero_add] at this
        exact this
    refine ⟨rfl, ⟨d'.toList, ?_, ?_, ?_⟩, fun S hS => chg_putRow _ S (hS _ hg)⟩
    · have h5 := hp.2.2
      rw [← hds] at h5
      have e1 : d'.extract 0 d'.size = d' := by simp
      have e2 : ls.toArray.extract 0 d'.size = ls.toArray := by rw [hds]; simp
      rw [e1, e2] at h5
      exact h5
    · rw [List.pairwise_iff_getElem]
      intro i j hi hj hij
      have h5 := hso i j (Nat.zero_le _) hij (by simpa [hds] using hj)
      rw [ltOf_cmpR] at h5
      have hi' : i < d'.size := by simpa using hi
      have hj' : j < d'.size := by simpa using hj
      rw [getElem!_pos d' i hi', getElem!_pos d' j hj'] at h5
      simpa using h5
    · exact hR.own hg (by simpa [hds] using h1) h2
end Go.Proofs.Ytjaplnainlbldaa
