/- Texts that the proof leans on, in one: ChDel, ChKept. -/
import Derived.Test.YtjaplnainlbldaaFc13
import Derived.Test.YtjaplnainlbldaaFc12
/- slices.DeleteFunc at ways, of a row of the call's own. -/
namespace Go.Proofs.Ytjaplnainlbldaa
open Go.RowKit Go.Lib Go.Sort

/-- The block g holds the ways es from its first cell on. -/
structure HoldWy (w : World) (g cap : Nat) (es : List WayB) : Prop where
 blk : ∃ cur, w.heap[g]? = some (.cells cur 175 (0, 0)) ∧ cur.size = cap * 2
 at_ : ∀ j (h : j < es.length), w.cell? ⟨g, j * 2, none⟩ = some (.int .i64 ((es[j]).1 : Nat)) ∧ w.cell? ⟨g, j * 2 + 1, none⟩ = some (.int .i64 ((es[j]).2 : Nat))

theorem HoldWy.keep {S : Nat → Prop} {w w' : World} {g cap : Nat} {es : List WayB} (h : HoldWy w g cap es) (hc : Chg S w w') (hS : ¬ S g) : HoldWy w' g cap es :=
 ⟨by obtain ⟨cur, h1, h2⟩ := h.blk; exact ⟨cur, blk_keep h1 hc hS, h2⟩, fun j hj => ⟨hc.cell (h.at_ j hj).1 hS, hc.cell (h.at_ j hj).2 hS⟩⟩
theorem HoldWy.froz {w : World} {g cap : Nat} {es : List WayB} (h : HoldWy w g cap es) (i : Nat) : w.frozen? ⟨g, i, none⟩ = false := by
 obtain ⟨cur, h1, _⟩ := h.blk
 exact froz_blk h1 i
theorem HoldWy.low {w : World} {g cap : Nat} {es fs : List WayB} (h : HoldWy w g cap es) (i : Nat) (hi : es.take i = fs) : HoldWy w g cap fs := by
 refine ⟨h.blk, fun j hj => ?_⟩
 subst hi
 have hj2 : j < es.length := by rw [List.length_take] at hj; omega
 have := h.at_ j hj2
 rw [List.getElem_take]
 exact this
theorem HoldWy.set {w : World} {g cap k : Nat} {es : List WayB} {x : WayB} (h : HoldWy w g cap es) (hk : k < es.length) (hcap : es.length ≤ cap) : HoldWy ((w.setCell ⟨g, k * 2, none⟩ (.int .i64 (x.1 : Nat))).setCell ⟨g, k * 2 + 1, none⟩ (.int .i64 (x.2 : Nat))) g cap (es.set k x) := by
 obtain ⟨cur, h1, h2⟩ := h.blk
 have b1 := set_blk h1 (k * 2) (.int .i64 (x.1 : Nat))
 have b2 := set_blk b1 (k * 2 + 1) (.int .i64 (x.2 : Nat))
 refine ⟨⟨_, b2, by simp [h2]⟩, fun j hj => ?_⟩
 rw [List.length_set] at hj
 have hj2 := h.at_ j hj
 rw [cell_blk h1, cell_blk h1] at hj2
 rw [cell_blk b2, cell_blk b2]
 by_cases e : j = k
 ·subst e
  rw [List.getElem_set_self]
  constructor
  ·rw [Array.getElem?_setIfInBounds_ne (by omega), Array.getElem?_setIfInBounds_self_of_lt (by omega)]
  ·rw [Array.getElem?_setIfInBounds_self_of_lt (by simp; omega)]
 ·rw [List.getElem_set_ne (fun x => e x.symm)]
  constructor
  ·rw [Array.getElem?_setIfInBounds_ne (by omega), Array.getElem?_setIfInBounds_ne (by omega)]
   exact hj2.1
  ·rw [Array.getElem?_setIfInBounds_ne (by omega), Array.getElem?_setIfInBounds_ne (by omega)]
   exact hj2.2
theorem HoldWy.above {g cap : Nat} {es : List WayB} : ∀ (xs : List Value) (o : Nat) (w : World), HoldWy w g cap es → es.length * 2 ≤ o → HoldWy (w.setCells g o xs) g cap es
 | [], o, w, h, _ => h
 | x :: r, o, w, h, ho => by
  refine HoldWy.above r (o + 1) (w.setCell ⟨g, o, none⟩ x) ?_ (by omega)
  obtain ⟨cur, h1, h2⟩ := h.blk
  have b1 := set_blk h1 o x
  refine ⟨⟨_, b1, by simp [h2]⟩, fun j hj => ?_⟩
  have hj2 := h.at_ j hj
  rw [cell_blk h1, cell_blk h1] at hj2
  rw [cell_blk b1, cell_blk b1, Array.getElem?_setIfInBounds_ne (by omega), Array.getElem?_setIfInBounds_ne (by omega)]
  exact hj2
theorem HoldWy.own {B : Nat} {w : World} {g cap : Nat} {c : List WayB} (h : HoldWy w g cap c) (hg : B ≤ g) (hl : c.length ≤ cap) (hm : cap ≤ maxLen) : OwnWy B w (.slice (some ⟨g, 0, none⟩) c.length cap) c := by
 obtain ⟨cur, b1, b2⟩ := h.blk
 refine ⟨wayRow_len c, .inr ⟨g, cap, cur, rfl, hg, b1, hl, hm, b2, ?_⟩⟩
 apply List.ext_getElem?
 intro i
 rw [List.getElem?_take]
 by_cases hi : i < c.length * 2
 ·rw [if_pos hi]
  have e1 : cur.toList[i]? = cur[i]? := by simp
  rw [e1]
  have hj : i / 2 < c.length := by omega
  have a := h.at_ (i / 2) hj
  rw [cell_blk b1, cell_blk b1] at a
  have b := wayRow_get c (i / 2) (i % 2) hj (Nat.mod_lt _ (by decide))
  rw [show i / 2 * 2 + i % 2 = i by omega] at b
  rw [b]
  rcases Nat.mod_two_eq_zero_or_one i with e | e
  ·rw [e]
   have := a.1
   rw [show i / 2 * 2 = i by omega] at this
   rw [this]
   rfl
  ·rw [e]
   have := a.2
   rw [show i / 2 * 2 + 1 = i by omega] at this
   rw [this]
   rfl
 ·rw [if_neg hi, List.getElem?_eq_none (by rw [wayRow_len]; omega)]
theorem OwnWy.hold {B : Nat} {w : World} {g cap n : Nat} {ls : List WayB} (h : OwnWy B w (.slice (some ⟨g, 0, none⟩) n cap) ls) : HoldWy w g cap ls ∧ B ≤ g ∧ ls.length ≤ cap ∧ cap ≤ maxLen ∧ n = ls.length := by
 have hall := h
 rcases h.2 with ⟨he, _⟩ | ⟨g', cap', cur, he, hg, hh, h1, h2, h3, h4⟩
 ·cases he
 ·injection he with e1 e2 e3
  subst e3
  injection e1 with e1
  injection e1 with e1 _ _
  subst e1
  refine ⟨⟨⟨cur, hh, h3⟩, fun j hj => ?_⟩, hg, h1, h2, e2⟩
  subst e2
  obtain ⟨ao, cp, e, hw⟩ := OwnWy.ways hall
  injection e with e _ _
  obtain ⟨b, off, e4, _, q1, q2⟩ := hw j hj
  rw [← e] at e4
  injection e4 with e4
  injection e4 with e5 e6 _
  subst e5
  subst e6
  rw [Nat.zero_add] at q1 q2
  exact ⟨q1, q2⟩

theorem way_zero (n : Nat) : ((Builtin.zeroCells #[Value.int .i64 0, .int .i64 0] n).toList).length = n * 2 ∧ ∀ v ∈ (Builtin.zeroCells #[Value.int .i64 0, .int .i64 0] n).toList, v.oneCell' = true := by
 constructor
 ·simp [Builtin.zeroCells]
 ·intro v hv
  simp only [Builtin.zeroCells, Array.toList_map, List.mem_map] at hv
  obtain ⟨i, _, rfl⟩ := hv
  have hall : ∀ j : Fin 2, (#[Value.int .i64 0, .int .i64 0][j.val]!).oneCell' = true := by decide
  exact hall ⟨i % 2, Nat.mod_lt _ (by decide)⟩

/-- Between two rounds: i are left of the first j. -/
structure DelIy (q : WayB → Bool) (ws es : List WayB) (i j : Nat) : Prop where
 lt : i < j
 le : j ≤ ws.length
 len : es.length = ws.length
 low : es.take i = (ws.take j).filter (fun x => !q x)
 high : ∀ p, j ≤ p → es[p]? = ws[p]?

theorem DelIy.skip {q : WayB → Bool} {ws es : List WayB} {i j : Nat} (h : DelIy q ws es i j) (hj : j < ws.length) (hq : q ws[j] = true) : DelIy q ws es i (j + 1) :=
 ⟨by have := h.lt; omega, by omega, h.len, by rw [h.low, List.take_succ_eq_append_getElem hj, List.filter_append]; simp [hq], fun p hp => h.high p (by omega)⟩
theorem DelIy.keep {q : WayB → Bool} {ws es : List WayB} {i j : Nat} (h : DelIy q ws es i j) (hj : j < ws.length) (hq : q ws[j] = false) : DelIy q ws (es.set i ws[j]) (i + 1) (j + 1) := by
 have hi : i < es.length := by have := h.lt; have := h.len; omega
 refine ⟨by have := h.lt; omega, by omega, by rw [List.length_set]; exact h.len, ?_, fun p hp => ?_⟩
 ·rw [List.take_succ_eq_append_getElem (by rw [List.length_set]; exact hi), List.take_set_of_le (Nat.le_refl _), h.low, List.getElem_set_self, List.take_succ_eq_append_getElem hj, List.filter_append]
  simp [hq]
 ·rw [List.getElem?_set_ne (by have := h.lt; omega)]
  exact h.high p (by omega)
theorem DelIy.start {q : WayB → Bool} {ws : List WayB} {j : Nat} (hj : j < ws.length) (hq : q ws[j] = true) (hno : ∀ x ∈ ws.take j, q x = false) : DelIy q ws ws j (j + 1) := by
 refine ⟨Nat.lt_succ_self _, hj, rfl, ?_, fun _ _ => rfl⟩
 rw [List.take_succ_eq_append_getElem hj, List.filter_append, List.filter_eq_self.2 (fun x hx => by rw [hno x hx]; rfl)]
 simp [hq]
theorem DelIy.done {q : WayB → Bool} {ws es : List WayB} {i : Nat} (h : DelIy q ws es i ws.length) : es.take i = ws.filter (fun x => !q x) ∧ (ws.filter (fun x => !q x)).length = i := by
 have h1 := h.low
 rw [List.take_length] at h1
 refine ⟨h1, ?_⟩
 rw [← h1, List.length_take]
 have := h.lt
 have := h.len
 omega

/-- What is left. -/
def DelPostW (ws : List WayB) (q : WayB → Bool) (u : Value) (w : World) (e : Ending) (w' : World) : Prop :=
 ∃ v, e = .returned v ∧ OwnWy 0 w' v (ws.filter (fun x => !q x)) ∧ v.ownBlock = u.ownBlock ∧ Chg (fun i => u.ownBlock = some i) w w'

set_option maxRecDepth 100000 in
set_option maxHeartbeats 4000000 in
theorem ch_del (hf : Nat) (lb : Array Value) (q : WayB → Bool) (u : Value) (ws : List WayB) (w : World) (hn : ws.length ≤ 33554432) (ho : OwnWy 0 w u ws) (eg : ∀ args w, (callFunc hf args).run Try.prog w = .ok (.enter hf args) w) (ht : TakesF (fun i => u.ownBlock = some i) hf lb q w) :
  Calls Try.prog 111 #[u, .func (.func hf) #[] lb] w (DelPostW ws q u w) := by
 obtain ⟨ao, cap, hu, hst⟩ := ho.ways
 have HI := hid (ch_indexFunc hf lb q ao cap ws w hn hst eg ht)
 have HO := hid (And.intro ho ht)
 subst hu
 clear ho ht hst
 go_enter Try.func111, Try.ntmps111
 go_wp2_with fail
 refine HI.out.mono ?_
 rintro e w1 ⟨h | h, hc1⟩
 ·obtain ⟨j, hj, rfl, hqj, hno⟩ := h
  have hao : ∃ g, ao = some ⟨g, 0, none⟩ := by
   rcases HO.out.1.2 with ⟨e, h0⟩ | ⟨g, _, _, e, _⟩
   ·omega
   ·injection e with e; exact ⟨g, e⟩
  obtain ⟨g, rfl⟩ := hao
  obtain ⟨hh, _, hcap, hcm, _⟩ := HO.out.1.hold
  have HST := hid (DelIy.start hj hqj hno)
  have HH := hid (hh.keep hc1 id)
  have HC1 := hid hc1
  clear hqj hno hh hc1 HI
  go_wp2
  go_loopw [5, 6] (fun s5 s6 wr => ∃ (i k : Nat) (es : List WayB), s5 = .int .i64 i ∧ s6 = .int .i64 k ∧ i < k ∧ k ≤ ws.length ∧ Hid (DelIy q ws es i k ∧ HoldWy wr g cap es ∧ Chg (fun x => x = g) w wr)) (fun _ s6 _ => ws.length - (intOf s6).toNat)
  case atStart => exact ⟨j, j + 1, ws, rfl, by go_num, by omega, by omega, hid ⟨HST.out, HH.out, HC1.out.none9⟩⟩
  case round =>
   obtain ⟨i, k, es, rfl, rfl, hik, hkn, hrel⟩ := hrel
   obtain ⟨hI, hH, hc⟩ := hrel.out
   by_cases hlt : k < ws.length
   ·have hke : k < es.length := by rw [hI.len]; exact hlt
    obtain ⟨a0, a1⟩ := hH.at_ k hke
    have hx : es[k] = ws[k] := by
     have := hI.high k (Nat.le_refl _)
     rw [List.getElem?_eq_getElem hke, List.getElem?_eq_getElem hlt] at this
     exact Option.some.inj this
    rw [hx] at a0 a1
    have HSK := hid (hI.skip hlt)
    have HKP := hid (hI.keep hlt)
    have hie : i < es.length := by omega
    obtain ⟨x, hxx⟩ : ∃ x, x = ws[k] := ⟨_, rfl⟩
    simp only [← hxx] at a0 a1 HSK HKP
    have hw1 : Chg (fun _ => False) wr (wr.alloc (.cells #[.int .i64 (x.1 : Nat), .int .i64 (x.2 : Nat)] 175)) := (Chg.refl _ wr).alloc _
    have hbX : (wr.alloc (.cells #[.int .i64 (x.1 : Nat), .int .i64 (x.2 : Nat)] 175)).heap[wr.heap.size]? = some (.cells #[.int .i64 (x.1 : Nat), .int .i64 (x.2 : Nat)] 175 (0, 0)) := heap_alloc_new wr _
    have hcw := hc.trans hw1.none9 (fun _ _ h => h)
    have HT := hid (HO.out.2 x (wr.alloc (.cells #[.int .i64 (x.1 : Nat), .int .i64 (x.2 : Nat)] 175)) (hcw.mono (fun i _ h => by rw [h]; rfl)))
    have x0 := cell_blk hbX 0
    have x1 := cell_blk hbX 1
    simp only [List.getElem?_toArray, List.getElem?_cons_zero, List.getElem?_cons_succ] at x0 x1
    have HJ := hid (And.intro (hH.keep hw1 id) (And.intro hcw (And.intro hbX (And.intro hie (show es.length ≤ cap by rw [hI.len]; exact hcap)))))
    clear hI hH hc hke hx hxx hw1 hbX hcw hrel hie
    go_wp2_with fail
    refine HT.out.mono ?_
    rintro e w5 ⟨rfl, hc5⟩
    clear a0 a1 x0 x1 HT
    have hb5 := blk_keep HJ.out.2.2.1 hc5 id
    have x0 := cell_blk hb5 0
    have x1 := cell_blk hb5 1
    simp only [List.getElem?_toArray, List.getElem?_cons_zero, List.getElem?_cons_succ] at x0 x1
    have hH5 := HJ.out.1.keep hc5 id
    have hC5 := HJ.out.2.1.trans hc5 (fun _ _ h => h.elim)
    cases hq : q x with
    | true =>
     have HN := hid (And.intro (HSK.out hq) (And.intro hH5 hC5))
     clear hq HSK HKP HJ hc5 hb5 hH5 hC5
     go_wp2
     go_roundw
     case rel => exact ⟨_, _, _, _, _, _, _, _, _, _, _, _, _, _, _, _, _, _, _, _, _, _, _, ⟨i, k + 1, es, rfl, by go_num, by omega, by omega, hid HN.out⟩, rfl⟩
     case measure => simp [intOf]; omega
    | false =>
     have hie5 := HJ.out.2.2.2.1
     obtain ⟨p0, p1⟩ := hH5.at_ i hie5
     have f0 := hH5.froz (i * 2)
     have f1 := hH5.froz (i * 2 + 1)
     have hset := hH5.set (x := x) HJ.out.2.2.2.1 HJ.out.2.2.2.2
     have hcs : Chg (fun x => x = g) w ((w5.setCell ⟨g, i * 2, none⟩ (.int .i64 (x.1 : Nat))).setCell ⟨g, i * 2 + 1, none⟩ (.int .i64 (x.2 : Nat))) := (hC5.setCell (p := ⟨g, i * 2, none⟩) (fun _ => rfl) _).setCell (p := ⟨g, i * 2 + 1, none⟩) (fun _ => rfl) _
     have HN := hid (And.intro (HKP.out hq) (And.intro hset hcs))
     clear hq HSK HKP HJ hc5 hb5 hH5 hC5 hset hcs
     go_wp2
     go_roundw
     case rel => exact ⟨_, _, _, _, _, _, _, _, _, _, _, _, _, _, _, _, _, _, _, _, _, _, _, ⟨i + 1, k + 1, es.set i x, by go_num, by go_num, by omega, by omega, hid HN.out⟩, rfl⟩
     case measure => simp [intOf]; omega
   ·have hkn2 : k = ws.length := by omega
    subst hkn2
    obtain ⟨d1, d2⟩ := hI.done
    have hin : i < ws.length := hik
    have hcl : ∀ ty, (Builtin.clear_ #[142] ty #[.slice (some ⟨g, i * 2, none⟩) (ws.length - i) (cap - i)]).run Try.prog wr = .ok (.tuple #[]) (wr.setCells g (i * 2) (Builtin.zeroCells #[Value.int .i64 0, .int .i64 0] (ws.length - i)).toList) :=
     fun ty => run_clear_gen wr 142 175 ty (.agg #[.int .i64 0, .int .i64 0]) _ 2 Try.underlying142 (fun w => by kernel_rfl) g (i * 2) _ _ (by omega) rfl (way_zero _).1 (way_zero _).2 (fun j hj => by
      obtain ⟨cur, b1, b2⟩ := hH.blk
      rw [cell_blk b1, Array.getElem?_eq_getElem (by omega)]; rfl) (fun j hj => hH.froz _)
    have hX := hH.low i d1
    have hY := HoldWy.above (Builtin.zeroCells #[Value.int .i64 0, .int .i64 0] (ws.length - i)).toList (i * 2) wr hX (by rw [d2]; exact Nat.le_refl _)
    have hZ := hc.trans (chg_setCells (g := g) (Builtin.zeroCells #[Value.int .i64 0, .int .i64 0] (ws.length - i)).toList (i * 2) wr) (fun _ _ h => h)
    have HRES : Hid (DelPostW ws q (.slice (some ⟨g, 0, none⟩) ws.length cap) w (.returned (.slice (some ⟨g, 0, none⟩) i cap)) (wr.setCells g (i * 2) (Builtin.zeroCells #[Value.int .i64 0, .int .i64 0] (ws.length - i)).toList)) := hid ⟨_, rfl, by
     have := hY.own (B := 0) (Nat.zero_le _) (by rw [d2]; omega) hcm
     rw [d2] at this
     exact this, rfl, hZ.mono (fun i _ h => by rw [h]; rfl)⟩
    clear hX hY hZ hH hI hc d1 d2 hrel
    go_wp2
    go_ret
    exact HRES.out
 ·obtain ⟨rfl, hall⟩ := h
  have e : ws.filter (fun x => !q x) = ws := List.filter_eq_self.2 (fun x hx => by rw [hall x hx]; rfl)
  have HRES : Hid (DelPostW ws q (.slice ao ws.length cap) w (.returned (.slice ao ws.length cap)) w1) := hid ⟨_, rfl, by rw [e]; exact HO.out.1.keep hc1 (fun _ _ => id), rfl, hc1.none9⟩
  clear hall hc1 HI e
  go_wp2
  go_ret
  exact HRES.out
end Go.Proofs.Ytjaplnainlbldaa

/- Kept steps, as they lie in memory: rows of rows. -/
namespace Go.Proofs.Ytjaplnainlbldaa
open Go.RowKit

/-- What a block is for. -/
inductive PTag
 | top
 | ways
 | takers
 | wrow (i : Nat)
 | krow (i : Nat)

/-- A row of values. -/
def VRow (w : World) (b n : Nat) (ty : TypeId) (V : Nat → Value) : Prop := ∃ cur : Array Value, w.heap[b]? = some (.cells cur ty (0, 0)) ∧ ∀ i, i < n → cur[i]? = some (V i)
section
variable {w w' : World} {b n : Nat} {ty : TypeId} {V : Nat → Value}
theorem VRow.keep {S : Nat → Prop} (h : VRow w b n ty V) (hc : Chg S w w') (hs : ¬ S b) : VRow w' b n ty V := by
 obtain ⟨cur, h1, h2⟩ := h
 exact ⟨cur, blk_keep h1 hc hs, h2⟩
theorem VRow.cell (h : VRow w b n ty V) {i : Nat} (hi : i < n) : w.cell? ⟨b, i, none⟩ = some (V i) := by
 obtain ⟨cur, h1, h2⟩ := h
 rw [cell_blk h1 i, h2 i hi]
theorem VRow.froz (h : VRow w b n ty V) (i : Nat) : w.frozen? ⟨b, i, none⟩ = false := by
 obtain ⟨cur, h1, h2⟩ := h
 exact froz_blk h1 i
theorem VRow.lt (h : VRow w b n ty V) : b < w.heap.size := by
 obtain ⟨cur, h1, h2⟩ := h
 exact lt_blk h1
def updV (V : Nat → Value) (i : Nat) (v : Value) : Nat → Value := fun j => if j = i then v else V j
theorem VRow.set (h : VRow w b n ty V) (i : Nat) (v : Value) : VRow (w.setCell ⟨b, i, none⟩ v) b n ty (updV V i v) := by
 obtain ⟨cur, h1, h2⟩ := h
 refine ⟨_, set_blk h1 i v, fun k hk => ?_⟩
 unfold updV
 by_cases e : i = k
 ·subst e
  have hlt : i < cur.size := (Array.getElem?_eq_some_iff.1 (h2 i hk)).1
  rw [Array.getElem?_setIfInBounds_self_of_lt hlt, if_pos rfl]
 ·rw [Array.getElem?_setIfInBounds_ne e, h2 k hk, if_neg (fun x => e x.symm)]
end

/-- What lies in the parts. -/
structure PParts (T : Nat → Option PTag) (w : World) (g n : Nat) (k : KeptB) (bw bk : Nat) (VW VK : Nat → Value) : Prop where
 blk : w.heap[g]? = some (.cells #[.slice (some ⟨bw, 0, none⟩) n n, .slice (some ⟨bk, 0, none⟩) n n] 138 (0, 0))
 tg : T g = some .top
 t1 : T bw = some .ways
 t2 : T bk = some .takers
 rw_ : VRow w bw n 142 VW
 rk_ : VRow w bk n 156 VK
 isW : ∀ i, i < n → OwnWy 0 w (VW i) (k.W.getD i []) ∧ ∀ b, (VW i).ownBlock = some b → T b = some (.wrow i)
 isK : ∀ i, i < n → OwnI 0 w (VK i) (k.K.getD i []) ∧ ∀ b, (VK i).ownBlock = some b → T b = some (.krow i)

/-- The block g keeps k. -/
structure PS (T : Nat → Option PTag) (w : World) (g n : Nat) (k : KeptB) : Prop where
 ex : ∃ bw bk VW VK, PParts T w g n k bw bk VW VK
 lo : ∀ b, T b ≠ none → b < w.heap.size
 lenW : k.W.length = n
 lenK : k.K.length = n

section
variable {T : Nat → Option PTag} {w w' : World} {g n : Nat} {k : KeptB} {bw bk : Nat} {VW VK : Nat → Value}
theorem PParts.keep {S : Nat → Prop} (h : PParts T w g n k bw bk VW VK) (hc : Chg S w w') (hs : ∀ b, T b ≠ none → ¬ S b) : PParts T w' g n k bw bk VW VK :=
 ⟨blk_keep h.blk hc (hs g (by rw [h.tg]; simp)), h.tg, h.t1, h.t2, h.rw_.keep hc (hs bw (by rw [h.t1]; simp)), h.rk_.keep hc (hs bk (by rw [h.t2]; simp)),
  fun i hi => ⟨(h.isW i hi).1.keep hc (fun b hb => hs b (by rw [(h.isW i hi).2 b hb]; simp)), (h.isW i hi).2⟩, fun i hi => ⟨(h.isK i hi).1.keep hc (fun b hb => hs b (by rw [(h.isK i hi).2 b hb]; simp)), (h.isK i hi).2⟩⟩
theorem PS.keep {S : Nat → Prop} (h : PS T w g n k) (hc : Chg S w w') (hs : ∀ b, T b ≠ none → ¬ S b) : PS T w' g n k := by
 obtain ⟨⟨bw, bk, VW, VK, hp⟩, h2, h3, h4⟩ := h
 exact ⟨⟨bw, bk, VW, VK, hp.keep hc hs⟩, fun b hb => Nat.lt_of_lt_of_le (h2 b hb) hc.size, h3, h4⟩
theorem PS.quiet (h : PS T w g n k) (hc : Chg (fun _ => False) w w') : PS T w' g n k := h.keep hc (fun _ _ => id)
end

/-- T' has what T has, and blocks that are new since w, or among N. -/
structure ExtP (N : Nat → Prop) (T T' : Nat → Option PTag) (w w' : World) : Prop where
 old : ∀ b, T b ≠ none → T' b = T b
 new : ∀ b, T' b ≠ none → T b ≠ none ∨ N b ∨ w.heap.size ≤ b
 lo : ∀ b, T' b ≠ none → b < w'.heap.size
theorem ExtP.refl {N : Nat → Prop} {T : Nat → Option PTag} {w w' : World} (h : ∀ b, T b ≠ none → b < w.heap.size) (hs : w.heap.size ≤ w'.heap.size) : ExtP N T T w w' := ⟨fun _ _ => rfl, fun _ h => .inl h, fun b hb => Nat.lt_of_lt_of_le (h b hb) hs⟩
theorem ExtP.trans {N N2 : Nat → Prop} {T T1 T2 : Nat → Option PTag} {w w1 w2 : World} (h : ExtP N T T1 w w1) (k : ExtP N2 T1 T2 w1 w2) (hs : w.heap.size ≤ w1.heap.size) (hn : ∀ b, N2 b → N b ∨ w.heap.size ≤ b) : ExtP N T T2 w w2 :=
 ⟨fun b hb => (k.old b (by rw [h.old b hb]; exact hb)).trans (h.old b hb), fun b hb => (k.new b hb).elim (fun e => h.new b e) (fun e => e.elim (fun e => .inr (hn b e)) (fun e => .inr (.inr (Nat.le_trans hs e)))), k.lo⟩
theorem ExtP.down {N : Nat → Prop} {T T' : Nat → Option PTag} {w0 w w' : World} (h : ExtP N T T' w w') (hs : w0.heap.size ≤ w.heap.size) : ExtP N T T' w0 w' := ⟨h.old, fun b hb => (h.new b hb).imp id (Or.imp id (Nat.le_trans hs)), h.lo⟩
theorem ExtP.up {N : Nat → Prop} {T T' : Nat → Option PTag} {w w' w2 : World} (h : ExtP N T T' w w') (hs : w'.heap.size ≤ w2.heap.size) : ExtP N T T' w w2 := ⟨h.old, h.new, fun b hb => Nat.lt_of_lt_of_le (h.lo b hb) hs⟩
def putP (T : Nat → Option PTag) (b : Nat) (t : PTag) : Nat → Option PTag := fun i => if i = b then some t else T i
/-- A row that has come to lie in its block, or in one that was not in the table. -/
theorem ext_rowP {N : Nat → Prop} {T : Nat → Option PTag} {w w' : World} (hlo : ∀ b, T b ≠ none → b < w.heap.size) (hs : w.heap.size ≤ w'.heap.size) {v v' : Value} {t : PTag} (hv : ∀ b, v.ownBlock = some b → T b = some t) (h : v'.ownBlock = v.ownBlock ∨ ∃ b, v'.ownBlock = some b ∧ T b = none ∧ (N b ∨ w.heap.size ≤ b)) (hlt : ∀ b, v'.ownBlock = some b → b < w'.heap.size) :
  ∃ T', ExtP N T T' w w' ∧ (∀ b, v'.ownBlock = some b → T' b = some t) := by
 rcases h with h | ⟨b, hb, hTb, hle⟩
 ·exact ⟨T, ExtP.refl hlo hs, fun b hb => hv b (by rw [← h]; exact hb)⟩
 ·refine ⟨putP T b t, ⟨fun i hi => if_neg (fun e => by subst e; exact hi hTb), fun i hi => ?_, fun i hi => ?_⟩, fun i hi => ?_⟩
  ·by_cases e : i = b
   ·subst e; exact .inr hle
   ·unfold putP at hi; rw [if_neg e] at hi; exact .inl hi
  ·by_cases e : i = b
   ·subst e; exact hlt i hb
   ·unfold putP at hi; rw [if_neg e] at hi; exact Nat.lt_of_lt_of_le (hlo i hi) hs
  ·rw [hb] at hi
   cases hi
   exact if_pos rfl
theorem ext_rowP_nil {N : Nat → Prop} {T : Nat → Option PTag} {w w' : World} (hlo : ∀ b, T b ≠ none → b < w.heap.size) (hs : w.heap.size ≤ w'.heap.size) {v' : Value} {t : PTag} (h : v'.ownBlock = none ∨ ∃ b, v'.ownBlock = some b ∧ T b = none ∧ (N b ∨ w.heap.size ≤ b)) (hlt : ∀ b, v'.ownBlock = some b → b < w'.heap.size) :
  ∃ T', ExtP N T T' w w' ∧ (∀ b, v'.ownBlock = some b → T' b = some t) := ext_rowP (v := .slice none 0 0) hlo hs (fun b hb => by cases hb) h hlt

/-- The blocks of takers. -/
def KB (T : Nat → Option PTag) (b : Nat) : Prop := T b = some .takers ∨ ∃ p, T b = some (.krow p)
theorem KB.some {T : Nat → Option PTag} {b : Nat} (h : KB T b) : T b ≠ none := by
 rcases h with h | ⟨p, h⟩ <;> rw [h] <;> simp

section
variable {T : Nat → Option PTag} {w w1 : World} {g n : Nat} {k : KeptB} {bw bk : Nat} {VW VK : Nat → Value}

/-- A place's ways are stored. -/
theorem PParts.setW (h : PParts T w g n k bw bk VW VK) (hlo : ∀ b, T b ≠ none → b < w.heap.size) (hl : k.W.length = n) {N : Nat → Prop} {i : Nat} (hi : i < n) {v : Value} {ws : List WayB} {w' : World} (hc : Chg (fun b => (VW i).ownBlock = some b) w w') (hv : OwnWy 0 w' v ws) (hvb : v.ownBlock = (VW i).ownBlock ∨ v.ownBlock = none ∨ ∃ b, v.ownBlock = some b ∧ T b = none ∧ (N b ∨ w.heap.size ≤ b)) :
  ∃ T', (∃ VW', VW' i = v ∧ PParts T' (w'.setCell ⟨bw, i, none⟩ v) g n ⟨k.W.set i ws, k.K⟩ bw bk VW' VK) ∧ ExtP N T T' w (w'.setCell ⟨bw, i, none⟩ v) ∧ Chg (fun b => T b ≠ none) w (w'.setCell ⟨bw, i, none⟩ v) := by
 have cs : Chg (· = bw) w' (w'.setCell ⟨bw, i, none⟩ v) := (Chg.refl (· = bw) w').setCell (p := ⟨bw, i, none⟩) (fun _ => rfl) _
 have hbwT : T bw ≠ none := by rw [h.t1]; simp
 have hall : Chg (fun b => T b ≠ none) w (w'.setCell ⟨bw, i, none⟩ v) := (hc.mono (fun b _ hb => by rw [(h.isW i hi).2 b hb]; simp)).trans (cs.mono (fun b _ hb => by rw [hb]; exact hbwT)) (fun _ _ h => h)
 have hlt : ∀ b, v.ownBlock = some b → b < w'.heap.size := fun b hb => (hv.blt hb).2
 obtain ⟨T', t1, t2⟩ : ∃ T', ExtP N T T' w w' ∧ (∀ b, v.ownBlock = some b → T' b = some (.wrow i)) := by
  rcases hvb with hvb | hvb | hvb
  ·exact ext_rowP hlo hc.size (h.isW i hi).2 (.inl hvb) hlt
  ·exact ext_rowP_nil hlo hc.size (.inl hvb) hlt
  ·exact ext_rowP_nil hlo hc.size (.inr hvb) hlt
 have told : ∀ {b : Nat} {t : PTag}, T b = some t → T' b = some t := fun hb => by rw [t1.old _ (by rw [hb]; simp), hb]
 have ne : ∀ {b : Nat} {t : PTag}, T b = some t → t ≠ .wrow i → ¬ (VW i).ownBlock = some b := fun hb ht e => by rw [(h.isW i hi).2 _ e] at hb; cases hb; exact ht rfl
 have nb : ∀ {b : Nat} {t : PTag}, T b = some t → t ≠ .ways → b ≠ bw := fun hb ht e => by rw [e, h.t1] at hb; cases hb; exact ht rfl
 have hvb2 : ∀ b, v.ownBlock = some b → b ≠ bw := fun b hb e => by have := t2 b hb; rw [e, told h.t1] at this; cases this
 refine ⟨T', ⟨updV VW i v, if_pos rfl, blk_keep (blk_keep h.blk hc (ne h.tg (by simp))) cs (nb h.tg (by simp)), told h.tg, told h.t1, told h.t2, (h.rw_.keep hc (ne h.t1 (by simp))).set i v, (h.rk_.keep hc (ne h.t2 (by simp))).keep cs (nb h.t2 (by simp)), fun j hj => ?_, fun j hj => ?_⟩, t1.up cs.size, hall⟩
 ·unfold updV
  rw [List.getD_eq_getElem?_getD, List.getElem?_set]
  by_cases e : j = i
  ·subst e
   rw [if_pos rfl, if_pos rfl, if_pos (by rw [hl]; exact hj)]
   exact ⟨hv.keep cs (fun b hb e => hvb2 b hb e), t2⟩
  ·rw [if_neg e, if_neg (fun x => e x.symm), ← List.getD_eq_getElem?_getD]
   obtain ⟨q1, q2⟩ := h.isW j hj
   exact ⟨(q1.keep hc (fun b hb => ne (q2 b hb) (by simpa using e))).keep cs (fun b hb => nb (q2 b hb) (by simp)), fun b hb => told (q2 b hb)⟩
 ·obtain ⟨q1, q2⟩ := h.isK j hj
  exact ⟨(q1.keep hc (fun b hb => ne (q2 b hb) (by simp))).keep cs (fun b hb => nb (q2 b hb) (by simp)), fun b hb => told (q2 b hb)⟩

/-- A place's takers are stored. -/
theorem PParts.setK (h : PParts T w g n k bw bk VW VK) (hlo : ∀ b, T b ≠ none → b < w.heap.size) (hl : k.K.length = n) {N : Nat → Prop} {i : Nat} (hi : i < n) {v : Value} {ps : List Nat} {w' : World} (hc : Chg (fun b => (VK i).ownBlock = some b) w w') (hv : OwnI 0 w' v ps) (hvb : v.ownBlock = (VK i).ownBlock ∨ ∃ b, v.ownBlock = some b ∧ w.heap.size ≤ b) :
  ∃ T', (∃ VK', PParts T' (w'.setCell ⟨bk, i, none⟩ v) g n ⟨k.W, k.K.set i ps⟩ bw bk VW VK') ∧ ExtP N T T' w (w'.setCell ⟨bk, i, none⟩ v) ∧ Chg (KB T) w (w'.setCell ⟨bk, i, none⟩ v) := by
 have cs : Chg (· = bk) w' (w'.setCell ⟨bk, i, none⟩ v) := (Chg.refl (· = bk) w').setCell (p := ⟨bk, i, none⟩) (fun _ => rfl) _
 have hall : Chg (KB T) w (w'.setCell ⟨bk, i, none⟩ v) := (hc.mono (fun b _ hb => .inr ⟨i, (h.isK i hi).2 b hb⟩)).trans (cs.mono (fun b _ hb => .inl (hb ▸ h.t2))) (fun _ _ h => h)
 have hlt : ∀ b, v.ownBlock = some b → b < w'.heap.size := fun b hb => (hv.blt hb).2
 obtain ⟨T', t1, t2⟩ : ∃ T', ExtP N T T' w w' ∧ (∀ b, v.ownBlock = some b → T' b = some (.krow i)) := by
  refine ext_rowP hlo hc.size (h.isK i hi).2 (hvb.imp id (fun ⟨b, hb, hle⟩ => ⟨b, hb, ?_, .inr hle⟩)) hlt
  cases e : T b with
  | none => rfl
  | some x => have := hlo b (by rw [e]; simp); omega
 have told : ∀ {b : Nat} {t : PTag}, T b = some t → T' b = some t := fun hb => by rw [t1.old _ (by rw [hb]; simp), hb]
 have ne : ∀ {b : Nat} {t : PTag}, T b = some t → t ≠ .krow i → ¬ (VK i).ownBlock = some b := fun hb ht e => by rw [(h.isK i hi).2 _ e] at hb; cases hb; exact ht rfl
 have nb : ∀ {b : Nat} {t : PTag}, T b = some t → t ≠ .takers → b ≠ bk := fun hb ht e => by rw [e, h.t2] at hb; cases hb; exact ht rfl
 have hvb2 : ∀ b, v.ownBlock = some b → b ≠ bk := fun b hb e => by have := t2 b hb; rw [e, told h.t2] at this; cases this
 refine ⟨T', ⟨updV VK i v, blk_keep (blk_keep h.blk hc (ne h.tg (by simp))) cs (nb h.tg (by simp)), told h.tg, told h.t1, told h.t2, (h.rw_.keep hc (ne h.t1 (by simp))).keep cs (nb h.t1 (by simp)), (h.rk_.keep hc (ne h.t2 (by simp))).set i v, fun j hj => ?_, fun j hj => ?_⟩, t1.up cs.size, hall⟩
 ·obtain ⟨q1, q2⟩ := h.isW j hj
  exact ⟨(q1.keep hc (fun b hb => ne (q2 b hb) (by simp))).keep cs (fun b hb => nb (q2 b hb) (by simp)), fun b hb => told (q2 b hb)⟩
 ·unfold updV
  rw [List.getD_eq_getElem?_getD, List.getElem?_set]
  by_cases e : j = i
  ·subst e
   rw [if_pos rfl, if_pos rfl, if_pos (by rw [hl]; exact hj)]
   exact ⟨hv.keep cs (fun b hb e => hvb2 b hb e), t2⟩
  ·rw [if_neg e, if_neg (fun x => e x.symm), ← List.getD_eq_getElem?_getD]
   obtain ⟨q1, q2⟩ := h.isK j hj
   exact ⟨(q1.keep hc (fun b hb => ne (q2 b hb) (by simpa using e))).keep cs (fun b hb => nb (q2 b hb) (by simp)), fun b hb => told (q2 b hb)⟩
end

/-- What a call of its methods leaves. -/
structure Kep (N : Nat → Prop) (T : Nat → Option PTag) (w : World) (g n : Nat) (T' : Nat → Option PTag) (w' : World) (k' : KeptB) : Prop where
 ps : PS T' w' g n k'
 ext : ExtP N T T' w w'
 chg : Chg (fun b => T b ≠ none) w w'
theorem Kep.early {N : Nat → Prop} {T T1 : Nat → Option PTag} {w w1 w2 : World} {g n : Nat} {k1 : KeptB} (h : Kep N T w1 g n T1 w2 k1) (hc : Chg (fun _ => False) w w1) : Kep N T w g n T1 w2 k1 := ⟨h.ps, h.ext.down hc.size, hc.none9.trans h.chg (fun _ _ h => h)⟩
end Go.Proofs.Ytjaplnainlbldaa
