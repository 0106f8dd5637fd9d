/- The walk of the law TagTells. -/
import Derived.Test.YtjipfbggoeiakaaTagFirst
import Derived.Test.YtjipfbggoeiakaaTagUnlike
import Derived.Maps.AppendAt
import Derived.StillTailTactics
namespace Go.Proofs.Ytjipfbggoeiakaa
open Go.RowKit

theorem Try.info5 : (Try.prog.info? 5).map (fun i => (i.zero, i.size, i.bytes)) = some (some (.int .u8 0), 1, 1) := by kernel_rfl

set_option maxRecDepth 100000 in
set_option maxHeartbeats 1000000 in
theorem tells_main {D : Nat → Prop} (a1 a2 : Option Addr) (c1 c2 : Nat) (key b : List UInt8) (n0 n1 n2 : Nat) (w : World) (hb : b.length ≤ 2000) (h1 : 1 ≤ key.length) (h2 : key.length ≤ 32) (_ : n0 < 256) (_ : n1 < 256) (b2 : n2 < 256)
    (k1 : BytesAt D w (.slice a1 key.length c1) key) (k2 : BytesAt D w (.slice a2 b.length c2) b) :
    Calls Try.prog 8 #[.slice a1 key.length c1, .slice a2 b.length c2, .agg #[.int .u8 n0, .int .u8 n1, .int .u8 n2]] w fun e w' => e = .returned (.bool true) ∧ Chg (fun _ => False) w w' := by
  have d1 : decide ((key.length : Int) < 1) = false := by simp; omega
  have d2 : decide (32 < (key.length : Int)) = false := by simp; omega
  have d3 : decide (2000 < (b.length : Int)) = false := by simp; omega
  have hx0 := heap_alloc_new w (.cells #[.int .u8 n0, .int .u8 n1, .int .u8 n2] 58)
  have hc0 := (Chg.refl (fun _ => False) w).alloc (.cells #[.int .u8 n0, .int .u8 n1, .int .u8 n2] 58)
  go_enter Try.func8, Try.ntmps8
  go_wp2_with fail
  generalize w.alloc (.cells #[.int .u8 n0, .int .u8 n1, .int .u8 n2] 58) = w0 at *
  generalize w.heap.size = X at *
  refine (first_any _).mono ?_
  rintro e w1 ⟨rfl, hc⟩
  have hx1 := blk_keep hx0 hc id
  have hc1 := hc0.trans hc (fun _ _ h => h)
  clear hx0 hc0 hc
  go_wp2_with fail
  refine (make_yes _ _ _ _ key b _ h1 h2 (by omega) (k1.keep hc1 (fun _ _ => id)) (k2.keep hc1 (fun _ _ => id))).mono ?_
  rintro e w2 ⟨T, rfl, _, ht, hc⟩
  have hx2 := blk_keep hx1 hc id
  have hc2 := hc1.trans hc (fun _ _ h => h)
  clear hx1 hc1 hc
  have kt2 := tagCells_bytes _ ht
  clear ht
  have hlt := tagOf_length key b
  rw [show bytes8 (tagSum key b) = tagOf key b from rfl] at kt2
  have HT : Hid (∀ t, tagOf key b ≠ t → (tagOf key b == t) = false) := fun t h => by simpa using h
  have HL := hid hlt
  go_wp2_with fail
  refine (good_at _ _ _ _ _ 8 _ _ 8 key b (tagOf key b) _ h1 h2 (by omega) rfl rfl hlt (k1.keep hc2 (fun _ _ => id)) (k2.keep hc2 (fun _ _ => id)) kt2).mono ?_
  rintro e w3 ⟨rfl, hc⟩
  rw [beq_self_eq_true]
  have hx3 := blk_keep hx2 hc id
  have hc3 := hc2.trans hc (fun _ _ h => h)
  have kt3 := kt2.keep hc (fun _ _ => id)
  clear hx2 hc2 hc kt2
  have hlt' : 0 < (tagOf key b).length := by omega
  obtain ⟨tb, toff, hte, htb, htD, htc⟩ := kt3.addr hlt'
  cases hte
  obtain ⟨i0, hi, hz0, hz1, hz2⟩ := info_parts Try.info5
  go_wp2_with (at_builtin; refine wpList_append_own_at _ rfl (.tmp 38) (.tmp 39) 25 rfl w3.heap.size 5 i0 (.int .u8 0) 1 1 Try.underlying25 hi hz0 hz1 hz2 rfl (by decide) _ 0 [] rfl (World.ownsRow_made w3 #[] 0 (Nat.le_refl _) (by decide) rfl) ⟨T, 0, none⟩ 8 8 ((tagOf key b).map cb) rfl ?c0 ?c1 ?c2 ?c3 ?c4 ?c5 ?_)
  case c0 => rw [List.length_map]; exact hlt
  case c1 =>
    intro j u hj
    obtain ⟨hj1, rfl⟩ := cb_getElem? _ j u hj
    rw [add_off, World.cell?_alloc_past _ _ _ htb]
    exact htc j hj1
  case c2 => exact cb_one _
  case c3 => decide
  case c4 => decide
  case c5 => simp
  intro v' w4 hown hgrow _ hat
  have hown2 : w4.ownsRow w3.heap.size 5 1 v' (tagOf key b).length ((tagOf key b).map cb) := by rw [hlt]; simpa using hown
  have hc : Chg (fun _ => False) w3 w4 := ((Chg.refl _ w3).alloc _).grown hgrow (fun k e hk => by simp [Value.ownBlock] at e; omega)
  clear hown hgrow hat
  obtain ⟨g, cap, rfl, hg, hrow⟩ := row_of_owns hown2 hlt'
  clear hown2 htc
  rw [hlt]
  have hx4 := blk_keep hx3 hc id
  have hc4 := hc3.trans hc (fun _ _ h => h)
  have kt4 := kt3.keep hc (fun _ _ => id)
  have hwg : w.heap.size ≤ g := Nat.le_trans hc3.size hg
  have hXl := lt_blk hx3
  have HI := hid (And.intro hi (And.intro hz0 (And.intro hz1 hz2)))
  clear hc3 hc kt3 hx3 hi hz0 hz1 hz2
  go_wp2_with fail
  obtain ⟨i8, hi8e⟩ : ∃ i, i = n0 % 8 := ⟨_, rfl⟩
  obtain ⟨m, hme⟩ : ∃ i, i = n1 % 255 := ⟨_, rfl⟩
  obtain ⟨d, hde⟩ : ∃ i, i = 1 + m := ⟨_, rfl⟩
  have t8 : (n0 : Int).tmod 8 = (i8 : Int) := by rw [hi8e]; rfl
  have t255 : (n1 : Int).tmod 255 = (m : Int) := by rw [hme]; rfl
  have hi8l : i8 < 8 := by omega
  have hd0 : 0 < d := by omega
  have hd1 : d < 256 := by omega
  have wr : IntKind.u8.wrap (1 + (m : Int)) = (d : Int) := by rw [IntWalk.u8_in _ (by omega)]; omega
  have HM := hid (And.intro t255 wr)
  clear hi8e hme hde
  have hi8 : i8 < (tagOf key b).length := by omega
  have q0 := cell_blk hx4 0
  have q1 := cell_blk hx4 1
  simp only [List.getElem?_toArray, List.getElem?_cons_zero, List.getElem?_cons_succ] at q0 q1
  have q2 := hrow.cell i8 hi8
  have q3 := hrow.frozen i8
  have e1 : (i8 : Int) < 8 := by omega
  have e0 : 0 ≤ (i8 : Int) := by omega
  have q0' : ({ heap := w4.heap, tape := w4.tape, drawn := w4.drawn + 1, os := w4.os, output := w4.output } : World).cell? ⟨X, 0, none⟩ = some (.int .u8 n0) := q0
  have q1' : ({ heap := w4.heap, tape := w4.tape, drawn := w4.drawn + 1, os := w4.os, output := w4.output } : World).cell? ⟨X, 1, none⟩ = some (.int .u8 n1) := q1
  have q2' : ({ heap := w4.heap, tape := w4.tape, drawn := w4.drawn + 1, os := w4.os, output := w4.output } : World).cell? ⟨g, i8, none⟩ = some (.int .u8 ((tagOf key b)[i8].toNat : Int)) := q2
  obtain ⟨y, hy, hxor⟩ := xor_byte (tagOf key b)[i8] d hd0 hd1
  have hrow5 : RowAt 5 (w4.setCell ⟨g, i8, none⟩ (.int .u8 (y.toNat : Int))).drew g cap ((tagOf key b).set i8 y) := hrow.set i8 y
  have hcg : Chg (· = g) w4 (w4.setCell ⟨g, i8, none⟩ (.int .u8 (y.toNat : Int))).drew := (setCell_chg w4 g i8 _).drew
  have hc5 : Chg (fun _ => False) w (w4.setCell ⟨g, i8, none⟩ (.int .u8 (y.toNat : Int))).drew := hc4.trans hcg (fun i hi e => by omega)
  have hx5 := blk_keep hx4 hcg (by omega)
  have kt5 := kt4.keep hcg (fun i h => by omega)
  have HR := hid (And.intro hrow5 (And.intro hc5 (And.intro hx5 kt5)))
  clear hrow5 hcg hc5 hx5 kt5
  go_still_tail 12, (by kernel_rfl)
  change wpList _ _ _ _ _ w4.drew
  clear q0' q1' q2' t8 t255 wr
  go_wp2_with fail
  obtain ⟨hrow5, hc5, hx5, kt5⟩ := HR.out
  clear HR hc4 hx4 kt4 hrow q0 q1 q2 q3 hxor e0 e1
  generalize (w4.setCell ⟨g, i8, none⟩ (.int .u8 (y.toNat : Int))).drew = w5 at *
  have hne := HT.out _ (list_unlike (tagOf key b) i8 hi8 y hy)
  have hl5 : ((tagOf key b).set i8 y).length = 8 := by simpa using hlt
  have hb5 := hrow5.bytes
  rw [hl5] at hb5
  refine (good_at _ _ _ _ _ cap _ _ 8 key b ((tagOf key b).set i8 y) _ h1 h2 (by omega) rfl rfl hl5 (k1.keep hc5 (fun _ _ => id)) (k2.keep hc5 (fun _ _ => id)) hb5).mono ?_
  rintro e w6 ⟨rfl, hc⟩
  rw [hne]
  have hx6 := blk_keep hx5 hc id
  have hc6 := hc5.trans hc (fun _ _ h => h)
  have kt6 := kt5.keep hc (fun _ _ => id)
  clear hx5 hc5 hc kt5 hrow5 hb5 hl5 hne hy
  by_cases hb0 : b.length = 0
  · go_wp2
    go_ret
    exact ⟨rfl, hc6⟩
  · have hbp : 0 < b.length := by omega
    have kb6 := k2.keep hc6 (fun _ _ => id)
    obtain ⟨bb, boff, rfl, hbb, _, hbc⟩ := kb6.addr hbp
    obtain ⟨hi, hz0, hz1, hz2⟩ := HI.out
    clear HI hg htb hXl
    go_wp2_with (at_builtin; refine wpList_append_own_at _ rfl (.tmp 60) (.tmp 61) 25 rfl w6.heap.size 5 i0 (.int .u8 0) 1 1 Try.underlying25 hi hz0 hz1 hz2 rfl (by decide) _ 0 [] rfl (World.ownsRow_made w6 #[] 0 (Nat.le_refl _) (by decide) rfl) ⟨bb, boff, none⟩ b.length c2 (b.map cb) rfl ?d0 ?d1 ?d2 ?d3 ?d4 ?d5 ?_)
    case d0 => simp
    case d1 =>
      intro j u hj
      obtain ⟨hj1, rfl⟩ := cb_getElem? _ j u hj
      rw [add_off, World.cell?_alloc_past _ _ _ hbb]
      exact hbc j hj1
    case d2 => exact cb_one _
    case d3 => unfold maxLen; omega
    case d4 => omega
    case d5 => simp
    intro v' w7 hown hgrow _ hat
    have hown2 : w7.ownsRow w6.heap.size 5 1 v' b.length (b.map cb) := by simpa using hown
    have hc : Chg (fun _ => False) w6 w7 := ((Chg.refl _ w6).alloc _).grown hgrow (fun k e hk => by simp [Value.ownBlock] at e; omega)
    clear hown hgrow hat
    obtain ⟨g2, cap2, rfl, hg2, hrow⟩ := row_of_owns hown2 hbp
    clear hown2 hbc hi hz0 hz1 hz2 kb6
    have hX6 := lt_blk hx6
    have hT6 : T < w6.heap.size := by
      obtain ⟨tb, toff, hte, htb, _, _⟩ := kt6.addr hlt'
      cases hte
      exact htb
    have hw6 := hc6.size
    have hx7 := blk_keep hx6 hc id
    have hc7 := hc6.trans hc (fun _ _ h => h)
    have kt7 := kt6.keep hc (fun _ _ => id)
    clear hx6 hc6 hc kt6
    go_wp2_with fail
    obtain ⟨j, hje⟩ : ∃ i, i = n2 % b.length := ⟨_, rfl⟩
    have tj : (n2 : Int).tmod (b.length : Int) = (j : Int) := by rw [hje]; rfl
    have hjl : j < b.length := by rw [hje]; exact Nat.mod_lt _ hbp
    clear hje
    have w2' : IntKind.i64.wrap (n2 : Int) = (n2 : Int) := IntWalk.i64_in _ (by omega)
    obtain ⟨t255, wr⟩ := HM.out
    have q0 := cell_blk hx7 2
    have q1 := cell_blk hx7 1
    simp only [List.getElem?_toArray, List.getElem?_cons_zero, List.getElem?_cons_succ] at q0 q1
    have q2 := hrow.cell j hjl
    have q3 := hrow.frozen j
    have e1 : (j : Int) < (b.length : Int) := by omega
    have e0 : 0 ≤ (j : Int) := by omega
    have q0' : ({ heap := w7.heap, tape := w7.tape, drawn := w7.drawn + 1, os := w7.os, output := w7.output } : World).cell? ⟨X, 2, none⟩ = some (.int .u8 n2) := q0
    have q1' : ({ heap := w7.heap, tape := w7.tape, drawn := w7.drawn + 1, os := w7.os, output := w7.output } : World).cell? ⟨X, 1, none⟩ = some (.int .u8 n1) := q1
    have q2' : ({ heap := w7.heap, tape := w7.tape, drawn := w7.drawn + 1, os := w7.os, output := w7.output } : World).cell? ⟨g2, j, none⟩ = some (.int .u8 (b[j].toNat : Int)) := q2
    obtain ⟨z, hz, hxor⟩ := xor_byte b[j] d hd0 hd1
    have hrow5 : RowAt 5 (w7.setCell ⟨g2, j, none⟩ (.int .u8 (z.toNat : Int))).drew g2 cap2 (b.set j z) := hrow.set j z
    have hcg : Chg (· = g2) w7 (w7.setCell ⟨g2, j, none⟩ (.int .u8 (z.toNat : Int))).drew := (setCell_chg w7 g2 j _).drew
    have hc5 : Chg (fun _ => False) w (w7.setCell ⟨g2, j, none⟩ (.int .u8 (z.toNat : Int))).drew := hc7.trans hcg (fun i hi e => by omega)
    have kt5 := kt7.keep hcg (fun i h => by omega)
    have HR := hid (And.intro hrow5 (And.intro hc5 kt5))
    clear hrow5 hcg hc5 kt5
    go_still_tail 15, (by kernel_rfl)
    change wpList _ _ _ _ _ w7.drew
    clear q0' q1' q2' tj t255 wr w2'
    go_wp2_with fail
    obtain ⟨hrow5, hc5, kt5⟩ := HR.out
    clear HR hc7 hx7 kt7 hrow q0 q1 q2 q3 hxor e0 e1
    generalize (w7.setCell ⟨g2, j, none⟩ (.int .u8 (z.toNat : Int))).drew = w8 at *
    have hne : (tagOf key (b.set j z) == tagOf key b) = false := by simpa using tag_unlike key b j hjl z hz
    have hl5 : (b.set j z).length = b.length := by simp
    have hb5 := hrow5.bytes
    rw [hl5] at hb5
    refine (good_at _ _ _ _ cap2 8 _ _ 8 key (b.set j z) (tagOf key b) _ h1 h2 (by rw [hl5]; omega) rfl hl5 hlt (k1.keep hc5 (fun _ _ => id)) hb5 kt5).mono ?_
    rintro e w9 ⟨rfl, hc⟩
    rw [hne]
    have hc6 := hc5.trans hc (fun _ _ h => h)
    clear hc5 hc kt5 hrow5 hb5 hl5 hne hz
    go_wp2_with fail
    go_ret
    exact ⟨rfl, hc6⟩
end Go.Proofs.Ytjipfbggoeiakaa
