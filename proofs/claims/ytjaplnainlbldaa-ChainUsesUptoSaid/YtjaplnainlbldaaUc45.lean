/- Used: the program's, and the document's. -/
import Derived.Test.YtjaplnainlbldaaUc42
import Derived.Test.YtjaplnainlbldaaUc44
namespace Go.Proofs.Ytjaplnainlbldaa
open Go.RowKit

/-- The set of what steps use. -/
def UsedPost (ls : List StepB) (w : World) (e : Ending) (w' : World) : Prop :=
  ∃ out ao cap, e = .returned (.slice ao out.length cap) ∧ SetC (ls.map (·.c)) out ∧ CredsAt (fun k => w.heap.size ≤ k ∧ k < w'.heap.size) w' ao out ∧ Chg (fun _ => False) w w' ∧ (ao = none → cap = 0)

set_option maxRecDepth 100000 in
set_option maxHeartbeats 2000000 in
theorem ch_used {D : Nat → Prop} (ao : Option Addr) (cp : Nat) (ls : List StepB) (w : World) (hn : ls.length ≤ 1048576) (h : StepsAt D w ao ls) :
    Calls Try.prog 18 #[.slice ao ls.length cp] w (UsedPost ls w) := by
  obtain ⟨i0, hi, hz0, hz1, hz2⟩ := info_parts Try.info36
  have HI := hid (And.intro hi (And.intro hz0 (And.intro hz1 hz2)))
  have HX := hid h
  have HSH := hid (steps_short h)
  clear hi hz0 hz1 hz2 h
  go_enter Try.func18, Try.ntmps18
  go_wp2
  go_loopw [3, 8] (fun v i wr => ∃ (k : Nat) (out : List CredB) (ao' : Option Addr) (cap' : Nat), k ≤ ls.length ∧ i = .int .i64 k ∧ v = .slice ao' out.length cap' ∧ Hid (out = (ls.take k).map (·.c)) ∧ out.length ≤ k ∧ OwnC w.heap.size wr (.slice ao' out.length cap') out ∧ Chg (fun _ => False) w wr) (fun _ i _ => ls.length - (intOf i).toNat)
  case atStart => exact ⟨0, [], none, 0, Nat.zero_le _, rfl, rfl, hid rfl, Nat.zero_le _, World.ownsRow_nil _ _ _ _, Chg.refl _ _⟩
  case round =>
    obtain ⟨k, out, ao', cap', hk, rfl, rfl, hout, hol, ho, hc1⟩ := hrel
    by_cases hlt : k < ls.length
    · obtain ⟨b, off, hao, hD, ⟨⟨a0, a1, a2, a3, a4, a5, a6, a7, a8⟩, ⟨b0, b1, b2⟩⟩, hss⟩ := (HX.out.keep hc1 (fun _ _ => id)) k hlt
      have HT : Hid (out ++ [ls[k].c] = (ls.take (k + 1)).map (·.c)) := hid (by rw [List.take_succ_eq_append_getElem hlt, List.map_append, hout.out]; rfl)
      have HKL := hid hlt
      generalize ls[k] = s at *
      change wr.cell? ⟨b, off + k * 12 + 10, none⟩ = _ at b1
      change wr.cell? ⟨b, off + k * 12 + 11, none⟩ = _ at b2
      have hSb : (wr.alloc (.cells #[.int .i64 s.c.kind, .string ⟨s.c.head.1.toArray⟩, .string ⟨s.c.head.2.toArray⟩, .string ⟨s.c.who.toArray⟩, .string ⟨s.c.b.1.toArray⟩, .string ⟨s.c.b.2.toArray⟩, .string ⟨s.c.c.1.toArray⟩, .string ⟨s.c.c.2.toArray⟩, .string ⟨s.c.w2.toArray⟩, .string ⟨s.f.1.1.toArray⟩, .string ⟨s.f.1.2.toArray⟩, .string ⟨s.f.2.toArray⟩] 43)).heap[wr.heap.size]? = some (.cells (stepBox s) 43 (0, 0)) := heap_alloc_new wr _
      have hcA : Chg (fun _ => False) wr (wr.alloc (.cells #[.int .i64 s.c.kind, .string ⟨s.c.head.1.toArray⟩, .string ⟨s.c.head.2.toArray⟩, .string ⟨s.c.who.toArray⟩, .string ⟨s.c.b.1.toArray⟩, .string ⟨s.c.b.2.toArray⟩, .string ⟨s.c.c.1.toArray⟩, .string ⟨s.c.c.2.toArray⟩, .string ⟨s.c.w2.toArray⟩, .string ⟨s.f.1.1.toArray⟩, .string ⟨s.f.1.2.toArray⟩, .string ⟨s.f.2.toArray⟩] 43)) := (Chg.refl _ wr).alloc _
      obtain ⟨r0, r1, r2, r3, r4, r5, r6, r7, r8⟩ := (step_at_blk hSb).c
      simp only [Nat.zero_add] at r0 r1 r2 r3 r4 r5 r6 r7 r8
      have HO := hid (And.intro (World.ownsRow.alloc ho (.cells #[.int .i64 s.c.kind, .string ⟨s.c.head.1.toArray⟩, .string ⟨s.c.head.2.toArray⟩, .string ⟨s.c.who.toArray⟩, .string ⟨s.c.b.1.toArray⟩, .string ⟨s.c.b.2.toArray⟩, .string ⟨s.c.c.1.toArray⟩, .string ⟨s.c.c.2.toArray⟩, .string ⟨s.c.w2.toArray⟩, .string ⟨s.f.1.1.toArray⟩, .string ⟨s.f.1.2.toArray⟩, .string ⟨s.f.2.toArray⟩] 43)) (And.intro (hc1.trans hcA (fun _ _ h => h)) hc1.size))
      subst hao
      clear hSb hcA ho hc1 hout hss hD
      go_wp2_with (at_builtin; refine wpList_append_own_at _ rfl (.tmp 12) (.tmp 15) 22 rfl w.heap.size 36 i0 (.agg #[.int .i64 0, .string ⟨#[]⟩, .string ⟨#[]⟩, .string ⟨#[]⟩, .string ⟨#[]⟩, .string ⟨#[]⟩, .string ⟨#[]⟩, .string ⟨#[]⟩, .string ⟨#[]⟩]) 9 136 Try.underlying22 HI.out.1 HI.out.2.1 HI.out.2.2.1 HI.out.2.2.2 rfl (by decide) _ _ _ rfl (World.ownsRow.alloc HO.out.1 _) ⟨wr.heap.size + 1, 0, none⟩ 1 1 (credCells s.c) rfl rfl ?c1 ?c2 ?c3 ?c4 ?c5 ?_)
      case c1 =>
        intro j u hj
        have hq := cred_cells_new (wr.alloc (.cells #[.int .i64 s.c.kind, .string ⟨s.c.head.1.toArray⟩, .string ⟨s.c.head.2.toArray⟩, .string ⟨s.c.who.toArray⟩, .string ⟨s.c.b.1.toArray⟩, .string ⟨s.c.b.2.toArray⟩, .string ⟨s.c.c.1.toArray⟩, .string ⟨s.c.c.2.toArray⟩, .string ⟨s.c.w2.toArray⟩, .string ⟨s.f.1.1.toArray⟩, .string ⟨s.f.1.2.toArray⟩, .string ⟨s.f.2.toArray⟩] 43)) s.c j u hj
        rw [World.size_alloc] at hq
        exact hq
      case c2 => exact cred_one8 s.c
      case c3 => unfold maxLen; omega
      case c4 => omega
      case c5 => have := HO.out.2.2; simp; omega
      clear a0 a1 a2 a3 a4 a5 a6 a7 a8 b0 b1 b2 r0 r1 r2 r3 r4 r5 r6 r7 r8
      intro v' w3 hown hgrow _ _
      have ho2 : OwnC w.heap.size w3 v' (out ++ [s.c]) := by
        unfold OwnC
        rw [credRow_snoc, List.length_append]
        exact hown
      have hc7 : Chg (fun _ => False) w w3 := (HO.out.2.1.alloc _).grown hgrow (fun k e hk => by have := (ownsRow_lt HO.out.1 k e).1; omega)
      have hl : (out ++ [s.c]).length = out.length + 1 := by simp
      obtain ⟨zs, HZ⟩ : ∃ zs, Hid (zs = out ++ [s.c]) := ⟨_, hid rfl⟩
      rw [← HZ.out] at ho2 hl HT
      obtain ⟨ao5, cap5, hv5⟩ := ho2.shape
      subst hv5
      have HY := hid (And.intro ho2 hc7)
      clear hown hgrow ho2 hc7 HO HZ
      go_wp2
      go_roundw
      case rel => exact ⟨k + 1, zs, ao5, cap5, by have := HKL.out; omega, by go_num, rfl, HT, by omega, HY.out.1, HY.out.2⟩
      case measure => have := HKL.out; simp [intOf]; omega
    · have hk2 : k = ls.length := by omega
      have hh : out = ls.map (·.c) := by have := hout.out; rwa [hk2, List.take_length] at this
      obtain ⟨ao6, cap6, he6, hst6, hz6⟩ := ho.creds (fun x hx => by
        rw [hh] at hx
        obtain ⟨s, hs, rfl⟩ := List.mem_map.1 hx
        exact (HSH.out s hs).1)
      injection he6 with e1 _ e3
      have hq := pcset (D := fun k => w.heap.size ≤ k ∧ k < wr.heap.size) ao' cap' out wr (by omega) (by rw [e1]; exact hst6) (fun i hi => hi.2) (by rw [e1, e3]; exact hz6)
      have HQ := hid hq
      have HC := hid hc1
      have HH := hid hh
      clear hq hc1 hk2 hout ho hst6 hz6 e1 e3 hh
      go_wp2_with fail
      refine HQ.out.mono ?_
      rintro e w5 ⟨o5, ao5, cap5, rfl, h1, h2, h3, h4⟩
      have HRES : Hid (UsedPost ls w (.returned (.slice ao5 o5.length cap5)) w5) := hid ⟨o5, ao5, cap5, rfl, by rw [← HH.out]; exact h1, h2.mono (fun i hi => ⟨Nat.le_trans HC.out.size hi.1, hi.2⟩), HC.out.trans h3 (fun _ _ h => h), h4⟩
      clear h1 h2 h3 h4 HQ
      obtain ⟨ol, hol5⟩ : ∃ ol, ol = o5.length := ⟨_, rfl⟩
      simp only [← hol5] at HRES ⊢
      go_wp2
      go_ret
      exact HRES.out

set_option maxRecDepth 100000 in
set_option maxHeartbeats 2000000 in
theorem rch_used {D : Nat → Prop} (ao : Option Addr) (cp : Nat) (ls : List StepB) (w : World) (hn : ls.length ≤ 1048576) (h : StepsAt D w ao ls) :
    Calls Try.prog 19 #[.slice ao ls.length cp] w (UsedPost ls w) := by
  obtain ⟨i0, hi, hz0, hz1, hz2⟩ := info_parts Try.info36
  have HI := hid (And.intro hi (And.intro hz0 (And.intro hz1 hz2)))
  have HX := hid h
  have HSH := hid (steps_short h)
  clear hi hz0 hz1 hz2 h
  go_enter Try.func19, Try.ntmps19
  go_wp2
  go_loopw [3, 8] (fun v i wr => ∃ (k : Nat) (out : List CredB) (ao' : Option Addr) (cap' : Nat), k ≤ ls.length ∧ i = .int .i64 k ∧ v = .slice ao' out.length cap' ∧ Hid (out = (ls.take k).map (·.c)) ∧ out.length ≤ k ∧ OwnC w.heap.size wr (.slice ao' out.length cap') out ∧ Chg (fun _ => False) w wr) (fun _ i _ => ls.length - (intOf i).toNat)
  case atStart => exact ⟨0, [], none, 0, Nat.zero_le _, rfl, rfl, hid rfl, Nat.zero_le _, World.ownsRow_nil _ _ _ _, Chg.refl _ _⟩
  case round =>
    obtain ⟨k, out, ao', cap', hk, rfl, rfl, hout, hol, ho, hc1⟩ := hrel
    by_cases hlt : k < ls.length
    · obtain ⟨b, off, hao, hD, ⟨⟨a0, a1, a2, a3, a4, a5, a6, a7, a8⟩, ⟨b0, b1, b2⟩⟩, hss⟩ := (HX.out.keep hc1 (fun _ _ => id)) k hlt
      have HT : Hid (out ++ [ls[k].c] = (ls.take (k + 1)).map (·.c)) := hid (by rw [List.take_succ_eq_append_getElem hlt, List.map_append, hout.out]; rfl)
      have HKL := hid hlt
      generalize ls[k] = s at *
      change wr.cell? ⟨b, off + k * 12 + 10, none⟩ = _ at b1
      change wr.cell? ⟨b, off + k * 12 + 11, none⟩ = _ at b2
      have hSb : (wr.alloc (.cells #[.int .i64 s.c.kind, .string ⟨s.c.head.1.toArray⟩, .string ⟨s.c.head.2.toArray⟩, .string ⟨s.c.who.toArray⟩, .string ⟨s.c.b.1.toArray⟩, .string ⟨s.c.b.2.toArray⟩, .string ⟨s.c.c.1.toArray⟩, .string ⟨s.c.c.2.toArray⟩, .string ⟨s.c.w2.toArray⟩, .string ⟨s.f.1.1.toArray⟩, .string ⟨s.f.1.2.toArray⟩, .string ⟨s.f.2.toArray⟩] 43)).heap[wr.heap.size]? = some (.cells (stepBox s) 43 (0, 0)) := heap_alloc_new wr _
      have hcA : Chg (fun _ => False) wr (wr.alloc (.cells #[.int .i64 s.c.kind, .string ⟨s.c.head.1.toArray⟩, .string ⟨s.c.head.2.toArray⟩, .string ⟨s.c.who.toArray⟩, .string ⟨s.c.b.1.toArray⟩, .string ⟨s.c.b.2.toArray⟩, .string ⟨s.c.c.1.toArray⟩, .string ⟨s.c.c.2.toArray⟩, .string ⟨s.c.w2.toArray⟩, .string ⟨s.f.1.1.toArray⟩, .string ⟨s.f.1.2.toArray⟩, .string ⟨s.f.2.toArray⟩] 43)) := (Chg.refl _ wr).alloc _
      obtain ⟨r0, r1, r2, r3, r4, r5, r6, r7, r8⟩ := (step_at_blk hSb).c
      simp only [Nat.zero_add] at r0 r1 r2 r3 r4 r5 r6 r7 r8
      have HO := hid (And.intro (World.ownsRow.alloc ho (.cells #[.int .i64 s.c.kind, .string ⟨s.c.head.1.toArray⟩, .string ⟨s.c.head.2.toArray⟩, .string ⟨s.c.who.toArray⟩, .string ⟨s.c.b.1.toArray⟩, .string ⟨s.c.b.2.toArray⟩, .string ⟨s.c.c.1.toArray⟩, .string ⟨s.c.c.2.toArray⟩, .string ⟨s.c.w2.toArray⟩, .string ⟨s.f.1.1.toArray⟩, .string ⟨s.f.1.2.toArray⟩, .string ⟨s.f.2.toArray⟩] 43)) (And.intro (hc1.trans hcA (fun _ _ h => h)) hc1.size))
      subst hao
      clear hSb hcA ho hc1 hout hss hD
      go_wp2_with (at_builtin; refine wpList_append_own_at _ rfl (.tmp 12) (.tmp 15) 22 rfl w.heap.size 36 i0 (.agg #[.int .i64 0, .string ⟨#[]⟩, .string ⟨#[]⟩, .string ⟨#[]⟩, .string ⟨#[]⟩, .string ⟨#[]⟩, .string ⟨#[]⟩, .string ⟨#[]⟩, .string ⟨#[]⟩]) 9 136 Try.underlying22 HI.out.1 HI.out.2.1 HI.out.2.2.1 HI.out.2.2.2 rfl (by decide) _ _ _ rfl (World.ownsRow.alloc HO.out.1 _) ⟨wr.heap.size + 1, 0, none⟩ 1 1 (credCells s.c) rfl rfl ?c1 ?c2 ?c3 ?c4 ?c5 ?_)
      case c1 =>
        intro j u hj
        have hq := cred_cells_new (wr.alloc (.cells #[.int .i64 s.c.kind, .string ⟨s.c.head.1.toArray⟩, .string ⟨s.c.head.2.toArray⟩, .string ⟨s.c.who.toArray⟩, .string ⟨s.c.b.1.toArray⟩, .string ⟨s.c.b.2.toArray⟩, .string ⟨s.c.c.1.toArray⟩, .string ⟨s.c.c.2.toArray⟩, .string ⟨s.c.w2.toArray⟩, .string ⟨s.f.1.1.toArray⟩, .string ⟨s.f.1.2.toArray⟩, .string ⟨s.f.2.toArray⟩] 43)) s.c j u hj
        rw [World.size_alloc] at hq
        exact hq
      case c2 => exact cred_one8 s.c
      case c3 => unfold maxLen; omega
      case c4 => omega
      case c5 => have := HO.out.2.2; simp; omega
      clear a0 a1 a2 a3 a4 a5 a6 a7 a8 b0 b1 b2 r0 r1 r2 r3 r4 r5 r6 r7 r8
      intro v' w3 hown hgrow _ _
      have ho2 : OwnC w.heap.size w3 v' (out ++ [s.c]) := by
        unfold OwnC
        rw [credRow_snoc, List.length_append]
        exact hown
      have hc7 : Chg (fun _ => False) w w3 := (HO.out.2.1.alloc _).grown hgrow (fun k e hk => by have := (ownsRow_lt HO.out.1 k e).1; omega)
      have hl : (out ++ [s.c]).length = out.length + 1 := by simp
      obtain ⟨zs, HZ⟩ : ∃ zs, Hid (zs = out ++ [s.c]) := ⟨_, hid rfl⟩
      rw [← HZ.out] at ho2 hl HT
      obtain ⟨ao5, cap5, hv5⟩ := ho2.shape
      subst hv5
      have HY := hid (And.intro ho2 hc7)
      clear hown hgrow ho2 hc7 HO HZ
      go_wp2
      go_roundw
      case rel => exact ⟨k + 1, zs, ao5, cap5, by have := HKL.out; omega, by go_num, rfl, HT, by omega, HY.out.1, HY.out.2⟩
      case measure => have := HKL.out; simp [intOf]; omega
    · have hk2 : k = ls.length := by omega
      have hh : out = ls.map (·.c) := by have := hout.out; rwa [hk2, List.take_length] at this
      obtain ⟨ao6, cap6, he6, hst6, hz6⟩ := ho.creds (fun x hx => by
        rw [hh] at hx
        obtain ⟨s, hs, rfl⟩ := List.mem_map.1 hx
        exact (HSH.out s hs).1)
      injection he6 with e1 _ e3
      have hq := cset_ref (D := fun k => w.heap.size ≤ k ∧ k < wr.heap.size) ao' cap' out wr (by omega) (by rw [e1]; exact hst6) (fun i hi => hi.2)
      have HQ := hid hq
      have HC := hid hc1
      have HH := hid hh
      clear hq hc1 hk2 hout ho hst6 hz6 e1 e3 hh
      go_wp2_with fail
      refine HQ.out.mono ?_
      rintro e w5 ⟨o5, ao5, cap5, rfl, h1, h2, h3, h4⟩
      have HRES : Hid (UsedPost ls w (.returned (.slice ao5 o5.length cap5)) w5) := hid ⟨o5, ao5, cap5, rfl, by rw [← HH.out]; exact h1, h2.mono (fun i hi => ⟨Nat.le_trans HC.out.size hi.1, hi.2⟩), HC.out.trans h3 (fun _ _ h => h), h4⟩
      clear h1 h2 h3 h4 HQ
      obtain ⟨ol, hol5⟩ : ∃ ol, ol = o5.length := ⟨_, rfl⟩
      simp only [← hol5] at HRES ⊢
      go_wp2
      go_ret
      exact HRES.out

end Go.Proofs.Ytjaplnainlbldaa
