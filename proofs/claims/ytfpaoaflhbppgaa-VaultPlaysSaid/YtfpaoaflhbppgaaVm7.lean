/- Texts that the proof leans on, in one: RefVWhich, RefCredGreat, KeySize, RegE. -/
import Derived.Test.YtfpaoaflhbppgaaVm5
import Derived.Test.YtfpaoaflhbppgaaVm1
import Derived.Test.YtfpaoaflhbppgaaProg
import Derived.Test.YtfpaoaflhbppgaaChecked
import Derived.Deep.QuietTactic
import Derived.BigQuiet
import Derived.Test.YtfpaoaflhbppgaaVm4
import Derived.Test.YtfpaoaflhbppgaaVm3
/- The contract of the document's Which, of layer 7. -/
namespace Go.Proofs.Ytfpaoaflhbppgaa
open Go.RowKit

theorem run_eqgRL (x y : Operand) (a b : RoleB) (w : World) : Sem.run Try.prog (eqGuard BinOp.eql 30 x y (.agg #[.string ⟨a.1.toArray⟩, .string ⟨a.2.toArray⟩]) (.agg #[.string ⟨b.1.toArray⟩, .string ⟨b.2.toArray⟩])) w = .ok () w := by
  go_simp
theorem run_eqlRL (a b : RoleB) (w : World) : Sem.run Try.prog (binOp BinOp.eql 30 (.agg #[.string ⟨a.1.toArray⟩, .string ⟨a.2.toArray⟩]) (.agg #[.string ⟨b.1.toArray⟩, .string ⟨b.2.toArray⟩])) w = .ok (.bool (decide (a = b))) w := by
  have : decide (a = b) = decide (a.1 = b.1 ∧ a.2 = b.2) := by simp only [Prod.ext_iff]
  rw [this]
  go_simp
  repeat' split
  all_goals simp_all
attribute [local go_sem ↓ high] run_eqgRL run_eqlRL

/-- Which credentials: of a head, an issuer, a subject, a word (kinds 0 to 3). -/
def whichC (n : Nat) (r : RoleB) (s : List UInt8) (c : CredB) : Bool :=
  match n with
  | 0 => decide (c.head = r)
  | 1 => c.head.1 == s
  | 2 => (c.kind == 1) && (c.who == s)
  | _ => c.head.2 == s

def WhichPost (n : Nat) (r : RoleB) (s : List UInt8) (cs : List CredB) (w : World) (e : Ending) (w' : World) : Prop :=
  ∃ out ao' cap', out = cs.filter (whichC n r s) ∧ e = .returned (.slice ao' out.length cap') ∧ OwnC w.heap.size w' (.slice ao' out.length cap') out ∧ Chg (fun _ => False) w w'

theorem OwnC.at_ {B : Nat} {w : World} {ao : Option Addr} {cap : Nat} {ls : List CredB} (h : OwnC B w (.slice ao ls.length cap) ls) {i : Nat} (hi : i < ls.length) :
    ∃ g, ao = some ⟨g, 0, none⟩ ∧ CredAt w g (i * 9) ls[i] := by
  have hall := h
  rcases h.2 with ⟨he, h0⟩ | ⟨g, cap', cur, he, hg, hh, h1, h2, h3, h4⟩
  · omega
  · cases he
    refine ⟨g, rfl, cred_at_cells fun j hj => ?_⟩
    have hget := credRow_get ls i j hi hj
    have hs : j < (credCells ls[i]).length := by simpa [credCells] using hj
    rw [List.getElem?_eq_getElem hs] at hget ⊢
    have := hall.cells (g := g) rfl (i * 9 + j) _ hget
    rw [add_off, Nat.zero_add] at this
    exact this

set_option maxRecDepth 100000 in
set_option maxHeartbeats 4000000 in
theorem rvwhich0 {D : Nat → Prop} (ao : Option Addr) (cap : Nat) (ls : List EntB) (most : Int) (r : RoleB) (s : List UInt8) (w : World) (hn : ls.length ≤ 4194304) (h : EntsAt D w ao ls) :
    Calls Try.prog 22 #[vaultV ao ls.length cap most, .int .i64 0, .agg #[.string ⟨r.1.toArray⟩, .string ⟨r.2.toArray⟩], .string ⟨s.toArray⟩] w (WhichPost 0 r s (ls.map (·.c)) w) := by
  obtain ⟨i0, hi, hz0, hz1, hz2⟩ := info_parts Try.info32
  have hR : ((w.alloc (.cells #[.slice ao ls.length cap, .int .i64 most] 47)).alloc (.cells #[.string ⟨r.1.toArray⟩, .string ⟨r.2.toArray⟩] 30)).heap[w.heap.size + 1]? = some (.cells #[.string ⟨r.1.toArray⟩, .string ⟨r.2.toArray⟩] 30 (0, 0)) := by
    have := heap_alloc_new (w.alloc (.cells #[.slice ao ls.length cap, .int .i64 most] 47)) (.cells #[.string ⟨r.1.toArray⟩, .string ⟨r.2.toArray⟩] 30)
    rw [World.size_alloc] at this
    exact this
  have hc : Chg (fun _ => False) w ((w.alloc (.cells #[.slice ao ls.length cap, .int .i64 most] 47)).alloc (.cells #[.string ⟨r.1.toArray⟩, .string ⟨r.2.toArray⟩] 30)) := ((Chg.refl _ w).alloc _).alloc _
  have hcr := rvcreds_any ao cap ls most ((w.alloc (.cells #[.slice ao ls.length cap, .int .i64 most] 47)).alloc (.cells #[.string ⟨r.1.toArray⟩, .string ⟨r.2.toArray⟩] 30)) hn (h.keep hc (fun _ _ => id))
  have HH := hid (And.intro hR (And.intro hc hcr))
  have hA : ((w.alloc (.cells #[.slice ao ls.length cap, .int .i64 most] 47)).alloc (.cells #[.string ⟨r.1.toArray⟩, .string ⟨r.2.toArray⟩] 30)).heap[w.heap.size]? = some (.cells #[.slice ao ls.length cap, .int .i64 most] 47 (0, 0)) := blk_keep (heap_alloc_new w _) ((Chg.refl (fun _ => False) _).alloc _) id
  have a0 := cell_blk hA 0
  have a1 := cell_blk hA 1
  simp only [List.getElem?_toArray, List.getElem?_cons_zero, List.getElem?_cons_succ] at a0 a1
  clear hR hc h hcr hA
  show Calls Try.prog 22 #[.agg #[.slice ao ls.length cap, .int .i64 most], .int .i64 0, .agg #[.string ⟨r.1.toArray⟩, .string ⟨r.2.toArray⟩], .string ⟨s.toArray⟩] w _
  go_enter Try.func22, Try.ntmps22
  go_wp2_with fail
  obtain ⟨hR, hc, hcr⟩ := HH.out
  clear HH a0 a1
  refine hcr.mono ?_
  rintro e w4 ⟨ao3, cap3, rfl, hoc, hc4⟩
  have hR4 := blk_keep hR hc4 id
  have hcw := hc.trans hc4 (fun _ _ h => h)
  clear hcr hR hc hc4
  generalize w.heap.size = A at *
  generalize ((w.alloc (.cells #[.slice ao ls.length cap, .int .i64 most] 47)).alloc (.cells #[.string ⟨r.1.toArray⟩, .string ⟨r.2.toArray⟩] 30)) = w3 at *
  have hlen : (ls.map (·.c)).length = ls.length := by simp
  rw [← hlen] at hoc hn ⊢
  clear hlen
  obtain ⟨cs, hcs⟩ : ∃ cs, cs = ls.map (·.c) := ⟨_, rfl⟩
  rw [← hcs] at hoc hn ⊢
  have HCS := hid hcs
  clear hcs
  have HW := hid hcw
  clear hcw
  go_wp2
  go_loopw [9, 15] (fun v i wr => ∃ (k : Nat) (out : List CredB) (ao' : Option Addr) (cap' : Nat), k ≤ cs.length ∧ i = .int .i64 k ∧ v = .slice ao' out.length cap' ∧ Hid (out = (cs.take k).filter (whichC 0 r s)) ∧ out.length ≤ k ∧ OwnC w4.heap.size wr (.slice ao' out.length cap') out ∧ Chg (fun _ => False) w4 wr) (fun _ i _ => cs.length - (intOf i).toNat)
  case atStart => exact ⟨0, [], none, 0, Nat.zero_le _, rfl, rfl, rfl, Nat.zero_le _, World.ownsRow_nil _ _ _ _, Chg.refl _ _⟩
  case round =>
    obtain ⟨k, out, ao', cap', hk, rfl, rfl, hout, hol, ho, hc3⟩ := hrel
    by_cases hlt : k < cs.length
    · obtain ⟨g, rfl, c0, c1, c2, c3, c4, c5, c6, c7, c8⟩ := (OwnC.keep hoc hc3 (fun _ _ => id)).at_ hlt
      have HF := hid (List.take_succ_eq_append_getElem hlt)
      generalize cs[k] = c at *
      have hR5 := blk_keep hR4 hc3 id
      have hal : Chg (fun _ => False) wr (wr.alloc (.cells #[.int .i64 c.kind, .string ⟨c.head.1.toArray⟩, .string ⟨c.head.2.toArray⟩, .string ⟨c.who.toArray⟩, .string ⟨c.b.1.toArray⟩, .string ⟨c.b.2.toArray⟩, .string ⟨c.c.1.toArray⟩, .string ⟨c.c.2.toArray⟩, .string ⟨c.w2.toArray⟩] 32)) := (Chg.refl _ wr).alloc _
      have hS : (wr.alloc (.cells #[.int .i64 c.kind, .string ⟨c.head.1.toArray⟩, .string ⟨c.head.2.toArray⟩, .string ⟨c.who.toArray⟩, .string ⟨c.b.1.toArray⟩, .string ⟨c.b.2.toArray⟩, .string ⟨c.c.1.toArray⟩, .string ⟨c.c.2.toArray⟩, .string ⟨c.w2.toArray⟩] 32)).heap[wr.heap.size]? = some (.cells (credBox c) 32 (0, 0)) := heap_alloc_new wr _
      have hR6 := blk_keep hR5 hal id
      have r0 := cell_blk hR6 0
      have r1 := cell_blk hR6 1
      obtain ⟨s0, s1, s2, s3, s4, s5, s6, s7, s8⟩ := cred_at_blk hS
      simp only [Nat.zero_add, List.getElem?_toArray, List.getElem?_cons_zero, List.getElem?_cons_succ] at r0 r1 s0 s1 s2 s3 s4 s5 s6 s7 s8
      have ho4 := OwnC.keep ho hal (fun _ _ => id)
      have hszw := hc3.size
      have HX := hid (And.intro ho4 (hc3.trans hal (fun _ _ h => h)))
      have HO := hid (And.intro hoc hR4)
      clear hS hal hc3 ho ho4 hR5 hR6 hoc hR4
      cases hq : (decide (c.head = r)) with
      | true =>
        have hn2 : Hid (out ++ [c] = (cs.take (k + 1)).filter (whichC 0 r s)) := hid (by rw [HF.out, List.filter_append, ← hout.out]; simp [whichC, hq])
        go_wp2_with (at_builtin; refine wpList_append_own_at _ rfl (.tmp 64) (.tmp 66) 41 rfl w4.heap.size 32 i0 (.agg #[.int .i64 0, .string ⟨#[]⟩, .string ⟨#[]⟩, .string ⟨#[]⟩, .string ⟨#[]⟩, .string ⟨#[]⟩, .string ⟨#[]⟩, .string ⟨#[]⟩, .string ⟨#[]⟩]) 9 136 Try.underlying41 hi hz0 hz1 hz2 rfl (by decide) _ _ _ rfl (World.ownsRow.alloc HX.out.1 _) ⟨wr.heap.size + 1, 0, none⟩ 1 1 (credCells c) rfl rfl ?c1 ?c2 ?c3 ?c4 ?c5 ?_)
        case c1 => intro j u hj; first | exact hj | (have := cred_cells_new (wr.alloc (.cells #[.int .i64 c.kind, .string ⟨c.head.1.toArray⟩, .string ⟨c.head.2.toArray⟩, .string ⟨c.who.toArray⟩, .string ⟨c.b.1.toArray⟩, .string ⟨c.b.2.toArray⟩, .string ⟨c.c.1.toArray⟩, .string ⟨c.c.2.toArray⟩, .string ⟨c.w2.toArray⟩] 32)) c j u hj; simp only [World.size_alloc] at this; exact this)
        case c2 => intro u hu; simp only [credCells, List.mem_cons, List.not_mem_nil, or_false] at hu; rcases hu with rfl | rfl | rfl | rfl | rfl | rfl | rfl | rfl | rfl <;> rfl
        case c3 => unfold maxLen; omega
        case c4 => omega
        case c5 => first | omega | (simp; omega)
        intro v' w5 hown hgrow _ hat2
        obtain ⟨ho6, hc6⟩ := HX.out
        have hrow : ∀ k, Value.ownBlock (.slice ao' out.length cap') = some k → w4.heap.size ≤ k := fun k hk => (ownsRow_lt ho6 k hk).1
        have ho2 : OwnC w4.heap.size w5 v' (out ++ [c]) := by
          unfold OwnC
          rw [credRow_snoc, List.length_append, List.length_singleton]
          exact hown
        have hc7 : Chg (fun _ => False) w4 w5 := (hc6.alloc _).grown hgrow (fun k e hk => by have := hrow k e; omega)
        obtain ⟨ao5, cap5, hv5⟩ := ho2.shape
        have hl : (out ++ [c]).length = out.length + 1 := by simp
        subst hv5
        have HY := hid (And.intro ho2 hc7)
        clear hown hgrow hat2 hrow ho6 hc6 ho2 hc7 HX
        rw [hl]
        go_wp2
        obtain ⟨ho2, hc7⟩ := HY.out
        go_roundw
        case rel => exact ⟨k + 1, out ++ [c], ao5, cap5, by omega, by go_num, by rw [hl], hn2, by rw [hl]; omega, ho2, hc7⟩
        case measure => simp [intOf]; omega
      | false =>
        have hn2 : Hid (out = (cs.take (k + 1)).filter (whichC 0 r s)) := hid (by rw [HF.out, List.filter_append, ← hout.out]; simp [whichC, hq])
        go_wp2
        obtain ⟨ho4, hc3⟩ := HX.out
        exact ⟨⟨k + 1, out, ao', cap', by omega, by go_num, rfl, hn2, by omega, ho4, hc3⟩, by simp [intOf]; omega⟩
    · have hk2 : k = cs.length := by omega
      have hout2 : Hid (out = cs.filter (whichC 0 r s)) := by
        have := hout.out
        rw [List.take_of_length_le (by omega)] at this
        exact hid this
      have HY := hid (And.intro ho (HW.out.trans hc3 (fun _ _ h => h)))
      have hle := HW.out.size
      clear hoc hR4 hout ho hc3
      go_wp2
      go_ret
      exact ⟨out, ao', cap', by rw [hout2.out, HCS.out], rfl, HY.out.1.low hle, HY.out.2⟩

set_option maxRecDepth 100000 in
set_option maxHeartbeats 4000000 in
theorem rvwhich1 {D : Nat → Prop} (ao : Option Addr) (cap : Nat) (ls : List EntB) (most : Int) (r : RoleB) (s : List UInt8) (w : World) (hn : ls.length ≤ 4194304) (h : EntsAt D w ao ls) :
    Calls Try.prog 22 #[vaultV ao ls.length cap most, .int .i64 1, .agg #[.string ⟨r.1.toArray⟩, .string ⟨r.2.toArray⟩], .string ⟨s.toArray⟩] w (WhichPost 1 r s (ls.map (·.c)) w) := by
  obtain ⟨i0, hi, hz0, hz1, hz2⟩ := info_parts Try.info32
  have hR : ((w.alloc (.cells #[.slice ao ls.length cap, .int .i64 most] 47)).alloc (.cells #[.string ⟨r.1.toArray⟩, .string ⟨r.2.toArray⟩] 30)).heap[w.heap.size + 1]? = some (.cells #[.string ⟨r.1.toArray⟩, .string ⟨r.2.toArray⟩] 30 (0, 0)) := by
    have := heap_alloc_new (w.alloc (.cells #[.slice ao ls.length cap, .int .i64 most] 47)) (.cells #[.string ⟨r.1.toArray⟩, .string ⟨r.2.toArray⟩] 30)
    rw [World.size_alloc] at this
    exact this
  have hc : Chg (fun _ => False) w ((w.alloc (.cells #[.slice ao ls.length cap, .int .i64 most] 47)).alloc (.cells #[.string ⟨r.1.toArray⟩, .string ⟨r.2.toArray⟩] 30)) := ((Chg.refl _ w).alloc _).alloc _
  have hcr := rvcreds_any ao cap ls most ((w.alloc (.cells #[.slice ao ls.length cap, .int .i64 most] 47)).alloc (.cells #[.string ⟨r.1.toArray⟩, .string ⟨r.2.toArray⟩] 30)) hn (h.keep hc (fun _ _ => id))
  have HH := hid (And.intro hR (And.intro hc hcr))
  have hA : ((w.alloc (.cells #[.slice ao ls.length cap, .int .i64 most] 47)).alloc (.cells #[.string ⟨r.1.toArray⟩, .string ⟨r.2.toArray⟩] 30)).heap[w.heap.size]? = some (.cells #[.slice ao ls.length cap, .int .i64 most] 47 (0, 0)) := blk_keep (heap_alloc_new w _) ((Chg.refl (fun _ => False) _).alloc _) id
  have a0 := cell_blk hA 0
  have a1 := cell_blk hA 1
  simp only [List.getElem?_toArray, List.getElem?_cons_zero, List.getElem?_cons_succ] at a0 a1
  clear hR hc h hcr hA
  show Calls Try.prog 22 #[.agg #[.slice ao ls.length cap, .int .i64 most], .int .i64 1, .agg #[.string ⟨r.1.toArray⟩, .string ⟨r.2.toArray⟩], .string ⟨s.toArray⟩] w _
  go_enter Try.func22, Try.ntmps22
  go_wp2_with fail
  obtain ⟨hR, hc, hcr⟩ := HH.out
  clear HH a0 a1
  refine hcr.mono ?_
  rintro e w4 ⟨ao3, cap3, rfl, hoc, hc4⟩
  have hR4 := blk_keep hR hc4 id
  have hcw := hc.trans hc4 (fun _ _ h => h)
  clear hcr hR hc hc4
  generalize w.heap.size = A at *
  generalize ((w.alloc (.cells #[.slice ao ls.length cap, .int .i64 most] 47)).alloc (.cells #[.string ⟨r.1.toArray⟩, .string ⟨r.2.toArray⟩] 30)) = w3 at *
  have hlen : (ls.map (·.c)).length = ls.length := by simp
  rw [← hlen] at hoc hn ⊢
  clear hlen
  obtain ⟨cs, hcs⟩ : ∃ cs, cs = ls.map (·.c) := ⟨_, rfl⟩
  rw [← hcs] at hoc hn ⊢
  have HCS := hid hcs
  clear hcs
  have HW := hid hcw
  clear hcw
  go_wp2
  go_loopw [9, 15] (fun v i wr => ∃ (k : Nat) (out : List CredB) (ao' : Option Addr) (cap' : Nat), k ≤ cs.length ∧ i = .int .i64 k ∧ v = .slice ao' out.length cap' ∧ Hid (out = (cs.take k).filter (whichC 1 r s)) ∧ out.length ≤ k ∧ OwnC w4.heap.size wr (.slice ao' out.length cap') out ∧ Chg (fun _ => False) w4 wr) (fun _ i _ => cs.length - (intOf i).toNat)
  case atStart => exact ⟨0, [], none, 0, Nat.zero_le _, rfl, rfl, rfl, Nat.zero_le _, World.ownsRow_nil _ _ _ _, Chg.refl _ _⟩
  case round =>
    obtain ⟨k, out, ao', cap', hk, rfl, rfl, hout, hol, ho, hc3⟩ := hrel
    by_cases hlt : k < cs.length
    · obtain ⟨g, rfl, c0, c1, c2, c3, c4, c5, c6, c7, c8⟩ := (OwnC.keep hoc hc3 (fun _ _ => id)).at_ hlt
      have HF := hid (List.take_succ_eq_append_getElem hlt)
      generalize cs[k] = c at *
      have hR5 := blk_keep hR4 hc3 id
      have hal : Chg (fun _ => False) wr (wr.alloc (.cells #[.int .i64 c.kind, .string ⟨c.head.1.toArray⟩, .string ⟨c.head.2.toArray⟩, .string ⟨c.who.toArray⟩, .string ⟨c.b.1.toArray⟩, .string ⟨c.b.2.toArray⟩, .string ⟨c.c.1.toArray⟩, .string ⟨c.c.2.toArray⟩, .string ⟨c.w2.toArray⟩] 32)) := (Chg.refl _ wr).alloc _
      have hS : (wr.alloc (.cells #[.int .i64 c.kind, .string ⟨c.head.1.toArray⟩, .string ⟨c.head.2.toArray⟩, .string ⟨c.who.toArray⟩, .string ⟨c.b.1.toArray⟩, .string ⟨c.b.2.toArray⟩, .string ⟨c.c.1.toArray⟩, .string ⟨c.c.2.toArray⟩, .string ⟨c.w2.toArray⟩] 32)).heap[wr.heap.size]? = some (.cells (credBox c) 32 (0, 0)) := heap_alloc_new wr _
      have hR6 := blk_keep hR5 hal id
      have r0 := cell_blk hR6 0
      have r1 := cell_blk hR6 1
      obtain ⟨s0, s1, s2, s3, s4, s5, s6, s7, s8⟩ := cred_at_blk hS
      simp only [Nat.zero_add, List.getElem?_toArray, List.getElem?_cons_zero, List.getElem?_cons_succ] at r0 r1 s0 s1 s2 s3 s4 s5 s6 s7 s8
      have ho4 := OwnC.keep ho hal (fun _ _ => id)
      have hszw := hc3.size
      have HX := hid (And.intro ho4 (hc3.trans hal (fun _ _ h => h)))
      have HO := hid (And.intro hoc hR4)
      clear hS hal hc3 ho ho4 hR5 hR6 hoc hR4
      cases hq : (c.head.1 == s) with
      | true =>
        have hn2 : Hid (out ++ [c] = (cs.take (k + 1)).filter (whichC 1 r s)) := hid (by rw [HF.out, List.filter_append, ← hout.out]; simp [whichC, hq])
        go_wp2_with (at_builtin; refine wpList_append_own_at _ rfl (.tmp 64) (.tmp 66) 41 rfl w4.heap.size 32 i0 (.agg #[.int .i64 0, .string ⟨#[]⟩, .string ⟨#[]⟩, .string ⟨#[]⟩, .string ⟨#[]⟩, .string ⟨#[]⟩, .string ⟨#[]⟩, .string ⟨#[]⟩, .string ⟨#[]⟩]) 9 136 Try.underlying41 hi hz0 hz1 hz2 rfl (by decide) _ _ _ rfl (World.ownsRow.alloc HX.out.1 _) ⟨wr.heap.size + 1, 0, none⟩ 1 1 (credCells c) rfl rfl ?c1 ?c2 ?c3 ?c4 ?c5 ?_)
        case c1 => intro j u hj; first | exact hj | (have := cred_cells_new (wr.alloc (.cells #[.int .i64 c.kind, .string ⟨c.head.1.toArray⟩, .string ⟨c.head.2.toArray⟩, .string ⟨c.who.toArray⟩, .string ⟨c.b.1.toArray⟩, .string ⟨c.b.2.toArray⟩, .string ⟨c.c.1.toArray⟩, .string ⟨c.c.2.toArray⟩, .string ⟨c.w2.toArray⟩] 32)) c j u hj; simp only [World.size_alloc] at this; exact this)
        case c2 => intro u hu; simp only [credCells, List.mem_cons, List.not_mem_nil, or_false] at hu; rcases hu with rfl | rfl | rfl | rfl | rfl | rfl | rfl | rfl | rfl <;> rfl
        case c3 => unfold maxLen; omega
        case c4 => omega
        case c5 => first | omega | (simp; omega)
        intro v' w5 hown hgrow _ hat2
        obtain ⟨ho6, hc6⟩ := HX.out
        have hrow : ∀ k, Value.ownBlock (.slice ao' out.length cap') = some k → w4.heap.size ≤ k := fun k hk => (ownsRow_lt ho6 k hk).1
        have ho2 : OwnC w4.heap.size w5 v' (out ++ [c]) := by
          unfold OwnC
          rw [credRow_snoc, List.length_append, List.length_singleton]
          exact hown
        have hc7 : Chg (fun _ => False) w4 w5 := (hc6.alloc _).grown hgrow (fun k e hk => by have := hrow k e; omega)
        obtain ⟨ao5, cap5, hv5⟩ := ho2.shape
        have hl : (out ++ [c]).length = out.length + 1 := by simp
        subst hv5
        have HY := hid (And.intro ho2 hc7)
        clear hown hgrow hat2 hrow ho6 hc6 ho2 hc7 HX
        rw [hl]
        go_wp2
        obtain ⟨ho2, hc7⟩ := HY.out
        go_roundw
        case rel => exact ⟨k + 1, out ++ [c], ao5, cap5, by omega, by go_num, by rw [hl], hn2, by rw [hl]; omega, ho2, hc7⟩
        case measure => simp [intOf]; omega
      | false =>
        have hn2 : Hid (out = (cs.take (k + 1)).filter (whichC 1 r s)) := hid (by rw [HF.out, List.filter_append, ← hout.out]; simp [whichC, hq])
        go_wp2
        obtain ⟨ho4, hc3⟩ := HX.out
        exact ⟨⟨k + 1, out, ao', cap', by omega, by go_num, rfl, hn2, by omega, ho4, hc3⟩, by simp [intOf]; omega⟩
    · have hk2 : k = cs.length := by omega
      have hout2 : Hid (out = cs.filter (whichC 1 r s)) := by
        have := hout.out
        rw [List.take_of_length_le (by omega)] at this
        exact hid this
      have HY := hid (And.intro ho (HW.out.trans hc3 (fun _ _ h => h)))
      have hle := HW.out.size
      clear hoc hR4 hout ho hc3
      go_wp2
      go_ret
      exact ⟨out, ao', cap', by rw [hout2.out, HCS.out], rfl, HY.out.1.low hle, HY.out.2⟩

set_option maxRecDepth 100000 in
set_option maxHeartbeats 4000000 in
theorem rvwhich2 {D : Nat → Prop} (ao : Option Addr) (cap : Nat) (ls : List EntB) (most : Int) (r : RoleB) (s : List UInt8) (w : World) (hn : ls.length ≤ 4194304) (h : EntsAt D w ao ls) :
    Calls Try.prog 22 #[vaultV ao ls.length cap most, .int .i64 2, .agg #[.string ⟨r.1.toArray⟩, .string ⟨r.2.toArray⟩], .string ⟨s.toArray⟩] w (WhichPost 2 r s (ls.map (·.c)) w) := by
  obtain ⟨i0, hi, hz0, hz1, hz2⟩ := info_parts Try.info32
  have hR : ((w.alloc (.cells #[.slice ao ls.length cap, .int .i64 most] 47)).alloc (.cells #[.string ⟨r.1.toArray⟩, .string ⟨r.2.toArray⟩] 30)).heap[w.heap.size + 1]? = some (.cells #[.string ⟨r.1.toArray⟩, .string ⟨r.2.toArray⟩] 30 (0, 0)) := by
    have := heap_alloc_new (w.alloc (.cells #[.slice ao ls.length cap, .int .i64 most] 47)) (.cells #[.string ⟨r.1.toArray⟩, .string ⟨r.2.toArray⟩] 30)
    rw [World.size_alloc] at this
    exact this
  have hc : Chg (fun _ => False) w ((w.alloc (.cells #[.slice ao ls.length cap, .int .i64 most] 47)).alloc (.cells #[.string ⟨r.1.toArray⟩, .string ⟨r.2.toArray⟩] 30)) := ((Chg.refl _ w).alloc _).alloc _
  have hcr := rvcreds_any ao cap ls most ((w.alloc (.cells #[.slice ao ls.length cap, .int .i64 most] 47)).alloc (.cells #[.string ⟨r.1.toArray⟩, .string ⟨r.2.toArray⟩] 30)) hn (h.keep hc (fun _ _ => id))
  have HH := hid (And.intro hR (And.intro hc hcr))
  have hA : ((w.alloc (.cells #[.slice ao ls.length cap, .int .i64 most] 47)).alloc (.cells #[.string ⟨r.1.toArray⟩, .string ⟨r.2.toArray⟩] 30)).heap[w.heap.size]? = some (.cells #[.slice ao ls.length cap, .int .i64 most] 47 (0, 0)) := blk_keep (heap_alloc_new w _) ((Chg.refl (fun _ => False) _).alloc _) id
  have a0 := cell_blk hA 0
  have a1 := cell_blk hA 1
  simp only [List.getElem?_toArray, List.getElem?_cons_zero, List.getElem?_cons_succ] at a0 a1
  clear hR hc h hcr hA
  show Calls Try.prog 22 #[.agg #[.slice ao ls.length cap, .int .i64 most], .int .i64 2, .agg #[.string ⟨r.1.toArray⟩, .string ⟨r.2.toArray⟩], .string ⟨s.toArray⟩] w _
  go_enter Try.func22, Try.ntmps22
  go_wp2_with fail
  obtain ⟨hR, hc, hcr⟩ := HH.out
  clear HH a0 a1
  refine hcr.mono ?_
  rintro e w4 ⟨ao3, cap3, rfl, hoc, hc4⟩
  have hR4 := blk_keep hR hc4 id
  have hcw := hc.trans hc4 (fun _ _ h => h)
  clear hcr hR hc hc4
  generalize w.heap.size = A at *
  generalize ((w.alloc (.cells #[.slice ao ls.length cap, .int .i64 most] 47)).alloc (.cells #[.string ⟨r.1.toArray⟩, .string ⟨r.2.toArray⟩] 30)) = w3 at *
  have hlen : (ls.map (·.c)).length = ls.length := by simp
  rw [← hlen] at hoc hn ⊢
  clear hlen
  obtain ⟨cs, hcs⟩ : ∃ cs, cs = ls.map (·.c) := ⟨_, rfl⟩
  rw [← hcs] at hoc hn ⊢
  have HCS := hid hcs
  clear hcs
  have HW := hid hcw
  clear hcw
  go_wp2
  go_loopw [9, 15] (fun v i wr => ∃ (k : Nat) (out : List CredB) (ao' : Option Addr) (cap' : Nat), k ≤ cs.length ∧ i = .int .i64 k ∧ v = .slice ao' out.length cap' ∧ Hid (out = (cs.take k).filter (whichC 2 r s)) ∧ out.length ≤ k ∧ OwnC w4.heap.size wr (.slice ao' out.length cap') out ∧ Chg (fun _ => False) w4 wr) (fun _ i _ => cs.length - (intOf i).toNat)
  case atStart => exact ⟨0, [], none, 0, Nat.zero_le _, rfl, rfl, rfl, Nat.zero_le _, World.ownsRow_nil _ _ _ _, Chg.refl _ _⟩
  case round =>
    obtain ⟨k, out, ao', cap', hk, rfl, rfl, hout, hol, ho, hc3⟩ := hrel
    by_cases hlt : k < cs.length
    · obtain ⟨g, rfl, c0, c1, c2, c3, c4, c5, c6, c7, c8⟩ := (OwnC.keep hoc hc3 (fun _ _ => id)).at_ hlt
      have HF := hid (List.take_succ_eq_append_getElem hlt)
      generalize cs[k] = c at *
      have hR5 := blk_keep hR4 hc3 id
      have hal : Chg (fun _ => False) wr (wr.alloc (.cells #[.int .i64 c.kind, .string ⟨c.head.1.toArray⟩, .string ⟨c.head.2.toArray⟩, .string ⟨c.who.toArray⟩, .string ⟨c.b.1.toArray⟩, .string ⟨c.b.2.toArray⟩, .string ⟨c.c.1.toArray⟩, .string ⟨c.c.2.toArray⟩, .string ⟨c.w2.toArray⟩] 32)) := (Chg.refl _ wr).alloc _
      have hS : (wr.alloc (.cells #[.int .i64 c.kind, .string ⟨c.head.1.toArray⟩, .string ⟨c.head.2.toArray⟩, .string ⟨c.who.toArray⟩, .string ⟨c.b.1.toArray⟩, .string ⟨c.b.2.toArray⟩, .string ⟨c.c.1.toArray⟩, .string ⟨c.c.2.toArray⟩, .string ⟨c.w2.toArray⟩] 32)).heap[wr.heap.size]? = some (.cells (credBox c) 32 (0, 0)) := heap_alloc_new wr _
      have hR6 := blk_keep hR5 hal id
      have r0 := cell_blk hR6 0
      have r1 := cell_blk hR6 1
      obtain ⟨s0, s1, s2, s3, s4, s5, s6, s7, s8⟩ := cred_at_blk hS
      simp only [Nat.zero_add, List.getElem?_toArray, List.getElem?_cons_zero, List.getElem?_cons_succ] at r0 r1 s0 s1 s2 s3 s4 s5 s6 s7 s8
      have ho4 := OwnC.keep ho hal (fun _ _ => id)
      have hszw := hc3.size
      have HX := hid (And.intro ho4 (hc3.trans hal (fun _ _ h => h)))
      have HO := hid (And.intro hoc hR4)
      clear hS hal hc3 ho ho4 hR5 hR6 hoc hR4
      by_cases hp : c.kind = 1
      · cases hq : (c.who == s) with
        | true =>
          have z1 : (c.kind == 1) = true := beq_iff_eq.2 hp
          clear hp
          have HP := hid z1
          have hn2 : Hid (out ++ [c] = (cs.take (k + 1)).filter (whichC 2 r s)) := hid (by rw [HF.out, List.filter_append, ← hout.out]; simp [whichC, hq, beq_iff_eq.1 z1])
          go_wp2_with (at_builtin; refine wpList_append_own_at _ rfl (.tmp 64) (.tmp 66) 41 rfl w4.heap.size 32 i0 (.agg #[.int .i64 0, .string ⟨#[]⟩, .string ⟨#[]⟩, .string ⟨#[]⟩, .string ⟨#[]⟩, .string ⟨#[]⟩, .string ⟨#[]⟩, .string ⟨#[]⟩, .string ⟨#[]⟩]) 9 136 Try.underlying41 hi hz0 hz1 hz2 rfl (by decide) _ _ _ rfl (World.ownsRow.alloc HX.out.1 _) ⟨wr.heap.size + 1, 0, none⟩ 1 1 (credCells c) rfl rfl ?c1a ?c2a ?c3a ?c4a ?c5a ?_)
          case c1a => intro j u hj; first | exact hj | (have := cred_cells_new (wr.alloc (.cells #[.int .i64 c.kind, .string ⟨c.head.1.toArray⟩, .string ⟨c.head.2.toArray⟩, .string ⟨c.who.toArray⟩, .string ⟨c.b.1.toArray⟩, .string ⟨c.b.2.toArray⟩, .string ⟨c.c.1.toArray⟩, .string ⟨c.c.2.toArray⟩, .string ⟨c.w2.toArray⟩] 32)) c j u hj; simp only [World.size_alloc] at this; exact this)
          case c2a => intro u hu; simp only [credCells, List.mem_cons, List.not_mem_nil, or_false] at hu; rcases hu with rfl | rfl | rfl | rfl | rfl | rfl | rfl | rfl | rfl <;> rfl
          case c3a => unfold maxLen; omega
          case c4a => omega
          case c5a => first | omega | (simp; omega)
          intro v' w5 hown hgrow _ hat2
          obtain ⟨ho6, hc6⟩ := HX.out
          have hrow : ∀ k, Value.ownBlock (.slice ao' out.length cap') = some k → w4.heap.size ≤ k := fun k hk => (ownsRow_lt ho6 k hk).1
          have ho2 : OwnC w4.heap.size w5 v' (out ++ [c]) := by
            unfold OwnC
            rw [credRow_snoc, List.length_append, List.length_singleton]
            exact hown
          have hc7 : Chg (fun _ => False) w4 w5 := (hc6.alloc _).grown hgrow (fun k e hk => by have := hrow k e; omega)
          obtain ⟨ao5, cap5, hv5⟩ := ho2.shape
          have hl : (out ++ [c]).length = out.length + 1 := by simp
          subst hv5
          have HY := hid (And.intro ho2 hc7)
          clear hown hgrow hat2 hrow ho6 hc6 ho2 hc7 HX
          rw [hl]
          go_wp2
          obtain ⟨ho2, hc7⟩ := HY.out
          go_roundw
          case rel => exact ⟨k + 1, out ++ [c], ao5, cap5, by omega, by go_num, by rw [hl], hn2, by rw [hl]; omega, ho2, hc7⟩
          case measure => simp [intOf]; omega
        | false =>
          have z1 : (c.kind == 1) = true := beq_iff_eq.2 hp
          clear hp
          have hn2 : Hid (out = (cs.take (k + 1)).filter (whichC 2 r s)) := hid (by rw [HF.out, List.filter_append, ← hout.out]; simp [whichC, hq, z1])
          go_wp2
          obtain ⟨ho4, hc3⟩ := HX.out
          exact ⟨⟨k + 1, out, ao', cap', by omega, by go_num, rfl, hn2, by omega, ho4, hc3⟩, by simp [intOf]; omega⟩
      · have z1 : (c.kind == 1) = false := beq_eq_false_iff_ne.2 hp
        clear hp
        have hn2 : Hid (out = (cs.take (k + 1)).filter (whichC 2 r s)) := hid (by rw [HF.out, List.filter_append, ← hout.out]; simp [whichC, beq_eq_false_iff_ne.1 z1])
        go_wp2
        obtain ⟨ho4, hc3⟩ := HX.out
        exact ⟨⟨k + 1, out, ao', cap', by omega, by go_num, rfl, hn2, by omega, ho4, hc3⟩, by simp [intOf]; omega⟩
    · have hk2 : k = cs.length := by omega
      have hout2 : Hid (out = cs.filter (whichC 2 r s)) := by
        have := hout.out
        rw [List.take_of_length_le (by omega)] at this
        exact hid this
      have HY := hid (And.intro ho (HW.out.trans hc3 (fun _ _ h => h)))
      have hle := HW.out.size
      clear hoc hR4 hout ho hc3
      go_wp2
      go_ret
      exact ⟨out, ao', cap', by rw [hout2.out, HCS.out], rfl, HY.out.1.low hle, HY.out.2⟩

set_option maxRecDepth 100000 in
set_option maxHeartbeats 4000000 in
theorem rvwhich3 {D : Nat → Prop} (ao : Option Addr) (cap : Nat) (ls : List EntB) (most : Int) (r : RoleB) (s : List UInt8) (w : World) (hn : ls.length ≤ 4194304) (h : EntsAt D w ao ls) :
    Calls Try.prog 22 #[vaultV ao ls.length cap most, .int .i64 3, .agg #[.string ⟨r.1.toArray⟩, .string ⟨r.2.toArray⟩], .string ⟨s.toArray⟩] w (WhichPost 3 r s (ls.map (·.c)) w) := by
  obtain ⟨i0, hi, hz0, hz1, hz2⟩ := info_parts Try.info32
  have hR : ((w.alloc (.cells #[.slice ao ls.length cap, .int .i64 most] 47)).alloc (.cells #[.string ⟨r.1.toArray⟩, .string ⟨r.2.toArray⟩] 30)).heap[w.heap.size + 1]? = some (.cells #[.string ⟨r.1.toArray⟩, .string ⟨r.2.toArray⟩] 30 (0, 0)) := by
    have := heap_alloc_new (w.alloc (.cells #[.slice ao ls.length cap, .int .i64 most] 47)) (.cells #[.string ⟨r.1.toArray⟩, .string ⟨r.2.toArray⟩] 30)
    rw [World.size_alloc] at this
    exact this
  have hc : Chg (fun _ => False) w ((w.alloc (.cells #[.slice ao ls.length cap, .int .i64 most] 47)).alloc (.cells #[.string ⟨r.1.toArray⟩, .string ⟨r.2.toArray⟩] 30)) := ((Chg.refl _ w).alloc _).alloc _
  have hcr := rvcreds_any ao cap ls most ((w.alloc (.cells #[.slice ao ls.length cap, .int .i64 most] 47)).alloc (.cells #[.string ⟨r.1.toArray⟩, .string ⟨r.2.toArray⟩] 30)) hn (h.keep hc (fun _ _ => id))
  have HH := hid (And.intro hR (And.intro hc hcr))
  have hA : ((w.alloc (.cells #[.slice ao ls.length cap, .int .i64 most] 47)).alloc (.cells #[.string ⟨r.1.toArray⟩, .string ⟨r.2.toArray⟩] 30)).heap[w.heap.size]? = some (.cells #[.slice ao ls.length cap, .int .i64 most] 47 (0, 0)) := blk_keep (heap_alloc_new w _) ((Chg.refl (fun _ => False) _).alloc _) id
  have a0 := cell_blk hA 0
  have a1 := cell_blk hA 1
  simp only [List.getElem?_toArray, List.getElem?_cons_zero, List.getElem?_cons_succ] at a0 a1
  clear hR hc h hcr hA
  show Calls Try.prog 22 #[.agg #[.slice ao ls.length cap, .int .i64 most], .int .i64 3, .agg #[.string ⟨r.1.toArray⟩, .string ⟨r.2.toArray⟩], .string ⟨s.toArray⟩] w _
  go_enter Try.func22, Try.ntmps22
  go_wp2_with fail
  obtain ⟨hR, hc, hcr⟩ := HH.out
  clear HH a0 a1
  refine hcr.mono ?_
  rintro e w4 ⟨ao3, cap3, rfl, hoc, hc4⟩
  have hR4 := blk_keep hR hc4 id
  have hcw := hc.trans hc4 (fun _ _ h => h)
  clear hcr hR hc hc4
  generalize w.heap.size = A at *
  generalize ((w.alloc (.cells #[.slice ao ls.length cap, .int .i64 most] 47)).alloc (.cells #[.string ⟨r.1.toArray⟩, .string ⟨r.2.toArray⟩] 30)) = w3 at *
  have hlen : (ls.map (·.c)).length = ls.length := by simp
  rw [← hlen] at hoc hn ⊢
  clear hlen
  obtain ⟨cs, hcs⟩ : ∃ cs, cs = ls.map (·.c) := ⟨_, rfl⟩
  rw [← hcs] at hoc hn ⊢
  have HCS := hid hcs
  clear hcs
  have HW := hid hcw
  clear hcw
  go_wp2
  go_loopw [9, 15] (fun v i wr => ∃ (k : Nat) (out : List CredB) (ao' : Option Addr) (cap' : Nat), k ≤ cs.length ∧ i = .int .i64 k ∧ v = .slice ao' out.length cap' ∧ Hid (out = (cs.take k).filter (whichC 3 r s)) ∧ out.length ≤ k ∧ OwnC w4.heap.size wr (.slice ao' out.length cap') out ∧ Chg (fun _ => False) w4 wr) (fun _ i _ => cs.length - (intOf i).toNat)
  case atStart => exact ⟨0, [], none, 0, Nat.zero_le _, rfl, rfl, rfl, Nat.zero_le _, World.ownsRow_nil _ _ _ _, Chg.refl _ _⟩
  case round =>
    obtain ⟨k, out, ao', cap', hk, rfl, rfl, hout, hol, ho, hc3⟩ := hrel
    by_cases hlt : k < cs.length
    · obtain ⟨g, rfl, c0, c1, c2, c3, c4, c5, c6, c7, c8⟩ := (OwnC.keep hoc hc3 (fun _ _ => id)).at_ hlt
      have HF := hid (List.take_succ_eq_append_getElem hlt)
      generalize cs[k] = c at *
      have hR5 := blk_keep hR4 hc3 id
      have hal : Chg (fun _ => False) wr (wr.alloc (.cells #[.int .i64 c.kind, .string ⟨c.head.1.toArray⟩, .string ⟨c.head.2.toArray⟩, .string ⟨c.who.toArray⟩, .string ⟨c.b.1.toArray⟩, .string ⟨c.b.2.toArray⟩, .string ⟨c.c.1.toArray⟩, .string ⟨c.c.2.toArray⟩, .string ⟨c.w2.toArray⟩] 32)) := (Chg.refl _ wr).alloc _
      have hS : (wr.alloc (.cells #[.int .i64 c.kind, .string ⟨c.head.1.toArray⟩, .string ⟨c.head.2.toArray⟩, .string ⟨c.who.toArray⟩, .string ⟨c.b.1.toArray⟩, .string ⟨c.b.2.toArray⟩, .string ⟨c.c.1.toArray⟩, .string ⟨c.c.2.toArray⟩, .string ⟨c.w2.toArray⟩] 32)).heap[wr.heap.size]? = some (.cells (credBox c) 32 (0, 0)) := heap_alloc_new wr _
      have hR6 := blk_keep hR5 hal id
      have r0 := cell_blk hR6 0
      have r1 := cell_blk hR6 1
      obtain ⟨s0, s1, s2, s3, s4, s5, s6, s7, s8⟩ := cred_at_blk hS
      simp only [Nat.zero_add, List.getElem?_toArray, List.getElem?_cons_zero, List.getElem?_cons_succ] at r0 r1 s0 s1 s2 s3 s4 s5 s6 s7 s8
      have ho4 := OwnC.keep ho hal (fun _ _ => id)
      have hszw := hc3.size
      have HX := hid (And.intro ho4 (hc3.trans hal (fun _ _ h => h)))
      have HO := hid (And.intro hoc hR4)
      clear hS hal hc3 ho ho4 hR5 hR6 hoc hR4
      cases hq : (c.head.2 == s) with
      | true =>
        have hn2 : Hid (out ++ [c] = (cs.take (k + 1)).filter (whichC 3 r s)) := hid (by rw [HF.out, List.filter_append, ← hout.out]; simp [whichC, hq])
        go_wp2_with (at_builtin; refine wpList_append_own_at _ rfl (.tmp 64) (.tmp 66) 41 rfl w4.heap.size 32 i0 (.agg #[.int .i64 0, .string ⟨#[]⟩, .string ⟨#[]⟩, .string ⟨#[]⟩, .string ⟨#[]⟩, .string ⟨#[]⟩, .string ⟨#[]⟩, .string ⟨#[]⟩, .string ⟨#[]⟩]) 9 136 Try.underlying41 hi hz0 hz1 hz2 rfl (by decide) _ _ _ rfl (World.ownsRow.alloc HX.out.1 _) ⟨wr.heap.size + 1, 0, none⟩ 1 1 (credCells c) rfl rfl ?c1 ?c2 ?c3 ?c4 ?c5 ?_)
        case c1 => intro j u hj; first | exact hj | (have := cred_cells_new (wr.alloc (.cells #[.int .i64 c.kind, .string ⟨c.head.1.toArray⟩, .string ⟨c.head.2.toArray⟩, .string ⟨c.who.toArray⟩, .string ⟨c.b.1.toArray⟩, .string ⟨c.b.2.toArray⟩, .string ⟨c.c.1.toArray⟩, .string ⟨c.c.2.toArray⟩, .string ⟨c.w2.toArray⟩] 32)) c j u hj; simp only [World.size_alloc] at this; exact this)
        case c2 => intro u hu; simp only [credCells, List.mem_cons, List.not_mem_nil, or_false] at hu; rcases hu with rfl | rfl | rfl | rfl | rfl | rfl | rfl | rfl | rfl <;> rfl
        case c3 => unfold maxLen; omega
        case c4 => omega
        case c5 => first | omega | (simp; omega)
        intro v' w5 hown hgrow _ hat2
        obtain ⟨ho6, hc6⟩ := HX.out
        have hrow : ∀ k, Value.ownBlock (.slice ao' out.length cap') = some k → w4.heap.size ≤ k := fun k hk => (ownsRow_lt ho6 k hk).1
        have ho2 : OwnC w4.heap.size w5 v' (out ++ [c]) := by
          unfold OwnC
          rw [credRow_snoc, List.length_append, List.length_singleton]
          exact hown
        have hc7 : Chg (fun _ => False) w4 w5 := (hc6.alloc _).grown hgrow (fun k e hk => by have := hrow k e; omega)
        obtain ⟨ao5, cap5, hv5⟩ := ho2.shape
        have hl : (out ++ [c]).length = out.length + 1 := by simp
        subst hv5
        have HY := hid (And.intro ho2 hc7)
        clear hown hgrow hat2 hrow ho6 hc6 ho2 hc7 HX
        rw [hl]
        go_wp2
        obtain ⟨ho2, hc7⟩ := HY.out
        go_roundw
        case rel => exact ⟨k + 1, out ++ [c], ao5, cap5, by omega, by go_num, by rw [hl], hn2, by rw [hl]; omega, ho2, hc7⟩
        case measure => simp [intOf]; omega
      | false =>
        have hn2 : Hid (out = (cs.take (k + 1)).filter (whichC 3 r s)) := hid (by rw [HF.out, List.filter_append, ← hout.out]; simp [whichC, hq])
        go_wp2
        obtain ⟨ho4, hc3⟩ := HX.out
        exact ⟨⟨k + 1, out, ao', cap', by omega, by go_num, rfl, hn2, by omega, ho4, hc3⟩, by simp [intOf]; omega⟩
    · have hk2 : k = cs.length := by omega
      have hout2 : Hid (out = cs.filter (whichC 3 r s)) := by
        have := hout.out
        rw [List.take_of_length_le (by omega)] at this
        exact hid this
      have HY := hid (And.intro ho (HW.out.trans hc3 (fun _ _ h => h)))
      have hle := HW.out.size
      clear hoc hR4 hout ho hc3
      go_wp2
      go_ret
      exact ⟨out, ao', cap', by rw [hout2.out, HCS.out], rfl, HY.out.1.low hle, HY.out.2⟩
end Go.Proofs.Ytfpaoaflhbppgaa

/- How great credentials are: the contract of the law's Great. -/
namespace Go.Proofs.Ytfpaoaflhbppgaa
open Go.RowKit

/-- How great credentials are. -/
def sizeC (c : CredB) : Nat := 20 + c.head.1.length + c.head.2.length + c.who.length + c.b.1.length + c.b.2.length + c.c.1.length + c.c.2.length + c.w2.length
def totalC : List CredB → Nat
  | [] => 0
  | c :: l => sizeC c + totalC l

theorem totalC_append (a b : List CredB) : totalC (a ++ b) = totalC a + totalC b := by
  induction a with
  | nil => simp [totalC]
  | cons x l ih => rw [List.cons_append, totalC, totalC, ih]; omega

theorem totalC_len (a : List CredB) : a.length ≤ totalC a := by
  induction a with
  | nil => simp [totalC]
  | cons x l ih => rw [totalC, List.length_cons, sizeC]; omega

theorem totalC_mem {a : List CredB} {x : CredB} (h : x ∈ a) : sizeC x ≤ totalC a := by
  induction a with
  | nil => simp at h
  | cons y l ih =>
    rw [totalC]
    rcases List.mem_cons.1 h with rfl | h
    · omega
    · have := ih h; omega

theorem totalC_take (ls : List CredB) (k : Nat) (h : k < ls.length) : totalC (ls.take (k + 1)) = totalC (ls.take k) + sizeC ls[k] := by
  rw [List.take_succ_eq_append_getElem h, totalC_append]; simp [totalC]

theorem totalC_take_le (ls : List CredB) (k : Nat) : totalC (ls.take k) ≤ totalC ls := by
  conv => rhs; rw [← List.take_append_drop k ls]
  rw [totalC_append]; omega

theorem sizeC_short {c : CredB} {n : Nat} (h : sizeC c ≤ n) : credShort c n := by
  unfold sizeC at h
  exact ⟨by omega, by omega, by omega, by omega, by omega, by omega, by omega, by omega⟩

set_option maxRecDepth 100000 in
set_option maxHeartbeats 2000000 in
theorem great_any {D : Nat → Prop} (ao : Option Addr) (cp : Nat) (ls : List CredB) (w : World) (hn : totalC ls ≤ 4503599627370496) (h : CredsAt D w ao ls) :
    Calls Try.prog 35 #[.slice ao ls.length cp] w fun e w' => e = .returned (.int .i64 (totalC ls)) ∧ Chg (fun _ => False) w w' := by
  have hl := totalC_len ls
  go_enter Try.func35, Try.ntmps35
  go_wp2
  go_loopw [3, 8] (fun n i wr => ∃ k m : Nat, k ≤ ls.length ∧ i = .int .i64 k ∧ n = .int .i64 m ∧ Hid (m = totalC (ls.take k)) ∧ m ≤ 4503599627370496 ∧ Chg (fun _ => False) w wr) (fun _ i _ => ls.length - (intOf i).toNat)
  case atStart => exact ⟨0, 0, Nat.zero_le _, rfl, rfl, rfl, by omega, Chg.refl _ _⟩
  case round =>
    obtain ⟨k, m, hk, rfl, rfl, hm, hml, hc⟩ := hrel
    by_cases hlt : k < ls.length
    · obtain ⟨b, off, rfl, _, hat, hs⟩ := (h.keep hc (fun _ _ => id)) k hlt
      have ht := totalC_take ls k hlt
      have hle := totalC_take_le ls (k + 1)
      rw [ht, ← hm.out] at hle
      have hx : Hid (m + sizeC ls[k] = totalC (ls.take (k + 1))) := hid (by rw [ht, hm.out])
      clear h ht
      have hsl2 : m + sizeC ls[k] ≤ 4503599627370496 := by omega
      clear hle
      generalize ls[k] = s at *
      obtain ⟨kk, ⟨ho, hw⟩, who, ⟨bo, bw⟩, ⟨co, cw⟩, w2⟩ := s
      obtain ⟨a0, a1, a2, a3, a4, a5, a6, a7, a8⟩ := hat
      obtain ⟨s1, s2, s3, s4, s5, s6, s7, s8⟩ := hs
      simp only [sizeC] at a0 a1 a2 a3 a4 a5 a6 a7 a8 s1 s2 s3 s4 s5 s6 s7 s8 hx hsl2
      have HC := hid hc
      clear hc
      go_wp2
      go_roundw
      case rel => exact ⟨k + 1, m + (20 + ho.length + hw.length + who.length + bo.length + bw.length + co.length + cw.length + w2.length), by omega, by go_num, by go_num, hx, hsl2, HC.out.alloc _⟩
      case measure => simp [intOf]; omega
    · have hk2 : k = ls.length := by omega
      have hx : m = totalC ls := by have := hm.out; rwa [List.take_of_length_le (by omega)] at this
      subst hx
      have HC := hid hc
      clear h hc
      go_wp2
      go_ret
      exact ⟨rfl, HC.out⟩

end Go.Proofs.Ytfpaoaflhbppgaa

/- How great keys and signed credentials are. -/
namespace Go.Proofs.Ytfpaoaflhbppgaa
open Go.RowKit

def sizeK (k : KeyB) : Nat := 10 + k.who.length + k.key.length
def totalK : List KeyB → Nat
  | [] => 0
  | k :: l => sizeK k + totalK l
def sizeS (s : SignB) : Nat := sizeC s.c + s.tag.length
def totalS : List SignB → Nat
  | [] => 0
  | s :: l => sizeS s + totalS l

theorem totalK_append (a b : List KeyB) : totalK (a ++ b) = totalK a + totalK b := by
  induction a with
  | nil => simp [totalK]
  | cons x l ih => rw [List.cons_append, totalK, totalK, ih]; omega
theorem totalK_len (a : List KeyB) : a.length ≤ totalK a := by
  induction a with
  | nil => simp [totalK]
  | cons x l ih => rw [totalK, List.length_cons, sizeK]; omega
theorem totalK_take (ls : List KeyB) (k : Nat) (h : k < ls.length) : totalK (ls.take (k + 1)) = totalK (ls.take k) + sizeK ls[k] := by
  rw [List.take_succ_eq_append_getElem h, totalK_append]; simp [totalK]
theorem totalK_take_le (ls : List KeyB) (k : Nat) : totalK (ls.take k) ≤ totalK ls := by
  conv => rhs; rw [← List.take_append_drop k ls]
  rw [totalK_append]; omega
theorem totalK_mem {a : List KeyB} {x : KeyB} (h : x ∈ a) : sizeK x ≤ totalK a := by
  induction a with
  | nil => simp at h
  | cons y l ih =>
    rw [totalK]
    rcases List.mem_cons.1 h with rfl | h
    · omega
    · have := ih h; omega
theorem totalS_append (a b : List SignB) : totalS (a ++ b) = totalS a + totalS b := by
  induction a with
  | nil => simp [totalS]
  | cons x l ih => rw [List.cons_append, totalS, totalS, ih]; omega
theorem totalS_len (a : List SignB) : a.length ≤ totalS a := by
  induction a with
  | nil => simp [totalS]
  | cons x l ih => rw [totalS, List.length_cons, sizeS, sizeC]; omega
theorem totalS_take (ls : List SignB) (k : Nat) (h : k < ls.length) : totalS (ls.take (k + 1)) = totalS (ls.take k) + sizeS ls[k] := by
  rw [List.take_succ_eq_append_getElem h, totalS_append]; simp [totalS]
theorem totalS_take_le (ls : List SignB) (k : Nat) : totalS (ls.take k) ≤ totalS ls := by
  conv => rhs; rw [← List.take_append_drop k ls]
  rw [totalS_append]; omega
theorem totalS_mem {a : List SignB} {x : SignB} (h : x ∈ a) : sizeS x ≤ totalS a := by
  induction a with
  | nil => simp at h
  | cons y l ih =>
    rw [totalS]
    rcases List.mem_cons.1 h with rfl | h
    · omega
    · have := ih h; omega

end Go.Proofs.Ytfpaoaflhbppgaa

/- A rule for a region that draws its order, where one slot is read before the one operation that writes it. -/
namespace Go.Proofs.Ytfpaoaflhbppgaa
open Go.RowKit

/-- What a reader knows of the slots: of te, that it holds ve. -/
def rdE (te : Tmp) (ve : Value) (G : Tmp → Value → World → Prop) (t : Tmp) (v : Value) (w : World) : Prop := if t = te then v = ve else G t v w

def ObE (P : Program) (Q : Exit → Act → World → Prop) (R : World → World → Prop) (GR G : Tmp → Value → World → Prop) (w0 : World) (g : Option (Tmp × Bool)) (o : Oper) : Prop :=
  ∀ (a : Act) (w : World), R w0 w → (∀ t ∈ looks g o, Knows GR a w t) →
    ∀ K : Act → World → Prop, (∀ v w', R w w' → Gd G o.dst v w' → K (a.put o.dst v) w') →
      match g with
      | none => o.wp P a w K Q
      | some (t, b) => if says b a.tmps[t]? = true then o.wp P a w K Q else K (a.put o.dst undef) w

inductive ObsE (P : Program) (Q : Exit → Act → World → Prop) (R : World → World → Prop) (GR G : Tmp → Value → World → Prop) (w0 : World) (ops : Array Oper) : List Oper → Prop
  | nil : ObsE P Q R GR G w0 ops []
  | cons {o : Oper} {l : List Oper} (g : Option (Tmp × Bool)) (hg : gSlot ops o = g) (h : ObE P Q R GR G w0 g o) (hs : ObsE P Q R GR G w0 ops l) : ObsE P Q R GR G w0 ops (o :: l)

theorem ObE.plain {P : Program} {Q : Exit → Act → World → Prop} {R : World → World → Prop} {GR G : Tmp → Value → World → Prop} {w0 : World} {o : Oper}
    (h : ∀ (a : Act) (w : World), R w0 w → (∀ t ∈ looks none o, Knows GR a w t) → ∀ K : Act → World → Prop, (∀ v w', R w w' → Gd G o.dst v w' → K (a.put o.dst v) w') → o.wp P a w K Q) : ObE P Q R GR G w0 none o := h

/-- As regOk, but te may be read ahead of its writer, if the writer leans on each reader by an edge of its own. -/
def regOkE (ops : Array Oper) (ds : List Tmp) (te : Tmp) : Bool :=
  (dstsOf ops.toList == ds) && decide ds.Nodup &&
  ((List.range ops.size).all fun i => match ops[i]? with
    | none => true
    | some o =>
      (match o.guard with | none => true | some _ => (gSlot ops o).isSome) &&
      (o.after.all fun e => !Region.binds .any e || decide (e.on < i)) &&
      ((looks (gSlot ops o) o).all fun t => t == te || (!ds.contains t || o.after.any fun e => Region.binds .any e && ((ops[e.on]?).bind (·.dst) == some t)))) &&
  ((List.range ops.size).all fun j => match ops[j]? with
    | none => true
    | some p => !(p.dst == some te) || ((List.range ops.size).all fun i => match ops[i]? with
      | none => true
      | some o => !(looks (gSlot ops o) o).contains te || p.after.any fun e => Region.binds .any e && (e.on == i)))

section
variable {P : Program} {ops : Array Oper} {Q : Exit → Act → World → Prop} {R : World → World → Prop} {G : Tmp → Value → World → Prop} {w0 : World} {a0 : Act} {ds : List Tmp} {te : Tmp} {ve : Value}

theorem regOkE_spec (h : regOkE ops ds te = true) : dstsOf ops.toList = ds ∧ ds.Nodup ∧ (∀ (i : Nat) (o : Oper), ops[i]? = some o → (o.guard.isSome = true → (gSlot ops o).isSome = true) ∧ (∀ e ∈ o.after, Region.binds .any e = true → e.on < i) ∧
      (∀ t ∈ looks (gSlot ops o) o, t ∈ ds → t ≠ te → ∃ e ∈ o.after, Region.binds .any e = true ∧ (ops[e.on]?).bind (·.dst) = some t)) ∧
      ∀ (j : Nat) (p : Oper), ops[j]? = some p → p.dst = some te → ∀ (i : Nat) (o : Oper), ops[i]? = some o → te ∈ looks (gSlot ops o) o → ∃ e ∈ p.after, Region.binds .any e = true ∧ e.on = i := by
  unfold regOkE at h
  rw [Bool.and_eq_true, Bool.and_eq_true, Bool.and_eq_true] at h
  obtain ⟨⟨⟨h1, h2⟩, h3⟩, h5⟩ := h
  refine ⟨by simpa using h1, by simpa using h2, fun i o ho => ?_, fun j p hj hd i o ho ht => ?_⟩
  · have h4 := List.all_eq_true.1 h3 i (List.mem_range.2 (Array.getElem?_eq_some_iff.1 ho).1)
    rw [ho] at h4
    simp only [Bool.and_eq_true] at h4
    obtain ⟨⟨k1, k2⟩, k3⟩ := h4
    refine ⟨fun hs => ?_, fun e he hb => ?_, fun t ht hd hne => ?_⟩
    · cases hg : o.guard with
      | none => rw [hg] at hs; cases hs
      | some _ => rw [hg] at k1; exact k1
    · have := Array.all_eq_true_iff_forall_mem.1 k2 e he
      simp only [hb, Bool.not_true, Bool.false_or, decide_eq_true_eq] at this
      exact this
    · have := List.all_eq_true.1 k3 t ht
      simp only [Bool.or_eq_true, Bool.not_eq_true', beq_iff_eq] at this
      rcases this with this | this | this
      · exact absurd this hne
      · rw [← List.contains_iff_mem, this] at hd; cases hd
      · obtain ⟨e, he, hb⟩ := Array.any_eq_true'.1 this
        simp only [Bool.and_eq_true, beq_iff_eq] at hb
        exact ⟨e, he, hb.1, hb.2⟩
  · have h6 := List.all_eq_true.1 h5 j (List.mem_range.2 (Array.getElem?_eq_some_iff.1 hj).1)
    rw [hj] at h6
    simp only [hd, beq_self_eq_true, Bool.not_true, Bool.false_or] at h6
    have h7 := List.all_eq_true.1 h6 i (List.mem_range.2 (Array.getElem?_eq_some_iff.1 ho).1)
    rw [ho] at h7
    simp only [List.contains_iff_mem.2 ht, Bool.not_true, Bool.false_or] at h7
    obtain ⟨e, he, hb⟩ := Array.any_eq_true'.1 h7
    simp only [Bool.and_eq_true, beq_iff_eq] at hb
    exact ⟨e, he, hb.1, hb.2⟩

theorem ObsE.all {GR : Tmp → Value → World → Prop} {l : List Oper} (h : ObsE P Q R GR G w0 ops l) : ∀ o ∈ l, ObE P Q R GR G w0 (gSlot ops o) o := by
  induction h with
  | nil => intro o ho; cases ho
  | cons g hg h hs ih =>
    intro o ho
    rcases List.mem_cons.1 ho with rfl | ho
    · rw [hg]; exact h
    · exact ih o ho

structure RegInvE (ops : Array Oper) (R : World → World → Prop) (G : Tmp → Value → World → Prop) (w0 : World) (a0 : Act) (listed : Array Bool) (a : Act) (w : World) : Prop where
  len : listed.size = ops.size
  world : R w0 w
  defers : a.defers = a0.defers
  size : a.tmps.size = a0.tmps.size
  same : ∀ t, (∀ (i : Nat) (o : Oper), ops[i]? = some o → o.dst = some t → listed.getD i false = false) → a.tmps[t]? = a0.tmps[t]?
  known : ∀ (i : Nat) (o : Oper) (t : Tmp), ops[i]? = some o → listed.getD i false = true → o.dst = some t → Knows G a w t
  pre : ∀ (i : Nat) (o : Oper), ops[i]? = some o → listed.getD i false = true → ∀ e ∈ o.after, Region.binds .any e = true → listed.getD e.on false = true

theorem region_goE (hds : dstsOf ops.toList = ds) (hnd : ds.Nodup)
    (hok : ∀ (i : Nat) (o : Oper), ops[i]? = some o → (o.guard.isSome = true → (gSlot ops o).isSome = true) ∧ (∀ e ∈ o.after, Region.binds .any e = true → e.on < i) ∧
      (∀ t ∈ looks (gSlot ops o) o, t ∈ ds → t ≠ te → ∃ e ∈ o.after, Region.binds .any e = true ∧ (ops[e.on]?).bind (·.dst) = some t))
    (hte : ∀ (j : Nat) (p : Oper), ops[j]? = some p → p.dst = some te → ∀ (i : Nat) (o : Oper), ops[i]? = some o → te ∈ looks (gSlot ops o) o → ∃ e ∈ p.after, Region.binds .any e = true ∧ e.on = i) (hve : a0.tmps[te]? = some ve)
    (htrans : ∀ a b c, R a b → R b c → R a c) (hG : ∀ t v w w', R w w' → G t v w → G t v w')
    (hsize : ∀ t ∈ ds, t < a0.tmps.size)
    (hstart : ∀ w, R w0 w → ∀ t ∈ outsOf ops ds, Knows G a0 w t)
    (hobs : ∀ o ∈ ops.toList, ObE P Q R (rdE te ve G) G w0 (gSlot ops o) o)
    (hfin : ∀ a w, R w0 w → a.defers = a0.defers → a.tmps.size = a0.tmps.size → (∀ t, t ∉ ds → a.tmps[t]? = a0.tmps[t]?) → (∀ t ∈ ds, Knows G a w t) → Q .normal a w) :
    ∀ (fuel : Nat) (listed : Array Bool) (a : Act) (w : World), unlisted ops.size listed ≤ fuel → RegInvE ops R G w0 a0 listed a w → wpAny P .any ops Q fuel listed a w := by
  have hend : ∀ (listed : Array Bool) (a : Act) (w : World), Region.ready .any ops listed = [] → RegInvE ops R G w0 a0 listed a w → Q .normal a w := by
    intro listed a w hr hi
    have hall : ∀ (i : Nat), i < ops.size → listed.getD i false = true := by
      intro i
      induction i using Nat.strongRecOn with
      | ind i ih =>
        intro hlt
        refine Decidable.byContradiction fun hne => ?_
        have hmem : i ∈ Region.ready .any ops listed := by
          rw [mem_ready]
          refine ⟨?_, ops[i], Array.getElem?_eq_getElem hlt, fun e he hb => ?_⟩
          · have h1 : i < listed.size := by rw [hi.len]; exact hlt
            simp [h1] at hne ⊢
            exact hne
          · have := (hok i _ (Array.getElem?_eq_getElem hlt)).2.1 e he hb
            exact ih e.on this (by omega)
        rw [hr] at hmem
        cases hmem
    refine hfin a w hi.world hi.defers hi.size (fun t ht => hi.same t fun i o ho hd => absurd (mem_ds hds ho hd) ht) (fun t ht => ?_)
    obtain ⟨i, o, ho, hd⟩ := of_mem_ds hds ht
    exact hi.known i o t ho (hall i (Array.getElem?_eq_some_iff.1 ho).1) hd
  have hzero : ∀ (listed : Array Bool), unlisted ops.size listed = 0 → listed.size = ops.size → Region.ready .any ops listed = [] := by
    intro listed h0 hlen
    refine List.eq_nil_iff_forall_not_mem.2 fun i hi => ?_
    obtain ⟨h1, o, ho, _⟩ := mem_ready.1 hi
    have hlt := (Array.getElem?_eq_some_iff.1 ho).1
    have := List.countP_eq_zero.1 h0 i (List.mem_range.2 hlt)
    have h2 : i < listed.size := by omega
    simp [h2] at h1 this
    rw [h1] at this
    cases this
  intro fuel
  induction fuel with
  | zero =>
    intro listed a w hu hi
    have hr := hzero listed (by omega) hi.len
    exact ⟨hr, hend listed a w hr hi⟩
  | succ fuel ih =>
    intro listed a w hu hi
    refine ⟨fun hr => hend listed a w hr hi, fun i hir => ?_⟩
    obtain ⟨hun, o, ho, hpre⟩ := mem_ready.1 hir
    obtain ⟨hok1, hok2, hok3⟩ := hok i o ho
    have hilt := (Array.getElem?_eq_some_iff.1 ho).1
    have hilt' : i < listed.size := by rw [hi.len]; exact hilt
    have hif : listed.getD i false = false := by
      simp [hilt'] at hun ⊢
      exact hun
    have hkn : ∀ t ∈ looks (gSlot ops o) o, Knows (rdE te ve G) a w t := by
      intro t ht
      by_cases hee : t = te
      · subst hee
        refine ⟨ve, (hi.same t fun j p hj hd => ?_).trans hve, by simp [rdE]⟩
        obtain ⟨e, he, hb, hon⟩ := hte j p hj hd i o ho ht
        refine Decidable.byContradiction fun hl => ?_
        have := hi.pre j p hj (by simpa using hl) e he hb
        rw [hon, hif] at this
        cases this
      refine (?_ : Knows G a w t).imp fun v hv => ⟨hv.1, by rw [rdE, if_neg hee]; exact hv.2⟩
      by_cases hin : t ∈ ds
      · obtain ⟨e, he, hb, hd⟩ := hok3 t ht hin hee
        cases hoe : ops[e.on]? with
        | none => rw [hoe] at hd; cases hd
        | some p => rw [hoe] at hd; exact hi.known e.on p t hoe (hpre e he hb) hd
      · obtain ⟨v, hv, hg⟩ := hstart w hi.world t (by
          unfold outsOf
          refine List.mem_filter.2 ⟨List.mem_flatMap.2 ⟨o, Array.mem_toList_iff.2 (Array.mem_of_getElem? ho), ht⟩, ?_⟩
          simpa using hin)
        exact ⟨v, (hi.same t fun j p hj hd => absurd (mem_ds hds hj hd) hin).trans hv, hg⟩
    have hK : ∀ v w', R w w' → Gd G o.dst v w' → wpAny P .any ops Q fuel (listed.setIfInBounds i true) (a.put o.dst v) w' := by
      intro v w' hR hg
      refine ih _ _ _ ?_ ⟨by simpa using hi.len, htrans _ _ _ hi.world hR, ?_, ?_, ?_, ?_, ?_⟩
      · have : unlisted ops.size (listed.setIfInBounds i true) < unlisted ops.size listed := by
          refine countP_lt (fun j hj => ?_) _ i (List.mem_range.2 hilt) ?_ ?_
          · by_cases hji : i = j
            · subst hji
              simp [hilt'] at hj
            · rw [getD_set_ne false hji] at hj
              exact hj
          · simp [hilt'] at hun ⊢
            exact hun
          · simp [hilt']
        omega
      · cases o.dst <;> exact hi.defers
      · cases o.dst with
        | none => exact hi.size
        | some d => simpa [Act.put] using hi.size
      · intro t ht
        rw [← hi.same t (fun j p hj hd => by
          have h1 := ht j p hj hd
          by_cases hji : i = j
          · subst hji; exact hif
          · rwa [getD_set_ne false hji] at h1)]
        cases hd : o.dst with
        | none => rfl
        | some d =>
          have : d ≠ t := fun e => by
            have h1 := ht i o ho (e ▸ hd)
            simp [hilt'] at h1
          simp [Act.put, Array.getElem?_setIfInBounds_ne this]
      · intro j p t hj hl hd
        by_cases hji : i = j
        · subst hji
          rw [ho] at hj
          cases hj
          rw [hd] at hg ⊢
          refine ⟨v, ?_, hg⟩
          have hlt : t < a.tmps.size := by rw [hi.size]; exact hsize t (mem_ds hds ho hd)
          simp [Act.put, hlt]
        · rw [getD_set_ne false hji] at hl
          obtain ⟨u, hu1, hu2⟩ := hi.known j p t hj hl hd
          refine ⟨u, ?_, hG _ _ _ _ hR hu2⟩
          cases hod : o.dst with
          | none => exact hu1
          | some d =>
            have hdt : d ≠ t := fun e => hji (nodup_dst ops.toList (by rw [hds]; exact hnd) i j o p t (by simpa using ho) (by simpa using hj) (e ▸ hod) hd)
            simp [Act.put, Array.getElem?_setIfInBounds_ne hdt, hu1]
      · intro j p hj hl e he hb
        by_cases hie : i = e.on
        · rw [← hie]; simp [hilt']
        · rw [getD_set_ne false hie]
          by_cases hji : i = j
          · subst hji
            rw [ho] at hj
            cases hj
            exact hpre e he hb
          · rw [getD_set_ne false hji] at hl
            exact hi.pre j p hj hl e he hb
    have hOb := hobs o (Array.mem_toList_iff.2 (Array.mem_of_getElem? ho)) a w hi.world hkn _ hK
    unfold wpOp
    simp only [ho]
    rw [wanted_of hok1]
    cases hgs : gSlot ops o with
    | none =>
      rw [hgs] at hOb
      simp only [if_true]
      exact .inl hOb
    | some tb =>
      obtain ⟨t, b⟩ := tb
      rw [hgs] at hOb
      simp only at hOb ⊢
      split at hOb
      · rename_i h; rw [if_pos h]; exact .inl hOb
      · rename_i h; rw [if_neg h]; exact hOb

theorem wp_region_early {id : Nat} {l : List Oper} (R : World → World → Prop) (G : Tmp → Value → World → Prop) (ds : List Tmp) (hm : P.follows .mixedOrders = true) (te : Tmp) (ve : Value) (hok : regOkE l.toArray ds te = true) (hve : a0.tmps[te]? = some ve)
    (htrans : ∀ a b c, R a b → R b c → R a c) (hdrew : R w0 w0.drew) (hG : ∀ t v w w', R w w' → G t v w → G t v w')
    (hsize : (ds.all fun t => decide (t < a0.tmps.size)) = true) (outs : List Tmp) (houts : outsOf l.toArray ds = outs)
    (hstart : ∀ w, R w0 w → ∀ t ∈ outs, Knows G a0 w t)
    (hobs : ObsE P Q R (rdE te ve G) G w0 l.toArray l)
    (hfin : ∀ (vals : Tmp → Value) (w : World), R w0 w → (∀ t ∈ ds, G t (vals t) w) → Q .normal ⟨putAll vals ds a0.tmps, a0.defers⟩ w) :
    (Code.region id l.toArray true).wp P Q a0 w0 := by
  obtain ⟨h1, h2, h3, h4⟩ := regOkE_spec hok
  subst houts
  have hsz : ∀ t ∈ ds, t < a0.tmps.size := fun t ht => by simpa using List.all_eq_true.1 hsize t ht
  refine wp_region_any hm (region_goE (R := R) (G := G) (w0 := w0) (a0 := a0) (te := te) (ve := ve) h1 h2 h3 h4 hve htrans hG hsz hstart (by simpa using hobs.all) ?_ _ _ _ _ ?_ ⟨by simp, hdrew, rfl, rfl, fun _ _ => rfl, fun i o t ho hl hd => ?_, fun i o ho hl e he hb => ?_⟩)
  · intro a w hR hd hs hsame hkn
    have := hfin (fun t => a.tmps.getD t undef) w hR (fun t ht => by
      obtain ⟨v, hv, hg⟩ := hkn t ht
      have : a.tmps.getD t undef = v := by
        rw [Array.getD_eq_getD_getElem?, hv]
        rfl
      rw [this]
      exact hg)
    have e : a = ⟨putAll (fun t => a.tmps.getD t undef) ds a0.tmps, a0.defers⟩ := by
      obtain ⟨tm, df⟩ := a
      simp only at hd hs hsame hkn ⊢
      rw [hd]
      congr 1
      refine Array.ext' ?_
      refine List.ext_getElem? fun t => ?_
      rw [Array.getElem?_toList, Array.getElem?_toList]
      by_cases ht : t ∈ ds
      · rw [putAll_in _ ds _ t h2 ht (hsz t ht)]
        obtain ⟨v, hv, _⟩ := hkn t ht
        rw [hv, Array.getD_eq_getD_getElem?, hv]
        rfl
      · rw [putAll_out _ ds _ t ht]
        exact hsame t ht
    rw [e]
    exact this
  · unfold unlisted
    refine Nat.le_trans List.countP_le_length ?_
    simp
  · simp [Array.getElem?_replicate] at hl
    split at hl <;> simp at hl
  · simp [Array.getElem?_replicate] at hl
    split at hl <;> simp at hl

end

/-- The rule by specs, where te is read before it is written. -/
theorem wp_region_specsE {P : Program} {Q : Exit → Act → World → Prop} {w0 : World} {a0 : Act} {id : Nat} {l : List Oper} (specs : List Spec) (ds outs : List Tmp) (te : Tmp) (ve : Value) (hm : P.follows .mixedOrders = true) (hok : regOkE l.toArray ds te = true) (hve : a0.tmps[te]? = some ve)
    (hsize : (ds.all fun t => decide (t < a0.tmps.size)) = true) (houts : ((outsOf l.toArray ds).all fun t => outs.contains t) = true)
    (hstart : ∀ t ∈ outs, Knows (specAt specs) a0 w0 t)
    (hobs : ObsE P Q (Chg fun _ => False) (rdE te ve (specAt specs)) (specAt specs) w0 l.toArray l)
    (hfin : ∀ (vals : Tmp → Value) (w : World), Chg (fun _ => False) w0 w → (∀ t ∈ ds, specAt specs t (vals t) w) → Q .normal ⟨putAll vals ds a0.tmps, a0.defers⟩ w) :
    (Code.region id l.toArray true).wp P Q a0 w0 :=
  wp_region_early (R := Chg fun _ => False) (G := specAt specs) (ds := ds) hm te ve hok hve (fun _ _ _ h k => h.trans k (fun _ _ h => h)) (Chg.refl _ _).drew (fun t v w w' hc h => specAt_st specs t v w w' hc h) hsize _ rfl
    (fun w hc t ht => by
      have h1 := List.all_eq_true.1 houts t ht
      obtain ⟨v, hv, hg⟩ := hstart t (by simpa using h1)
      exact ⟨v, hv, specAt_st specs t v w0 w hc hg⟩)
    hobs hfin

end Go.Proofs.Ytfpaoaflhbppgaa
