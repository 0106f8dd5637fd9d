/- Texts that the proof leans on, in one: OwnS, RefSplit, RefRoleParse. -/
import Derived.Test.YtjohiggfjpfbeaaCm1
import Derived.Test.YtjohiggfjpfbeaaProg
import Derived.Test.YtjohiggfjpfbeaaChecked
import Derived.Maps.AppendAt
import Derived.Test.YtjohiggfjpfbeaaCm4
import Derived.Test.YtjohiggfjpfbeaaCm2
import Derived.Test.YtjohiggfjpfbeaaCm5
/- Lists of texts of the call's own. -/
namespace Go.Proofs.Ytjohiggfjpfbeaa
open Go.RowKit

def strV (l : List UInt8) : Value := .string ⟨l.toArray⟩
theorem Try.info9 : (Try.prog.info? 9).map (fun i => (i.zero, i.size, i.bytes)) = some (some (.string ⟨#[]⟩), 1, 16) := by kernel_rfl

/-- A list of texts of the call's own. -/
def OwnS (B : Nat) (w : World) (v : Value) (ls : List (List UInt8)) : Prop := w.ownsRow B 9 1 v ls.length (ls.map strV)

theorem OwnS.strs {B : Nat} {w : World} {v : Value} {ls : List (List UInt8)} (h : OwnS B w v ls) (hb : ∀ x ∈ ls, x.length ≤ 9223372036854775807) : ∃ ao cap, v = .slice ao ls.length cap ∧ StrsAt (fun k => B ≤ k ∧ k < w.heap.size) w ao ls := by
  rcases h.2 with ⟨rfl, h0⟩ | ⟨g, cap, cur, rfl, hg, hh, h1, h2, h3, h4⟩
  · have : ls = [] := List.eq_nil_of_length_eq_zero h0
    subst this
    exact ⟨none, 0, rfl, StrsAt.nil _ _ _⟩
  · refine ⟨_, _, rfl, fun i hi => ⟨g, 0, rfl, ⟨hg, lt_blk hh⟩, ?_, hb _ (List.getElem_mem hi)⟩⟩
    have hcell := h.cells (g := g) rfl i (strV ls[i]) (by simp [hi])
    rw [add_off] at hcell
    exact hcell

def lenOf : Value → Nat
  | .slice _ n _ => n
  | _ => 0
end Go.Proofs.Ytjohiggfjpfbeaa

/- The contract of the document's Split of layer 5. -/
namespace Go.Proofs.Ytjohiggfjpfbeaa
open Go.RowKit

theorem str_sub (l : List UInt8) (a b : Nat) : (⟨l.toArray⟩ : ByteArray).extract a b = ⟨((l.drop a).take (b - a)).toArray⟩ := by
  apply ByteArray.ext
  simp [ByteArray.extract, ByteArray.copySlice]

/-- What Split leaves: the parts, in new memory. -/
def SplitPost (out : List (List UInt8)) (w : World) (e : Ending) (w' : World) : Prop :=
  ∃ ao cap, e = .returned (.slice ao out.length cap) ∧ StrsAt (fun k => w.heap.size ≤ k ∧ k < w'.heap.size) w' ao out ∧ Chg (fun _ => False) w w'

theorem hit_iff (sep s : List UInt8) (k : Nat) (hk : k + sep.length ≤ s.length) : sep.isPrefixOf (s.drop k) = ((s.drop k).take sep.length == sep) := by
  rw [Bool.eq_iff_iff, List.isPrefixOf_iff_prefix, beq_iff_eq]
  constructor
  · intro h; exact (List.prefix_iff_eq_take.1 h).symm
  · intro h; exact List.prefix_iff_eq_take.2 h.symm

theorem hit_short (sep s : List UInt8) (k : Nat) (hk : ¬ k + sep.length ≤ s.length) (hl : k ≤ s.length) : sep.isPrefixOf (s.drop k) = false := by
  rw [Bool.eq_false_iff]
  intro h
  have := (List.isPrefixOf_iff_prefix.1 h).length_le
  rw [List.length_drop] at this
  omega

set_option maxRecDepth 100000 in
set_option maxHeartbeats 2000000 in
theorem split_ref (s sep : List UInt8) (w : World) (hs : s.length ≤ 1048576) (h0 : 0 < sep.length) (h1 : sep.length ≤ 16) :
    Calls Try.prog 44 #[.string ⟨s.toArray⟩, .string ⟨sep.toArray⟩] w (SplitPost (splitL sep s) w) := by
  obtain ⟨i0, hi, hz0, hz1, hz2⟩ := info_parts Try.info9
  go_enter Try.func44, Try.ntmps44
  go_wp2
  go_loopw [5, 6, 7] (fun v sw i wr => ∃ (k : Nat) (acc : List UInt8) (out : List (List UInt8)) (ao : Option Addr) (cap : Nat), v = .slice ao out.length cap ∧ sw = .string ⟨acc.toArray⟩ ∧ i = .int .i64 k ∧ k ≤ s.length ∧ Hid (splitL sep s = out ++ splitGo sep (s.drop k) 0 acc) ∧ out.length ≤ k ∧ acc.length ≤ k ∧ Hid (∀ x ∈ out, x.length ≤ s.length) ∧ OwnS w.heap.size wr (.slice ao out.length cap) out ∧ Chg (fun _ => False) w wr) (fun _ _ i _ => s.length - (intOf i).toNat)
  case atStart => exact ⟨0, [], [], none, 0, rfl, rfl, rfl, Nat.zero_le _, rfl, Nat.zero_le _, Nat.zero_le _, (fun x hx => by simp at hx), World.ownsRow_nil _ _ _ _, Chg.refl _ _⟩
  case round =>
    obtain ⟨k, acc, out, ao, cap, rfl, rfl, rfl, hk, hS, hol, hal, hob, ho, hc⟩ := hrel
    by_cases hlt : k < s.length
    · by_cases hf : k + sep.length ≤ s.length
      · have hx : (⟨s.toArray⟩ : ByteArray).extract k (k + sep.length) = ⟨((s.drop k).take sep.length).toArray⟩ := by rw [str_sub, Nat.add_sub_cancel_left]
        have hh := hit_iff sep s k hf
        cases hp : sep.isPrefixOf (s.drop k) with
        | true =>
          rw [hp] at hh
          have hm : (s.drop k).take sep.length = sep := beq_iff_eq.1 hh.symm
          rw [hm] at hx
          have hn : Hid (splitL sep s = (out ++ [acc]) ++ splitGo sep (s.drop (k + sep.length)) 0 []) := hid (by
            rw [hS.out, splitGo_at sep _ _ h0 hp, List.drop_drop]; simp)
          clear hh hm hp
          go_wp2_with (at_builtin; refine wpList_append_own_at _ rfl (.tmp 30) (.tmp 32) 66 rfl w.heap.size 9 i0 (.string ⟨#[]⟩) 1 16 Try.underlying66 hi hz0 hz1 hz2 rfl (by decide) _ _ _ rfl (World.ownsRow.alloc ho _) ⟨wr.heap.size, 0, none⟩ 1 1 [strV acc] rfl rfl ?c1 ?c2 ?c3 ?c4 ?c5 ?_)
          case c1 => exact (cell_one_new _ _ _)
          case c2 => intro u hu; rw [List.mem_singleton.1 hu]; rfl
          case c3 => unfold maxLen; omega
          case c4 => omega
          case c5 => have := hc.size; simp; omega
          intro v' w2 hown hgrow _ hat
          have hl : (out ++ [acc]).length = out.length + 1 := by simp
          have ho2 : OwnS w.heap.size w2 v' (out ++ [acc]) := by
            unfold OwnS
            rw [hl, List.map_append]
            exact hown
          have hrow : ∀ k, Value.ownBlock (.slice ao out.length cap) = some k → w.heap.size ≤ k := by
            intro k hk
            rcases ho.2 with ⟨hx, _⟩ | ⟨g, cap', cur, hx, hg, _⟩
            · rw [hx] at hk; cases hk
            · rw [hx] at hk; cases hk; exact hg
          have hc2 : Chg (fun _ => False) w w2 := (hc.alloc _).grown hgrow (fun k e hk => by have := hrow k e; omega)
          have hob2 : ∀ x ∈ out ++ [acc], x.length ≤ s.length := fun x hx => (List.mem_append.1 hx).elim (hob.out x) (fun e => by rw [List.mem_singleton.1 e]; omega)
          obtain ⟨ao3, cap3, hv, hst⟩ := ho2.strs (fun x hx => by have := hob2 x hx; omega)
          subst hv
          have HB := hid hob2
          clear hown hgrow hat hrow ho hc hst hob2
          rw [hl]
          go_wp2
          go_roundw
          case rel => exact ⟨k + sep.length, [], out ++ [acc], ao3, cap3, by rw [hl], rfl, by go_num, hf, hn, by rw [hl]; omega, Nat.zero_le _, HB, ho2, hc2⟩
          case measure => simp [intOf]; omega
        | false =>
          rw [hp] at hh
          have hy : (⟨s.toArray⟩ : ByteArray).extract k (k + 1) = ⟨[s[k]].toArray⟩ := by
            rw [str_sub, Nat.add_sub_cancel_left, List.drop_eq_getElem_cons hlt]; rfl
          have hn : Hid (splitL sep s = out ++ splitGo sep (s.drop (k + 1)) 0 (acc ++ [s[k]])) := hid (by rw [hS.out, splitGo_step sep s acc k hlt hp])
          clear hp
          generalize s[k] = c at *
          generalize (s.drop k).take sep.length = mid at *
          have hm : (mid == sep) = false := hh.symm
          have hb : ¬ 9223372036854775807 < acc.length + 1 := by omega
          have HX := hid (And.intro ho hc)
          clear ho hc hh
          go_wp2
          go_roundw
          case rel => exact ⟨k + 1, acc ++ [c], out, ao, cap, rfl, congrArg Value.string (ByteArray.mk_append_mk acc [c]), by go_num, by omega, hn, by omega, by simp; omega, hob, HX.out.1, HX.out.2⟩
          case measure => simp [intOf]; omega
      · have hp := hit_short sep s k hf (by omega)
        have hy : (⟨s.toArray⟩ : ByteArray).extract k (k + 1) = ⟨[s[k]].toArray⟩ := by
          rw [str_sub, Nat.add_sub_cancel_left, List.drop_eq_getElem_cons hlt]; rfl
        have hn : Hid (splitL sep s = out ++ splitGo sep (s.drop (k + 1)) 0 (acc ++ [s[k]])) := hid (by rw [hS.out, splitGo_step sep s acc k hlt hp])
        clear hp
        generalize s[k] = c at *
        have hb : ¬ 9223372036854775807 < acc.length + 1 := by omega
        have HX := hid (And.intro ho hc)
        clear ho hc
        go_wp2
        go_roundw
        case rel => exact ⟨k + 1, acc ++ [c], out, ao, cap, rfl, congrArg Value.string (ByteArray.mk_append_mk acc [c]), by go_num, by omega, hn, by omega, by simp; omega, hob, HX.out.1, HX.out.2⟩
        case measure => simp [intOf]; omega
    · have hk2 : k = s.length := by omega
      subst hk2
      have hn : Hid (splitL sep s = out ++ [acc]) := hid (by rw [hS.out, List.drop_length]; rfl)
      go_wp2_with (at_builtin; refine wpList_append_own_at _ rfl (.tmp 47) (.tmp 49) 66 rfl w.heap.size 9 i0 (.string ⟨#[]⟩) 1 16 Try.underlying66 hi hz0 hz1 hz2 rfl (by decide) _ _ _ rfl (World.ownsRow.alloc ho _) ⟨wr.heap.size, 0, none⟩ 1 1 [strV acc] rfl rfl ?c1 ?c2 ?c3 ?c4 ?c5 ?_)
      case c1 => exact (cell_one_new _ _ _)
      case c2 => intro u hu; rw [List.mem_singleton.1 hu]; rfl
      case c3 => unfold maxLen; omega
      case c4 => omega
      case c5 => have := hc.size; simp; omega
      intro v' w2 hown hgrow _ hat
      have hl : (out ++ [acc]).length = out.length + 1 := by simp
      have ho2 : OwnS w.heap.size w2 v' (out ++ [acc]) := by
        unfold OwnS
        rw [hl, List.map_append]
        exact hown
      have hrow : ∀ k, Value.ownBlock (.slice ao out.length cap) = some k → w.heap.size ≤ k := by
        intro k hk
        rcases ho.2 with ⟨hx, _⟩ | ⟨g, cap', cur, hx, hg, _⟩
        · rw [hx] at hk; cases hk
        · rw [hx] at hk; cases hk; exact hg
      have hc2 : Chg (fun _ => False) w w2 := (hc.alloc _).grown hgrow (fun k e hk => by have := hrow k e; omega)
      have hob2 : ∀ x ∈ out ++ [acc], x.length ≤ s.length := fun x hx => (List.mem_append.1 hx).elim (hob.out x) (fun e => by rw [List.mem_singleton.1 e]; omega)
      obtain ⟨ao3, cap3, hv, hst⟩ := ho2.strs (fun x hx => by have := hob2 x hx; omega)
      subst hv
      clear hown hgrow hat hrow ho hc hob2
      rw [hl]
      go_wp2
      go_ret
      exact ⟨ao3, cap3, by rw [hn.out, hl]; rfl, by rw [hn.out]; exact hst, hc2⟩
end Go.Proofs.Ytjohiggfjpfbeaa

/- The contract of the document's Parse of layer 4. -/
namespace Go.Proofs.Ytjohiggfjpfbeaa
open Go.RowKit

set_option maxRecDepth 100000 in
set_option maxHeartbeats 1000000 in
theorem rparse_ref (s : List UInt8) (w : World) (hs : s.length ≤ 9223372036854775806) :
    Calls Try.prog 45 #[.string ⟨s.toArray⟩] w (ParsePost s w) := by
  have gx := ba_get s
  have hc0 : Chg (fun _ => False) w (w.alloc (.cells #[.string ⟨#[]⟩, .string ⟨#[]⟩] 23)) := (Chg.refl _ w).alloc _
  have hC := heap_alloc_new w (.cells #[.string ⟨#[]⟩, .string ⟨#[]⟩] 23)
  go_enter Try.func45, Try.ntmps45
  go_wp2
  generalize w.alloc (.cells #[.string ⟨#[]⟩, .string ⟨#[]⟩] 23) = w1 at *
  generalize hCC : w.heap.size = C at *
  go_loop [4] (fun i => ∃ k : Nat, i = .int .i64 k ∧ k ≤ s.length ∧ Hid (∀ c ∈ s.take k, c.toNat ≠ 46)) (fun i => s.length - (intOf i).toNat)
  case atStart => exact ⟨0, rfl, Nat.zero_le _, fun c hc => by simp at hc⟩
  case round =>
    obtain ⟨k, rfl, hk, hno⟩ := hrel
    by_cases hlt : k < s.length
    · by_cases hd : s[k].toNat = 46
      · have z1 : ((s[k].toNat : Int) == 46) = true := by simp; omega
        have hcd : Hid (cutDot s = some (s.take k, s.drop (k + 1))) := hid (cutDot_at s k hlt hno.out hd)
        have st := str_take s k
        have sd := str_drop s (k + 1)
        have hlt2 : ((k : Int) + 1) ≤ (s.length : Int) := by omega
        clear hd hno
        go_wp2
        go_region
        have hc1 : Chg (fun _ => False) w1 (w1.alloc (.cells #[.string ⟨(s.take k).toArray⟩, .string ⟨(s.drop (k + 1)).toArray⟩] 23)).drew := ((Chg.refl _ w1).alloc _).drew
        have hB : (w1.alloc (.cells #[.string ⟨(s.take k).toArray⟩, .string ⟨(s.drop (k + 1)).toArray⟩] 23)).drew.heap[w1.heap.size]? = some (.cells #[.string ⟨(s.take k).toArray⟩, .string ⟨(s.drop (k + 1)).toArray⟩] 23) := heap_alloc_new w1 _
        have hC1 := blk_keep hC hc1 id
        have hCB : C < w1.heap.size := lt_blk hC
        generalize (w1.alloc (.cells #[.string ⟨(s.take k).toArray⟩, .string ⟨(s.drop (k + 1)).toArray⟩] 23)).drew = w2 at *
        generalize w1.heap.size = B at *
        have l1 : (s.take k).length ≤ 9223372036854775807 := by simp; omega
        have l2 : (s.drop (k + 1)).length ≤ 9223372036854775807 := by simp; omega
        clear st sd hlt2 z1 gx
        generalize s.take k = o at *
        generalize s.drop (k + 1) = x at *
        have b0 := cell_blk hB 0
        have b1 := cell_blk hB 1
        simp only [List.getElem?_toArray, List.getElem?_cons_zero, List.getElem?_cons_succ] at b0 b1
        have hcw := hc0.trans hc1 (fun _ _ h => h)
        clear hc0 hc1 hC
        go_wp2_with fail
        refine (rright_ref (o, x) w2 l1 l2).mono ?_
        rintro e w3 ⟨rfl, hc3⟩
        have hC3 := blk_keep hC1 hc3 id
        have hB3 := blk_keep hB hc3 id
        have hcw3 := hcw.trans hc3 (fun _ _ h => h)
        clear b0 b1 hcw hB hC1 hc3
        have b0 := cell_blk hB3 0
        have b1 := cell_blk hB3 1
        have q0 := cell_blk hC3 0
        have q1 := cell_blk hC3 1
        have f0 := froz_blk hC3 0
        have f1 := froz_blk hC3 1
        simp only [List.getElem?_toArray, List.getElem?_cons_zero, List.getElem?_cons_succ] at b0 b1 q0 q1
        cases hr : isRole (o, x) with
        | true =>
          have hp : Hid (parseR s = some (o, x)) := hid (by rw [parseR, hcd.out]; simp [hr])
          have hD : ((w3.setCell ⟨C, 0, none⟩ (.string ⟨o.toArray⟩)).setCell ⟨C, 1, none⟩ (.string ⟨x.toArray⟩)).heap[C]? = some (.cells #[.string ⟨o.toArray⟩, .string ⟨x.toArray⟩] 23 (0, 0)) := set_blk (set_blk hC3 0 (.string ⟨o.toArray⟩)) 1 (.string ⟨x.toArray⟩)
          have hch : Chg (fun _ => False) w ((w3.setCell ⟨C, 0, none⟩ (.string ⟨o.toArray⟩)).setCell ⟨C, 1, none⟩ (.string ⟨x.toArray⟩)) := (hcw3.trans (setCell_chg w3 C 0 _) (fun i hi h => by omega)).trans (setCell_chg _ C 1 _) (fun i hi h => by omega)
          have HH := hid (And.intro hD hch)
          clear hD hch hcw3 hC3 hB3
          go_wp2
          refine bodyPost_ret (results_row_tmp rfl _ _ C _ rfl (run_loadVar_row (P := Try.prog) _ C 23 23 _ (0, 0) _ HH.out.1 Try.underlying23 rfl (by kernel_rfl))) rfl ?_
          exact ⟨by rw [hp.out]; rfl, HH.out.2⟩
        | false =>
          have hp : Hid (parseR s = none) := hid (by rw [parseR, hcd.out]; simp [hr])
          have hD : ((w3.setCell ⟨C, 0, none⟩ (.string ⟨#[]⟩)).setCell ⟨C, 1, none⟩ (.string ⟨#[]⟩)).heap[C]? = some (.cells #[.string ⟨#[]⟩, .string ⟨#[]⟩] 23 (0, 0)) := set_blk (set_blk hC3 0 (.string ⟨#[]⟩)) 1 (.string ⟨#[]⟩)
          have hch : Chg (fun _ => False) w ((w3.setCell ⟨C, 0, none⟩ (.string ⟨#[]⟩)).setCell ⟨C, 1, none⟩ (.string ⟨#[]⟩)) := (hcw3.trans (setCell_chg w3 C 0 _) (fun i hi h => by omega)).trans (setCell_chg _ C 1 _) (fun i hi h => by omega)
          have HH := hid (And.intro hD hch)
          clear hD hch hcw3 hC3 hB3
          go_wp2
          refine bodyPost_ret (results_row_tmp rfl _ _ C _ rfl (run_loadVar_row (P := Try.prog) _ C 23 23 _ (0, 0) _ HH.out.1 Try.underlying23 rfl (by kernel_rfl))) rfl ?_
          exact ⟨by rw [hp.out]; rfl, HH.out.2⟩
      · have z1 : ((s[k].toNat : Int) == 46) = false := by simp; omega
        have hn2 : Hid (∀ c ∈ s.take (k + 1), c.toNat ≠ 46) := hid (fun c hc => by
          rw [List.take_succ_eq_append_getElem hlt] at hc
          rcases List.mem_append.1 hc with h | h
          · exact hno.out c h
          · rw [List.mem_singleton.1 h]; exact hd)
        clear hd hno
        go_wp2
        go_round
        case rel => exact ⟨k + 1, by go_num, by omega, hn2⟩
        case measure => simp [intOf]; omega
    · have hk2 : k = s.length := by omega
      subst hk2
      have hp : Hid (parseR s = none) := hid (by
        have := hno.out
        rw [List.take_of_length_le (Nat.le_refl _)] at this
        rw [parseR, cutDot_none s this])
      have hch : Chg (fun _ => False) w ((w1.setCell ⟨C, 0, none⟩ (.string ⟨#[]⟩)).setCell ⟨C, 1, none⟩ (.string ⟨#[]⟩)) := (hc0.trans (setCell_chg w1 C 0 _) (fun i hi h => by omega)).trans (setCell_chg _ C 1 _) (fun i hi h => by omega)
      have hD : ((w1.setCell ⟨C, 0, none⟩ (.string ⟨#[]⟩)).setCell ⟨C, 1, none⟩ (.string ⟨#[]⟩)).heap[C]? = some (.cells #[.string ⟨#[]⟩, .string ⟨#[]⟩] 23 (0, 0)) := set_blk (set_blk hC 0 (.string ⟨#[]⟩)) 1 (.string ⟨#[]⟩)
      have q0 := cell_blk hC 0
      have q1 := cell_blk hC 1
      have f0 := froz_blk hC 0
      have f1 := froz_blk hC 1
      simp only [List.getElem?_toArray, List.getElem?_cons_zero, List.getElem?_cons_succ] at q0 q1
      have HH := hid (And.intro hD hch)
      clear hD hch hC hc0 gx
      go_wp2
      refine bodyPost_ret (results_row_tmp rfl _ _ C _ rfl (run_loadVar_row (P := Try.prog) _ C 23 23 _ (0, 0) _ HH.out.1 Try.underlying23 rfl (by kernel_rfl))) rfl ?_
      exact ⟨by rw [hp.out]; rfl, HH.out.2⟩
end Go.Proofs.Ytjohiggfjpfbeaa
