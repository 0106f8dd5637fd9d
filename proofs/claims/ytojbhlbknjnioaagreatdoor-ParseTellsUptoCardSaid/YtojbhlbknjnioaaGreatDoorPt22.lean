/- Texts that the proof leans on, in one: PcSign, PcWords, FmHolds, End, Defer, Read, FmTrue. -/
import Derived.Test.YtojbhlbknjnioaaGreatDoorPt18
import Derived.Test.YtojbhlbknjnioaaGreatDoorPt9
import Derived.Test.YtojbhlbknjnioaaGreatDoorPt15
import Derived.Test.YtojbhlbknjnioaaGreatDoorPt11
import Derived.StillTailTactics
import Derived.Test.YtojbhlbknjnioaaGreatDoorPt7
import Derived.Test.YtojbhlbknjnioaaGreatDoorPt6
import Derived.Defers
import Derived.Recover
import Derived.LaidEqlPtr
/- The document's sign of layer 12. -/
namespace Go.Proofs.YtojbhlbknjnioaaGreatDoor
open Go.RowKit

set_option maxRecDepth 100000 in
theorem rsign (c : UInt8) (w : World) : Calls Tryz.prog 35 #[.int .u8 (c.toNat : Int)] w fun e w' => e = .returned (.bool (signP c)) ∧ Chg (fun _ => False) w w' := by
  rcases (show (97 ≤ c.toNat ∧ c.toNat ≤ 122) ∨ (122 < c.toNat) ∨ (48 ≤ c.toNat ∧ c.toNat ≤ 57) ∨ (57 < c.toNat ∧ c.toNat < 97) ∨ (c.toNat = 45) ∨ (c.toNat = 46) ∨ (c.toNat < 48 ∧ c.toNat ≠ 45 ∧ c.toNat ≠ 46) by omega) with h0 | h0 | h0 | h0 | h0 | h0 | h0
  · have hs : signP c = true := by unfold signP; simp; omega
    have zge97 : decide ((97 : Int) ≤ (c.toNat : Int)) = true := decide_eq_true (by omega)
    have yge97 : ((97 : Int) ≤ (c.toNat : Int)) := by omega
    have zle122 : decide ((c.toNat : Int) ≤ 122) = true := decide_eq_true (by omega)
    have yle122 : ((c.toNat : Int) ≤ 122) := by omega
    clear h0
    rw [hs]
    clear hs
    go_enter Tryz.func35, Tryz.ntmps35
    go_wp2
    go_ret
    exact ⟨rfl, Chg.refl _ w⟩
  · have hs : signP c = false := by unfold signP; simp; omega
    have zge97 : decide ((97 : Int) ≤ (c.toNat : Int)) = true := decide_eq_true (by omega)
    have yge97 : ((97 : Int) ≤ (c.toNat : Int)) := by omega
    have zle122 : decide ((c.toNat : Int) ≤ 122) = false := decide_eq_false (by omega)
    have yle122 : ¬ ((c.toNat : Int) ≤ 122) := by omega
    have zge48 : decide ((48 : Int) ≤ (c.toNat : Int)) = true := decide_eq_true (by omega)
    have yge48 : ((48 : Int) ≤ (c.toNat : Int)) := by omega
    have zle57 : decide ((c.toNat : Int) ≤ 57) = false := decide_eq_false (by omega)
    have yle57 : ¬ ((c.toNat : Int) ≤ 57) := by omega
    have zeq45 : ((c.toNat : Int) == 45) = false := by
      have : ¬ (c.toNat : Int) = 45 := by omega
      simpa using this
    have zeq46 : ((c.toNat : Int) == 46) = false := by
      have : ¬ (c.toNat : Int) = 46 := by omega
      simpa using this
    clear h0
    rw [hs]
    clear hs
    go_enter Tryz.func35, Tryz.ntmps35
    go_wp2
    go_ret
    exact ⟨rfl, Chg.refl _ w⟩
  · have hs : signP c = true := by unfold signP; simp; omega
    have zge97 : decide ((97 : Int) ≤ (c.toNat : Int)) = false := decide_eq_false (by omega)
    have yge97 : ¬ ((97 : Int) ≤ (c.toNat : Int)) := by omega
    have zge48 : decide ((48 : Int) ≤ (c.toNat : Int)) = true := decide_eq_true (by omega)
    have yge48 : ((48 : Int) ≤ (c.toNat : Int)) := by omega
    have zle57 : decide ((c.toNat : Int) ≤ 57) = true := decide_eq_true (by omega)
    have yle57 : ((c.toNat : Int) ≤ 57) := by omega
    clear h0
    rw [hs]
    clear hs
    go_enter Tryz.func35, Tryz.ntmps35
    go_wp2
    go_ret
    exact ⟨rfl, Chg.refl _ w⟩
  · have hs : signP c = false := by unfold signP; simp; omega
    have zge97 : decide ((97 : Int) ≤ (c.toNat : Int)) = false := decide_eq_false (by omega)
    have yge97 : ¬ ((97 : Int) ≤ (c.toNat : Int)) := by omega
    have zge48 : decide ((48 : Int) ≤ (c.toNat : Int)) = true := decide_eq_true (by omega)
    have yge48 : ((48 : Int) ≤ (c.toNat : Int)) := by omega
    have zle57 : decide ((c.toNat : Int) ≤ 57) = false := decide_eq_false (by omega)
    have yle57 : ¬ ((c.toNat : Int) ≤ 57) := by omega
    have zeq45 : ((c.toNat : Int) == 45) = false := by
      have : ¬ (c.toNat : Int) = 45 := by omega
      simpa using this
    have zeq46 : ((c.toNat : Int) == 46) = false := by
      have : ¬ (c.toNat : Int) = 46 := by omega
      simpa using this
    clear h0
    rw [hs]
    clear hs
    go_enter Tryz.func35, Tryz.ntmps35
    go_wp2
    go_ret
    exact ⟨rfl, Chg.refl _ w⟩
  · have hs : signP c = true := by unfold signP; simp; omega
    have zge97 : decide ((97 : Int) ≤ (c.toNat : Int)) = false := decide_eq_false (by omega)
    have yge97 : ¬ ((97 : Int) ≤ (c.toNat : Int)) := by omega
    have zge48 : decide ((48 : Int) ≤ (c.toNat : Int)) = false := decide_eq_false (by omega)
    have yge48 : ¬ ((48 : Int) ≤ (c.toNat : Int)) := by omega
    have zeq45 : ((c.toNat : Int) == 45) = true := by
      have : (c.toNat : Int) = 45 := by omega
      simpa using this
    clear h0
    rw [hs]
    clear hs
    go_enter Tryz.func35, Tryz.ntmps35
    go_wp2
    go_ret
    exact ⟨rfl, Chg.refl _ w⟩
  · have hs : signP c = true := by unfold signP; simp; omega
    have zge97 : decide ((97 : Int) ≤ (c.toNat : Int)) = false := decide_eq_false (by omega)
    have yge97 : ¬ ((97 : Int) ≤ (c.toNat : Int)) := by omega
    have zge48 : decide ((48 : Int) ≤ (c.toNat : Int)) = false := decide_eq_false (by omega)
    have yge48 : ¬ ((48 : Int) ≤ (c.toNat : Int)) := by omega
    have zeq45 : ((c.toNat : Int) == 45) = false := by
      have : ¬ (c.toNat : Int) = 45 := by omega
      simpa using this
    have zeq46 : ((c.toNat : Int) == 46) = true := by
      have : (c.toNat : Int) = 46 := by omega
      simpa using this
    clear h0
    rw [hs]
    clear hs
    go_enter Tryz.func35, Tryz.ntmps35
    go_wp2
    go_ret
    exact ⟨rfl, Chg.refl _ w⟩
  · have hs : signP c = false := by unfold signP; simp; omega
    have zge97 : decide ((97 : Int) ≤ (c.toNat : Int)) = false := decide_eq_false (by omega)
    have yge97 : ¬ ((97 : Int) ≤ (c.toNat : Int)) := by omega
    have zge48 : decide ((48 : Int) ≤ (c.toNat : Int)) = false := decide_eq_false (by omega)
    have yge48 : ¬ ((48 : Int) ≤ (c.toNat : Int)) := by omega
    have zeq45 : ((c.toNat : Int) == 45) = false := by
      have : ¬ (c.toNat : Int) = 45 := by omega
      simpa using this
    have zeq46 : ((c.toNat : Int) == 46) = false := by
      have : ¬ (c.toNat : Int) = 46 := by omega
      simpa using this
    clear h0
    rw [hs]
    clear hs
    go_enter Tryz.func35, Tryz.ntmps35
    go_wp2
    go_ret
    exact ⟨rfl, Chg.refl _ w⟩

theorem OwnS.keepF {B : Nat} {w w' : World} {v : Value} {ls : List Tok} (h : OwnS B w v ls) (hc : Chg (fun _ => False) w w') : OwnS B w' v ls := ownsRow_keep h hc (fun _ _ => id)
theorem OwnS.last {B : Nat} {w : World} {ao : Option Addr} {n cp : Nat} {ls : List Tok} {x : Tok} (h : OwnS B w (.slice ao n cp) (ls ++ [x])) (hn : n = ls.length + 1) : ∃ g, ao = some ⟨g, 0, none⟩ ∧ B ≤ g ∧ n ≤ cp ∧ w.cell? ⟨g, n - 1, none⟩ = some (.string ⟨x.toArray⟩) ∧ w.frozen? ⟨g, n - 1, none⟩ = false ∧ ∀ y : Tok, OwnS B (w.setCell ⟨g, n - 1, none⟩ (.string ⟨y.toArray⟩)) (.slice ao n cp) (ls ++ [y]) ∧ Chg (fun k => k = g) w (w.setCell ⟨g, n - 1, none⟩ (.string ⟨y.toArray⟩)) := by
  have hlen : (ls ++ [x]).length = n := by rw [hn]; simp
  rcases h.2 with ⟨e, h0⟩ | ⟨g, cap, cur, e, hg, hh, k1, k2, k3, k4⟩
  · rw [hlen] at h0; omega
  · have e2 := e
    injection e2 with e1 e2 e3
    subst e1 e3
    refine ⟨g, rfl, hg, by omega, ?_, froz_blk hh _, fun y => ⟨?_, setCell_chg w g _ _⟩⟩
    · have := h.cells (g := g) rfl (n - 1) (strV x) (by rw [hn]; simp [strV])
      rw [add_off] at this
      simpa [strV] using this
    · have hly : (ls ++ [y]).length = n := by rw [hn]; simp
      refine ⟨by rw [hly]; simp [hn], .inr ⟨g, cp, cur.setIfInBounds (n - 1) (.string ⟨y.toArray⟩), by rw [hly], hg, set_blk hh _ _, by omega, k2, by simpa using k3, ?_⟩⟩
      rw [hlen] at k4
      rw [hly, Array.toList_setIfInBounds, List.take_set, k4, List.map_append, List.map_append, hn]
      simp [strV]
theorem Tryz.underlying45w : Tryz.prog.underlying 45 = some (.slice 9) := by kernel_rfl
theorem run_append_one {B : Nat} {w : World} {v : Value} {zs : List Tok} (ty : TypeId) (hown : OwnS B w v zs) {b : Nat} {y : Tok} (hb : w.heap[b]? = some (.cells #[.string ⟨y.toArray⟩] 9 (0, 0))) (hlen : zs.length ≤ 1048576) (hB : B ≤ w.heap.size) :
    ∃ (ao : Option Addr) (n cp : Nat) (w' : World), (Builtin.append_ #[45, 45] ty #[v, .slice (some ⟨b, 0, none⟩) 1 1]).run Tryz.prog w = .ok (.slice ao n cp) w' ∧ n = (zs ++ [y]).length ∧ OwnS B w' (.slice ao n cp) (zs ++ [y]) ∧ Chg (fun k => B ≤ k) w w' := by
  obtain ⟨i0, hi, hz0, hz1, hz2⟩ := info_parts Tryz.info9
  obtain ⟨v', w', h1, h2, h3, _⟩ := run_append_own_at (P := Tryz.prog) w B 45 ty 9 i0 (.string ⟨#[]⟩) 1 16 Tryz.underlying45w hi hz0 hz1 hz2 rfl (by decide) v _ _ hown ⟨b, 0, none⟩ 1 1 [strV y] rfl
    (fun j u hj => by
      have h := cell_blk hb j
      rw [List.getElem?_toArray] at h
      rw [add_off, Nat.zero_add, h]
      exact hj)
    (fun u hu => by rw [List.mem_singleton.1 hu]; rfl) (by unfold maxLen; omega) (by omega) hB
  have h2' : OwnS B w' v' (zs ++ [y]) := by unfold OwnS; rw [List.map_append, List.length_append]; exact h2
  have hc : Chg (fun k => B ≤ k) w w' := (Chg.refl _ w).grown h3 fun k e _ => by
    rcases hown.2 with ⟨hx', _⟩ | ⟨g, cap', cur, hx', hg, _⟩
    · rw [hx'] at e; cases e
    · rw [hx'] at e; cases e; exact hg
  rcases h2'.2 with ⟨e, h0⟩ | ⟨g, cap, cur, e, _⟩
  · simp at h0
  · subst e
    exact ⟨_, _, _, w', h1, rfl, h2', hc⟩
theorem str_subW (l : List UInt8) (a b : Nat) : (⟨l.toArray⟩ : ByteArray).extract a b = ⟨((l.drop a).take (b - a)).toArray⟩ := by
  apply ByteArray.ext
  simp [ByteArray.extract, ByteArray.copySlice]
theorem ba_app1 (a : Tok) (c : UInt8) : (⟨a.toArray⟩ : ByteArray) ++ ⟨[c].toArray⟩ = ⟨(a ++ [c]).toArray⟩ := by rw [ByteArray.mk_append_mk]
theorem sub_one (s : List UInt8) (j : Nat) (h : j < s.length) : (⟨s.toArray⟩ : ByteArray).extract j (j + 1) = ⟨[s[j]].toArray⟩ := by
  rw [str_subW, show j + 1 - j = 1 by omega, List.drop_eq_getElem_cons h]
  rfl
end Go.Proofs.YtojbhlbknjnioaaGreatDoor

/- The document's Words of layer 12. -/
namespace Go.Proofs.YtojbhlbknjnioaaGreatDoor
open Go.RowKit

theorem flush_nil (l : List Tok) : l ++ flushP [] [] = l := by simp [flushP]
theorem flush_one (l : List Tok) (c : UInt8) : l ++ flushP [c] [] = l ++ [[c]] := by simp [flushP]
theorem flush_app (cur : Tok) (l : List Tok) : flushP cur l = flushP cur [] ++ l := by unfold flushP; split <;> simp
theorem w_sign {s : List UInt8} {j : Nat} {cur : Tok} (h : j < s.length) (hs : signP s[j] = true) : wordsP (s.drop j) cur = wordsP (s.drop (j + 1)) (cur ++ [s[j]]) := by
  rw [List.drop_eq_getElem_cons h, wordsP, if_pos hs]
theorem w_mark {s : List UInt8} {j : Nat} {cur : Tok} {done : List Tok} (h : j < s.length) (hs : signP s[j] = false) (hm : markP s[j] = true) : (wordsP (s.drop j) cur).map (done ++ ·) = (wordsP (s.drop (j + 1)) []).map ((done ++ flushP cur [] ++ [[s[j]]]) ++ ·) := by
  rw [List.drop_eq_getElem_cons h, wordsP, if_neg (by rw [hs]; simp), if_pos hm, Option.map_map]
  congr 1
  funext l
  simp only [Function.comp]
  rw [flush_app]
  simp
theorem w_blank {s : List UInt8} {j : Nat} {cur : Tok} {done : List Tok} (h : j < s.length) (hs : signP s[j] = false) (hm : markP s[j] = false) (hb : blankP s[j] = true) : (wordsP (s.drop j) cur).map (done ++ ·) = (wordsP (s.drop (j + 1)) []).map ((done ++ flushP cur []) ++ ·) := by
  rw [List.drop_eq_getElem_cons h, wordsP, if_neg (by rw [hs]; simp), if_neg (by rw [hm]; simp), if_pos hb, Option.map_map]
  congr 1
  funext l
  simp only [Function.comp]
  rw [flush_app]
  simp
theorem w_bad {s : List UInt8} {j : Nat} {cur : Tok} {done : List Tok} (h : j < s.length) (hs : signP s[j] = false) (hm : markP s[j] = false) (hb : blankP s[j] = false) : (wordsP (s.drop j) cur).map (done ++ ·) = none := by
  rw [List.drop_eq_getElem_cons h, wordsP, if_neg (by rw [hs]; simp), if_neg (by rw [hm]; simp), if_neg (by rw [hb]; simp)]
  rfl
/-- The words of a text, in a row of the call's own. -/
def WordsPost (s : List UInt8) (w : World) (e : Ending) (w' : World) : Prop := Chg (fun _ => False) w w' ∧ ((wordsP s [] = none ∧ e = .returned (.tuple #[.slice none 0 0, .bool false])) ∨ ∃ (ts : List Tok) (ao : Option Addr) (n cp : Nat), wordsP s [] = some ts ∧ n = ts.length ∧ e = .returned (.tuple #[.slice ao n cp, .bool true]) ∧ OwnS w.heap.size w' (.slice ao n cp) ts)

set_option maxRecDepth 100000 in
set_option maxHeartbeats 8000000 in
theorem rwords (s : List UInt8) (w : World) (hsl : s.length ≤ 2048) : Calls Tryz.prog 22 #[.string ⟨s.toArray⟩] w (WordsPost s w) := by
  go_enter Tryz.func22, Tryz.ntmps22
  go_wp2
  go_loopw [4, 5, 6] (fun o b i wr => ∃ (done : List Tok) (cur : Tok) (j : Nat) (ao : Option Addr) (n cp : Nat) (bb : Bool), o = .slice ao n cp ∧ b = .bool bb ∧ i = .int .i64 j ∧ j ≤ s.length ∧ Hid (n = (done ++ flushP cur []).length ∧ OwnS w.heap.size wr (.slice ao n cp) (done ++ flushP cur []) ∧ wordsP s [] = (wordsP (s.drop j) cur).map (done ++ ·) ∧ Chg (fun _ => False) w wr ∧ (done ++ flushP cur []).length ≤ j ∧ cur.length ≤ j ∧ bb = decide (cur ≠ []))) (fun _ _ i _ => s.length - (intOf i).toNat)
  case atStart => exact ⟨[], [], 0, none, 0, 0, false, rfl, rfl, rfl, Nat.zero_le _, hid ⟨rfl, World.ownsRow_nil _ _ _ _, by simp, Chg.refl _ w, by simp [flushP], by simp, by simp⟩⟩
  case round =>
    obtain ⟨done, cur, j, ao3, n3, cp3, bb, rfl, rfl, rfl, hj, HREL⟩ := hrel
    by_cases hlt : j < s.length
    · have hlt2 : ((j : Int) + 1) ≤ (s.length : Int) := by omega
      have st := sub_one s j hlt
      have gx : ∀ h : j < (⟨s.toArray⟩ : ByteArray).size, (⟨s.toArray⟩ : ByteArray)[j]'h = s[j]'hlt := fun _ => rfl
      have HS := hid (rsign s[j] wr)
      go_wp2_with fail
      refine HS.out.mono ?_
      rintro e w1 ⟨rfl, hc1⟩
      have HR : Hid (Chg (fun _ => False) w w1 ∧ OwnS w.heap.size w1 (.slice ao3 n3 cp3) (done ++ flushP cur []) ∧ (done ++ flushP cur []).length ≤ j ∧ n3 = (done ++ flushP cur []).length) := hid ⟨HREL.out.2.2.2.1.trans hc1 (fun _ _ h => h), HREL.out.2.1.keepF hc1, HREL.out.2.2.2.2.1, HREL.out.1⟩
      clear hc1 HS
      cases hs : signP s[j] with
      | true =>
        cases bb with
        | false =>
          have hcur : cur = [] := by have := HREL.out.2.2.2.2.2.2; simpa using this
          subst hcur
          have HW : Hid (wordsP s [] = (wordsP (s.drop (j + 1)) [s[j]]).map (done ++ ·)) := hid (by rw [HREL.out.2.2.1, w_sign hlt hs]; rfl)
          rw [flush_nil] at HR
          clear HREL hs
          have hal : Chg (fun _ => False) w1 (w1.alloc (.cells #[.string ⟨[s[j]].toArray⟩] 9)) := (Chg.refl _ w1).alloc _
          have hbn := heap_alloc_new w1 (.cells #[.string ⟨[s[j]].toArray⟩] 9)
          obtain ⟨ao5, n5, cp5, w5, hap, hn5, hown5, hc5⟩ := run_append_one 45 (HR.out.2.1.keepF hal) hbn (by have := HR.out.2.2.1; omega) (by have := HR.out.1.size; have := hal.size; omega)
          have hcw5 : Chg (fun _ => False) w w5 := (HR.out.1.trans hal (fun _ _ h => h)).trans hc5 (fun i hi e => by omega)
          have HA := hid (And.intro hn5 (And.intro hown5 hcw5))
          clear hal hbn hn5 hown5 hc5 hcw5 
          go_wp2_with (at_builtin; refine wpList_append_runb rfl (.tmp 33) (.tmp 39) 45 rfl rfl rfl hap ?_)
          clear hap
          go_wp2
          go_roundw
          case rel => exact ⟨done, [s[j]], j + 1, ao5, n5, cp5, true, rfl, rfl, by go_num, hlt, hid ⟨by rw [flush_one]; exact HA.out.1, by rw [flush_one]; exact HA.out.2.1, HW.out, HA.out.2.2, by have := HR.out.2.2.1; rw [flush_one]; simp only [List.length_append, List.length_singleton] at this ⊢; omega, by simp, by simp⟩⟩
          case measure => have := hlt; simp [intOf]; omega
        | true =>
          have hcur : cur ≠ [] := by have := HREL.out.2.2.2.2.2.2; simpa using this
          have hfl : flushP cur [] = [cur] := by unfold flushP; rw [if_neg hcur]
          have hfl2 : flushP (cur ++ [s[j]]) [] = [cur ++ [s[j]]] := by unfold flushP; rw [if_neg (by simp)]
          have HW : Hid (wordsP s [] = (wordsP (s.drop (j + 1)) (cur ++ [s[j]])).map (done ++ ·)) := hid (by rw [HREL.out.2.2.1, w_sign hlt hs])
          have HCL := hid HREL.out.2.2.2.2.2.1
          rw [hfl] at HR
          have hn := HR.out.2.2.2
          rw [List.length_append, List.length_singleton] at hn
          have hrow := HR.out.2.1.keepF ((Chg.refl (fun _ => False) w1).drew)
          obtain ⟨g, hao, hg, hncp, hc, hf, _⟩ := hrow.last hn
          obtain ⟨g2, hao2, _, _, hc0, hf0, hset⟩ := HR.out.2.1.last hn
          rw [hao] at hao2
          cases hao2
          subst hao
          obtain ⟨m, rfl⟩ : ∃ m, n3 = m + 1 := ⟨n3 - 1, by omega⟩
          rw [Nat.add_sub_cancel] at hc hf hset hc0 hf0
          have HSET := hid (hset (cur ++ [s[j]]))
          have HFL := hid hfl2
          have ha := ba_app1 cur s[j]
          have hb1 : ¬ 9223372036854775807 < cur.length + 1 := by have := HCL.out; omega
          have HG := hid hg
          have hml : m + 1 ≤ j := by have h1 := HR.out.2.2.2; have h2 := HR.out.2.2.1; omega
          have hwm : IntKind.i64.wrap (m : Int) = (m : Int) := by rw [IntKind.wrap_i64]; omega
          have hwj : IntKind.i64.wrap ((j : Int) + 1) = (j : Int) + 1 := by rw [IntKind.wrap_i64]; omega
          have hi0 : (0 : Int) ≤ (m : Int) := by omega
          have hi1 : (m : Int) < (m : Int) + 1 := by omega
          have hi2 : (0 : Int) ≤ (j : Int) := by omega
          have hi3 : (j : Int) ≤ (j : Int) + 1 := by omega
          have hi4 : (0 : Int) ≤ (j : Int) + 1 := by omega
          have ht4 : ((j : Int) + 1).toNat = j + 1 := by omega
          clear HREL hs hcur hfl hfl2 hn hrow hset hg
          go_wp2
          go_still_tail 13, (by kernel_rfl)
          go_wp2
          go_roundw
          case rel => exact ⟨done, cur ++ [s[j]], j + 1, _, m + 1, cp3, true, rfl, rfl, by go_num, hlt, hid ⟨by rw [HFL.out]; have h := HR.out.2.2.2; simp at h ⊢; exact h, by rw [HFL.out]; exact HSET.out.1.keepF ((Chg.refl _ _).drew), HW.out, (HR.out.1.trans HSET.out.2 (fun i hi e => by have := HG.out; omega)).drew, by rw [HFL.out]; have h := HR.out.2.2.1; simp only [List.length_append, List.length_singleton] at h ⊢; omega, by have := HCL.out; simp only [List.length_append, List.length_singleton]; omega, by simp⟩⟩
          case measure => have := hlt; simp [intOf]; omega
      | false =>
        cases hm : markP s[j] with
        | true =>
          have hm0 : s[j].toNat = 40 ∨ s[j].toNat = 41 ∨ s[j].toNat = 44 := by
            unfold markP at hm
            simp only [Bool.or_eq_true, decide_eq_true_eq] at hm
            omega
          have HW : Hid (wordsP s [] = (wordsP (s.drop (j + 1)) []).map ((done ++ flushP cur [] ++ [[s[j]]]) ++ ·)) := hid (by rw [HREL.out.2.2.1, w_mark hlt hs hm])
          clear HREL hm
          rcases hm0 with hm0 | hm0 | hm0
          · have hx : (s[j].toNat : Int) = 40 := by omega
            simp only [hx]
            clear hm0 hs hx
            have hal : Chg (fun _ => False) w1 (w1.alloc (.cells #[.string ⟨[s[j]].toArray⟩] 9)) := (Chg.refl _ w1).alloc _
            have hbn := heap_alloc_new w1 (.cells #[.string ⟨[s[j]].toArray⟩] 9)
            obtain ⟨ao5, n5, cp5, w5, hap, hn5, hown5, hc5⟩ := run_append_one 45 (HR.out.2.1.keepF hal) hbn (by have := HR.out.2.2.1; omega) (by have := HR.out.1.size; have := hal.size; omega)
            have hcw5 : Chg (fun _ => False) w w5 := (HR.out.1.trans hal (fun _ _ h => h)).trans hc5 (fun i hi e => by omega)
            have HA := hid (And.intro hn5 (And.intro hown5 hcw5))
            clear hal hbn hn5 hown5 hc5 hcw5 
            go_wp2_with (at_builtin; refine wpList_append_runb rfl (.tmp 51) (.tmp 57) 45 rfl rfl rfl hap ?_)
            clear hap
            go_wp2
            go_roundw
            case rel => exact ⟨done ++ flushP cur [] ++ [[s[j]]], [], j + 1, ao5, n5, cp5, false, rfl, rfl, by go_num, hlt, hid ⟨by rw [flush_nil]; exact HA.out.1, by rw [flush_nil]; exact HA.out.2.1, HW.out, HA.out.2.2, by have := HR.out.2.2.1; rw [flush_nil]; simp only [List.length_append, List.length_singleton] at this ⊢; omega, by simp, by simp⟩⟩
            case measure => have := hlt; simp [intOf]; omega
          · have hx : (s[j].toNat : Int) = 41 := by omega
            simp only [hx]
            clear hm0 hs hx
            have hal : Chg (fun _ => False) w1 (w1.alloc (.cells #[.string ⟨[s[j]].toArray⟩] 9)) := (Chg.refl _ w1).alloc _
            have hbn := heap_alloc_new w1 (.cells #[.string ⟨[s[j]].toArray⟩] 9)
            obtain ⟨ao5, n5, cp5, w5, hap, hn5, hown5, hc5⟩ := run_append_one 45 (HR.out.2.1.keepF hal) hbn (by have := HR.out.2.2.1; omega) (by have := HR.out.1.size; have := hal.size; omega)
            have hcw5 : Chg (fun _ => False) w w5 := (HR.out.1.trans hal (fun _ _ h => h)).trans hc5 (fun i hi e => by omega)
            have HA := hid (And.intro hn5 (And.intro hown5 hcw5))
            clear hal hbn hn5 hown5 hc5 hcw5 
            go_wp2_with (at_builtin; refine wpList_append_runb rfl (.tmp 51) (.tmp 57) 45 rfl rfl rfl hap ?_)
            clear hap
            go_wp2
            go_roundw
            case rel => exact ⟨done ++ flushP cur [] ++ [[s[j]]], [], j + 1, ao5, n5, cp5, false, rfl, rfl, by go_num, hlt, hid ⟨by rw [flush_nil]; exact HA.out.1, by rw [flush_nil]; exact HA.out.2.1, HW.out, HA.out.2.2, by have := HR.out.2.2.1; rw [flush_nil]; simp only [List.length_append, List.length_singleton] at this ⊢; omega, by simp, by simp⟩⟩
            case measure => have := hlt; simp [intOf]; omega
          · have hx : (s[j].toNat : Int) = 44 := by omega
            simp only [hx]
            clear hm0 hs hx
            have hal : Chg (fun _ => False) w1 (w1.alloc (.cells #[.string ⟨[s[j]].toArray⟩] 9)) := (Chg.refl _ w1).alloc _
            have hbn := heap_alloc_new w1 (.cells #[.string ⟨[s[j]].toArray⟩] 9)
            obtain ⟨ao5, n5, cp5, w5, hap, hn5, hown5, hc5⟩ := run_append_one 45 (HR.out.2.1.keepF hal) hbn (by have := HR.out.2.2.1; omega) (by have := HR.out.1.size; have := hal.size; omega)
            have hcw5 : Chg (fun _ => False) w w5 := (HR.out.1.trans hal (fun _ _ h => h)).trans hc5 (fun i hi e => by omega)
            have HA := hid (And.intro hn5 (And.intro hown5 hcw5))
            clear hal hbn hn5 hown5 hc5 hcw5 
            go_wp2_with (at_builtin; refine wpList_append_runb rfl (.tmp 51) (.tmp 57) 45 rfl rfl rfl hap ?_)
            clear hap
            go_wp2
            go_roundw
            case rel => exact ⟨done ++ flushP cur [] ++ [[s[j]]], [], j + 1, ao5, n5, cp5, false, rfl, rfl, by go_num, hlt, hid ⟨by rw [flush_nil]; exact HA.out.1, by rw [flush_nil]; exact HA.out.2.1, HW.out, HA.out.2.2, by have := HR.out.2.2.1; rw [flush_nil]; simp only [List.length_append, List.length_singleton] at this ⊢; omega, by simp, by simp⟩⟩
            case measure => have := hlt; simp [intOf]; omega
        | false =>
          have hmn : s[j].toNat ≠ 40 ∧ s[j].toNat ≠ 41 ∧ s[j].toNat ≠ 44 := by
            have h := hm
            unfold markP at h
            simp only [Bool.or_eq_false_iff, decide_eq_false_iff_not] at h
            omega
          cases hb : blankP s[j] with
          | true =>
            have hb0 : s[j].toNat = 32 ∨ s[j].toNat = 9 ∨ s[j].toNat = 10 := by
              have h := hb
              unfold blankP at h
              simp only [Bool.or_eq_true, decide_eq_true_eq] at h
              omega
            have HW : Hid (wordsP s [] = (wordsP (s.drop (j + 1)) []).map ((done ++ flushP cur []) ++ ·)) := hid (by rw [HREL.out.2.2.1, w_blank hlt hs hm hb])
            clear HREL hb hmn
            rcases hb0 with hb0 | hb0 | hb0
            · have hx : (s[j].toNat : Int) = 32 := by omega
              simp only [hx]
              clear hb0 hm hs hx
              go_wp2
              go_roundw
              case rel => exact ⟨done ++ flushP cur [], [], j + 1, ao3, n3, cp3, false, rfl, rfl, by go_num, hlt, hid ⟨by rw [flush_nil]; exact HR.out.2.2.2, by rw [flush_nil]; exact (HR.out.2.1), HW.out, HR.out.1, by have := HR.out.2.2.1; rw [flush_nil]; omega, by simp, by simp⟩⟩
              case measure => have := hlt; simp [intOf]; omega
            · have hx : (s[j].toNat : Int) = 9 := by omega
              simp only [hx]
              clear hb0 hm hs hx
              go_wp2
              go_roundw
              case rel => exact ⟨done ++ flushP cur [], [], j + 1, ao3, n3, cp3, false, rfl, rfl, by go_num, hlt, hid ⟨by rw [flush_nil]; exact HR.out.2.2.2, by rw [flush_nil]; exact (HR.out.2.1), HW.out, HR.out.1, by have := HR.out.2.2.1; rw [flush_nil]; omega, by simp, by simp⟩⟩
              case measure => have := hlt; simp [intOf]; omega
            · have hx : (s[j].toNat : Int) = 10 := by omega
              simp only [hx]
              clear hb0 hm hs hx
              go_wp2
              go_roundw
              case rel => exact ⟨done ++ flushP cur [], [], j + 1, ao3, n3, cp3, false, rfl, rfl, by go_num, hlt, hid ⟨by rw [flush_nil]; exact HR.out.2.2.2, by rw [flush_nil]; exact (HR.out.2.1), HW.out, HR.out.1, by have := HR.out.2.2.1; rw [flush_nil]; omega, by simp, by simp⟩⟩
              case measure => have := hlt; simp [intOf]; omega
          | false =>
            have hbn : s[j].toNat ≠ 32 ∧ s[j].toNat ≠ 9 ∧ s[j].toNat ≠ 10 := by
              have h := hb
              unfold blankP at h
              simp only [Bool.or_eq_false_iff, decide_eq_false_iff_not] at h
              omega
            have z40 : ((s[j].toNat : Int) == 40) = false := by
              have : ¬ (s[j].toNat : Int) = 40 := by omega
              simpa using this
            have y40 : ¬ (s[j].toNat : Int) = 40 := by omega
            have z41 : ((s[j].toNat : Int) == 41) = false := by
              have : ¬ (s[j].toNat : Int) = 41 := by omega
              simpa using this
            have y41 : ¬ (s[j].toNat : Int) = 41 := by omega
            have z44 : ((s[j].toNat : Int) == 44) = false := by
              have : ¬ (s[j].toNat : Int) = 44 := by omega
              simpa using this
            have y44 : ¬ (s[j].toNat : Int) = 44 := by omega
            have z32 : ((s[j].toNat : Int) == 32) = false := by
              have : ¬ (s[j].toNat : Int) = 32 := by omega
              simpa using this
            have y32 : ¬ (s[j].toNat : Int) = 32 := by omega
            have x32 : ((s[j].toNat : Int) != 32) = true := by
              have : ¬ (s[j].toNat : Int) = 32 := by omega
              simpa using this
            have z9 : ((s[j].toNat : Int) == 9) = false := by
              have : ¬ (s[j].toNat : Int) = 9 := by omega
              simpa using this
            have y9 : ¬ (s[j].toNat : Int) = 9 := by omega
            have x9 : ((s[j].toNat : Int) != 9) = true := by
              have : ¬ (s[j].toNat : Int) = 9 := by omega
              simpa using this
            have z10 : ((s[j].toNat : Int) == 10) = false := by
              have : ¬ (s[j].toNat : Int) = 10 := by omega
              simpa using this
            have y10 : ¬ (s[j].toNat : Int) = 10 := by omega
            have x10 : ((s[j].toNat : Int) != 10) = true := by
              have : ¬ (s[j].toNat : Int) = 10 := by omega
              simpa using this
            have HW : Hid (wordsP s [] = none) := hid (by rw [HREL.out.2.2.1, w_bad hlt hs hm hb])
            clear HREL hb hmn hbn hm hs
            go_wp2
            go_ret2
            exact ⟨HR.out.1, .inl ⟨HW.out, rfl⟩⟩
    · have hje : j = s.length := by omega
      have hr := HREL.out
      have HW : Hid (wordsP s [] = some (done ++ flushP cur [])) := hid (by rw [hr.2.2.1, hje, List.drop_length]; rfl)
      have HX := hid hr
      clear hr hje HREL
      go_wp2
      go_ret2
      exact ⟨HX.out.2.2.2.1, .inr ⟨_, ao3, n3, cp3, HW.out, HX.out.1, rfl, HX.out.2.1⟩⟩
end Go.Proofs.YtojbhlbknjnioaaGreatDoor

/- Is a formula true? -/
namespace Go.Proofs.YtojbhlbknjnioaaGreatDoor
open Go.RowKit

end Go.Proofs.YtojbhlbknjnioaaGreatDoor

/- The contract of a reader's end. -/
namespace Go.Proofs.YtojbhlbknjnioaaGreatDoor
open Go.RowKit

end Go.Proofs.YtojbhlbknjnioaaGreatDoor

/- The three contracts of the function that Read defers. -/
namespace Go.Proofs.YtojbhlbknjnioaaGreatDoor
open Go.RowKit

end Go.Proofs.YtojbhlbknjnioaaGreatDoor

/- The four contracts of Read, by how f ends. -/
namespace Go.Proofs.YtojbhlbknjnioaaGreatDoor
open Go.RowKit

end Go.Proofs.YtojbhlbknjnioaaGreatDoor

/- True: is a formula true, of the roles that a function tells? -/
namespace Go.Proofs.YtojbhlbknjnioaaGreatDoor
open Go.RowKit

theorem postS_endR {fn : Func} {c₀ : Frame} {cs : List Frame} {R : Ending → FrameMode → World → Prop} {u : FrameMode} {t : Array Value} {w : World} (hr : fn.results = #[]) (h : R (.returned (.tuple #[])) u w) :
    bodyPostS Tryz.prog fn c₀ cs R .normal { tmps := t, defers := [] } ({ c₀ with mode := u } :: cs) w :=
  ⟨rfl, u, rfl, .tuple #[], results_none hr _ _ _, h⟩
theorem mode_selfR {c : Frame} {u : FrameMode} (h : c.mode = u) : ({ c with mode := u } : Frame) = c := by
  subst h
  rfl

end Go.Proofs.YtojbhlbknjnioaaGreatDoor
