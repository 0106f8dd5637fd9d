/- The walk of the law TapeWrites. -/
import Derived.Test.YtbmhhnkmkalkdaaOps
import Derived.Deep.RegionHeld3
namespace Go.Proofs.Ytbmhhnkmkalkdaa
open Go.RowKit

theorem PenAt.drew {B : Nat} {w : World} {P : Nat} {ao : Option Addr} {cap : Nat} {xs : List UInt8} (h : PenAt B w P ao cap xs) : PenAt B w.drew P ao cap xs := ⟨h.cell, h.row⟩

theorem BytesAt.drew {D : Nat → Prop} {w : World} {v : Value} {l : List UInt8} (h : BytesAt D w v l) : BytesAt D w.drew v l := h

theorem bytesRow_list (acc : List UInt8) (cap : Nat) (i : Nat) (h : i < acc.length) : (bytesRow ⟨acc.toArray⟩ cap)[i]? = some (.int .u8 (acc[i].toNat : Int)) := by
  have := bytesRow_at ⟨acc.toArray⟩ cap i (by simpa using h)
  simpa using this

/-- '[]byte(s)'. -/
theorem bytes_of (acc : List UInt8) (w : World) (c : Nat) (hc : acc.length ≤ c) (hm : c ≤ maxLen) (f : Nat × Nat) :
    BytesAt (fun k => k = w.heap.size) (w.alloc (.cells (bytesRow ⟨acc.toArray⟩ c) 5 f)) (.slice (some ⟨w.heap.size, 0, none⟩) acc.length c) acc := by
  refine .inr ⟨_, 0, c, rfl, hc, hm, rfl, fun i hi => ?_⟩
  rw [cell_blk (heap_alloc_new w _), Nat.zero_add]
  exact bytesRow_list acc c i hi

theorem conv_str (acc : List UInt8) (w : World) : (convert 9 25 (.string ⟨acc.toArray⟩)).run Try.prog w = .ok (.slice (some ⟨w.heap.size, 0, none⟩) acc.length (grownCap w acc.length 0 5))
      (w.drew.alloc (.cells (bytesRow ⟨acc.toArray⟩ (grownCap w acc.length 0 5)) 5 ((bytesRow ⟨acc.toArray⟩ (grownCap w acc.length 0 5)).size, (bytesRow ⟨acc.toArray⟩ (grownCap w acc.length 0 5)).size + 1))) := by
  have := run_bytes_of_string (P := Try.prog) w 9 25 5 ⟨acc.toArray⟩ Try.underlying9 Try.underlying25 Try.underlying5
  exact this


def PenIn (P : Nat) (w : World) (acc : List UInt8) : Prop := ∃ a c, PenAt (P + 1) w P a c acc

/-- A pen's call beside a box of the caller's own. -/
def PenStep (P Q i : Nat) (v : Value) (w : World) (acc : List UInt8) (e : Ending) (w' : World) : Prop :=
  e = .returned (.bool true) ∧ Hid (PenIn P w' acc ∧ Chg (fun _ => False) w w') ∧ w'.cell? ⟨Q, i, none⟩ = some v

theorem penStep_of {P Q i : Nat} {v : Value} {w0 w w1 : World} {a : Option Addr} {c : Nat} {acc acc' : List UInt8} {e : Ending} (hc : Chg (fun _ => False) w0 w) (hp : PenAt (P + 1) w P a c acc) (hP : w0.heap.size ≤ P) (hQ : w.cell? ⟨Q, i, none⟩ = some v) (hQP : Q ≠ P) (hrow : ∀ k, rowOf a = some k → k < Q)
    (h : e = .returned (.bool true) ∧ PenPost (P + 1) P a acc' w w1) : PenStep P Q i v w0 acc' e w1 := by
  obtain ⟨h1, a', c', hp', hch⟩ := h
  refine ⟨h1, ⟨⟨a', c', hp'⟩, pchg_new hc hp (by omega) hP hch⟩, hch.chg.cell hQ ?_⟩
  rintro (h | h)
  · exact hQP h
  · have := hrow _ h
    simp at this

def WInv (P : Nat) (k : Nat) (w : World) (acc : List UInt8) (wr : World) : Prop :=
  (∃ a c, PenAt (P + 1) wr P a c acc) ∧ Chg (fun _ => False) w wr ∧ acc.length ≤ k * 3009

set_option maxRecDepth 100000 in
set_option maxHeartbeats 1000000 in
theorem writes_walk (ao0 : Option Addr) (cp : Nat) (ops : List OpR) (w : World) (hlen : ops.length ≤ 9223372036854775807) (hop : ∀ i (h : i < ops.length), ∃ b off, ao0 = some ⟨b, off, none⟩ ∧ OpAt (fun k => k < w.heap.size) w b (off + i * 3) ops[i]) :
    Calls Try.prog 3 #[.slice ao0 ops.length cp] w fun e w' => e = .returned (.bool true) ∧ Chg (fun _ => False) w w' := by
  go_enter Try.func3, Try.ntmps3
  go_wp2_with (go_at_call 7; refine (first_any _).mono ?_; rintro e w1 ⟨rfl, hc1⟩)
  have hw1 := hc1.size
  have hp1 := pen_new w1 (w1.heap.size + 1)
  have hc2 : Chg (fun _ => False) w (w1.alloc (.cells #[.slice none 0 0] 27)) := hc1.alloc _
  obtain ⟨P, hP⟩ : ∃ P, P = w1.heap.size := ⟨_, rfl⟩
  rw [← hP] at hp1 hw1 ⊢
  generalize w1.alloc (.cells #[.slice none 0 0] 27) = w2 at *
  clear hc1 hP
  go_loopw [5, 15] (fun s i wr => ∃ (k : Nat) (acc : List UInt8), i = .int .i64 k ∧ k ≤ ops.length ∧ k ≤ 60 ∧ s = .string ⟨acc.toArray⟩ ∧ WInv P k w acc wr) (fun _ i _ => ops.length - (intOf i).toNat)
  case atStart => exact ⟨0, [], rfl, Nat.zero_le _, Nat.zero_le _, rfl, ⟨_, _, hp1⟩, hc2, Nat.zero_le _⟩
  case round =>
    obtain ⟨k, acc, rfl, hk, hk60, rfl, ⟨a, c, hp⟩, hc, hal⟩ := hrel
    by_cases hlt : k < ops.length
    · obtain ⟨b, off, rfl, ⟨d0, x1, x2⟩, ⟨d1, y1, y2⟩, v, d2, hv⟩ := hop k hlt
      clear hop
      have c0 := hc.cell d0 id
      have c1 := hc.cell d1 id
      have c2' := hc.cell d2 id
      clear d0 d1 d2
      obtain ⟨ao, cap, rfl⟩ := hv.shape
      by_cases h60 : k < 60
      · by_cases hbl : 3000 < ops[k].b.length
        · go_wp2
          go_ret
          exact ⟨rfl, hc.alloc _⟩
        · generalize ops[k] = x at *
          obtain ⟨kd, n, bz⟩ := x
          dsimp only at *
          by_cases hev : kd.tmod 2 = 0
          · by_cases hn : 0 ≤ n
            · go_wp2_with fail
              have hQ : (wr.alloc (.cells #[.int .i64 kd, .int .i64 n, .slice ao bz.length cap] 29)).heap[wr.heap.size]? = some (.cells #[.int .i64 kd, .int .i64 n, .slice ao bz.length cap] 29 (0, 0)) := heap_alloc_new wr _
              have hc8 : Chg (fun _ => False) wr (wr.alloc (.cells #[.int .i64 kd, .int .i64 n, .slice ao bz.length cap] 29)) := (Chg.refl _ wr).alloc _
              have hp8 := hp.keep hc8 id (fun _ _ => id)
              have hrow : ∀ k, rowOf a = some k → P + 1 ≤ k ∧ k < wr.heap.size := fun k hk => hp.row.lt k ((rowOf_block _ _ _).trans hk)
              have hPw := lt_blk hp.cell
              have hs8 : wr.heap.size < (wr.alloc (.cells #[.int .i64 kd, .int .i64 n, .slice ao bz.length cap] 29)).heap.size := by simp
              have hc8' := hc.trans hc8 (fun _ _ h => h)
              clear hp hc hc8 c0 c1 c2'
              generalize wr.alloc (.cells #[.int .i64 kd, .int .i64 n, .slice ao bz.length cap] 29) = w8 at *
              generalize wr.heap.size = Q at *
              have q1 := cell_blk hQ 1
              simp only [List.getElem?_toArray, List.getElem?_cons_zero, List.getElem?_cons_succ] at q1
              obtain ⟨m, rfl⟩ : ∃ m : Nat, n = m := ⟨n.toNat, by omega⟩
              have hm9 := enc_length9 (n := m) (by omega)
              have hpn := (pnum_any (P + 1) P c m a acc w8.drew (by omega) hp8.drew (by show P + 1 ≤ w8.heap.size; omega) (by omega) (by omega)).mono (fun e w9 h => penStep_of (w0 := w) (Q := Q) (i := 1) (v := .int .i64 m) hc8'.drew hp8.drew (by omega) q1 (by omega) (fun k hk => (hrow k hk).2) h)
              clear hp8 hc8' hrow hQ
              go_region_held3 (fun w' => w'.cell? ⟨Q, 1, none⟩ = some (.int .i64 (m : Int))) (first | go_keep | assumption) (first | (go_at_call 8; ((with_reducible refine hpn.mono ?_); rintro e w9 ⟨rfl, hp9, q9⟩)) | (go_at_call 8; ((with_reducible refine (pnum_nil _ _).mono ?_); rintro e w' ⟨rfl, rfl⟩)))
              have hrn := fun wx => refnum_any m wx (by omega)
              go_wp2_with (go_at_call 9; ((with_reducible refine (hrn _).mono ?_); rintro e w10 ⟨rfl, hc10⟩))
              obtain ⟨⟨a9, c9, hp9'⟩, hc9⟩ := hp9.out
              go_roundw
              case rel => exact ⟨k + 1, acc ++ enc m, by go_num, by omega, by omega, congrArg Value.string (ByteArray.mk_append_mk acc (enc m)), ⟨_, _, hp9'.keep hc10 id (fun _ _ => id)⟩, hc9.trans hc10 (fun _ _ h => h), by simp only [List.length_append]; omega⟩
              case measure => simp [intOf]; omega
            · have hnd : decide (0 ≤ n) = false := decide_eq_false hn
              go_wp2_with fail
              have hQ : (wr.alloc (.cells #[.int .i64 kd, .int .i64 n, .slice ao bz.length cap] 29)).heap[wr.heap.size]? = some (.cells #[.int .i64 kd, .int .i64 n, .slice ao bz.length cap] 29 (0, 0)) := heap_alloc_new wr _
              have hc8 : Chg (fun _ => False) wr (wr.alloc (.cells #[.int .i64 kd, .int .i64 n, .slice ao bz.length cap] 29)) := (Chg.refl _ wr).alloc _
              have hp8 := hp.keep hc8 id (fun _ _ => id)
              have hc8' := hc.trans hc8 (fun _ _ h => h)
              clear hp hc hc8 c0 c1 c2'
              generalize wr.alloc (.cells #[.int .i64 kd, .int .i64 n, .slice ao bz.length cap] 29) = w8 at *
              generalize wr.heap.size = Q at *
              have q1 := cell_blk hQ 1
              simp only [List.getElem?_toArray, List.getElem?_cons_zero, List.getElem?_cons_succ] at q1
              have hpn := fun wx => pnum_neg P n (by omega) wx
              have HK := hid (And.intro hp8 hc8')
              clear hp8 hc8' hQ
              go_region_held3 (fun w' => w'.cell? ⟨Q, 1, none⟩ = some (.int .i64 n)) (first | go_keep | assumption) (first | (go_at_call 8; ((with_reducible refine (hpn _).mono ?_); rintro e w9 ⟨rfl, rfl⟩)) | (go_at_call 8; ((with_reducible refine (pnum_nil _ _).mono ?_); rintro e w' ⟨rfl, rfl⟩)))
              go_wp2
              go_roundw
              case rel => exact ⟨k + 1, acc, by go_num, by omega, by omega, rfl, ⟨_, _, HK.out.1.drew⟩, HK.out.2.drew, by omega⟩
              case measure => simp [intOf]; omega
          · by_cases ht : (bz.length : Int) ≤ 2048
            · go_wp2_with fail
              have hQ : (wr.alloc (.cells #[.int .i64 kd, .int .i64 n, .slice ao bz.length cap] 29)).heap[wr.heap.size]? = some (.cells #[.int .i64 kd, .int .i64 n, .slice ao bz.length cap] 29 (0, 0)) := heap_alloc_new wr _
              have hc8 : Chg (fun _ => False) wr (wr.alloc (.cells #[.int .i64 kd, .int .i64 n, .slice ao bz.length cap] 29)) := (Chg.refl _ wr).alloc _
              have hp8 := hp.keep hc8 id (fun _ _ => id)
              have hrow : ∀ k, rowOf a = some k → P + 1 ≤ k ∧ k < wr.heap.size := fun k hk => hp.row.lt k ((rowOf_block _ _ _).trans hk)
              have hPw := lt_blk hp.cell
              have hs8 : wr.heap.size < (wr.alloc (.cells #[.int .i64 kd, .int .i64 n, .slice ao bz.length cap] 29)).heap.size := by simp
              have hc8' := hc.trans hc8 (fun _ _ h => h)
              have hv8 := hv.keep hc8' (fun _ _ => id)
              clear hp hc hc8 c0 c1 c2'
              generalize wr.alloc (.cells #[.int .i64 kd, .int .i64 n, .slice ao bz.length cap] 29) = w8 at *
              generalize wr.heap.size = Q at *
              have q2 := cell_blk hQ 2
              simp only [List.getElem?_toArray, List.getElem?_cons_zero, List.getElem?_cons_succ] at q2
              have hm9 := enc_length9 (n := bz.length) (by omega)
              have hpn := (text_any (P + 1) P c a acc bz (.slice ao bz.length cap) w8.drew hp8.drew (by show P + 1 ≤ w8.heap.size; omega) (by omega) (by omega) (by omega) hv8.drew (fun i hi => ⟨by omega, fun h => by have := hrow _ h; omega⟩)).mono (fun e w9 h => penStep_of (w0 := w) (Q := Q) (i := 2) (v := .slice ao bz.length cap) hc8'.drew hp8.drew (by omega) q2 (by omega) (fun k hk => (hrow k hk).2) h)
              have HV := hid hv
              clear hp8 hc8' hrow hQ hv8 hv
              go_region_held3 (fun w' => w'.cell? ⟨Q, 2, none⟩ = some (.slice ao bz.length cap)) (first | go_keep | assumption) (first | (go_at_call 10; ((with_reducible refine hpn.mono ?_); rintro e w9 ⟨rfl, hp9, q9⟩)) | (go_at_call 10; ((with_reducible refine (text_nil _ _ _ _).mono ?_); rintro e w' ⟨rfl, rfl⟩)))
              have hconv := conv_bytes (HV.out.keep hp9.out.2 (fun _ _ => id))
              have hrn := fun wx => reftext_any bz wx (by omega)
              go_wp2_with (go_at_call 11; ((with_reducible refine (hrn _).mono ?_); rintro e w10 ⟨rfl, hc10⟩))
              obtain ⟨⟨a9, c9, hp9'⟩, hc9⟩ := hp9.out
              go_roundw
              case rel => exact ⟨k + 1, acc ++ (enc bz.length ++ bz), by go_num, by omega, by omega, congrArg Value.string (ByteArray.mk_append_mk acc (enc bz.length ++ bz)), ⟨_, _, hp9'.keep hc10 id (fun _ _ => id)⟩, hc9.trans hc10 (fun _ _ h => h), by simp only [List.length_append]; omega⟩
              case measure => simp [intOf]; omega
            · have hnd : decide ((bz.length : Int) ≤ 2048) = false := decide_eq_false ht
              go_wp2_with fail
              have hQ : (wr.alloc (.cells #[.int .i64 kd, .int .i64 n, .slice ao bz.length cap] 29)).heap[wr.heap.size]? = some (.cells #[.int .i64 kd, .int .i64 n, .slice ao bz.length cap] 29 (0, 0)) := heap_alloc_new wr _
              have hc8 : Chg (fun _ => False) wr (wr.alloc (.cells #[.int .i64 kd, .int .i64 n, .slice ao bz.length cap] 29)) := (Chg.refl _ wr).alloc _
              have hp8 := hp.keep hc8 id (fun _ _ => id)
              have hc8' := hc.trans hc8 (fun _ _ h => h)
              clear hp hc hc8 c0 c1 c2' hv
              generalize wr.alloc (.cells #[.int .i64 kd, .int .i64 n, .slice ao bz.length cap] 29) = w8 at *
              generalize wr.heap.size = Q at *
              have q2 := cell_blk hQ 2
              simp only [List.getElem?_toArray, List.getElem?_cons_zero, List.getElem?_cons_succ] at q2
              have hpn := fun wx => text_long P ao bz.length cap (by omega) wx
              have HK := hid (And.intro hp8 hc8')
              clear hp8 hc8' hQ
              go_region_held3 (fun w' => w'.cell? ⟨Q, 2, none⟩ = some (.slice ao bz.length cap)) (first | go_keep | assumption) (first | (go_at_call 10; ((with_reducible refine (hpn _).mono ?_); rintro e w9 ⟨rfl, rfl⟩)) | (go_at_call 10; ((with_reducible refine (text_nil _ _ _ _).mono ?_); rintro e w' ⟨rfl, rfl⟩)))
              go_wp2
              go_roundw
              case rel => exact ⟨k + 1, acc, by go_num, by omega, by omega, rfl, ⟨_, _, HK.out.1.drew⟩, HK.out.2.drew, by omega⟩
              case measure => simp [intOf]; omega
      · go_wp2
        go_ret
        exact ⟨rfl, hc.alloc _⟩
    · clear hop
      obtain rfl : k = ops.length := by omega
      have hcv := conv_str acc wr
      have hg1 := grownCap_ge wr acc.length 0 5
      have hg2 := grownCap_le_maxLen wr acc.length 0 5 (by unfold maxLen; omega)
      have hba := (bytes_of acc wr (grownCap wr acc.length 0 5) hg1 hg2 ((bytesRow ⟨acc.toArray⟩ (grownCap wr acc.length 0 5)).size, (bytesRow ⟨acc.toArray⟩ (grownCap wr acc.length 0 5)).size + 1)).drew
      have hrow : ∀ k, rowOf a = some k → P + 1 ≤ k ∧ k < wr.heap.size := fun k hk => hp.row.lt k ((rowOf_block _ _ _).trans hk)
      have hPw := lt_blk hp.cell
      have hc3 : Chg (fun _ => False) wr (wr.alloc (.cells (bytesRow ⟨acc.toArray⟩ (grownCap wr acc.length 0 5)) 5 ((bytesRow ⟨acc.toArray⟩ (grownCap wr acc.length 0 5)).size, (bytesRow ⟨acc.toArray⟩ (grownCap wr acc.length 0 5)).size + 1))).drew := ((Chg.refl _ wr).alloc _).drew
      have hp3 := hp.keep hc3 id (fun _ _ => id)
      have hc3' := hc.trans hc3 (fun _ _ h => h)
      go_wp2_with fail
      clear hcv hg1 hg2 hp hc
      have hs3 := hc3.size
      clear hc3
      generalize (wr.alloc (.cells (bytesRow ⟨acc.toArray⟩ (grownCap wr acc.length 0 5)) 5 ((bytesRow ⟨acc.toArray⟩ (grownCap wr acc.length 0 5)).size, (bytesRow ⟨acc.toArray⟩ (grownCap wr acc.length 0 5)).size + 1))).drew = w3 at *
      generalize grownCap wr acc.length 0 5 = gc at *
      refine (raw_any (P + 1) P c a acc acc _ w3 hp3 (by omega) (by omega) (by omega) hba).mono ?_
      rintro e w4 ⟨rfl, a4, c4, hp4, hch4⟩
      have hc4 := pchg_new hc3' hp3 (by omega) hw1 hch4
      clear hp3 hc3' hba hch4 hrow
      have hs4 := hc4.size
      have hbs := bytes_any (P + 1) P c4 a4 (acc ++ acc) w4 hp4 (by simp only [List.length_append]; omega)
      clear hp4
      have hsz : acc.length + acc.length ≤ 9223372036854775807 := by omega
      go_wp2_with (go_at_call 13; ((with_reducible refine hbs.mono ?_); rintro e w5 ⟨a5, c5, rfl, hb5, hc5⟩; have hconv := conv_bytes hb5; rw [List.length_append, ← ByteArray.mk_append_mk] at hconv))
      have hc5' := hc4.trans hc5 (fun _ _ h => h)
      clear hb5 hc5 hbs
      go_wp2_with (first | (go_at_call 13; ((with_reducible refine (bytes_nil _).mono ?_); rintro e w6 ⟨rfl, rfl⟩)) | (go_at_call 12; ((with_reducible refine (raw_nil _ _ _ _).mono ?_); rintro e w6 ⟨rfl, rfl⟩)))
      go_ret
      exact ⟨rfl, hc5'⟩

end Go.Proofs.Ytbmhhnkmkalkdaa
