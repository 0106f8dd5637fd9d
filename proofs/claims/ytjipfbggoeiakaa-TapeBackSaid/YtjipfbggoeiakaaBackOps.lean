/- The first f of TapeBack: what was written is read again. -/
import Derived.Test.YtjipfbggoeiakaaBackRead
import Derived.Test.YtjipfbggoeiakaaOps
import Derived.Test.YtjipfbggoeiakaaReg
namespace Go.Proofs.Ytjipfbggoeiakaa
open Go.RowKit

/-- An operation's bytes; all. -/
def encOp (x : OpR) : List UInt8 := if x.kind.tmod 2 = 0 then enc x.n.toNat else enc x.b.length ++ x.b
def encAll : List OpR → List UInt8
  | [] => []
  | x :: xs => encOp x ++ encAll xs

/-- One that a pen takes, and that the law's f reads. -/
def Taken (x : OpR) : Prop := (x.kind.tmod 2 = 0 → 0 ≤ x.n) ∧ (x.kind.tmod 2 ≠ 0 → x.b.length ≤ 300)

theorem errNum_enc {m : Nat} (h : m < 9223372036854775808) (r : List UInt8) : errNum (enc m ++ r) m = 0 := by
  unfold errNum
  rw [numN_enc9 h r]
  simp

theorem drop_enc {m : Nat} (h : m < 9223372036854775808) (r : List UInt8) : (enc m ++ r).drop (numN 9 (enc m ++ r) 0 0).2.1 = r := by
  rw [numN_enc9 h r]
  simp

theorem errText_enc {b : List UInt8} (h : b.length ≤ 300) (r : List UInt8) : errText (enc b.length ++ b ++ r) 300 = 0 := by
  rw [List.append_assoc]
  unfold errText
  rw [numN_enc9 (by omega) (b ++ r)]
  have h1 : ¬ (300 : Int) < (b.length : Int) := by omega
  simp [h1]

structure Inv29 (R G : Nat) (D : Nat → Prop) (rest : List UInt8) (w wr : World) : Prop where
  reader : ∃ v, BytesAt D wr v rest ∧ ReaderAt wr R true v 0
  good : wr.heap[G]? = some (.cells #[.bool true] 4 (0, 0))
  chg : Chg (fun k => k = R ∨ k = G) w wr

section
variable {R G : Nat} {D : Nat → Prop} {rest rest' : List UInt8} {w wr w' : World}

theorem Inv29.drew (h : Inv29 R G D rest w wr) : Inv29 R G D rest w wr.drew := ⟨h.reader, h.good, h.chg.drew⟩

theorem Inv29.keep (h : Inv29 R G D rest w wr) (hc : Chg (fun _ => False) wr w') : Inv29 R G D rest w w' := by
  obtain ⟨⟨v, hv, hR⟩, hg, hch⟩ := h
  exact ⟨⟨v, hv.keep hc (fun _ _ => id), blk_keep hR hc id⟩, blk_keep hg hc id, hch.trans hc (fun _ _ h => h.elim)⟩

theorem Inv29.rstep (hRG : G ≠ R) (h : Inv29 R G D rest w wr) (hc : Chg (· = R) wr w') (hr : ∃ v, BytesAt D w' v rest' ∧ ReaderAt w' R true v 0) : Inv29 R G D rest' w w' :=
  ⟨hr, blk_keep h.good hc hRG, h.chg.trans hc (fun _ _ h => .inl h)⟩

theorem Inv29.gstep (hRG : G ≠ R) (hD : ∀ i, D i → i ≠ R ∧ i ≠ G) (h : Inv29 R G D rest w wr) : Inv29 R G D rest w (wr.setCell ⟨G, 0, none⟩ (.bool true)) := by
  have hc := setCell_chg wr G 0 (.bool true)
  obtain ⟨⟨v, hv, hR⟩, hg, hch⟩ := h
  exact ⟨⟨v, hv.keep hc (fun i hi => (hD i hi).2), blk_keep hR hc (fun h => hRG h.symm)⟩, set_blk hg 0 (.bool true), hch.trans hc (fun _ _ h => .inr h)⟩
end

/-- What holds of the world in the round's line: is the call of the reader behind it? -/
structure St29 (R G Q : Nat) (D : Nat → Prop) (rest r : List UInt8) (w : World) (bx : Array Value) (vb : Value) (bz : List UInt8) (b : Bool) (w' : World) : Prop where
  inv : Inv29 R G D (if b then r else rest) w w'
  box : w'.heap[Q]? = some (.cells bx 29 (0, 0))
  bytes : BytesAt D w' vb bz

section
variable {R G Q : Nat} {D : Nat → Prop} {rest r : List UInt8} {w : World} {bx : Array Value} {vb : Value} {bz : List UInt8} {b : Bool} {w' : World}
theorem St29.good (h : St29 R G Q D rest r w bx vb bz b w') : w'.cell? ⟨G, 0, none⟩ = some (.bool true) := cell_blk h.inv.good 0
theorem St29.free (h : St29 R G Q D rest r w bx vb bz b w') : w'.frozen? ⟨G, 0, none⟩ = false := froz_blk h.inv.good 0
theorem St29.cell (h : St29 R G Q D rest r w bx vb bz b w') (j : Nat) : w'.cell? ⟨Q, j, none⟩ = bx[j]? := cell_blk h.box j
theorem St29.store (hRG : G ≠ R) (hQ : Q ≠ G) (hD : ∀ i, D i → i ≠ R ∧ i ≠ G) (h : St29 R G Q D rest r w bx vb bz b w') : St29 R G Q D rest r w bx vb bz b (w'.setCell ⟨G, 0, none⟩ (.bool true)) :=
  ⟨h.inv.gstep hRG hD, blk_keep h.box (setCell_chg w' G 0 (.bool true)) hQ, h.bytes.keep (setCell_chg w' G 0 (.bool true)) (fun i hi => (hD i hi).2)⟩
theorem St29.rstep (hRG : G ≠ R) (hQ : Q ≠ R) (hD : ∀ i, D i → i ≠ R ∧ i ≠ G) (h : St29 R G Q D rest r w bx vb bz false w') {w9 : World} (hc : Chg (· = R) w' w9) (hr : ∃ v, BytesAt D w9 v r ∧ ReaderAt w9 R true v 0) : St29 R G Q D rest r w bx vb bz true w9 :=
  ⟨Inv29.rstep hRG h.inv hc hr, blk_keep h.box hc hQ, h.bytes.keep hc (fun i hi => (hD i hi).1)⟩
end

def SpecR.textv (R G : Nat) (bz : List UInt8) : SpecR (Chg fun k => k = R ∨ k = G) :=
  ⟨fun v w => ∃ ao cp, v = .slice ao bz.length cp ∧ BytesAt (fun k => k ≠ R ∧ k ≠ G) w v bz, fun _ _ _ hc ⟨ao, cp, h1, h2⟩ => ⟨ao, cp, h1, h2.keep hc (fun i hi h => h.elim hi.1 hi.2)⟩⟩

def sp29 (R G Q : Nat) (kd : Int) (m : Nat) : List (SpecR (Chg fun k => k = R ∨ k = G)) := [.eq (.pointer (some ⟨R, 0, none⟩)), .any, .eq (.pointer (some ⟨G, 0, none⟩)), .any, .any, .eq (.pointer (some ⟨Q, 0, none⟩)), .any, .any, .any, .any, .any, .any, .eq (.bool true), .eq (.bool true), .eq (.pointer (some ⟨Q, 0, none⟩)), .eq (.int .i64 kd), .eq (.int .i64 0), .eq (.bool false), .eq (.bool false), .eq (.pointer (some ⟨R, 0, none⟩)), .eq (.pointer (some ⟨Q, 1, none⟩)), .eq (.int .i64 (m : Int)), .eq (.int .i64 (m : Int)), .eq (.pointer (some ⟨Q, 1, none⟩)), .eq (.int .i64 (m : Int)), .eq (.bool true), .eq (.bool true), .eq (.bool true), .eq (.bool true), .eq (.pointer (some ⟨Q, 0, none⟩)), .eq (.int .i64 kd), .eq (.int .i64 0), .eq (.bool true), .eq (.bool true), .any, .any, .any, .any, .any, .any, .any, .eq (.bool true), .eq (.bool true), .any]
def sp29o (R G Q : Nat) (kd : Int) (ao2 : Option Addr) (cp2 : Nat) (bz : List UInt8) : List (SpecR (Chg fun k => k = R ∨ k = G)) := [.eq (.pointer (some ⟨R, 0, none⟩)), .any, .eq (.pointer (some ⟨G, 0, none⟩)), .any, .any, .eq (.pointer (some ⟨Q, 0, none⟩)), .any, .any, .any, .any, .any, .any, .eq (.bool true), .eq (.bool true), .eq (.pointer (some ⟨Q, 0, none⟩)), .eq (.int .i64 kd), .eq (.int .i64 (kd.tmod 2)), .eq (.bool true), .eq (.bool true), .any, .any, .any, .any, .any, .any, .any, .eq (.bool true), .eq (.bool true), .eq (.bool true), .eq (.pointer (some ⟨Q, 0, none⟩)), .eq (.int .i64 kd), .eq (.int .i64 (kd.tmod 2)), .eq (.bool false), .eq (.bool false), .eq (.pointer (some ⟨R, 0, none⟩)), .textv R G bz, .eq (.string ⟨bz.toArray⟩), .eq (.pointer (some ⟨Q, 2, none⟩)), .eq (.slice ao2 bz.length cp2), .eq (.string ⟨bz.toArray⟩), .eq (.bool true), .eq (.bool true), .eq (.bool true), .any]

set_option maxRecDepth 100000 in
set_option maxHeartbeats 4000000 in
theorem c29_any (R V G : Nat) (D : Nat → Prop) (ao : Option Addr) (cp : Nat) (ds : List OpR) (w : World) (hD : ∀ i, D i → i ≠ R ∧ i ≠ G) (hDw : ∀ i, D i → i < w.heap.size) (hRG : G ≠ R) (hRw : R < w.heap.size) (hVR : V ≠ R ∧ V ≠ G) (hlen : ds.length ≤ 60) (hds : ∀ x ∈ ds, Taken x) (hl : (encAll ds).length ≤ 30000)
    (hV : w.heap[V]? = some (.cells #[.slice ao ds.length cp] 22 (0, 0))) (hops : OpsAt D w ao ds) (hi : Inv29 R G D (encAll ds) w w) :
    Calls Try.prog 31 #[.pointer (some ⟨R, 0, none⟩), .pointer (some ⟨V, 0, none⟩), .pointer (some ⟨G, 0, none⟩)] w fun e w' => e = .returned (.tuple #[]) ∧ Inv29 R G D [] w w' := by
  have v0 := cell_blk hV 0
  simp only [List.getElem?_toArray, List.getElem?_cons_zero] at v0
  go_enter Try.func31, Try.ntmps31
  go_wp2_with fail
  clear v0
  go_loopw [8] (fun i wr => ∃ (k : Nat) (rest : List UInt8), i = .int .i64 k ∧ k ≤ ds.length ∧ Hid (rest = encAll (ds.drop k)) ∧ rest.length ≤ 30000 ∧ Inv29 R G D rest w wr) (fun i _ => ds.length - (intOf i).toNat)
  case atStart => exact ⟨0, encAll ds, rfl, Nat.zero_le _, rfl, hl, hi⟩
  case round =>
    clear hi
    obtain ⟨k, rest, rfl, hk, hr, hrl, hi⟩ := hrel
    by_cases hlt : k < ds.length
    · obtain ⟨b, off, rfl, hbL, ⟨d0, x1, x2⟩, ⟨d1, y1, y2⟩, vb, d2, hvb⟩ := hops k hlt
      obtain ⟨ao2, cp2, rfl⟩ := hvb.shape
      have hnS : ∀ i, D i → ¬ (i = R ∨ i = G) := by rintro i hi (h | h) <;> have := hD i hi <;> omega
      have c0 := hi.chg.cell d0 (hnS _ hbL)
      have c1 := hi.chg.cell d1 (hnS _ hbL)
      have c2 := hi.chg.cell d2 (hnS _ hbL)
      have hvb1 := hvb.keep hi.chg hnS
      have hr2 : Hid (rest = encOp ds[k] ++ encAll (ds.drop (k + 1))) := by
        rw [hr.out, List.drop_eq_getElem_cons hlt]
        exact hid rfl
      have htk := hds ds[k] (List.getElem_mem hlt)
      clear d0 d1 d2 hvb hr hops hds
      generalize ds[k] = x at *
      obtain ⟨r, hrr⟩ : ∃ r, r = encAll (ds.drop (k + 1)) := ⟨_, rfl⟩
      rw [← hrr] at hr2
      have HRR := hid hrr
      clear hrr
      obtain ⟨kd, n, bz⟩ := x
      dsimp only at *
      have hQ : (wr.alloc (.cells #[.int .i64 kd, .int .i64 n, .slice ao2 bz.length cp2] 29)).heap[wr.heap.size]? = some (.cells #[.int .i64 kd, .int .i64 n, .slice ao2 bz.length cp2] 29 (0, 0)) := heap_alloc_new wr _
      have hca : Chg (fun _ => False) wr (wr.alloc (.cells #[.int .i64 kd, .int .i64 n, .slice ao2 bz.length cp2] 29)) := (Chg.refl _ wr).alloc _
      have hi8 := hi.keep hca
      have hvb8 := hvb1.keep hca (fun _ _ => id)
      have hQR : R < wr.heap.size ∧ G < wr.heap.size := by
        have := lt_blk hi.good
        obtain ⟨v, hv, hR⟩ := hi.reader
        have := lt_blk hR
        omega
      have hQG : wr.heap.size ≠ G ∧ wr.heap.size ≠ R := by omega
      have hSc : ∀ x, Chg (fun k => k = R ∨ k = G) x (x.setCell ⟨G, 0, none⟩ (.bool true)) := fun x => (setCell_chg x G 0 (.bool true)).mono (fun _ _ h => .inr h)
      by_cases hev : kd.tmod 2 = 0
      · obtain ⟨m, rfl⟩ : ∃ m : Nat, n = m := ⟨n.toNat, by have h0 := htk.1 hev; dsimp only at h0; omega⟩
        have hr3 : rest = enc m ++ r := by
          rw [hr2.out, encOp, if_pos hev]
          rfl
        clear hr2
        go_wp2_with fail
        clear c0 c1 c2 hi hvb1 hca
        generalize wr.alloc (.cells #[.int .i64 kd, .int .i64 m, .slice ao2 bz.length cp2] 29) = wa at *
        generalize wr.heap.size = Q at *
        have hrl2 := congrArg List.length hr3
        rw [List.length_append] at hrl2
        have hnum : ∀ w9, St29 R G Q D rest r w #[.int .i64 kd, .int .i64 m, .slice ao2 bz.length cp2] (.slice ao2 bz.length cp2) bz false w9 → Calls Try.prog 20 #[.pointer (some ⟨R, 0, none⟩), .int .i64 m] w9 fun e w2 => e = .returned (.int .i64 m) ∧ Chg (fun k => k = R ∨ k = G) w9 w2 ∧ St29 R G Q D rest r w #[.int .i64 kd, .int .i64 m, .slice ao2 bz.length cp2] (.slice ao2 bz.length cp2) bz true w2 := by
          intro w9 hs
          obtain ⟨v, hv, hR⟩ := hs.inv.reader
          rw [if_neg (by decide)] at hv
          refine (rnum_reads (most := m) (w := w9) (by omega) hv (fun h => (hD _ h).1 rfl) hR (by rw [hr3]; exact errNum_enc (by omega) r)).mono ?_
          rintro e w2 ⟨rfl, v', h1, h2, h3⟩
          have e1 : (numN 9 rest 0 0).1 = m := by rw [hr3, numN_enc9 (by omega) r]
          have e2 : rest.drop (numN 9 rest 0 0).2.1 = r := by rw [hr3]; exact drop_enc (by omega) r
          rw [e2] at h1
          rw [e1]
          exact ⟨rfl, h3.mono (fun _ _ h => .inl h), hs.rstep hRG hQG.2 hD h3 ⟨v', h1, h2⟩⟩
        have hs0 : St29 R G Q D rest r w #[.int .i64 kd, .int .i64 m, .slice ao2 bz.length cp2] (.slice ao2 bz.length cp2) bz false wa := ⟨hi8, hQ, hvb8⟩
        have HX := hid (And.intro hrl2 hrl)
        clear hi8 hQ hvb8 hr3
        refine wp_region_state (Chg fun k => k = R ∨ k = G) (fun L w9 => St29 R G Q D rest r w #[.int .i64 kd, .int .i64 m, .slice ao2 bz.length cp2] (.slice ao2 bz.length cp2) bz (L 10) w9) (specAtR (sp29 R G Q kd m)) [12, 13, 14, 15, 16, 17, 18, 19, 20, 21, 22, 23, 24, 25, 26, 27, 28, 29, 30, 31, 32, 33, 34, 35, 36, 37, 38, 39, 40, 41, 42] [0, 2, 5] (by kernel_rfl) (by kernel_rfl) ⟨hs0.inv.drew, hs0.box, hs0.bytes⟩ (fun t v w w' hc h => specAtR_st _ t v w w' hc h) (by rfl) (by kernel_rfl) ?start ?obs ?fin
        case start =>
          simp only [List.forall_mem_cons]
          exact ⟨⟨_, rfl, rfl⟩, ⟨_, rfl, rfl⟩, ⟨_, rfl, rfl⟩, fun _ h => by cases h⟩
        case obs =>
          clear hrl2 hrl hs0
          refine ObsL.cons none (by kernel_rfl) ?_ ?_
          · refine ObL.plain fun L a w hi he hW hk K k => ?_
            obtain ⟨_, e2, rfl⟩ := hk 2 (by decide)
            clear hk he
            clear hi
            have q := hW.good
            go_simp
            exact k _ _ (Chg.refl _ _) hW rfl
          refine ObsL.cons none (by kernel_rfl) ?_ ?_
          · refine ObL.plain fun L a w hi he hW hk K k => ?_
            obtain ⟨_, e12, f12⟩ := hk 12 (by decide)
            clear hk he
            clear hi
            go_simp
            exact k _ _ (Chg.refl _ _) hW f12
          refine ObsL.cons (some (13, true)) (by kernel_rfl) ?_ ?_
          · refine ObL.yes (fun _ _ h => h) fun L a w hi he hW hk K k => ?_
            obtain ⟨_, e5, rfl⟩ := hk 5 (by decide)
            clear hk he
            clear hi
            go_simp
            exact k _ _ (Chg.refl _ _) hW rfl
          refine ObsL.cons (some (13, true)) (by kernel_rfl) ?_ ?_
          · refine ObL.yes (fun _ _ h => h) fun L a w hi he hW hk K k => ?_
            obtain ⟨_, e14, rfl⟩ := hk 14 (by decide)
            clear hk he
            clear hi
            have q : w.cell? ⟨Q, 0, none⟩ = some (.int .i64 kd) := hW.cell 0
            go_simp
            exact k _ _ (Chg.refl _ _) hW rfl
          refine ObsL.cons (some (13, true)) (by kernel_rfl) ?_ ?_
          · refine ObL.yes (fun _ _ h => h) fun L a w hi he hW hk K k => ?_
            obtain ⟨_, e15, rfl⟩ := hk 15 (by decide)
            clear hk he
            clear hi
            have z := hev
            go_simp
            exact k _ _ (Chg.refl _ _) hW rfl
          refine ObsL.cons (some (13, true)) (by kernel_rfl) ?_ ?_
          · refine ObL.yes (fun _ _ h => h) fun L a w hi he hW hk K k => ?_
            obtain ⟨_, e16, rfl⟩ := hk 16 (by decide)
            clear hk he
            clear hi
            go_simp
            exact k _ _ (Chg.refl _ _) hW rfl
          refine ObsL.cons (some (13, true)) (by kernel_rfl) ?_ ?_
          · refine ObL.yes (fun _ _ h => h) fun L a w hi he hW hk K k => ?_
            obtain ⟨_, e17, f17⟩ := hk 17 (by decide)
            clear hk he
            clear hi
            go_simp
            exact k _ _ (Chg.refl _ _) hW f17
          refine ObsL.cons (some (18, false)) (by kernel_rfl) ?_ ?_
          · refine ObL.yes (fun _ _ h => h) fun L a w hi he hW hk K k => ?_
            obtain ⟨_, e0, f0⟩ := hk 0 (by decide)
            clear hk he
            clear hi
            go_simp
            exact k _ _ (Chg.refl _ _) hW f0
          refine ObsL.cons (some (18, false)) (by kernel_rfl) ?_ ?_
          · refine ObL.yes (fun _ _ h => h) fun L a w hi he hW hk K k => ?_
            obtain ⟨_, e5, rfl⟩ := hk 5 (by decide)
            clear hk he
            clear hi
            go_simp
            exact k _ _ (Chg.refl _ _) hW rfl
          refine ObsL.cons (some (18, false)) (by kernel_rfl) ?_ ?_
          · refine ObL.yes (fun _ _ h => h) fun L a w hi he hW hk K k => ?_
            obtain ⟨_, e20, rfl⟩ := hk 20 (by decide)
            clear hk he
            clear hi
            have q : w.cell? ⟨Q, 1, none⟩ = some (.int .i64 (m : Int)) := hW.cell 1
            go_simp
            exact k _ _ (Chg.refl _ _) hW rfl
          refine ObsL.cons (some (18, false)) (by kernel_rfl) ?_ ?_
          · refine ObL.yes (fun _ _ h => h) fun L a w hi he hW hk K k => ?_
            obtain ⟨_, e19, rfl⟩ := hk 19 (by decide)
            obtain ⟨_, e21, rfl⟩ := hk 21 (by decide)
            clear hk he
            rw [hi] at hW
            clear hi
            go_simp
            refine (hnum w hW).mono ?_
            rintro e w2 ⟨rfl, hc, hW2⟩
            exact k _ _ hc hW2 rfl
          refine ObsL.cons (some (18, false)) (by kernel_rfl) ?_ ?_
          · refine ObL.yes (fun _ _ h => h) fun L a w hi he hW hk K k => ?_
            obtain ⟨_, e5, rfl⟩ := hk 5 (by decide)
            clear hk he
            clear hi
            go_simp
            exact k _ _ (Chg.refl _ _) hW rfl
          refine ObsL.cons (some (18, false)) (by kernel_rfl) ?_ ?_
          · refine ObL.yes (fun _ _ h => h) fun L a w hi he hW hk K k => ?_
            obtain ⟨_, e23, rfl⟩ := hk 23 (by decide)
            clear hk he
            clear hi
            have q : w.cell? ⟨Q, 1, none⟩ = some (.int .i64 (m : Int)) := hW.cell 1
            go_simp
            exact k _ _ (Chg.refl _ _) hW rfl
          refine ObsL.cons (some (18, false)) (by kernel_rfl) ?_ ?_
          · refine ObL.yes (fun _ _ h => h) fun L a w hi he hW hk K k => ?_
            obtain ⟨_, e22, rfl⟩ := hk 22 (by decide)
            obtain ⟨_, e24, rfl⟩ := hk 24 (by decide)
            clear hk he
            clear hi
            go_simp
            exact k _ _ (Chg.refl _ _) hW rfl
          refine ObsL.cons (some (13, true)) (by kernel_rfl) ?_ ?_
          · refine ObL.yes (fun _ _ h => h) fun L a w hi he hW hk K k => ?_
            obtain ⟨_, e18, rfl⟩ := hk 18 (by decide)
            obtain ⟨_, e25, rfl⟩ := hk 25 (by decide)
            clear hk he
            clear hi
            go_simp
            exact k _ _ (Chg.refl _ _) hW rfl
          refine ObsL.cons none (by kernel_rfl) ?_ ?_
          · refine ObL.plain fun L a w hi he hW hk K k => ?_
            obtain ⟨_, e13, rfl⟩ := hk 13 (by decide)
            obtain ⟨_, e26, rfl⟩ := hk 26 (by decide)
            clear hk he
            clear hi
            go_simp
            exact k _ _ (Chg.refl _ _) hW rfl
          refine ObsL.cons none (by kernel_rfl) ?_ ?_
          · refine ObL.plain fun L a w hi he hW hk K k => ?_
            obtain ⟨_, e27, f27⟩ := hk 27 (by decide)
            clear hk he
            clear hi
            go_simp
            exact k _ _ (Chg.refl _ _) hW f27
          refine ObsL.cons (some (28, true)) (by kernel_rfl) ?_ ?_
          · refine ObL.yes (fun _ _ h => h) fun L a w hi he hW hk K k => ?_
            obtain ⟨_, e5, rfl⟩ := hk 5 (by decide)
            clear hk he
            clear hi
            go_simp
            exact k _ _ (Chg.refl _ _) hW rfl
          refine ObsL.cons (some (28, true)) (by kernel_rfl) ?_ ?_
          · refine ObL.yes (fun _ _ h => h) fun L a w hi he hW hk K k => ?_
            obtain ⟨_, e29, rfl⟩ := hk 29 (by decide)
            clear hk he
            clear hi
            have q : w.cell? ⟨Q, 0, none⟩ = some (.int .i64 kd) := hW.cell 0
            go_simp
            exact k _ _ (Chg.refl _ _) hW rfl
          refine ObsL.cons (some (28, true)) (by kernel_rfl) ?_ ?_
          · refine ObL.yes (fun _ _ h => h) fun L a w hi he hW hk K k => ?_
            obtain ⟨_, e30, rfl⟩ := hk 30 (by decide)
            clear hk he
            clear hi
            have z := hev
            go_simp
            exact k _ _ (Chg.refl _ _) hW rfl
          refine ObsL.cons (some (28, true)) (by kernel_rfl) ?_ ?_
          · refine ObL.yes (fun _ _ h => h) fun L a w hi he hW hk K k => ?_
            obtain ⟨_, e31, rfl⟩ := hk 31 (by decide)
            clear hk he
            clear hi
            go_simp
            exact k _ _ (Chg.refl _ _) hW rfl
          refine ObsL.cons (some (28, true)) (by kernel_rfl) ?_ ?_
          · refine ObL.yes (fun _ _ h => h) fun L a w hi he hW hk K k => ?_
            obtain ⟨_, e32, f32⟩ := hk 32 (by decide)
            clear hk he
            clear hi
            go_simp
            exact k _ _ (Chg.refl _ _) hW f32
          refine ObsL.cons (some (33, false)) (by kernel_rfl) ?_ ?_
          · exact ObL.no (fun _ _ h => h) (fun w => Chg.refl _ _) (fun _ _ h => ⟨h, trivial⟩)
          refine ObsL.cons (some (33, false)) (by kernel_rfl) ?_ ?_
          · exact ObL.no (fun _ _ h => h) (fun w => Chg.refl _ _) (fun _ _ h => ⟨h, trivial⟩)
          refine ObsL.cons (some (33, false)) (by kernel_rfl) ?_ ?_
          · exact ObL.no (fun _ _ h => h) (fun w => Chg.refl _ _) (fun _ _ h => ⟨h, trivial⟩)
          refine ObsL.cons (some (33, false)) (by kernel_rfl) ?_ ?_
          · exact ObL.no (fun _ _ h => h) (fun w => Chg.refl _ _) (fun _ _ h => ⟨h, trivial⟩)
          refine ObsL.cons (some (33, false)) (by kernel_rfl) ?_ ?_
          · exact ObL.no (fun _ _ h => h) (fun w => Chg.refl _ _) (fun _ _ h => ⟨h, trivial⟩)
          refine ObsL.cons (some (33, false)) (by kernel_rfl) ?_ ?_
          · exact ObL.no (fun _ _ h => h) (fun w => Chg.refl _ _) (fun _ _ h => ⟨h, trivial⟩)
          refine ObsL.cons (some (33, false)) (by kernel_rfl) ?_ ?_
          · exact ObL.no (fun _ _ h => h) (fun w => Chg.refl _ _) (fun _ _ h => ⟨h, trivial⟩)
          refine ObsL.cons (some (28, true)) (by kernel_rfl) ?_ ?_
          · refine ObL.yes (fun _ _ h => h) fun L a w hi he hW hk K k => ?_
            obtain ⟨_, e33, rfl⟩ := hk 33 (by decide)
            obtain ⟨_, e40, f40⟩ := hk 40 (by decide)
            clear hk he
            clear hi
            go_simp
            exact k _ _ (Chg.refl _ _) hW rfl
          refine ObsL.cons none (by kernel_rfl) ?_ ?_
          · refine ObL.plain fun L a w hi he hW hk K k => ?_
            obtain ⟨_, e28, rfl⟩ := hk 28 (by decide)
            obtain ⟨_, e41, rfl⟩ := hk 41 (by decide)
            clear hk he
            clear hi
            go_simp
            exact k _ _ (Chg.refl _ _) hW rfl
          refine ObsL.cons none (by kernel_rfl) ?_ ?_
          · refine ObL.plain fun L a w hi he hW hk K k => ?_
            obtain ⟨_, e2, rfl⟩ := hk 2 (by decide)
            obtain ⟨_, e42, rfl⟩ := hk 42 (by decide)
            clear hk he
            clear hi
            have q := hW.good
            have q2 := hW.free
            have hW2 := hW.store hRG hQG.1 hD
            have hc2 := hSc w
            go_simp
            exact k undef _ hc2 hW2 trivial
          exact ObsL.nil
        case fin =>
          intro L vals w9 hL hW hv
          have hW1 : St29 R G Q D rest r w #[.int .i64 kd, .int .i64 m, .slice ao2 bz.length cp2] (.slice ao2 bz.length cp2) bz true w9 := by
            have := hL 10 (by decide)
            rw [this] at hW
            exact hW
          have hi9 : Inv29 R G D r w w9 := hW1.inv
          clear hW hW1 hv hL
          simp only [putAll, List.setIfInBounds_toArray, List.set_cons_zero, List.set_cons_succ]
          go_wp2
          go_roundw
          case rel => exact ⟨k + 1, r, by go_num, by omega, HRR, by omega, hi9⟩
          case measure => simp [intOf]; omega
      · have hodd17 : (kd.tmod 2 != 0) = true := by simp [hev]
        have hodd32 : (kd.tmod 2 == 0) = false := by simpa using hev
        have hb300 : bz.length ≤ 300 := htk.2 hev
        have hr3 : rest = enc bz.length ++ bz ++ r := by
          rw [hr2.out, encOp, if_neg hev]
        clear hr2
        have HO := hid (And.intro hodd17 hodd32)
        clear hodd17 hodd32
        go_wp2_with fail
        clear c0 c1 c2 hi hvb1 hca
        generalize wr.alloc (.cells #[.int .i64 kd, .int .i64 n, .slice ao2 bz.length cp2] 29) = wa at *
        generalize wr.heap.size = Q at *
        have hrl2 := congrArg List.length hr3
        rw [List.length_append, List.length_append] at hrl2
        have htext : ∀ w9, St29 R G Q D rest r w #[.int .i64 kd, .int .i64 n, .slice ao2 bz.length cp2] (.slice ao2 bz.length cp2) bz false w9 → Calls Try.prog 22 #[.pointer (some ⟨R, 0, none⟩), .int .i64 300] w9 fun e w2 => ∃ ao cp, e = .returned (.slice ao bz.length cp) ∧ BytesAt (fun k => k ≠ R ∧ k ≠ G) w2 (.slice ao bz.length cp) bz ∧ Chg (fun k => k = R ∨ k = G) w9 w2 ∧ St29 R G Q D rest r w #[.int .i64 kd, .int .i64 n, .slice ao2 bz.length cp2] (.slice ao2 bz.length cp2) bz true w2 := by
          intro w9 hs
          obtain ⟨v, hv, hR⟩ := hs.inv.reader
          rw [if_neg (by decide)] at hv
          have lR := lt_blk hR
          have lG := lt_blk hs.inv.good
          refine (rtext_reads (most := 300) (w := w9) (by omega) hv (fun h => (hD _ h).1 rfl) hR (by rw [hr3]; exact errText_enc hb300 r)).mono ?_
          rintro e w2 ⟨ao, cap, rfl, h0, v', h1, h2, h3⟩
          have e0 := numN_enc9 (m := bz.length) (by omega) (bz ++ r)
          rw [← List.append_assoc, ← hr3] at e0
          have e1 : (numN 9 rest 0 0).1 = bz.length := by rw [e0]
          have e2 : (rest.drop (numN 9 rest 0 0).2.1).take bz.length = bz := by rw [e0, hr3]; simp
          have e3 : rest.drop ((numN 9 rest 0 0).2.1 + bz.length) = r := by rw [e0, hr3, ← List.drop_drop]; simp
          rw [e1, e2] at h0
          rw [e1, e3] at h1
          rw [e1]
          exact ⟨ao, cap, rfl, h0.mono (fun i hi => by omega), h3.mono (fun _ _ h => .inl h), hs.rstep hRG hQG.2 hD h3 ⟨v', h1, h2⟩⟩
        have hs0 : St29 R G Q D rest r w #[.int .i64 kd, .int .i64 n, .slice ao2 bz.length cp2] (.slice ao2 bz.length cp2) bz false wa := ⟨hi8, hQ, hvb8⟩
        have HX := hid (And.intro hrl2 hrl)
        clear hi8 hQ hvb8 hr3
        refine wp_region_state (Chg fun k => k = R ∨ k = G) (fun L w9 => St29 R G Q D rest r w #[.int .i64 kd, .int .i64 n, .slice ao2 bz.length cp2] (.slice ao2 bz.length cp2) bz (L 23) w9) (specAtR (sp29o R G Q kd ao2 cp2 bz)) [12, 13, 14, 15, 16, 17, 18, 19, 20, 21, 22, 23, 24, 25, 26, 27, 28, 29, 30, 31, 32, 33, 34, 35, 36, 37, 38, 39, 40, 41, 42] [0, 2, 5] (by kernel_rfl) (by kernel_rfl) ⟨hs0.inv.drew, hs0.box, hs0.bytes⟩ (fun t v w w' hc h => specAtR_st _ t v w w' hc h) (by rfl) (by kernel_rfl) ?start2 ?obs2 ?fin2
        case start2 =>
          simp only [List.forall_mem_cons]
          exact ⟨⟨_, rfl, rfl⟩, ⟨_, rfl, rfl⟩, ⟨_, rfl, rfl⟩, fun _ h => by cases h⟩
        case obs2 =>
          clear hrl2 hrl hs0
          refine ObsL.cons none (by kernel_rfl) ?_ ?_
          · refine ObL.plain fun L a w hi he hW hk K k => ?_
            obtain ⟨_, e2, rfl⟩ := hk 2 (by decide)
            clear hk he
            clear hi
            have q := hW.good
            go_simp
            exact k _ _ (Chg.refl _ _) hW rfl
          refine ObsL.cons none (by kernel_rfl) ?_ ?_
          · refine ObL.plain fun L a w hi he hW hk K k => ?_
            obtain ⟨_, e12, f12⟩ := hk 12 (by decide)
            clear hk he
            clear hi
            go_simp
            exact k _ _ (Chg.refl _ _) hW f12
          refine ObsL.cons (some (13, true)) (by kernel_rfl) ?_ ?_
          · refine ObL.yes (fun _ _ h => h) fun L a w hi he hW hk K k => ?_
            obtain ⟨_, e5, rfl⟩ := hk 5 (by decide)
            clear hk he
            clear hi
            go_simp
            exact k _ _ (Chg.refl _ _) hW rfl
          refine ObsL.cons (some (13, true)) (by kernel_rfl) ?_ ?_
          · refine ObL.yes (fun _ _ h => h) fun L a w hi he hW hk K k => ?_
            obtain ⟨_, e14, rfl⟩ := hk 14 (by decide)
            clear hk he
            clear hi
            have q : w.cell? ⟨Q, 0, none⟩ = some (.int .i64 kd) := hW.cell 0
            go_simp
            exact k _ _ (Chg.refl _ _) hW rfl
          refine ObsL.cons (some (13, true)) (by kernel_rfl) ?_ ?_
          · refine ObL.yes (fun _ _ h => h) fun L a w hi he hW hk K k => ?_
            obtain ⟨_, e15, rfl⟩ := hk 15 (by decide)
            clear hk he
            clear hi
            go_simp
            exact k _ _ (Chg.refl _ _) hW rfl
          refine ObsL.cons (some (13, true)) (by kernel_rfl) ?_ ?_
          · refine ObL.yes (fun _ _ h => h) fun L a w hi he hW hk K k => ?_
            obtain ⟨_, e16, rfl⟩ := hk 16 (by decide)
            clear hk he
            clear hi
            have z := HO.out.1
            go_simp
            exact k _ _ (Chg.refl _ _) hW rfl
          refine ObsL.cons (some (13, true)) (by kernel_rfl) ?_ ?_
          · refine ObL.yes (fun _ _ h => h) fun L a w hi he hW hk K k => ?_
            obtain ⟨_, e17, f17⟩ := hk 17 (by decide)
            clear hk he
            clear hi
            go_simp
            exact k _ _ (Chg.refl _ _) hW f17
          refine ObsL.cons (some (18, false)) (by kernel_rfl) ?_ ?_
          · exact ObL.no (fun _ _ h => h) (fun w => Chg.refl _ _) (fun _ _ h => ⟨h, trivial⟩)
          refine ObsL.cons (some (18, false)) (by kernel_rfl) ?_ ?_
          · exact ObL.no (fun _ _ h => h) (fun w => Chg.refl _ _) (fun _ _ h => ⟨h, trivial⟩)
          refine ObsL.cons (some (18, false)) (by kernel_rfl) ?_ ?_
          · exact ObL.no (fun _ _ h => h) (fun w => Chg.refl _ _) (fun _ _ h => ⟨h, trivial⟩)
          refine ObsL.cons (some (18, false)) (by kernel_rfl) ?_ ?_
          · exact ObL.no (fun _ _ h => h) (fun w => Chg.refl _ _) (fun _ _ h => ⟨h, trivial⟩)
          refine ObsL.cons (some (18, false)) (by kernel_rfl) ?_ ?_
          · exact ObL.no (fun _ _ h => h) (fun w => Chg.refl _ _) (fun _ _ h => ⟨h, trivial⟩)
          refine ObsL.cons (some (18, false)) (by kernel_rfl) ?_ ?_
          · exact ObL.no (fun _ _ h => h) (fun w => Chg.refl _ _) (fun _ _ h => ⟨h, trivial⟩)
          refine ObsL.cons (some (18, false)) (by kernel_rfl) ?_ ?_
          · exact ObL.no (fun _ _ h => h) (fun w => Chg.refl _ _) (fun _ _ h => ⟨h, trivial⟩)
          refine ObsL.cons (some (13, true)) (by kernel_rfl) ?_ ?_
          · refine ObL.yes (fun _ _ h => h) fun L a w hi he hW hk K k => ?_
            obtain ⟨_, e18, rfl⟩ := hk 18 (by decide)
            obtain ⟨_, e25, f25⟩ := hk 25 (by decide)
            clear hk he
            clear hi
            go_simp
            exact k _ _ (Chg.refl _ _) hW rfl
          refine ObsL.cons none (by kernel_rfl) ?_ ?_
          · refine ObL.plain fun L a w hi he hW hk K k => ?_
            obtain ⟨_, e13, rfl⟩ := hk 13 (by decide)
            obtain ⟨_, e26, rfl⟩ := hk 26 (by decide)
            clear hk he
            clear hi
            go_simp
            exact k _ _ (Chg.refl _ _) hW rfl
          refine ObsL.cons none (by kernel_rfl) ?_ ?_
          · refine ObL.plain fun L a w hi he hW hk K k => ?_
            obtain ⟨_, e27, f27⟩ := hk 27 (by decide)
            clear hk he
            clear hi
            go_simp
            exact k _ _ (Chg.refl _ _) hW f27
          refine ObsL.cons (some (28, true)) (by kernel_rfl) ?_ ?_
          · refine ObL.yes (fun _ _ h => h) fun L a w hi he hW hk K k => ?_
            obtain ⟨_, e5, rfl⟩ := hk 5 (by decide)
            clear hk he
            clear hi
            go_simp
            exact k _ _ (Chg.refl _ _) hW rfl
          refine ObsL.cons (some (28, true)) (by kernel_rfl) ?_ ?_
          · refine ObL.yes (fun _ _ h => h) fun L a w hi he hW hk K k => ?_
            obtain ⟨_, e29, rfl⟩ := hk 29 (by decide)
            clear hk he
            clear hi
            have q : w.cell? ⟨Q, 0, none⟩ = some (.int .i64 kd) := hW.cell 0
            go_simp
            exact k _ _ (Chg.refl _ _) hW rfl
          refine ObsL.cons (some (28, true)) (by kernel_rfl) ?_ ?_
          · refine ObL.yes (fun _ _ h => h) fun L a w hi he hW hk K k => ?_
            obtain ⟨_, e30, rfl⟩ := hk 30 (by decide)
            clear hk he
            clear hi
            go_simp
            exact k _ _ (Chg.refl _ _) hW rfl
          refine ObsL.cons (some (28, true)) (by kernel_rfl) ?_ ?_
          · refine ObL.yes (fun _ _ h => h) fun L a w hi he hW hk K k => ?_
            obtain ⟨_, e31, rfl⟩ := hk 31 (by decide)
            clear hk he
            clear hi
            have z := HO.out.2
            go_simp
            exact k _ _ (Chg.refl _ _) hW rfl
          refine ObsL.cons (some (28, true)) (by kernel_rfl) ?_ ?_
          · refine ObL.yes (fun _ _ h => h) fun L a w hi he hW hk K k => ?_
            obtain ⟨_, e32, f32⟩ := hk 32 (by decide)
            clear hk he
            clear hi
            go_simp
            exact k _ _ (Chg.refl _ _) hW f32
          refine ObsL.cons (some (33, false)) (by kernel_rfl) ?_ ?_
          · refine ObL.yes (fun _ _ h => h) fun L a w hi he hW hk K k => ?_
            obtain ⟨_, e0, f0⟩ := hk 0 (by decide)
            clear hk he
            clear hi
            go_simp
            exact k _ _ (Chg.refl _ _) hW f0
          refine ObsL.cons (some (33, false)) (by kernel_rfl) ?_ ?_
          · refine ObL.yes (fun _ _ h => h) fun L a w hi he hW hk K k => ?_
            obtain ⟨_, e34, rfl⟩ := hk 34 (by decide)
            clear hk he
            rw [hi] at hW
            clear hi
            go_simp
            refine (htext w hW).mono ?_
            rintro e w2 ⟨ao, cp, rfl, hb, hc, hW2⟩
            exact k _ _ hc hW2 ⟨ao, cp, rfl, hb⟩
          refine ObsL.cons (some (33, false)) (by kernel_rfl) ?_ ?_
          · refine ObL.yes (fun _ _ h => h) fun L a w hi he hW hk K k => ?_
            obtain ⟨_, e35, f35⟩ := hk 35 (by decide)
            clear hk he
            clear hi
            obtain ⟨ao, cp, rfl, hb⟩ := f35
            have q := conv_bytes hb
            go_simp
            exact k _ _ (Chg.refl _ _) hW rfl
          refine ObsL.cons (some (33, false)) (by kernel_rfl) ?_ ?_
          · refine ObL.yes (fun _ _ h => h) fun L a w hi he hW hk K k => ?_
            obtain ⟨_, e5, rfl⟩ := hk 5 (by decide)
            clear hk he
            clear hi
            go_simp
            exact k _ _ (Chg.refl _ _) hW rfl
          refine ObsL.cons (some (33, false)) (by kernel_rfl) ?_ ?_
          · refine ObL.yes (fun _ _ h => h) fun L a w hi he hW hk K k => ?_
            obtain ⟨_, e37, rfl⟩ := hk 37 (by decide)
            clear hk he
            clear hi
            have q : w.cell? ⟨Q, 2, none⟩ = some (.slice ao2 bz.length cp2) := hW.cell 2
            go_simp
            exact k _ _ (Chg.refl _ _) hW rfl
          refine ObsL.cons (some (33, false)) (by kernel_rfl) ?_ ?_
          · refine ObL.yes (fun _ _ h => h) fun L a w hi he hW hk K k => ?_
            obtain ⟨_, e38, rfl⟩ := hk 38 (by decide)
            clear hk he
            clear hi
            have q := conv_bytes hW.bytes
            go_simp
            exact k _ _ (Chg.refl _ _) hW rfl
          refine ObsL.cons (some (33, false)) (by kernel_rfl) ?_ ?_
          · refine ObL.yes (fun _ _ h => h) fun L a w hi he hW hk K k => ?_
            obtain ⟨_, e36, rfl⟩ := hk 36 (by decide)
            obtain ⟨_, e39, rfl⟩ := hk 39 (by decide)
            clear hk he
            clear hi
            go_simp
            exact k _ _ (Chg.refl _ _) hW rfl
          refine ObsL.cons (some (28, true)) (by kernel_rfl) ?_ ?_
          · refine ObL.yes (fun _ _ h => h) fun L a w hi he hW hk K k => ?_
            obtain ⟨_, e33, rfl⟩ := hk 33 (by decide)
            obtain ⟨_, e40, rfl⟩ := hk 40 (by decide)
            clear hk he
            clear hi
            go_simp
            exact k _ _ (Chg.refl _ _) hW rfl
          refine ObsL.cons none (by kernel_rfl) ?_ ?_
          · refine ObL.plain fun L a w hi he hW hk K k => ?_
            obtain ⟨_, e28, rfl⟩ := hk 28 (by decide)
            obtain ⟨_, e41, rfl⟩ := hk 41 (by decide)
            clear hk he
            clear hi
            go_simp
            exact k _ _ (Chg.refl _ _) hW rfl
          refine ObsL.cons none (by kernel_rfl) ?_ ?_
          · refine ObL.plain fun L a w hi he hW hk K k => ?_
            obtain ⟨_, e2, rfl⟩ := hk 2 (by decide)
            obtain ⟨_, e42, rfl⟩ := hk 42 (by decide)
            clear hk he
            clear hi
            have q := hW.good
            have q2 := hW.free
            have hW2 := hW.store hRG hQG.1 hD
            have hc2 := hSc w
            go_simp
            exact k undef _ hc2 hW2 trivial
          exact ObsL.nil
        case fin2 =>
          intro L vals w9 hL hW hv
          have hW1 : St29 R G Q D rest r w #[.int .i64 kd, .int .i64 n, .slice ao2 bz.length cp2] (.slice ao2 bz.length cp2) bz true w9 := by
            have := hL 23 (by decide)
            rw [this] at hW
            exact hW
          have hi9 : Inv29 R G D r w w9 := hW1.inv
          clear hW hW1 hv hL
          simp only [putAll, List.setIfInBounds_toArray, List.set_cons_zero, List.set_cons_succ]
          go_wp2
          go_roundw
          case rel => exact ⟨k + 1, r, by go_num, by omega, HRR, by omega, hi9⟩
          case measure => simp [intOf]; omega
    · have hk2 : k = ds.length := by omega
      have hr3 : rest = [] := by
        rw [hr.out, hk2, List.drop_eq_nil_of_le (Nat.le_refl _)]
        rfl
      subst hr3
      go_wp2_with fail
      exact ⟨rfl, _, results_none rfl _ _ _, rfl, hi⟩

end Go.Proofs.Ytjipfbggoeiakaa
