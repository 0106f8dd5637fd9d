/- The walk of the law TapeReads. -/
import Derived.Test.YtbmhhnkmkalkdaaD1
namespace Go.Proofs.Ytbmhhnkmkalkdaa
open Go.RowKit

theorem enters15 : ∀ args w, (callFunc 15 args).run Try.prog w = .ok (.enter 15 args) w := enters Try.func15 (by kernel_rfl) (by kernel_rfl)

/-- What Read with the law's f leaves. -/
structure After15 (G N F K R : Nat) (done : Int) (w : World) : Prop where
  done : w.heap[N]? = some (.cells #[.int .i64 done] 3 (0, 0))
  good : w.heap[G]? = some (.cells #[.bool true] 4 (0, 0))
  fin : w.heap[F]? = some (.cells #[.bool true] 4 (0, 0))
  kept : w.heap[K]? = some (.cells #[.pointer (some ⟨R, 0, none⟩)] 39 (0, 0))

theorem After15.keep {S : Nat → Prop} {G N F K R : Nat} {done : Int} {w w' : World} (h : After15 G N F K R done w) (hc : Chg S w w') (h1 : ¬ S G) (h2 : ¬ S N) (h3 : ¬ S F) (h4 : ¬ S K) : After15 G N F K R done w' :=
  ⟨blk_keep h.done hc h2, blk_keep h.good hc h1, blk_keep h.fin hc h3, blk_keep h.kept hc h4⟩

theorem outer15 (LB X XV G N F K : Nat) (h1 : LB < X) (h2 : X < XV) (h3 : XV < G) (h4 : G < N) (h5 : N < F) (h6 : F < K) (LO : Nat) (ao ao2 : Option Addr) (cp cp2 : Nat) (ops : List OpR) (l : List UInt8) (w : World) (hlo : ops.length ≤ 60) (hl : l.length ≤ 3000) (hLO : LO ≤ LB)
    (hv : BytesAt (fun k => k < LO) w (.slice ao l.length cp) l) (hops : OpsAt (fun k => k < LO) w ao2 ops) (hL : w.heap[LB]? = some (.cells #[.slice ao2 ops.length cp2] 22 (0, 0)))
    (hX : TapeAt w X l 0) (hXV : w.heap[XV]? = some (.cells #[.pointer (some ⟨X, 0, none⟩)] 36 (0, 0))) (hG : w.heap[G]? = some (.cells #[.bool true] 4 (0, 0))) (hN : w.heap[N]? = some (.cells #[.int .i64 0] 3 (0, 0)))
    (hF : w.heap[F]? = some (.cells #[.bool false] 4 (0, 0))) (hK : w.heap[K]? = some (.cells #[.pointer none] 39 (0, 0))) :
    Calls Try.prog 14 #[.slice ao l.length cp, .func (.func 15) #[] #[.pointer (some ⟨K, 0, none⟩), .pointer (some ⟨F, 0, none⟩), .pointer (some ⟨LB, 0, none⟩), .pointer (some ⟨N, 0, none⟩), .pointer (some ⟨XV, 0, none⟩), .pointer (some ⟨G, 0, none⟩)]] w fun e w' =>
      e = .returned (.int .i64 (endOf (runOps ops l).2.1 (runOps ops l).2.2.length)) ∧ After15 G N F K (w.heap.size + 1) (runOps ops l).1 w' ∧ ReaderAt w' (w.heap.size + 1) false (.slice none 0 0) 0 ∧ Chg (fun k => k = N ∨ k = G ∨ k = X ∨ k = K ∨ k = F) w w' := by
  have hrw := readWorld_chg w (.slice ao l.length cp) (fun _ => False)
  have lK := lt_blk hK
  have hcl := c15_any LB X XV G N F K (w.heap.size + 1) h1 h2 h3 h4 h5 h6 (by omega) LO ao2 cp2 ops l (readWorld w (.slice ao l.length cp)) w hlo hl hLO hops hrw (blk_keep hL hrw id) _ (blk_keep hK hrw id) (fun w1 hc hk => by
    have hR := readWorld_R w (.slice ao l.length cp)
    refine ⟨⟨_, (hv.keep hrw (fun _ _ => id)).keep hc (fun i hi h => by omega), blk_keep hR hc (by omega)⟩, blk_keep (blk_keep hX hrw id) hc (by omega), blk_keep (blk_keep hN hrw id) hc (by omega), blk_keep (blk_keep hG hrw id) hc (by omega), blk_keep (blk_keep hXV hrw id) hc (by omega),
      blk_keep (blk_keep hF hrw id) hc (by omega), hk, hc.mono (fun _ _ h => .inr (.inr (.inr (.inr (.inl h)))))⟩)
  have fin : ∀ w1 w', After15 G N F K (w.heap.size + 1) (runOps ops l).1 w1 → RLeft w (fun k => k = N ∨ k = G ∨ k = X ∨ k = K ∨ k = F) w1 w' →
      After15 G N F K (w.heap.size + 1) (runOps ops l).1 w' ∧ ReaderAt w' (w.heap.size + 1) false (.slice none 0 0) 0 ∧ Chg (fun k => k = N ∨ k = G ∨ k = X ∨ k = K ∨ k = F) w w' := by
    intro w1 w' ha hr
    exact ⟨ha.keep hr.2.1 (by omega) (by omega) (by omega) (by omega), hr.1, hr.2.2⟩
  have hfl : ∀ w1, FinS X XV G N F K (w.heap.size + 1) (fun k => k < LO) (runOps ops l) (readWorld w (.slice ao l.length cp)) w1 →
      FLeft w (.slice ao l.length cp) (fun k => k = N ∨ k = G ∨ k = X ∨ k = K ∨ k = F) (runOps ops l).2.2.length (runOps ops l).2.1 w1 ∧ After15 G N F K (w.heap.size + 1) (runOps ops l).1 w1 := by
    intro w1 h
    exact ⟨⟨h.reader, h.chg⟩, ⟨h.done, h.good, h.fin, h.kept⟩⟩
  by_cases he : (runOps ops l).2.1 = 0
  · rw [he]
    refine (read_returns (T := fun k => k = N ∨ k = G ∨ k = X ∨ k = K ∨ k = F) (P := After15 G N F K (w.heap.size + 1) (runOps ops l).1) (n := (runOps ops l).2.2.length) (by rintro k (h | h | h | h | h) <;> omega) enters15 ?_).mono ?_
    · refine hcl.mono ?_
      rintro e w1 ⟨hf, h | h⟩
      · have hh := hfl _ hf
        rw [he] at hh
        exact ⟨h.2, hh⟩
      · exact absurd he h.1
    · rintro e w' ⟨rfl, w1, ha, hr⟩
      exact ⟨rfl, fin w1 w' ha hr⟩
  · refine (read_stops (T := fun k => k = N ∨ k = G ∨ k = X ∨ k = K ∨ k = F) (P := After15 G N F K (w.heap.size + 1) (runOps ops l).1) (n := (runOps ops l).2.2.length) (flt := (runOps ops l).2.1) [] rfl (by rintro k (h | h | h | h | h) <;> omega) enters15 ?_).mono ?_
    · refine hcl.mono ?_
      rintro e w1 ⟨hf, h | h⟩
      · exact absurd h.1 he
      · exact ⟨h.2, hfl _ hf⟩
    · rintro e w' ⟨rfl, w1, ha, hr⟩
      exact ⟨rfl, fin w1 w' ha hr⟩

/-- What holds behind Read, while the document's second tape is read. -/
structure YInv (Y G N F K R : Nat) (done : Int) (tl : List UInt8) (te : Int) (w wr : World) : Prop where
  tape : TapeAt wr Y tl te
  aft : After15 G N F K R done wr
  reader : ReaderAt wr R false (.slice none 0 0) 0
  chg : Chg (fun _ => False) w wr

theorem yinv_new {G N F K R : Nat} {done : Int} {l : List UInt8} {w w4 : World} (h1 : After15 G N F K R done w4) (h2 : ReaderAt w4 R false (.slice none 0 0) 0) (h3 : Chg (fun _ => False) w w4) :
    YInv w4.heap.size G N F K R done l 0 w (w4.alloc (.cells #[.string ⟨l.toArray⟩, .int .i64 0] 38)) := by
  have a : Chg (fun _ => False) w4 (w4.alloc (.cells #[.string ⟨l.toArray⟩, .int .i64 0] 38)) := (Chg.refl _ w4).alloc _
  exact ⟨heap_alloc_new w4 _, h1.keep a id id id id, blk_keep h2 a id, h3.trans a (fun _ _ h => h)⟩

theorem YInv.keep {Y G N F K R : Nat} {done : Int} {tl : List UInt8} {te : Int} {w wr w' : World} (h : YInv Y G N F K R done tl te w wr) (hc : Chg (fun _ => False) wr w') : YInv Y G N F K R done tl te w w' :=
  ⟨blk_keep h.tape hc id, h.aft.keep hc id id id id, blk_keep h.reader hc id, h.chg.trans hc (fun _ _ h => h)⟩

theorem YInv.step {Y G N F K R : Nat} {done : Int} {tl tl' : List UInt8} {te te' : Int} {w wr w' : World} (h : YInv Y G N F K R done tl te w wr) (hs : G < R ∧ N < R ∧ F < R ∧ K < R ∧ w.heap.size < R) (hY : R < Y) (ht : TapeAt w' Y tl' te') (hc : Chg (· = Y) wr w') : YInv Y G N F K R done tl' te' w w' :=
  ⟨ht, h.aft.keep hc (by omega) (by omega) (by omega) (by omega), blk_keep h.reader hc (by omega), h.chg.trans hc (fun i hi h => by omega)⟩

set_option maxRecDepth 100000 in
set_option maxHeartbeats 1000000 in
theorem reads_walk (ao : Option Addr) (cp : Nat) (l : List UInt8) (ao2 : Option Addr) (cp2 : Nat) (ops : List OpR) (w : World) (hl : l.length ≤ 9223372036854775807) (hv : BytesAt (fun k => k < w.heap.size) w (.slice ao l.length cp) l)
    (hlen : ops.length ≤ 9223372036854775807) (hop : OpsAt (fun k => k < w.heap.size) w ao2 ops) :
    Calls Try.prog 4 #[.slice ao l.length cp, .slice ao2 ops.length cp2] w fun e w' => e = .returned (.bool true) ∧ Chg (fun _ => False) w w' := by
  have hmf : ∀ (fn : Fn) (first cap : Array Value) (w : World), (Instr.makeFunc fn first cap).run Try.prog w = .ok (.func fn first cap) w := fun _ _ _ _ => rfl
  have hc1 : Chg (fun _ => False) w (w.alloc (.cells #[.slice ao2 ops.length cp2] 22)) := (Chg.refl _ w).alloc _
  have hL : (w.alloc (.cells #[.slice ao2 ops.length cp2] 22)).heap[w.heap.size]? = some (.cells #[.slice ao2 ops.length cp2] 22 (0, 0)) := heap_alloc_new w _
  have b0 := fun w1 (hc : Chg (fun _ => False) (w.alloc (.cells #[.slice ao2 ops.length cp2] 22)) w1) => cell_blk (blk_keep hL hc id) 0
  simp only [List.getElem?_toArray, List.getElem?_cons_zero] at b0
  by_cases h3000 : 3000 < (l.length : Int)
  · go_enter Try.func4, Try.ntmps4
    go_wp2_with (go_at_call 7; refine (first_any _).mono ?_; rintro e w2 ⟨rfl, hc2⟩; have b1 := b0 _ hc2)
    go_ret
    exact ⟨rfl, hc1.trans hc2 (fun _ _ h => h)⟩
  · by_cases h60 : 60 < (ops.length : Int)
    · go_enter Try.func4, Try.ntmps4
      go_wp2_with (go_at_call 7; refine (first_any _).mono ?_; rintro e w2 ⟨rfl, hc2⟩; have b1 := b0 _ hc2)
      go_ret
      exact ⟨rfl, hc1.trans hc2 (fun _ _ h => h)⟩
    · go_enter Try.func4, Try.ntmps4
      go_wp2_with (go_at_call 7; refine (first_any _).mono ?_; rintro e w2 ⟨rfl, hc2⟩; have b1 := b0 _ hc2; have b2 := World.block_lt_of_cell? _ _ b1; dsimp only at b2; have hconv := conv_bytes (hv.keep (hc1.trans hc2 (fun _ _ h => h)) (fun _ _ => id)))
      have hL2 := blk_keep hL hc2 id
      have hc2' := hc1.trans hc2 (fun _ _ h => h)
      clear hc1 hc2 hL b0 b1 hconv
      have a0 : Chg (fun _ => False) w2 (w2.alloc (.cells #[.string ⟨l.toArray⟩, .int .i64 0] 38)) := (Chg.refl _ w2).alloc _
      have n0 : (w2.alloc (.cells #[.string ⟨l.toArray⟩, .int .i64 0] 38)).heap[w2.heap.size]? = some (.cells #[.string ⟨l.toArray⟩, .int .i64 0] 38 (0, 0)) := heap_alloc_new w2 _
      generalize hwa : w2.alloc (.cells #[.string ⟨l.toArray⟩, .int .i64 0] 38) = wa at *
      have sa : wa.heap.size = w2.heap.size + 1 := by rw [← hwa]; simp
      have a1 : Chg (fun _ => False) wa (wa.alloc (.cells #[.pointer (some ⟨w2.heap.size, 0, none⟩)] 36)) := (Chg.refl _ wa).alloc _
      have n1 := heap_alloc_new wa (.cells #[.pointer (some ⟨w2.heap.size, 0, none⟩)] 36)
      generalize hwb : wa.alloc (.cells #[.pointer (some ⟨w2.heap.size, 0, none⟩)] 36) = wb at *
      have sb : wb.heap.size = w2.heap.size + 2 := by rw [← hwb]; simp [sa]
      have a2 : Chg (fun _ => False) wb (wb.alloc (.cells #[.bool true] 4)) := (Chg.refl _ wb).alloc _
      have n2 := heap_alloc_new wb (.cells #[.bool true] 4)
      generalize hwc : wb.alloc (.cells #[.bool true] 4) = wc at *
      have sc : wc.heap.size = w2.heap.size + 3 := by rw [← hwc]; simp [sb]
      have a3 : Chg (fun _ => False) wc (wc.alloc (.cells #[.int .i64 0] 3)) := (Chg.refl _ wc).alloc _
      have n3 := heap_alloc_new wc (.cells #[.int .i64 0] 3)
      generalize hwd : wc.alloc (.cells #[.int .i64 0] 3) = wd at *
      have sd : wd.heap.size = w2.heap.size + 4 := by rw [← hwd]; simp [sc]
      have a4 : Chg (fun _ => False) wd (wd.alloc (.cells #[.bool false] 4)) := (Chg.refl _ wd).alloc _
      have n4 := heap_alloc_new wd (.cells #[.bool false] 4)
      generalize hwe : wd.alloc (.cells #[.bool false] 4) = we at *
      have se : we.heap.size = w2.heap.size + 5 := by rw [← hwe]; simp [sd]
      have a5 : Chg (fun _ => False) we (we.alloc (.cells #[.pointer none] 39)) := (Chg.refl _ we).alloc _
      have n5 := heap_alloc_new we (.cells #[.pointer none] 39)
      generalize hwf : we.alloc (.cells #[.pointer none] 39) = wf at *
      have sf : wf.heap.size = w2.heap.size + 6 := by rw [← hwf]; simp [se]
      clear hwa hwb hwc hwd hwe hwf
      simp only [sa, sb, sc, sd, se, Nat.zero_add] at n1 n2 n3 n4 n5
      have c3 := a3.trans (a4.trans a5 (fun _ _ h => h)) (fun _ _ h => h)
      have c1 := a1.trans (a2.trans c3 (fun _ _ h => h)) (fun _ _ h => h)
      have hX := blk_keep n0 c1 id
      have hXV := blk_keep n1 (a2.trans c3 (fun _ _ h => h)) id
      have hG := blk_keep n2 c3 id
      have hN := blk_keep n3 (a4.trans a5 (fun _ _ h => h)) id
      have hF := blk_keep n4 a5 id
      have hcf := hc2'.trans (a0.trans c1 (fun _ _ h => h)) (fun _ _ h => h)
      have hL3 := blk_keep hL2 (a0.trans c1 (fun _ _ h => h)) id
      clear a0 a1 a2 a3 a4 a5 c1 c3 n0 n1 n2 n3 n4 sa sb sc sd se hL2 hc2'
      generalize w2.heap.size = Z at *
      have hb1 : w.heap.size ≤ w.heap.size := Nat.le_refl _
      have hvf := hv.keep hcf (fun _ _ => id)
      have hopf : OpsAt (fun k => k < w.heap.size) wf ao2 ops := fun i h => let ⟨b, off, h1, h2, h3⟩ := hop i h; ⟨b, off, h1, h2, h3.keep h2 hcf (fun _ _ => id)⟩
      have ho := outer15 w.heap.size Z (Z + 1) (Z + 1 + 1) (Z + 1 + 1 + 1) (Z + 1 + 1 + 1 + 1) (Z + 1 + 1 + 1 + 1 + 1) b2 (by omega) (by omega) (by omega) (by omega) (by omega) w.heap.size ao ao2 cp cp2 ops l wf (by omega) (by omega) (Nat.le_refl _) hvf hopf hL3 hX hXV hG hN hF n5
      rw [sf] at ho
      clear hX hXV hG hN hF n5 hvf hopf
      refine ho.mono ?_
      clear ho
      rintro e w4 ⟨rfl, hA, hRd, hc4⟩
      have hcw4 := hcf.trans hc4 (by rintro i hi (h | h | h | h | h) <;> omega)
      have hL4 := blk_keep hL3 hc4 (by rintro (h | h | h | h | h) <;> omega)
      have hconv := conv_bytes (hv.keep hcw4 (fun _ _ => id))
      have s4 := hc4.size
      rw [sf] at s4
      clear hcf hc4 hL3
      obtain ⟨R, hRe⟩ : ∃ R, R = Z + 6 + 1 := ⟨_, rfl⟩
      rw [← hRe] at hA
      rw [← hRe] at hRd
      have b4 := cell_blk hL4 0
      have b5 := lt_blk hL4
      simp only [List.getElem?_toArray, List.getElem?_cons_zero] at b4
      go_wp2_with fail
      have hyi := yinv_new (l := l) hA hRd hcw4
      have hlo : R < w4.heap.size := lt_blk hRd
      have hGR : Z + 1 + 1 < R ∧ Z + 1 + 1 + 1 < R ∧ Z + 1 + 1 + 1 + 1 < R ∧ Z + 1 + 1 + 1 + 1 + 1 < R ∧ w.heap.size < R := by omega
      clear hA hRd hconv hRe s4 sf b4 hL4 hcw4
      generalize w4.heap.size = Y at *
      generalize w4.alloc (.cells #[.string ⟨l.toArray⟩, .int .i64 0] 38) = w5 at *
      go_loopw [11, 41] (fun s i wr => ∃ (k : Nat) (rest : List UInt8), i = .int .i64 k ∧ s = .int .i64 ops.length ∧ k ≤ ops.length ∧ rest.length ≤ 3000 ∧ YInv Y (Z + 1 + 1) (Z + 1 + 1 + 1) (Z + 1 + 1 + 1 + 1) (Z + 1 + 1 + 1 + 1 + 1) R (runOps ops l).1 rest 0 w wr ∧ Hid (runOps ops l = ((runOps (ops.drop k) rest).1 + k, (runOps (ops.drop k) rest).2))) (fun _ i _ => ops.length - (intOf i).toNat)
      case atStart => exact ⟨0, l, rfl, rfl, Nat.zero_le _, by omega, hyi, rfl⟩
      case round =>
        clear hyi
        obtain ⟨k, rest, rfl, rfl, hk, hrl, hyi, HS⟩ := hrel
        by_cases hlt : k < ops.length
        · skip
          obtain ⟨b, off, rfl, hbL, ⟨d0, x1, x2⟩, ⟨d1, y1, y2⟩, vb, d2, hvb⟩ := hop k hlt
          obtain ⟨ao9, cp9, rfl⟩ := hvb.shape
          have c0 := hyi.chg.cell d0 id
          have c1 := hyi.chg.cell d1 id
          have c2 := hyi.chg.cell d2 id
          have HR : Hid (runOps ops l = ((runOps (ops[k] :: ops.drop (k + 1)) rest).1 + k, (runOps (ops[k] :: ops.drop (k + 1)) rest).2)) := by
            have := HS.out
            rw [List.drop_eq_getElem_cons hlt] at this
            exact this
          clear d0 d1 d2 hvb HS hop
          generalize ops[k] = x at *
          obtain ⟨kd, n, bz⟩ := x
          dsimp only at *
          have hal := fun o => hyi.keep ((Chg.refl (fun _ => False) wr).alloc o)
          have hYl := lt_blk hyi.tape
          by_cases k0 : kmod kd = 0
          · have k0' : ((IntKind.u64.wrap kd).tmod 3 == 0) = true := by simpa [kmod] using k0
            have HB := hid (hal (.cells #[.int .i64 kd, .int .i64 n, .slice ao9 bz.length cp9] 29))
            clear hal
            go_wp2_with fail
            clear c0 c1 c2 hyi hYl
            generalize wr.alloc (.cells #[.int .i64 kd, .int .i64 n, .slice ao9 bz.length cp9] 29) = wa at *
            refine (tnum_any Y rest n wa (by omega) HB.out.tape).mono ?_
            rintro e wb (⟨he, rfl, hT1, hc1⟩ | ⟨he, rfl, ⟨t1, hT1⟩, hc1⟩)
            · have HI := hid (HB.out.step hGR hlo hT1 hc1)
              have HX := hid (run_cont (x := ⟨kd, n, bz⟩) (r' := rest.drop (numN 9 rest 0 0).2.1) (by simp [stepOp, k0, he]) HR.out)
              have HL3 : Hid ((rest.drop (numN 9 rest 0 0).2.1).length ≤ rest.length) := hid (by simp)
              have t0 := cell_blk hT1 1
              simp only [List.getElem?_toArray, List.getElem?_cons_zero, List.getElem?_cons_succ] at t0
              clear hc1 hT1 HB
              go_wp2_with fail
              go_roundw
              case rel => exact ⟨k + 1, rest.drop (numN 9 rest 0 0).2.1, by go_num, rfl, by omega, Nat.le_trans HL3.out (by omega), HI.out, hid HX.out⟩
              case measure => simp [intOf]; omega
            · have HI := hid (HB.out.step hGR hlo hT1 hc1)
              have hne : (errNum rest n : Int) ≠ 0 := by omega
              have HX := hid (run_stop (x := ⟨kd, n, bz⟩) (e := (errNum rest n : Int)) (r' := rest.drop (numN 9 rest 0 0).2.1) (by simp [stepOp, k0]) hne HR.out)
              have HE : Hid (((runOps ops l).1 : Int) = (k : Int) + 1 ∧ endOf (runOps ops l).2.1 (runOps ops l).2.2.length = tapeEnd t1 (errNum rest n : Int)) := by
                rw [HX.out]
                exact hid ⟨by simp, by unfold tapeEnd; rw [endOf_pos hne, endOf_pos hne]⟩
              have t0 := cell_blk hT1 1
              simp only [List.getElem?_toArray, List.getElem?_cons_zero, List.getElem?_cons_succ] at t0
              clear hc1 hT1 HB
              have z0 := cell_blk HI.out.aft.kept 0
              have z1 := cell_blk HI.out.aft.good 0
              have z2 := cell_blk HI.out.aft.fin 0
              have z3 := cell_blk HI.out.aft.done 0
              simp only [List.getElem?_toArray, List.getElem?_cons_zero] at z0 z1 z2 z3
              rw [HE.out.1] at z3
              have f1 := fun e0 => fail_closed R e0 _ (cell_blk HI.out.reader 0)
              have f2 := fun m0 => rnum_closed R m0 _ (cell_blk HI.out.reader 0)
              have f3 := fun m0 => rtext_closed R m0 _ (cell_blk HI.out.reader 0)
              have f4 := left_closed R _ (cell_blk HI.out.reader 0)
              have f5 := tend_any _ _ _ _ HI.out.tape
              rw [← HE.out.2] at f5
              go_wp2_with (first | (go_at_call 21; ((with_reducible refine (f1 _).mono ?_); rintro e w7 ⟨rfl, rfl⟩)) | (go_at_call 21; ((with_reducible refine (fail_nil _ _).mono ?_); rintro e w8 ⟨rfl, rfl⟩)) | (go_at_call 23; ((with_reducible refine f5.mono ?_); rintro e w8 ⟨rfl, rfl⟩)) | (go_at_call 18; ((with_reducible refine (f2 _).mono ?_); rintro e w7 ⟨rfl, rfl⟩)) | (go_at_call 20; ((with_reducible refine (f3 _).mono ?_); rintro e w7 ⟨rfl, rfl⟩)) | (go_at_call 22; ((with_reducible refine f4.mono ?_); rintro e w7 ⟨rfl, rfl⟩)) | (go_at_call 18; ((with_reducible refine (rnum_nil _ _).mono ?_); rintro e w7 ⟨rfl, rfl⟩)) | (go_at_call 22; ((with_reducible refine (left_nil _).mono ?_); rintro e w7 ⟨rfl, rfl⟩)))
              go_ret
              exact ⟨rfl, HI.out.chg⟩
          · have k0' : ((IntKind.u64.wrap kd).tmod 3 == 0) = false := by simpa [kmod] using k0
            by_cases k1 : kmod kd = 1
            · have k1' : ((IntKind.u64.wrap kd).tmod 3 == 1) = true := by simpa [kmod] using k1
              have HB := hid (hal (.cells #[.int .i64 kd, .int .i64 n, .slice ao9 bz.length cp9] 29))
              clear hal
              go_wp2_with fail
              clear c0 c1 c2 hyi hYl
              generalize wr.alloc (.cells #[.int .i64 kd, .int .i64 n, .slice ao9 bz.length cp9] 29) = wa at *
              refine (ttext_any Y rest n wa (by omega) HB.out.tape).mono ?_
              rintro e wb (⟨he, rfl, hT1, hc1⟩ | ⟨he, rfl, ⟨t1, hT1⟩, hc1⟩)
              · have HI := hid (HB.out.step hGR hlo hT1 hc1)
                have HX := hid (run_cont (x := ⟨kd, n, bz⟩) (r' := rest.drop ((numN 9 rest 0 0).2.1 + (numN 9 rest 0 0).1)) (by simp [stepOp, k0, k1, he]) HR.out)
                have HL3 : Hid ((rest.drop ((numN 9 rest 0 0).2.1 + (numN 9 rest 0 0).1)).length ≤ rest.length) := hid (by simp)
                have t0 := cell_blk hT1 1
                simp only [List.getElem?_toArray, List.getElem?_cons_zero, List.getElem?_cons_succ] at t0
                clear hc1 hT1 HB
                go_wp2_with fail
                go_roundw
                case rel => exact ⟨k + 1, rest.drop ((numN 9 rest 0 0).2.1 + (numN 9 rest 0 0).1), by go_num, rfl, by omega, Nat.le_trans HL3.out (by omega), HI.out, hid HX.out⟩
                case measure => simp [intOf]; omega
              · have HI := hid (HB.out.step hGR hlo hT1 hc1)
                have hne : (errText rest n : Int) ≠ 0 := by omega
                have HX := hid (run_stop (x := ⟨kd, n, bz⟩) (e := (errText rest n : Int)) (r' := rest.drop ((numN 9 rest 0 0).2.1 + (numN 9 rest 0 0).1)) (by simp [stepOp, k0, k1]) hne HR.out)
                have HE : Hid (((runOps ops l).1 : Int) = (k : Int) + 1 ∧ endOf (runOps ops l).2.1 (runOps ops l).2.2.length = tapeEnd t1 (errText rest n : Int)) := by
                  rw [HX.out]
                  exact hid ⟨by simp, by unfold tapeEnd; rw [endOf_pos hne, endOf_pos hne]⟩
                have t0 := cell_blk hT1 1
                simp only [List.getElem?_toArray, List.getElem?_cons_zero, List.getElem?_cons_succ] at t0
                clear hc1 hT1 HB
                have z0 := cell_blk HI.out.aft.kept 0
                have z1 := cell_blk HI.out.aft.good 0
                have z2 := cell_blk HI.out.aft.fin 0
                have z3 := cell_blk HI.out.aft.done 0
                simp only [List.getElem?_toArray, List.getElem?_cons_zero] at z0 z1 z2 z3
                rw [HE.out.1] at z3
                have f1 := fun e0 => fail_closed R e0 _ (cell_blk HI.out.reader 0)
                have f2 := fun m0 => rnum_closed R m0 _ (cell_blk HI.out.reader 0)
                have f3 := fun m0 => rtext_closed R m0 _ (cell_blk HI.out.reader 0)
                have f4 := left_closed R _ (cell_blk HI.out.reader 0)
                have f5 := tend_any _ _ _ _ HI.out.tape
                rw [← HE.out.2] at f5
                go_wp2_with (first | (go_at_call 21; ((with_reducible refine (f1 _).mono ?_); rintro e w7 ⟨rfl, rfl⟩)) | (go_at_call 21; ((with_reducible refine (fail_nil _ _).mono ?_); rintro e w8 ⟨rfl, rfl⟩)) | (go_at_call 23; ((with_reducible refine f5.mono ?_); rintro e w8 ⟨rfl, rfl⟩)) | (go_at_call 18; ((with_reducible refine (f2 _).mono ?_); rintro e w7 ⟨rfl, rfl⟩)) | (go_at_call 20; ((with_reducible refine (f3 _).mono ?_); rintro e w7 ⟨rfl, rfl⟩)) | (go_at_call 22; ((with_reducible refine f4.mono ?_); rintro e w7 ⟨rfl, rfl⟩)) | (go_at_call 18; ((with_reducible refine (rnum_nil _ _).mono ?_); rintro e w7 ⟨rfl, rfl⟩)) | (go_at_call 22; ((with_reducible refine (left_nil _).mono ?_); rintro e w7 ⟨rfl, rfl⟩)))
                go_ret
                exact ⟨rfl, HI.out.chg⟩
            · have k1' : ((IntKind.u64.wrap kd).tmod 3 == 1) = false := by simpa [kmod] using k1
              clear hal
              have t1 := cell_blk hyi.tape 1
              have ft1 := froz_blk hyi.tape 1
              simp only [List.getElem?_toArray, List.getElem?_cons_zero, List.getElem?_cons_succ] at t1
              have HI := hid ((hyi.step hGR hlo (set_blk hyi.tape 1 (.int .i64 n)) (setCell_chg wr Y 1 (.int .i64 n))).keep ((Chg.refl _ _).alloc (.cells #[.int .i64 kd, .int .i64 n, .slice ao9 bz.length cp9] 29)))
              by_cases hn0 : n = 0
              · subst hn0
                have HX := hid (run_cont (x := ⟨kd, 0, bz⟩) (r' := rest) (by simp [stepOp, k0, k1]) HR.out)
                clear hyi
                go_wp2_with fail
                go_roundw
                case rel => exact ⟨k + 1, rest, by go_num, rfl, by omega, hrl, HI.out, hid HX.out⟩
                case measure => simp [intOf]; omega
              · have HX := hid (run_stop (x := ⟨kd, n, bz⟩) (e := n) (r' := rest) (by simp [stepOp, k0, k1]) hn0 HR.out)
                have HE : Hid (((runOps ops l).1 : Int) = (k : Int) + 1 ∧ endOf (runOps ops l).2.1 (runOps ops l).2.2.length = tapeEnd rest n) := by
                  rw [HX.out]
                  exact hid ⟨by simp, rfl⟩
                clear hyi
                have z0 := cell_blk HI.out.aft.kept 0
                have z1 := cell_blk HI.out.aft.good 0
                have z2 := cell_blk HI.out.aft.fin 0
                have z3 := cell_blk HI.out.aft.done 0
                simp only [List.getElem?_toArray, List.getElem?_cons_zero] at z0 z1 z2 z3
                rw [HE.out.1] at z3
                have f1 := fun e0 => fail_closed R e0 _ (cell_blk HI.out.reader 0)
                have f2 := fun m0 => rnum_closed R m0 _ (cell_blk HI.out.reader 0)
                have f3 := fun m0 => rtext_closed R m0 _ (cell_blk HI.out.reader 0)
                have f4 := left_closed R _ (cell_blk HI.out.reader 0)
                have f5 := tend_any _ _ _ _ HI.out.tape
                rw [← HE.out.2] at f5
                go_wp2_with (first | (go_at_call 21; ((with_reducible refine (f1 _).mono ?_); rintro e w7 ⟨rfl, rfl⟩)) | (go_at_call 21; ((with_reducible refine (fail_nil _ _).mono ?_); rintro e w8 ⟨rfl, rfl⟩)) | (go_at_call 23; ((with_reducible refine f5.mono ?_); rintro e w8 ⟨rfl, rfl⟩)) | (go_at_call 18; ((with_reducible refine (f2 _).mono ?_); rintro e w7 ⟨rfl, rfl⟩)) | (go_at_call 20; ((with_reducible refine (f3 _).mono ?_); rintro e w7 ⟨rfl, rfl⟩)) | (go_at_call 22; ((with_reducible refine f4.mono ?_); rintro e w7 ⟨rfl, rfl⟩)) | (go_at_call 18; ((with_reducible refine (rnum_nil _ _).mono ?_); rintro e w7 ⟨rfl, rfl⟩)) | (go_at_call 22; ((with_reducible refine (left_nil _).mono ?_); rintro e w7 ⟨rfl, rfl⟩)))
                go_ret
                exact ⟨rfl, HI.out.chg⟩
        · have hk2 : k = ops.length := by omega
          have HE : Hid (((runOps ops l).1 : Int) = (ops.length : Int) ∧ endOf (runOps ops l).2.1 (runOps ops l).2.2.length = tapeEnd rest 0) := by
            have := HS.out
            rw [hk2, List.drop_eq_nil_of_le (Nat.le_refl _)] at this
            rw [this]
            exact hid ⟨by simp [runOps], rfl⟩
          clear HS
          have HI := hid hyi
          clear hyi
          have z0 := cell_blk HI.out.aft.kept 0
          have z1 := cell_blk HI.out.aft.good 0
          have z2 := cell_blk HI.out.aft.fin 0
          have z3 := cell_blk HI.out.aft.done 0
          simp only [List.getElem?_toArray, List.getElem?_cons_zero] at z0 z1 z2 z3
          rw [HE.out.1] at z3
          have f1 := fun e0 => fail_closed R e0 _ (cell_blk HI.out.reader 0)
          have f2 := fun m0 => rnum_closed R m0 _ (cell_blk HI.out.reader 0)
          have f3 := fun m0 => rtext_closed R m0 _ (cell_blk HI.out.reader 0)
          have f4 := left_closed R _ (cell_blk HI.out.reader 0)
          have f5 := tend_any _ _ _ _ HI.out.tape
          rw [← HE.out.2] at f5
          go_wp2_with (first | (go_at_call 21; ((with_reducible refine (f1 _).mono ?_); rintro e w7 ⟨rfl, rfl⟩)) | (go_at_call 21; ((with_reducible refine (fail_nil _ _).mono ?_); rintro e w8 ⟨rfl, rfl⟩)) | (go_at_call 23; ((with_reducible refine f5.mono ?_); rintro e w8 ⟨rfl, rfl⟩)) | (go_at_call 18; ((with_reducible refine (f2 _).mono ?_); rintro e w7 ⟨rfl, rfl⟩)) | (go_at_call 20; ((with_reducible refine (f3 _).mono ?_); rintro e w7 ⟨rfl, rfl⟩)) | (go_at_call 22; ((with_reducible refine f4.mono ?_); rintro e w7 ⟨rfl, rfl⟩)) | (go_at_call 18; ((with_reducible refine (rnum_nil _ _).mono ?_); rintro e w7 ⟨rfl, rfl⟩)) | (go_at_call 22; ((with_reducible refine (left_nil _).mono ?_); rintro e w7 ⟨rfl, rfl⟩)))
          go_ret
          exact ⟨rfl, HI.out.chg⟩

end Go.Proofs.Ytbmhhnkmkalkdaa
