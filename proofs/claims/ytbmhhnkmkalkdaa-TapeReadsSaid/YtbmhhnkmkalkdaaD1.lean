/- The closures of TapeReads. -/
import Derived.Test.YtbmhhnkmkalkdaaPanicClos
import Derived.Test.YtbmhhnkmkalkdaaOps
import Derived.Deep.RegionHeld3
namespace Go.Proofs.Ytbmhhnkmkalkdaa
open Go.RowKit

/-- Which call an operation makes. -/
def kmod (k : Int) : Int := (IntKind.u64.wrap k).tmod 3

/-- One call: its error, and what is left. -/
def stepOp (x : OpR) (l : List UInt8) : Int × List UInt8 :=
  if kmod x.kind = 0 then ((errNum l x.n : Nat), l.drop (numN 9 l 0 0).2.1)
  else if kmod x.kind = 1 then ((errText l x.n : Nat), l.drop ((numN 9 l 0 0).2.1 + (numN 9 l 0 0).1))
  else (x.n, l)

/-- How many calls are made, the error, and what is left. -/
def runOps : List OpR → List UInt8 → Nat × Int × List UInt8
  | [], l => (0, 0, l)
  | x :: xs, l => if (stepOp x l).1 = 0 then ((runOps xs (stepOp x l).2).1 + 1, (runOps xs (stepOp x l).2).2) else (1, (stepOp x l).1, (stepOp x l).2)

theorem c16_any {F : Nat} {b : Bool} {u : FrameMode} {w : World} (hF : w.heap[F]? = some (.cells #[.bool b] 4 (0, 0))) :
    CallsD Try.prog 16 #[.pointer (some ⟨F, 0, none⟩)] u w fun e u' w' => u' = u ∧ (e = .returned (.tuple #[]) ∧ w' = w.setCell ⟨F, 0, none⟩ (.bool true)) := by
  have f0 := cell_blk hF 0
  have f1 := froz_blk hF 0
  simp only [List.getElem?_toArray, List.getElem?_cons_zero] at f0
  go_enter_d Try.func16, Try.ntmps16
  go_wp2
  go_end0
  exact ⟨rfl, rfl⟩

/-- What holds at each round's head: the blocks are the document's tape X and the variable XV that leads to it, good, done, deferred, kept, and the reader R. -/
structure RInv (X XV G N F K R : Nat) (D : Nat → Prop) (k : Nat) (rest : List UInt8) (w wr : World) : Prop where
  reader : ∃ v, BytesAt D wr v rest ∧ ReaderAt wr R true v 0
  tape : TapeAt wr X rest 0
  done : wr.heap[N]? = some (.cells #[.int .i64 k] 3 (0, 0))
  good : wr.heap[G]? = some (.cells #[.bool true] 4 (0, 0))
  xv : wr.heap[XV]? = some (.cells #[.pointer (some ⟨X, 0, none⟩)] 36 (0, 0))
  fin : wr.heap[F]? = some (.cells #[.bool false] 4 (0, 0))
  kept : wr.heap[K]? = some (.cells #[.pointer (some ⟨R, 0, none⟩)] 39 (0, 0))
  chg : Chg (fun k => k = R ∨ k = N ∨ k = G ∨ k = X ∨ k = K ∨ k = F) w wr

/-- What f leaves: the error, what is left, how many calls were made. -/
structure FinS (X XV G N F K R : Nat) (D : Nat → Prop) (r : Nat × Int × List UInt8) (w w' : World) : Prop where
  reader : ∃ ao m cp, ReaderAt w' R true (.slice ao m cp) r.2.1 ∧ (r.2.1 = 0 → m = r.2.2.length)
  done : w'.heap[N]? = some (.cells #[.int .i64 r.1] 3 (0, 0))
  good : w'.heap[G]? = some (.cells #[.bool true] 4 (0, 0))
  fin : w'.heap[F]? = some (.cells #[.bool true] 4 (0, 0))
  kept : w'.heap[K]? = some (.cells #[.pointer (some ⟨R, 0, none⟩)] 39 (0, 0))
  chg : Chg (fun k => k = R ∨ k = N ∨ k = G ∨ k = X ∨ k = K ∨ k = F) w w'

def C15 (X XV G N F K R : Nat) (D : Nat → Prop) (ops : List OpR) (l : List UInt8) (w : World) (e : Ending) (w' : World) : Prop :=
  FinS X XV G N F K R D (runOps ops l) w w' ∧
  (((runOps ops l).2.1 = 0 ∧ e = .returned (.tuple #[])) ∨ ((runOps ops l).2.1 ≠ 0 ∧ e = .panicked [{ v := stopOf R, recovered := false }]))

theorem finS_mk {X XV G N F K R : Nat} {D : Nat → Prop} {r : Nat × Int × List UInt8} {w wr : World} (hFR : F ≠ R) (hFN : F ≠ N) (hFG : F ≠ G) (hFK : F ≠ K)
    (hR : ∃ ao m cp, ReaderAt wr R true (.slice ao m cp) r.2.1 ∧ (r.2.1 = 0 → m = r.2.2.length)) (hN : wr.heap[N]? = some (.cells #[.int .i64 r.1] 3 (0, 0))) (hG : wr.heap[G]? = some (.cells #[.bool true] 4 (0, 0)))
    (hF : wr.heap[F]? = some (.cells #[.bool false] 4 (0, 0))) (hK : wr.heap[K]? = some (.cells #[.pointer (some ⟨R, 0, none⟩)] 39 (0, 0))) (hc : Chg (fun k => k = R ∨ k = N ∨ k = G ∨ k = X ∨ k = K ∨ k = F) w wr) :
    FinS X XV G N F K R D r w (wr.setCell ⟨F, 0, none⟩ (.bool true)) := by
  have hcs := setCell_chg wr F 0 (.bool true)
  obtain ⟨ao, m, cp, hR, hm⟩ := hR
  exact ⟨⟨ao, m, cp, blk_keep hR hcs (fun h => hFR h.symm), hm⟩, blk_keep hN hcs (fun h => hFN h.symm), blk_keep hG hcs (fun h => hFG h.symm), set_blk hF 0 (.bool true), blk_keep hK hcs (fun h => hFK h.symm), hc.trans hcs (fun _ _ h => .inr (.inr (.inr (.inr (.inr h)))))⟩

def Sep (X XV G N F K R Q : Nat) (LO : Nat) : Prop := LO ≤ X ∧ X < XV ∧ XV < G ∧ G < N ∧ N < F ∧ F < K ∧ K < R ∧ R < Q

/-- What holds within a round. -/
structure Mid (X XV G N F K R Q LO : Nat) (k : Nat) (rest trest : List UInt8) (te : Int) (box : Array Value) (w wr : World) : Prop where
  reader : ∃ v, BytesAt (fun k => k < LO) wr v rest ∧ ReaderAt wr R true v 0
  tape : TapeAt wr X trest te
  done : wr.heap[N]? = some (.cells #[.int .i64 k] 3 (0, 0))
  good : wr.heap[G]? = some (.cells #[.bool true] 4 (0, 0))
  xv : wr.heap[XV]? = some (.cells #[.pointer (some ⟨X, 0, none⟩)] 36 (0, 0))
  fin : wr.heap[F]? = some (.cells #[.bool false] 4 (0, 0))
  kept : wr.heap[K]? = some (.cells #[.pointer (some ⟨R, 0, none⟩)] 39 (0, 0))
  box : wr.heap[Q]? = some (.cells box 29 (0, 0))
  chg : Chg (fun k => k = R ∨ k = N ∨ k = G ∨ k = X ∨ k = K ∨ k = F) w wr

section
variable {X XV G N F K R Q LO k : Nat} {rest trest : List UInt8} {te : Int} {box : Array Value} {w wr w' : World} {e0 : Int} {en : Ending}

theorem mid_of (hs : Sep X XV G N F K R Q LO) (hQ : Q = wr.heap.size) (h : RInv X XV G N F K R (fun k => k < LO) k rest w wr) :
    Mid X XV G N F K R Q LO (k + 1) rest rest 0 box w ((wr.setCell ⟨N, 0, none⟩ (.int .i64 ((k : Int) + 1))).alloc (.cells box 29)) := by
  obtain ⟨s1, s2, s3, s4, s5, s6, s7, s8⟩ := hs
  have c1 := setCell_chg wr N 0 (.int .i64 ((k : Int) + 1))
  have c2 : Chg (fun _ => False) (wr.setCell ⟨N, 0, none⟩ (.int .i64 ((k : Int) + 1))) ((wr.setCell ⟨N, 0, none⟩ (.int .i64 ((k : Int) + 1))).alloc (.cells box 29)) := (Chg.refl _ _).alloc _
  have hsz : (wr.setCell ⟨N, 0, none⟩ (.int .i64 ((k : Int) + 1))).heap.size = Q := by rw [hQ]; simp [World.setCell]
  obtain ⟨v, hv, hR⟩ := h.reader
  refine ⟨⟨v, (hv.keep c1 (fun i hi h => by omega)).keep c2 (fun _ _ => id), blk_keep (blk_keep hR c1 (by omega)) c2 id⟩, blk_keep (blk_keep h.tape c1 (by omega)) c2 id, ?_, blk_keep (blk_keep h.good c1 (by omega)) c2 id, blk_keep (blk_keep h.xv c1 (by omega)) c2 id,
    blk_keep (blk_keep h.fin c1 (by omega)) c2 id, blk_keep (blk_keep h.kept c1 (by omega)) c2 id, ?_, (h.chg.trans c1 (fun _ _ h => .inr (.inl h))).trans c2 (fun _ _ h => h.elim)⟩
  · exact blk_keep (set_blk h.done 0 (.int .i64 ((k : Int) + 1))) c2 id
  · rw [← hsz]
    exact heap_alloc_new _ _

theorem Mid.tape_step (hs : Sep X XV G N F K R Q LO) (h : Mid X XV G N F K R Q LO k rest trest te box w wr) (hc : Chg (· = X) wr w') {t' : List UInt8} {e' : Int} (ht : TapeAt w' X t' e') : Mid X XV G N F K R Q LO k rest t' e' box w w' := by
  obtain ⟨s1, s2, s3, s4, s5, s6, s7, s8⟩ := hs
  obtain ⟨v, hv, hR⟩ := h.reader
  exact ⟨⟨v, hv.keep hc (fun i hi h => by omega), blk_keep hR hc (by omega)⟩, ht, blk_keep h.done hc (by omega), blk_keep h.good hc (by omega), blk_keep h.xv hc (by omega), blk_keep h.fin hc (by omega), blk_keep h.kept hc (by omega), blk_keep h.box hc (by omega),
    h.chg.trans hc (fun _ _ h => .inr (.inr (.inr (.inl h))))⟩

theorem Mid.reader_step (hs : Sep X XV G N F K R Q LO) (h : Mid X XV G N F K R Q LO k rest trest te box w wr) (hc : Chg (· = R) wr w') {r' : List UInt8} (ht : ∃ v, BytesAt (fun k => k < LO) w' v r' ∧ ReaderAt w' R true v 0) : Mid X XV G N F K R Q LO k r' trest te box w w' := by
  obtain ⟨s1, s2, s3, s4, s5, s6, s7, s8⟩ := hs
  exact ⟨ht, blk_keep h.tape hc (by omega), blk_keep h.done hc (by omega), blk_keep h.good hc (by omega), blk_keep h.xv hc (by omega), blk_keep h.fin hc (by omega), blk_keep h.kept hc (by omega), blk_keep h.box hc (by omega), h.chg.trans hc (fun _ _ h => .inl h)⟩

theorem Mid.good_step (hs : Sep X XV G N F K R Q LO) (h : Mid X XV G N F K R Q LO k rest trest te box w wr) : Mid X XV G N F K R Q LO k rest trest te box w (wr.setCell ⟨G, 0, none⟩ (.bool true)) := by
  obtain ⟨s1, s2, s3, s4, s5, s6, s7, s8⟩ := hs
  have hc := setCell_chg wr G 0 (.bool true)
  obtain ⟨v, hv, hR⟩ := h.reader
  exact ⟨⟨v, hv.keep hc (fun i hi h => by omega), blk_keep hR hc (by omega)⟩, blk_keep h.tape hc (by omega), blk_keep h.done hc (by omega), set_blk h.good 0 (.bool true), blk_keep h.xv hc (by omega), blk_keep h.fin hc (by omega), blk_keep h.kept hc (by omega), blk_keep h.box hc (by omega), h.chg.trans hc (fun _ _ h => .inr (.inr (.inl h)))⟩

theorem Mid.inv (h : Mid X XV G N F K R Q LO k rest rest 0 box w wr) : RInv X XV G N F K R (fun k => k < LO) k rest w wr :=
  ⟨h.reader, h.tape, h.done, h.good, h.xv, h.fin, h.kept, h.chg⟩

theorem Mid.drew (h : Mid X XV G N F K R Q LO k rest trest te box w wr) : Mid X XV G N F K R Q LO k rest trest te box w wr.drew :=
  ⟨h.reader, h.tape, h.done, h.good, h.xv, h.fin, h.kept, h.box, h.chg.drew⟩

/-- The error ends f: what the function that f defers leaves. -/
theorem Mid.stops (hs : Sep X XV G N F K R Q LO) (h : Mid X XV G N F K R Q LO k rest trest te box w wr) (hst : Stops R e0 wr en w') (he : e0 ≠ 0) {ops : List OpR} {l l' : List UInt8} (hr : runOps ops l = (k, e0, l')) :
    en = .panicked [{ v := stopOf R, recovered := false }] ∧ w'.heap[F]? = some (.cells #[.bool false] 4 (0, 0)) ∧ C15 X XV G N F K R (fun k => k < LO) ops l w en (w'.setCell ⟨F, 0, none⟩ (.bool true)) := by
  obtain ⟨s1, s2, s3, s4, s5, s6, s7, s8⟩ := hs
  obtain ⟨h1, ao, m, cp, hR, hc⟩ := hst
  have hF := blk_keep h.fin hc (by omega)
  refine ⟨h1, hF, ?_⟩
  unfold C15
  rw [hr]
  exact ⟨finS_mk (by omega) (by omega) (by omega) (by omega) ⟨ao, m, cp, hR, fun h => absurd h he⟩ (blk_keep h.done hc (by omega)) (blk_keep h.good hc (by omega)) hF (blk_keep h.kept hc (by omega)) (h.chg.trans hc (fun _ _ h => .inl h)), .inr ⟨he, h1⟩⟩
end

theorem run_cont {x : OpR} {xs ops : List OpR} {rest r' l : List UInt8} {k : Nat} (hs : stepOp x rest = (0, r')) (h : runOps ops l = ((runOps (x :: xs) rest).1 + k, (runOps (x :: xs) rest).2)) :
    runOps ops l = ((runOps xs r').1 + (k + 1), (runOps xs r').2) := by
  rw [h]
  simp only [runOps, hs, if_true]
  rw [Nat.add_assoc, Nat.add_comm 1 k]

theorem run_stop {x : OpR} {xs ops : List OpR} {rest r' l : List UInt8} {k : Nat} {e : Int} (hs : stepOp x rest = (e, r')) (he : e ≠ 0) (h : runOps ops l = ((runOps (x :: xs) rest).1 + k, (runOps (x :: xs) rest).2)) :
    runOps ops l = (k + 1, e, r') := by
  rw [h]
  simp only [runOps, hs, if_neg he]
  rw [Nat.add_comm]

set_option maxRecDepth 100000 in
set_option maxHeartbeats 2000000 in
theorem c15_any (LB X XV G N F K R : Nat) (h1 : LB < X) (h2 : X < XV) (h3 : XV < G) (h4 : G < N) (h5 : N < F) (h6 : F < K) (h7 : K < R) (LO : Nat) (ao : Option Addr) (cp : Nat) (ops : List OpR) (l : List UInt8) (w w0 : World) (hlo : ops.length ≤ 60) (hl : l.length ≤ 3000) (hLO : LO ≤ LB)
    (hops : OpsAt (fun k => k < LO) w0 ao ops) (h0 : Chg (fun _ => False) w0 w) (hL : w.heap[LB]? = some (.cells #[.slice ao ops.length cp] 22 (0, 0)))
    (k0 : Value) (hK : w.heap[K]? = some (.cells #[k0] 39 (0, 0)))
    (hi : ∀ w1, Chg (· = K) w w1 → w1.heap[K]? = some (.cells #[.pointer (some ⟨R, 0, none⟩)] 39 (0, 0)) → RInv X XV G N F K R (fun k => k < LO) 0 l w w1) :
    Calls Try.prog 15 #[.pointer (some ⟨R, 0, none⟩), .pointer (some ⟨K, 0, none⟩), .pointer (some ⟨F, 0, none⟩), .pointer (some ⟨LB, 0, none⟩), .pointer (some ⟨N, 0, none⟩), .pointer (some ⟨XV, 0, none⟩), .pointer (some ⟨G, 0, none⟩)] w (C15 X XV G N F K R (fun k => k < LO) ops l w) := by
  have hmf : ∀ (fn : Fn) (first cap : Array Value) (w : World), (Instr.makeFunc fn first cap).run Try.prog w = .ok (.func fn first cap) w := fun _ _ _ _ => rfl
  have q0 := cell_blk hK 0
  have q1 := froz_blk hK 0
  have l0 := cell_blk hL 0
  simp only [List.getElem?_toArray, List.getElem?_cons_zero] at q0 l0
  have hKL : ¬ LB = K := by omega
  have hi1 := hi _ (setCell_chg w K 0 (.pointer (some ⟨R, 0, none⟩))) (set_blk hK 0 _)
  go_enter_defers Try.func15, Try.ntmps15
  go_wp2_with fail
  clear hi q0 q1 l0 hK hKL hmf
  go_loopw [18] (fun i wr => ∃ (k : Nat) (rest : List UInt8), i = .int .i64 k ∧ k ≤ ops.length ∧ rest.length ≤ 3000 ∧ RInv X XV G N F K R (fun k => k < LO) k rest w wr ∧ Hid (runOps ops l = ((runOps (ops.drop k) rest).1 + k, (runOps (ops.drop k) rest).2))) (fun i _ => ops.length - (intOf i).toNat)
  case atStart => exact ⟨0, l, rfl, Nat.zero_le _, hl, hi1, rfl⟩
  case round =>
    clear hi1
    obtain ⟨k, rest, rfl, hk, hrl, ⟨⟨v, hv, hR⟩, hT, hN, hG, hXV, hF, hKp, hc⟩, HS⟩ := hrel
    by_cases hlt : k < ops.length
    · obtain ⟨b, off, rfl, hbL, ⟨d0, x1, x2⟩, ⟨d1, y1, y2⟩, vb, d2, hvb⟩ := hops k hlt
      obtain ⟨ao2, cp2, rfl⟩ := hvb.shape
      have hw := (h0.mono (fun _ _ h => h.elim)).trans hc (fun _ _ h => h)
      have hnS : ∀ i, i < LO → ¬ (i = R ∨ i = N ∨ i = G ∨ i = X ∨ i = K ∨ i = F) := by rintro i hi (h | h | h | h | h | h) <;> omega
      have c0 := hw.cell d0 (hnS _ hbL)
      have c1 := hw.cell d1 (hnS _ hbL)
      have c2 := hw.cell d2 (hnS _ hbL)
      have hst : Hid (runOps (ops.drop k) rest = runOps (ops[k] :: ops.drop (k + 1)) rest) := by
        rw [← List.drop_eq_getElem_cons hlt]
        rfl
      have HR : Hid (runOps ops l = ((runOps (ops[k] :: ops.drop (k + 1)) rest).1 + k, (runOps (ops[k] :: ops.drop (k + 1)) rest).2)) := by
        rw [← hst.out]
        exact HS
      have hsep : Sep X XV G N F K R wr.heap.size LO := ⟨by omega, h2, h3, h4, h5, h6, h7, lt_blk hR⟩
      have hmid := fun box => mid_of (box := box) hsep rfl ⟨⟨v, hv, hR⟩, hT, hN, hG, hXV, hF, hKp, hc⟩
      clear d0 d1 d2 hw hvb hst HS
      generalize ops[k] = x at *
      obtain ⟨kd, n, bz⟩ := x
      dsimp only at *
      have n0 := cell_blk hN 0
      have n1 := froz_blk hN 0
      have bN := lt_blk hN
      simp only [List.getElem?_toArray, List.getElem?_cons_zero] at n0
      have v0 := cell_blk hXV 0
      have bV := lt_blk hXV
      have hVN : ¬ XV = N := by omega
      simp only [List.getElem?_toArray, List.getElem?_cons_zero] at v0
      by_cases k0 : kmod kd = 0
      · have k0' : ((IntKind.u64.wrap kd).tmod 3 == 0) = true := by simpa [kmod] using k0
        have HM := hid hsep
        have HB := hid (hmid #[.int .i64 kd, .int .i64 n, .slice ao2 bz.length cp2])
        clear hmid hsep
        go_wp2_with fail
        have bQ := HM.out
        clear hv hR hT hN hG hXV hF hKp hc c0 c1 c2 n0 n1 bN v0 bV hVN
        generalize (wr.setCell ⟨N, 0, none⟩ (.int .i64 ((k : Int) + 1))).alloc (.cells #[.int .i64 kd, .int .i64 n, .slice ao2 bz.length cp2] 29) = wa at *
        generalize wr.heap.size = Q at *
        refine (tnum_any X rest n wa (by omega) HB.out.tape).mono ?_
        rintro e wb (⟨he, rfl, hT1, hc1⟩ | ⟨he, rfl, ⟨t1, hT1⟩, hc1⟩)
        · have hm1 := HB.out.tape_step HM.out hc1 hT1
          obtain ⟨v1, hv1, hR1⟩ := hm1.reader
          have hrd := rnum_reads (most := n) (by omega) hv1 (by omega) hR1 he
          have q1 := cell_blk hm1.box 1
          simp only [List.getElem?_toArray, List.getElem?_cons_zero, List.getElem?_cons_succ] at q1
          have HM1 := hid hm1
          clear hm1 hv1 hR1 hc1 hT1 HB
          go_wp2_with (go_at_call 18; ((with_reducible refine hrd.mono ?_); rintro e wc ⟨rfl, v2, hv2, hR2, hc2⟩; have HM2 := hid (HM1.out.reader_step HM.out hc2 ⟨v2, hv2, hR2⟩); have g0 := cell_blk HM2.out.good 0; have g1 := froz_blk HM2.out.good 0; have x0 := cell_blk HM2.out.xv 0; have t1 := cell_blk HM2.out.tape 1; simp only [List.getElem?_toArray, List.getElem?_cons_zero, List.getElem?_cons_succ] at g0 x0 t1))
          have HM3 := hid (HM2.out.good_step HM.out)
          clear g0 g1 x0 t1 q1 hv2 hR2 hc2 hrd
          generalize wc.setCell ⟨G, 0, none⟩ (.bool true) = wd at *
          obtain ⟨v3, hv3, hR3⟩ := HM3.out.reader
          have hlf := left_reads (w := wd.drew) hR3 hv3
          have g0 := cell_blk HM3.out.good 0
          have g1 := froz_blk HM3.out.good 0
          have x0 := cell_blk HM3.out.xv 0
          have t0 := cell_blk HM3.out.tape 0
          simp only [List.getElem?_toArray, List.getElem?_cons_zero, List.getElem?_cons_succ] at g0 x0 t0
          have HX := hid (run_cont (x := ⟨kd, n, bz⟩) (r' := rest.drop (numN 9 rest 0 0).2.1) (by simp [stepOp, k0, he]) HR.out)
          have HL3 : Hid ((rest.drop (numN 9 rest 0 0).2.1).length ≤ rest.length) := hid (by simp)
          have HM4 := hid (HM3.out.good_step HM.out)
          have K1 : (wd.setCell ⟨G, 0, none⟩ (.bool true)).drew.cell? ⟨G, 0, none⟩ = some (.bool true) := cell_blk HM4.out.drew.good 0
          have K2 : (wd.setCell ⟨G, 0, none⟩ (.bool true)).drew.frozen? ⟨G, 0, none⟩ = false := froz_blk HM4.out.drew.good 0
          have K3 : (wd.setCell ⟨G, 0, none⟩ (.bool true)).drew.cell? ⟨XV, 0, none⟩ = some (.pointer (some ⟨X, 0, none⟩)) := cell_blk HM4.out.drew.xv 0
          have K4 : (wd.setCell ⟨G, 0, none⟩ (.bool true)).drew.cell? ⟨X, 0, none⟩ = some (.string ⟨(rest.drop (numN 9 rest 0 0).2.1).toArray⟩) := cell_blk HM4.out.drew.tape 0
          have KK := hid (And.intro K1 (And.intro K2 (And.intro K3 K4)))
          clear K1 K2 K3 K4
          clear hv3 hR3
          go_region_held3 (fun w' => w'.cell? ⟨G, 0, none⟩ = some (.bool true) ∧ w'.frozen? ⟨G, 0, none⟩ = false ∧ w'.cell? ⟨XV, 0, none⟩ = some (.pointer (some ⟨X, 0, none⟩)) ∧ w'.cell? ⟨X, 0, none⟩ = some (.string ⟨(rest.drop (numN 9 rest 0 0).2.1).toArray⟩)) (first | exact KK.out | (go_keep; done)) (first | (go_at_call 22; ((with_reducible refine hlf.mono ?_); rintro e w9 ⟨rfl, rfl⟩)))
          go_wp2
          go_roundw
          case rel => exact ⟨k + 1, rest.drop (numN 9 rest 0 0).2.1, by go_num, by omega, Nat.le_trans HL3.out (by omega), HM4.out.drew.inv, hid HX.out⟩
          case measure => simp [intOf]; omega
        · have hm1 := HB.out.tape_step HM.out hc1 hT1
          obtain ⟨v1, hv1, hR1⟩ := hm1.reader
          have hrd := rnum_stops (most := n) (by omega) hv1 hR1 he
          have q1 := cell_blk hm1.box 1
          simp only [List.getElem?_toArray, List.getElem?_cons_zero, List.getElem?_cons_succ] at q1
          have HM1 := hid hm1
          have HX := hid (run_stop (x := ⟨kd, n, bz⟩) (e := (errNum rest n : Int)) (r' := rest.drop (numN 9 rest 0 0).2.1) (by simp [stepOp, k0]) (by omega) HR.out)
          have HE : Hid ((errNum rest n : Int) ≠ 0) := hid (by omega)
          clear hm1 hv1 hR1 hc1 hT1 HB
          go_wp2_with (go_at_call 18; ((with_reducible refine hrd.mono ?_); rintro e wc ⟨rfl, hst⟩; have HST := hid (HM1.out.stops HM.out ⟨rfl, hst⟩ HE.out HX.out); clear hst))
          refine leaves_cons (f := 16) (args := #[.pointer (some ⟨F, 0, none⟩)]) (by simp) (by simp [go_sem]) ?_
          refine (c16_any HST.out.2.1).mono ?_
          rintro e u' w2 ⟨rfl, rfl, rfl⟩
          simp [Leaves, settle]
          exact HST.out.2.2
      · have k0' : ((IntKind.u64.wrap kd).tmod 3 == 0) = false := by simpa [kmod] using k0
        by_cases k1 : kmod kd = 1
        · have k1' : ((IntKind.u64.wrap kd).tmod 3 == 1) = true := by simpa [kmod] using k1
          have HM := hid hsep
          have HB := hid (hmid #[.int .i64 kd, .int .i64 n, .slice ao2 bz.length cp2])
          clear hmid hsep
          go_wp2_with fail
          clear hv hR hT hN hG hXV hF hKp hc c0 c1 c2 n0 n1 bN v0 bV hVN
          generalize (wr.setCell ⟨N, 0, none⟩ (.int .i64 ((k : Int) + 1))).alloc (.cells #[.int .i64 kd, .int .i64 n, .slice ao2 bz.length cp2] 29) = wa at *
          generalize wr.heap.size = Q at *
          refine (ttext_any X rest n wa (by omega) HB.out.tape).mono ?_
          rintro e wb (⟨he, rfl, hT1, hc1⟩ | ⟨he, rfl, ⟨t1, hT1⟩, hc1⟩)
          · have hm1 := HB.out.tape_step HM.out hc1 hT1
            obtain ⟨v1, hv1, hR1⟩ := hm1.reader
            have hrd := rtext_reads (most := n) (by omega) hv1 (by omega) hR1 he
            have q1 := cell_blk hm1.box 1
            simp only [List.getElem?_toArray, List.getElem?_cons_zero, List.getElem?_cons_succ] at q1
            have HM1 := hid hm1
            clear hm1 hv1 hR1 hc1 hT1 HB
            go_wp2_with (go_at_call 20; ((with_reducible refine hrd.mono ?_); rintro e wc ⟨ao3, cp3, rfl, hby, v2, hv2, hR2, hc2⟩; have hconv := conv_bytes hby; have HM2 := hid (HM1.out.reader_step HM.out hc2 ⟨v2, hv2, hR2⟩); have g0 := cell_blk HM2.out.good 0; have g1 := froz_blk HM2.out.good 0; have x0 := cell_blk HM2.out.xv 0; have t1 := cell_blk HM2.out.tape 1; simp only [List.getElem?_toArray, List.getElem?_cons_zero, List.getElem?_cons_succ] at g0 x0 t1))
            clear hconv hby
            have HM3 := hid (HM2.out.good_step HM.out)
            clear g0 g1 x0 t1 q1 hv2 hR2 hc2 hrd
            generalize wc.setCell ⟨G, 0, none⟩ (.bool true) = wd at *
            obtain ⟨v3, hv3, hR3⟩ := HM3.out.reader
            have hlf := left_reads (w := wd.drew) hR3 hv3
            have g0 := cell_blk HM3.out.good 0
            have g1 := froz_blk HM3.out.good 0
            have x0 := cell_blk HM3.out.xv 0
            have t0 := cell_blk HM3.out.tape 0
            simp only [List.getElem?_toArray, List.getElem?_cons_zero, List.getElem?_cons_succ] at g0 x0 t0
            have HX := hid (run_cont (x := ⟨kd, n, bz⟩) (r' := rest.drop ((numN 9 rest 0 0).2.1 + (numN 9 rest 0 0).1)) (by simp [stepOp, k0, k1, he]) HR.out)
            have HL3 : Hid ((rest.drop ((numN 9 rest 0 0).2.1 + (numN 9 rest 0 0).1)).length ≤ rest.length) := hid (by simp)
            have HM4 := hid (HM3.out.good_step HM.out)
            have K1 : (wd.setCell ⟨G, 0, none⟩ (.bool true)).drew.cell? ⟨G, 0, none⟩ = some (.bool true) := cell_blk HM4.out.drew.good 0
            have K2 : (wd.setCell ⟨G, 0, none⟩ (.bool true)).drew.frozen? ⟨G, 0, none⟩ = false := froz_blk HM4.out.drew.good 0
            have K3 : (wd.setCell ⟨G, 0, none⟩ (.bool true)).drew.cell? ⟨XV, 0, none⟩ = some (.pointer (some ⟨X, 0, none⟩)) := cell_blk HM4.out.drew.xv 0
            have K4 : (wd.setCell ⟨G, 0, none⟩ (.bool true)).drew.cell? ⟨X, 0, none⟩ = some (.string ⟨(rest.drop ((numN 9 rest 0 0).2.1 + (numN 9 rest 0 0).1)).toArray⟩) := cell_blk HM4.out.drew.tape 0
            have KK := hid (And.intro K1 (And.intro K2 (And.intro K3 K4)))
            clear K1 K2 K3 K4
            clear hv3 hR3
            go_region_held3 (fun w' => w'.cell? ⟨G, 0, none⟩ = some (.bool true) ∧ w'.frozen? ⟨G, 0, none⟩ = false ∧ w'.cell? ⟨XV, 0, none⟩ = some (.pointer (some ⟨X, 0, none⟩)) ∧ w'.cell? ⟨X, 0, none⟩ = some (.string ⟨(rest.drop ((numN 9 rest 0 0).2.1 + (numN 9 rest 0 0).1)).toArray⟩)) (first | exact KK.out | (go_keep; done)) (first | (go_at_call 22; ((with_reducible refine hlf.mono ?_); rintro e w9 ⟨rfl, rfl⟩)))
            go_wp2
            go_roundw
            case rel => exact ⟨k + 1, rest.drop ((numN 9 rest 0 0).2.1 + (numN 9 rest 0 0).1), by go_num, by omega, Nat.le_trans HL3.out (by omega), HM4.out.drew.inv, hid HX.out⟩
            case measure => simp [intOf]; omega
          · have hm1 := HB.out.tape_step HM.out hc1 hT1
            obtain ⟨v1, hv1, hR1⟩ := hm1.reader
            have hrd := rtext_stops (most := n) (by omega) hv1 hR1 he
            have q1 := cell_blk hm1.box 1
            simp only [List.getElem?_toArray, List.getElem?_cons_zero, List.getElem?_cons_succ] at q1
            have HM1 := hid hm1
            have HX := hid (run_stop (x := ⟨kd, n, bz⟩) (e := (errText rest n : Int)) (r' := rest.drop ((numN 9 rest 0 0).2.1 + (numN 9 rest 0 0).1)) (by simp [stepOp, k0, k1]) (by omega) HR.out)
            have HE : Hid ((errText rest n : Int) ≠ 0) := hid (by omega)
            clear hm1 hv1 hR1 hc1 hT1 HB
            go_wp2_with (go_at_call 20; ((with_reducible refine hrd.mono ?_); rintro e wc ⟨rfl, hst⟩; have HST := hid (HM1.out.stops HM.out ⟨rfl, hst⟩ HE.out HX.out); clear hst))
            refine leaves_cons (f := 16) (args := #[.pointer (some ⟨F, 0, none⟩)]) (by simp) (by simp [go_sem]) ?_
            refine (c16_any HST.out.2.1).mono ?_
            rintro e u' w2 ⟨rfl, rfl, rfl⟩
            simp [Leaves, settle]
            exact HST.out.2.2
        · have k1' : ((IntKind.u64.wrap kd).tmod 3 == 1) = false := by simpa [kmod] using k1
          have HM := hid hsep
          have HB := hid (hmid #[.int .i64 kd, .int .i64 n, .slice ao2 bz.length cp2])
          clear hmid hsep
          have t1 := cell_blk hT 1
          have ft1 := froz_blk hT 1
          have bT := lt_blk hT
          have hNX : ¬ N = X := by omega
          have hXN : ¬ X = N := by omega
          simp only [List.getElem?_toArray, List.getElem?_cons_zero, List.getElem?_cons_succ] at t1
          go_wp2_with fail
          rw [(World.setCell_alloc_past (w := wr.setCell ⟨N, 0, none⟩ (.int .i64 ((k : Int) + 1))) (.cells #[.int .i64 kd, .int .i64 n, .slice ao2 bz.length cp2] 29) X 1 (.int .i64 n) (by simpa [World.setCell] using bT)).symm]
          clear hv hR hT hN hG hXV hF hKp hc c0 c1 c2 n0 n1 bN v0 bV hVN t1 ft1 bT hNX hXN
          generalize (wr.setCell ⟨N, 0, none⟩ (.int .i64 ((k : Int) + 1))).alloc (.cells #[.int .i64 kd, .int .i64 n, .slice ao2 bz.length cp2] 29) = wa at *
          generalize wr.heap.size = Q at *
          have HM2 := hid (HB.out.tape_step HM.out (setCell_chg wa X 1 (.int .i64 n)) (set_blk HB.out.tape 1 (.int .i64 n)))
          clear HB
          generalize wa.setCell ⟨X, 1, none⟩ (.int .i64 n) = wb at *
          obtain ⟨v1, hv1, hR1⟩ := HM2.out.reader
          obtain ⟨ao1, cp1, rfl⟩ := hv1.shape
          by_cases hn0 : n = 0
          · subst hn0
            have hfo := fail_ok R wb (cell_blk hR1 0)
            clear hv1 hR1
            have g0 := cell_blk HM2.out.good 0
            have g1 := froz_blk HM2.out.good 0
            have x0 := cell_blk HM2.out.xv 0
            have t1 := cell_blk HM2.out.tape 1
            simp only [List.getElem?_toArray, List.getElem?_cons_zero, List.getElem?_cons_succ] at g0 x0 t1
            refine hfo.mono ?_
            rintro e w9 ⟨rfl, rfl⟩
            go_wp2_with fail
            have HM3 := hid (HM2.out.good_step HM.out)
            clear g0 g1 x0 t1
            generalize wb.setCell ⟨G, 0, none⟩ (.bool true) = wd at *
            obtain ⟨v3, hv3, hR3⟩ := HM3.out.reader
            have hlf := left_reads (w := wd.drew) hR3 hv3
            have g0 := cell_blk HM3.out.good 0
            have g1 := froz_blk HM3.out.good 0
            have x0 := cell_blk HM3.out.xv 0
            have t0 := cell_blk HM3.out.tape 0
            simp only [List.getElem?_toArray, List.getElem?_cons_zero, List.getElem?_cons_succ] at g0 x0 t0
            have HX := hid (run_cont (x := ⟨kd, 0, bz⟩) (r' := rest) (by simp [stepOp, k0, k1]) HR.out)
            have HL3 : Hid ((rest).length ≤ rest.length) := hid (Nat.le_refl _)
            have HM4 := hid (HM3.out.good_step HM.out)
            have K1 : (wd.setCell ⟨G, 0, none⟩ (.bool true)).drew.cell? ⟨G, 0, none⟩ = some (.bool true) := cell_blk HM4.out.drew.good 0
            have K2 : (wd.setCell ⟨G, 0, none⟩ (.bool true)).drew.frozen? ⟨G, 0, none⟩ = false := froz_blk HM4.out.drew.good 0
            have K3 : (wd.setCell ⟨G, 0, none⟩ (.bool true)).drew.cell? ⟨XV, 0, none⟩ = some (.pointer (some ⟨X, 0, none⟩)) := cell_blk HM4.out.drew.xv 0
            have K4 : (wd.setCell ⟨G, 0, none⟩ (.bool true)).drew.cell? ⟨X, 0, none⟩ = some (.string ⟨(rest).toArray⟩) := cell_blk HM4.out.drew.tape 0
            have KK := hid (And.intro K1 (And.intro K2 (And.intro K3 K4)))
            clear K1 K2 K3 K4
            clear hv3 hR3
            go_region_held3 (fun w' => w'.cell? ⟨G, 0, none⟩ = some (.bool true) ∧ w'.frozen? ⟨G, 0, none⟩ = false ∧ w'.cell? ⟨XV, 0, none⟩ = some (.pointer (some ⟨X, 0, none⟩)) ∧ w'.cell? ⟨X, 0, none⟩ = some (.string ⟨(rest).toArray⟩)) (first | exact KK.out | (go_keep; done)) (first | (go_at_call 22; ((with_reducible refine hlf.mono ?_); rintro e w9 ⟨rfl, rfl⟩)))
            go_wp2
            go_roundw
            case rel => exact ⟨k + 1, rest, by go_num, by omega, Nat.le_trans HL3.out (by omega), HM4.out.drew.inv, hid HX.out⟩
            case measure => simp [intOf]; omega
          · have hst := fail_any hR1 hn0
            have HX := hid (run_stop (x := ⟨kd, n, bz⟩) (e := n) (r' := rest) (by simp [stepOp, k0, k1]) hn0 HR.out)
            clear hv1 hR1
            refine hst.mono ?_
            rintro e wc hst
            obtain ⟨rfl, hst2⟩ := hst
            have HST := hid (HM2.out.stops HM.out ⟨rfl, hst2⟩ hn0 HX.out)
            clear hst2
            go_wp2_with fail
            refine leaves_cons (f := 16) (args := #[.pointer (some ⟨F, 0, none⟩)]) (by simp) (by simp [go_sem]) ?_
            refine (c16_any HST.out.2.1).mono ?_
            rintro e u' w2 ⟨rfl, rfl, rfl⟩
            simp [Leaves, settle]
            exact HST.out.2.2
    · have hk2 : k = ops.length := by omega
      subst hk2
      have HS2 : Hid (runOps ops l = (ops.length, 0, rest)) := by
        have := HS.out
        rw [List.drop_eq_nil_of_le (Nat.le_refl _)] at this
        refine hid ?_
        simpa [runOps] using this
      clear HS
      go_wp2
      refine leaves_cons (f := 16) (args := #[.pointer (some ⟨F, 0, none⟩)]) (by simp) (by simp [go_sem]) ?_
      refine (c16_any hF).mono ?_
      rintro e u' w2 ⟨rfl, rfl, rfl⟩
      obtain ⟨ao1, cp1, rfl⟩ := hv.shape
      simp [Leaves, settle, results, Try.results15, go_sem]
      unfold C15
      rw [HS2.out]
      exact ⟨finS_mk (by omega) (by omega) (by omega) (by omega) ⟨ao1, _, cp1, hR, fun _ => rfl⟩ hN hG hF hKp hc, .inl ⟨rfl, rfl⟩⟩

end Go.Proofs.Ytbmhhnkmkalkdaa
