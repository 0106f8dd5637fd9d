/- Texts that the proof leans on, in one: KwAddM, FmGetM. -/
import Derived.Test.YtjaplnainlbldaaFr18
import Derived.Test.YtjaplnainlbldaaFr10
import Derived.Test.YtjaplnainlbldaaFr9
/- A fact more: the map of places, from its entry to its store. -/
namespace Go.Proofs.Ytjaplnainlbldaa
open Go.RowKit Go.Maps Go.ChangeMaps Go.WideMaps

/-- Operation e writes, m writes behind it and its slot t tells what, n writes behind all that stand ahead of it. -/
structure Trio (e m n : Nat) (t : Tmp) (F0 F1 : World → Prop) (F2 : Value → World → Prop) (F3 : World → Prop) (L : Nat → Bool) (a : Act) (w : World) : Prop where
  size : t < a.tmps.size
  all : L n = true → ∀ j, j < n → L j = true
  em : L m = true → L e = true
  p0 : L e = false → F0 w
  p1 : L e = true → L m = false → F1 w
  p2 : L m = true → L n = false → ∃ v, a.tmps[t]? = some v ∧ F2 v w
  p3 : L n = true → F3 w

section
variable {e m n : Nat} {t : Tmp} {F0 F1 : World → Prop} {F2 : Value → World → Prop} {F3 : World → Prop} {L : Nat → Bool} {a : Act} {w w' : World}

theorem Trio.start (hs : t < a.tmps.size) (h : F0 w) : Trio e m n t F0 F1 F2 F3 (fun _ => false) a w := ⟨hs, fun h => (by cases h), fun h => (by cases h), fun _ => h, fun h => (by cases h), fun h => (by cases h), fun h => (by cases h)⟩

theorem Trio.not (h : Trio e m n t F0 F1 F2 F3 L a w) {j : Nat} (hj : j < n) (hl : L j = false) : L n = false := by
  cases hn : L n with
  | false => rfl
  | true => rw [h.all hn j hj] at hl; cases hl

theorem Trio.early (h : Trio e m n t F0 F1 F2 F3 L a w) {j : Nat} (hj : j < n) (hl : L j = false) {B : World → Prop} (h0 : ∀ w, F0 w → B w) (h1 : ∀ w, F1 w → B w) (h2 : ∀ v w, F2 v w → B w) : B w := by
  have hn := h.not hj hl
  cases he : L e with
  | false => exact h0 _ (h.p0 he)
  | true =>
    cases hm : L m with
    | false => exact h1 _ (h.p1 he hm)
    | true => obtain ⟨v, _, hv⟩ := h.p2 hm hn; exact h2 _ _ hv

theorem Trio.step (h : Trio e m n t F0 F1 F2 F3 L a w) {j : Nat} {d : Option Tmp} (v : Value) (hj : j ≠ e ∧ j ≠ m ∧ j ≠ n ∧ d ≠ some t) (hc : Chg (fun _ => False) w w') (k0 : ∀ w w', F0 w → Chg (fun _ => False) w w' → F0 w') (k1 : ∀ w w', F1 w → Chg (fun _ => False) w w' → F1 w') (k2 : ∀ u w w', F2 u w → Chg (fun _ => False) w w' → F2 u w') (k3 : ∀ w w', F3 w → Chg (fun _ => False) w w' → F3 w') :
    Trio e m n t F0 F1 F2 F3 (upd L j) (a.put d v) w' := by
  obtain ⟨j0, j1, j2, j3⟩ := hj
  have ee : upd L j e = L e := upd_ne (fun x => j0 x.symm)
  have em : upd L j m = L m := upd_ne (fun x => j1 x.symm)
  have en : upd L j n = L n := upd_ne (fun x => j2 x.symm)
  refine ⟨by rw [put_size]; exact h.size, fun hn i hi => upd_mono (h.all (by rw [← en]; exact hn) i hi), fun hm => by rw [ee]; exact h.em (by rw [← em]; exact hm), fun he => k0 _ _ (h.p0 (by rw [← ee]; exact he)) hc, fun he hm => k1 _ _ (h.p1 (by rw [← ee]; exact he) (by rw [← em]; exact hm)) hc, fun hm hn => ?_, fun hn => k3 _ _ (h.p3 (by rw [← en]; exact hn)) hc⟩
  obtain ⟨u, h1, h2⟩ := h.p2 (by rw [← em]; exact hm) (by rw [← en]; exact hn)
  exact ⟨u, put_tmps h1 j3, k2 _ _ _ h2 hc⟩

theorem Trio.zeroth (h : Trio e m n t F0 F1 F2 F3 L a w) (hen : e < n) (hem : e ≠ m) (hl : L e = false) {d : Option Tmp} {v : Value} (hF : F1 w') : Trio e m n t F0 F1 F2 F3 (upd L e) (a.put d v) w' := by
  have hn := h.not hen hl
  have hm : L m = false := by
    cases hm : L m with
    | false => rfl
    | true => rw [h.em hm] at hl; cases hl
  have en : upd L e n = L n := upd_ne (by omega)
  have em : upd L e m = L m := upd_ne (fun x => hem x.symm)
  exact ⟨by rw [put_size]; exact h.size, fun h' => (by rw [en, hn] at h'; cases h'), fun h' => (by rw [em, hm] at h'; cases h'), fun h' => (by rw [upd_self] at h'; cases h'), fun _ _ => hF, fun h' => (by rw [em, hm] at h'; cases h'), fun h' => (by rw [en, hn] at h'; cases h')⟩

theorem Trio.first (h : Trio e m n t F0 F1 F2 F3 L a w) (hmn : m < n) (hem : e ≠ m) (he : L e = true) (hl : L m = false) {v : Value} (hF : F2 v w') : Trio e m n t F0 F1 F2 F3 (upd L m) (a.put (some t) v) w' := by
  have hn := h.not hmn hl
  have en : upd L m n = L n := upd_ne (by omega)
  have ee : upd L m e = L e := upd_ne hem
  refine ⟨by rw [put_size]; exact h.size, fun h' => (by rw [en, hn] at h'; cases h'), fun _ => by rw [ee]; exact he, fun h' => (by rw [ee, he] at h'; cases h'), fun _ h' => (by rw [upd_self] at h'; cases h'), fun _ _ => ⟨v, ?_, hF⟩, fun h' => (by rw [en, hn] at h'; cases h')⟩
  simp [Act.put, h.size]

theorem Trio.second (h : Trio e m n t F0 F1 F2 F3 L a w) (hen : e < n) (hmn : m < n) (hall : ∀ j, j < n → L j = true) {d : Option Tmp} {v : Value} (hF : F3 w') : Trio e m n t F0 F1 F2 F3 (upd L n) (a.put d v) w' := by
  refine ⟨by rw [put_size]; exact h.size, fun _ j hj => upd_mono (hall j hj), fun _ => upd_mono (hall e hen), fun h' => ?_, fun _ h' => ?_, fun _ h' => (by rw [upd_self] at h'; cases h'), fun _ => hF⟩
  · rw [upd_mono (hall e hen)] at h'
    cases h'
  · rw [upd_mono (hall m hmn)] at h'
    cases h'
end

section
variable {T : Nat → Option KTag} {w : World} {g : Nat} {F : List FactB} {f : FactB} {v : Value} {m1 m2 : Nat} {Sl : RoleB → Option Value}

end
end Go.Proofs.Ytjaplnainlbldaa

/- Get of a formula: what lies in memory while its Kids come. -/
namespace Go.Proofs.Ytjaplnainlbldaa
open Go.RowKit

/-- A number that was put is read. -/
theorem rnum_enc {D : Nat → Prop} {R m : Nat} {v : Value} {rest : List UInt8} {most : Int} {w : World} (hm : (m : Int) ≤ most) (hm2 : m < 9223372036854775808) (hl : (enc m ++ rest).length ≤ 9223372036854775807) (hv : BytesAt D w v (enc m ++ rest)) (hDR : ¬ D R) (hR : ReaderAt w R true v 0) :
    Calls Try.prog 97 #[.pointer (some ⟨R, 0, none⟩), .int .i64 most] w fun e w' => e = .returned (.int .i64 (m : Nat)) ∧ ∃ v', BytesAt D w' v' rest ∧ ReaderAt w' R true v' 0 ∧ Chg (· = R) w w' := by
  have e := numN_enc9 hm2 rest
  have he : errNum (enc m ++ rest) most = 0 := by
    unfold errNum
    rw [e, if_pos rfl, if_neg (by show ¬ most < (m : Int); omega)]
  have h := rnum_reads hl hv hDR hR he
  unfold RNumOk at h
  rw [e] at h
  simpa using h

/-- One formula more in a row of the call's own. -/
theorem run_append_fm {B : Nat} {w : World} {v : Value} {ts : List AT} {t : AT} (ty : TypeId) (hown : w.ownsRow B 58 5 v ts.length (rowA ts)) {b : Nat} (hb : w.heap[b]? = some (.cells (cellsA t).toArray 58 (0, 0))) (h1 : t.v.oneCell' = true) (hlen : ts.length ≤ 1000) (hB : B ≤ w.heap.size) :
    ∃ v' w', (Builtin.append_ #[56, 56] ty #[v, .slice (some ⟨b, 0, none⟩) 1 1]).run Try.prog w = .ok v' w' ∧ w'.ownsRow B 58 5 v' (ts ++ [t]).length (rowA (ts ++ [t])) ∧ Chg (fun k => v.ownBlock = some k) w w' ∧ (v'.ownBlock = v.ownBlock ∨ v'.ownBlock = some w.heap.size) := by
  obtain ⟨i0, hi, hz0, hz1, hz2⟩ := info_parts Try.info58
  obtain ⟨v', w', k1, k2, k3, k4⟩ := run_append_own_at (P := Try.prog) w B 56 ty 58 i0 (.agg #[.int .i64 0, .int .i64 0, .string ⟨#[]⟩, .string ⟨#[]⟩, .slice none 0 0]) 5 72 Try.underlying56 hi hz0 hz1 hz2 rfl (by decide) v _ _ hown ⟨b, 0, none⟩ 1 1 (cellsA t) rfl
    (fun j u hj => by
      have h := cell_blk hb j
      rw [List.getElem?_toArray, hj] at h
      rw [add_off, Nat.zero_add]
      exact h) (fun u hu => by
      simp only [cellsA, List.mem_cons, List.not_mem_nil, or_false] at hu
      rcases hu with rfl | rfl | rfl | rfl | rfl
      · rfl
      · rfl
      · rfl
      · rfl
      · exact h1) (by unfold maxLen; omega) (by omega) hB
  exact ⟨v', w', k1, by rw [List.length_append, List.length_singleton, rowA_snoc]; exact k2, (Chg.refl _ w).grown k3 fun k e _ => e, k4.2⟩

/-- While the Kids come: Y holds the node, with the row vy of Kids; v is the row that there is, of the trees ts; bs are left. -/
structure GetSt (w : World) (R c Y Z : Nat) (D : Nat → Prop) (op kk : Int) (N : Nat) (bs : List UInt8) (vy v : Value) (ts : List AT) (w' : World) : Prop where
  y : w'.heap[Y]? = some (.cells #[.int .i64 op, .int .i64 kk, .string ⟨#[]⟩, .string ⟨#[]⟩, vy] 58 (0, 0))
  z : w'.heap[Z]? = some (.cells #[.int .i64 0, .int .i64 0, .string ⟨#[]⟩, .string ⟨#[]⟩, .slice none 0 0] 58 (0, 0))
  row : w'.ownsRow (Y + 1) 58 5 v ts.length (rowA ts)
  own : OwnL (Y + 1) w' ts
  nd : (v.ownBlock.toList ++ blksL ts).Nodup
  cnt : w'.heap[c]? = some (.cells #[.int .i64 (N : Nat)] 3 (0, 0))
  rd : ∃ vb, BytesAt D w' vb bs ∧ ReaderAt w' R true vb 0
  chg : Chg (fun k => k = R ∨ k = c) w w'

/-- What is asked of the blocks. -/
structure GetBl (w : World) (R c Y Z : Nat) (D : Nat → Prop) : Prop where
  rc : R ≠ c
  lr : R < w.heap.size
  lc : c < w.heap.size
  lz : w.heap.size ≤ Z
  zy : Z < Y
  d : ∀ i, D i → i < w.heap.size
  dr : ¬ D R
  dc : ¬ D c

section
variable {w : World} {R c Y Z : Nat} {D : Nat → Prop} {op kk : Int} {N : Nat} {bs : List UInt8} {vy v : Value} {ts : List AT} {w' w2 : World}

theorem GetSt.quiet (h : GetSt w R c Y Z D op kk N bs vy v ts w') (hc : Chg (fun _ => False) w' w2) : GetSt w R c Y Z D op kk N bs vy v ts w2 := by
  obtain ⟨vb, k1, k2⟩ := h.rd
  exact ⟨blk_keep h.y hc id, blk_keep h.z hc id, ownsRow_keep h.row hc (fun _ _ => id), ownL_keep hc h.own (fun _ _ => id), h.nd, blk_keep h.cnt hc id, ⟨vb, k1.keep hc (fun _ _ => id), blk_keep k2 hc id⟩, h.chg.trans hc (fun _ _ h => h.elim)⟩

theorem GetSt.lt (h : GetSt w R c Y Z D op kk N bs vy v ts w') : Y < w'.heap.size ∧ Z < w'.heap.size ∧ w.heap.size ≤ w'.heap.size ∧ (∀ k, v.ownBlock = some k → Y + 1 ≤ k ∧ k < w'.heap.size) ∧ ∀ k ∈ blksL ts, Y + 1 ≤ k ∧ k < w'.heap.size :=
  ⟨lt_blk h.y, lt_blk h.z, h.chg.size, fun k hk => h.row.lt k hk, ownL_lt h.own⟩

/-- A kid has been read. -/
theorem GetSt.call (hb : GetBl w R c Y Z D) (h : GetSt w R c Y Z D op kk N bs vy v ts w') {M : Nat} {bs' : List UInt8} (hc : Chg (fun k => k = R ∨ k = c) w' w2) (hcnt : w2.heap[c]? = some (.cells #[.int .i64 (M : Nat)] 3 (0, 0))) (hrd : ∃ vb, BytesAt D w2 vb bs' ∧ ReaderAt w2 R true vb 0) : GetSt w R c Y Z D op kk M bs' vy v ts w2 := by
  obtain ⟨l1, l2, l3, l4, l5⟩ := h.lt
  have b1 := hb.lr
  have b2 := hb.lc
  have b3 := hb.lz
  have b4 := hb.zy
  exact ⟨blk_keep h.y hc (fun e => by omega), blk_keep h.z hc (fun e => by omega), ownsRow_keep h.row hc (fun k hk e => by have := l4 k hk; omega), ownL_keep hc h.own (fun k hk e => by have := l5 k hk; omega), h.nd, hcnt, hrd, h.chg.trans hc (fun _ _ h => h)⟩

/-- A kid has come into the row. -/
theorem GetSt.app (hb : GetBl w R c Y Z D) (h : GetSt w R c Y Z D op kk N bs vy v ts w') {B1 : Nat} (hB1 : w.heap.size ≤ B1 ∧ Y < B1 ∧ (∀ k, v.ownBlock = some k → k < B1) ∧ ∀ k ∈ blksL ts, k < B1) {t : AT} (ht : OwnA B1 w' t) (hnd : (blksA t).Nodup) {v' : Value} (hrow : w2.ownsRow (Y + 1) 58 5 v' (ts ++ [t]).length (rowA (ts ++ [t]))) (hc : Chg (fun k => v.ownBlock = some k) w' w2) (hv : v'.ownBlock = v.ownBlock ∨ v'.ownBlock = some w'.heap.size) :
    GetSt w R c Y Z D op kk N bs vy v' (ts ++ [t]) w2 := by
  obtain ⟨l1, l2, l3, l4, l5⟩ := h.lt
  have b1 := hb.lr
  have b2 := hb.lc
  have b3 := hb.lz
  have b4 := hb.zy
  have hnd0 := List.nodup_append.1 h.nd
  have hts : ∀ k ∈ blksL ts, ¬ v.ownBlock = some k := fun k hk e => hnd0.2.2 k (by simp [e]) k hk rfl
  have htl := ownA_lt t ht
  have htn : ∀ k ∈ blksA t, ¬ v.ownBlock = some k := fun k hk e => by have := (htl k hk).1; have := hB1.2.2.1 k e; omega
  have ebl : blksL (ts ++ [t]) = blksL ts ++ blksA t := by rw [blksL_flat, blksL_flat, List.flatMap_append]; simp
  obtain ⟨vb, k1, k2⟩ := h.rd
  refine ⟨blk_keep h.y hc (fun e => by have := (l4 _ e).1; omega), blk_keep h.z hc (fun e => by have := (l4 _ e).1; omega), hrow, ?_, ?_, blk_keep h.cnt hc (fun e => by have := (l4 _ e).1; omega), ⟨vb, k1.keep hc (fun i hi e => by have := (l4 _ e).1; have := hb.d i hi; omega), blk_keep k2 hc (fun e => by have := (l4 _ e).1; omega)⟩, h.chg.trans hc (fun i hi e => by have := (l4 _ e).1; omega)⟩
  · refine (ownL_all _ _ _).2 fun s hs => ?_
    rcases List.mem_append.1 hs with hs | hs
    · exact (ownL_all _ _ _).1 (ownL_keep hc h.own hts) s hs
    · rw [List.mem_singleton.1 hs]
      exact ownA_low (by omega) t (ownA_keep hc t ht htn)
  · rw [ebl, List.nodup_append]
    have hdis : ∀ a ∈ blksL ts, ∀ b ∈ blksA t, a ≠ b := fun a ha b hb2 e => by have := hB1.2.2.2 a ha; have := (htl b hb2).1; omega
    refine ⟨by cases v'.ownBlock <;> simp, List.nodup_append.2 ⟨hnd0.2.1, hnd, hdis⟩, fun a ha b hb2 e => ?_⟩
    have ha2 : v'.ownBlock = some a := by simpa using ha
    subst e
    rcases hv with hv | hv
    · rw [hv] at ha2
      rcases List.mem_append.1 hb2 with h2 | h2
      · exact hts a h2 ha2
      · exact htn a h2 ha2
    · rw [hv] at ha2
      cases ha2
      rcases List.mem_append.1 hb2 with h2 | h2
      · have := (l5 _ h2).2; omega
      · have := (htl _ h2).2; omega

/-- The node holds the row. -/
theorem GetSt.put (hb : GetBl w R c Y Z D) (h : GetSt w R c Y Z D op kk N bs vy v ts w') : GetSt w R c Y Z D op kk N bs v v ts (w'.setCell ⟨Y, 4, none⟩ v) ∧ Chg (fun k => k = Y) w' (w'.setCell ⟨Y, 4, none⟩ v) := by
  obtain ⟨l1, l2, l3, l4, l5⟩ := h.lt
  have b1 := hb.lr
  have b2 := hb.lc
  have b3 := hb.lz
  have b4 := hb.zy
  have hc := setCell_chg w' Y 4 v
  obtain ⟨vb, k1, k2⟩ := h.rd
  refine ⟨⟨?_, blk_keep h.z hc (fun e => by have : Z = Y := e; omega), ownsRow_keep h.row hc (fun k hk e => by have : k = Y := e; have := (l4 k hk).1; omega), ownL_keep hc h.own (fun k hk e => by have : k = Y := e; have := (l5 k hk).1; omega), h.nd, blk_keep h.cnt hc (fun e => by have : c = Y := e; omega), ⟨vb, k1.keep hc (fun i hi e => by have : i = Y := e; have := hb.d i hi; omega), blk_keep k2 hc (fun e => by have : R = Y := e; omega)⟩, h.chg.trans hc (fun i hi e => by have : i = Y := e; omega)⟩, hc⟩
  have := set_blk h.y 4 v
  simpa using this
end
end Go.Proofs.Ytjaplnainlbldaa
