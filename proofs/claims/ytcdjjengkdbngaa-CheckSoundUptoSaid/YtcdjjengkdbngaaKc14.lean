/- Words for law 9's first, and Read with its function. -/
import Derived.Test.YtcdjjengkdbngaaKc13
namespace Go.Proofs.Ytcdjjengkdbngaa
open Go.RowKit

set_option maxRecDepth 100000 in
set_option maxHeartbeats 2000000 in
theorem kclosF (HK : CG) {D : Nat → Prop} {R X : Nat} {v : Value} {l : List UInt8} {w : World} (hl : l.length ≤ 140737488355328) (hv : BytesAt D w v l) (hDR : ¬ D R) (_ : ¬ D X) (hXR : X ≠ R) (hDl : ∀ i, D i → i < w.heap.size) (hR : ReaderAt w R true v 0) (hX : w.heap[X]? = some (.cells #[.slice none 0 0] 22 (0, 0))) :
    Calls Try.prog 29 #[.pointer (some ⟨R, 0, none⟩), .pointer (some ⟨X, 0, none⟩)] w (KClos D R X l 9 w) := by
  have h1 := HK.get 9 (by decide) (by decide) hl hv hDR hDl hR
  go_enter Try.func29, Try.ntmps29
  go_wp2_with fail
  refine h1.mono ?_
  rintro e w1 (⟨b, hb, hst⟩ | ⟨ls, rest, ta, cap, hb, rfl, hbt, vb, hv1, hR1, hch1⟩)
  · have HS := hid (show KClos D R X l 9 w e w1 from .inl ⟨b, hb, hst⟩)
    obtain ⟨rfl, _⟩ := hst
    exact ⟨rfl, HS.out⟩
  · have hX1 := blk_keep hX hch1 hXR
    have hXl := lt_blk hX
    have y0 := cell_blk hX1 0
    simp only [List.getElem?_toArray, List.getElem?_cons_zero] at y0
    have g0 := froz_blk hX1 0
    obtain ⟨ao6, cap6, rfl⟩ := hv1.shape
    have cg : Chg (· = X) w1 (w1.setCell ⟨X, 0, none⟩ (.slice ta ls.length cap)) := (Chg.refl (· = X) w1).setCell (p := ⟨X, _, none⟩) (fun _ => rfl) _
    have hR2 : ReaderAt (w1.setCell ⟨X, 0, none⟩ (.slice ta ls.length cap)) R true (.slice ao6 rest.length cap6) 0 := blk_keep hR1 cg (fun h => hXR h.symm)
    have hX2 := set_blk hX1 0 (.slice ta ls.length cap)
    have hch2 : Chg (fun k => k = R ∨ k = X) w (w1.setCell ⟨X, 0, none⟩ (.slice ta ls.length cap)) := (hch1.mono (fun _ _ h => .inl h)).trans cg (fun _ _ h => .inr h)
    have hbt2 := (hbt.keep cg (fun i hi e => by have h1 := hi.1; have h2 : i = X := e; omega)).mono (D' := fun k => w.heap.size ≤ k ∧ k < (w1.setCell ⟨X, 0, none⟩ (.slice ta ls.length cap)).heap.size) (fun i hi => ⟨hi.1, Nat.lt_of_lt_of_le hi.2 cg.size⟩)
    have HH := hid (show KClos D R X l 9 w (.returned (.tuple #[])) (w1.setCell ⟨X, 0, none⟩ (.slice ta ls.length cap)) from .inr ⟨ls, rest, hb, rfl, ⟨_, _, hR2⟩, hch2, ta, cap, hX2, hbt2⟩)
    clear h1 hv hR hv1 hR1 hch1 hX1 cg hR2 hX2 hch2 hX hbt hbt2 hb
    go_wp2
    go_end0
    exact HH.out

theorem kcenterF : ∀ args w, (callFunc 29 args).run Try.prog w = .ok (.enter 29 args) w := enters Try.func29 (by kernel_rfl) (by kernel_rfl)

set_option maxRecDepth 100000 in
theorem kreadF (HK : CG) {D : Nat → Prop} {ao : Option Addr} {cp X : Nat} {l : List UInt8} {w : World} (hl : l.length ≤ 140737488355328) (hv : BytesAt D w (.slice ao l.length cp) l) (dD : ∀ i, D i → i < w.heap.size) (hDX : ¬ D X) (hX : w.heap[X]? = some (.cells #[.slice none 0 0] 22 (0, 0))) :
    Calls Try.prog 27 #[.slice ao l.length cp, .func (.func 29) #[] #[.pointer (some ⟨X, 0, none⟩)]] w (ChainRead X l 9 w) := by
  have lX := lt_blk hX
  have hrw := readWorld_chg w (.slice ao l.length cp) (fun _ => False)
  have hv' := hv.keep hrw (fun _ _ h => h)
  have hdr : ¬ D (w.heap.size + 1) := fun h => by have := dD _ h; omega
  have hdl : ∀ i, D i → i < (readWorld w (.slice ao l.length cp)).heap.size := fun i hi => by have := dD i hi; rw [readWorld_size]; omega
  have hcl := kclosF HK (R := w.heap.size + 1) hl hv' hdr hDX (by omega) hdl (readWorld_R w _) (blk_keep hX hrw id)
  cases hok : chainGet l 9 with
  | ok s rest =>
    refine (read_returns (T := fun k => k = X) (P := fun w1 => ∃ ta cap, w1.heap[X]? = some (.cells #[.slice ta s.length cap] 22 (0, 0)) ∧ StepsAt (fun k => w.heap.size + 3 ≤ k ∧ k < w1.heap.size) w1 ta s) (n := rest.length) (by rintro k rfl; omega) kcenterF ?_).mono ?_
    · refine hcl.mono ?_
      rintro e w1 (⟨b, hb, _⟩ | ⟨s', rest', hb, rfl, ⟨ao1, cp1, hr⟩, hc, ta, cap, h1, h2⟩)
      · rw [hok] at hb; cases hb
      · rw [hok] at hb
        cases hb
        exact ⟨rfl, ⟨⟨ao1, _, cp1, hr, fun _ => rfl⟩, hc⟩, ta, cap, h1, h2.mono (fun i hi => ⟨by have := hi.1; rw [readWorld_size] at this; exact this, hi.2⟩)⟩
    · rintro e w' ⟨rfl, w1, ⟨ta, cap, h1, h2⟩, hle⟩
      refine ⟨by rw [ckErr, hok], ?_, hle.2.2⟩
      rw [ckGot, hok]
      exact ⟨ta, cap, blk_keep h1 hle.2.1 (by omega), (h2.keep hle.2.1 (fun i hi e => by have := hi.1; omega)).mono (fun i hi => ⟨by have := hi.1; omega, Nat.lt_of_lt_of_le hi.2 hle.2.1.size⟩)⟩
  | bad bad =>
    have hne := chainGet_ne hok
    refine (read_stops (T := fun k => k = X) (P := fun w1 => w1.heap[X]? = some (.cells #[.slice none 0 0] 22 (0, 0))) (n := l.length) (flt := bad) [] rfl (by rintro k rfl; omega) kcenterF ?_).mono ?_
    · refine hcl.mono ?_
      rintro e w1 (⟨b, hb, rfl, ao1, m, cp1, hr, hc⟩ | ⟨s', rest', hb, _⟩)
      · rw [hok] at hb
        cases hb
        exact ⟨rfl, ⟨⟨ao1, m, cp1, hr, fun h => absurd h hne⟩, hc.mono (fun _ _ h => .inl h)⟩, blk_keep (blk_keep hX hrw id) hc (by omega)⟩
      · rw [hok] at hb; cases hb
    · rintro e w' ⟨rfl, w1, h1, hle⟩
      refine ⟨by rw [ckErr, hok, endOf, if_neg hne], ?_, hle.2.2⟩
      rw [ckGot, hok]
      exact ⟨none, 0, blk_keep h1 hle.2.1 (by omega), StepsAt.nil _ _ _⟩

theorem steps_two9 {w : World} {b : Nat} {z : Nat × Nat} (h : w.heap[b]? = some (.cells #[.int .i64 1, .string ⟨#[98]⟩, .string ⟨#[115]⟩, .string ⟨#[100]⟩, .string ⟨#[]⟩, .string ⟨#[]⟩, .string ⟨#[]⟩, .string ⟨#[]⟩, .string ⟨#[]⟩, .string ⟨#[98]⟩, .string ⟨#[115]⟩, .string ⟨#[100]⟩, .int .i64 2, .string ⟨#[97]⟩, .string ⟨#[114]⟩, .string ⟨#[]⟩, .string ⟨#[98]⟩, .string ⟨#[115]⟩, .string ⟨#[]⟩, .string ⟨#[]⟩, .string ⟨#[]⟩, .string ⟨#[97]⟩, .string ⟨#[114]⟩, .string ⟨#[100]⟩] 36 z)) : StepsAt (fun k => k = b) w (some ⟨b, 0, none⟩) [stX, stY] := fun i hi => by
  rcases i with _ | _ | i
  · exact ⟨b, 0, rfl, rfl, ⟨⟨cell_blk h 0, cell_blk h 1, cell_blk h 2, cell_blk h 3, cell_blk h 4, cell_blk h 5, cell_blk h 6, cell_blk h 7, cell_blk h 8⟩, ⟨cell_blk h 9, cell_blk h 10, cell_blk h 11⟩⟩, short_X⟩
  · exact ⟨b, 0, rfl, rfl, ⟨⟨cell_blk h 12, cell_blk h 13, cell_blk h 14, cell_blk h 15, cell_blk h 16, cell_blk h 17, cell_blk h 18, cell_blk h 19, cell_blk h 20⟩, ⟨cell_blk h 21, cell_blk h 22, cell_blk h 23⟩⟩, short_Y⟩
  · simp at hi; omega
theorem steps_X9 {w : World} {b : Nat} {z : Nat × Nat} (h : w.heap[b]? = some (.cells #[.int .i64 1, .string ⟨#[98]⟩, .string ⟨#[115]⟩, .string ⟨#[100]⟩, .string ⟨#[]⟩, .string ⟨#[]⟩, .string ⟨#[]⟩, .string ⟨#[]⟩, .string ⟨#[]⟩, .string ⟨#[98]⟩, .string ⟨#[115]⟩, .string ⟨#[100]⟩] 36 z)) : StepsAt (fun k => k = b) w (some ⟨b, 0, none⟩) [stX] := fun i hi => by
  rcases i with _ | i
  · exact ⟨b, 0, rfl, rfl, ⟨⟨cell_blk h 0, cell_blk h 1, cell_blk h 2, cell_blk h 3, cell_blk h 4, cell_blk h 5, cell_blk h 6, cell_blk h 7, cell_blk h 8⟩, ⟨cell_blk h 9, cell_blk h 10, cell_blk h 11⟩⟩, short_X⟩
  · simp at hi
theorem steps_Y9 {w : World} {b : Nat} {z : Nat × Nat} (h : w.heap[b]? = some (.cells #[.int .i64 2, .string ⟨#[97]⟩, .string ⟨#[114]⟩, .string ⟨#[]⟩, .string ⟨#[98]⟩, .string ⟨#[115]⟩, .string ⟨#[]⟩, .string ⟨#[]⟩, .string ⟨#[]⟩, .string ⟨#[97]⟩, .string ⟨#[114]⟩, .string ⟨#[100]⟩] 36 z)) : StepsAt (fun k => k = b) w (some ⟨b, 0, none⟩) [stY] := fun i hi => by
  rcases i with _ | i
  · exact ⟨b, 0, rfl, rfl, ⟨⟨cell_blk h 0, cell_blk h 1, cell_blk h 2, cell_blk h 3, cell_blk h 4, cell_blk h 5, cell_blk h 6, cell_blk h 7, cell_blk h 8⟩, ⟨cell_blk h 9, cell_blk h 10, cell_blk h 11⟩⟩, short_Y⟩
  · simp at hi
theorem creds_two9 {w : World} {b : Nat} {z : Nat × Nat} (h : w.heap[b]? = some (.cells #[.int .i64 2, .string ⟨#[97]⟩, .string ⟨#[114]⟩, .string ⟨#[]⟩, .string ⟨#[98]⟩, .string ⟨#[115]⟩, .string ⟨#[]⟩, .string ⟨#[]⟩, .string ⟨#[]⟩, .int .i64 1, .string ⟨#[98]⟩, .string ⟨#[115]⟩, .string ⟨#[100]⟩, .string ⟨#[]⟩, .string ⟨#[]⟩, .string ⟨#[]⟩, .string ⟨#[]⟩, .string ⟨#[]⟩] 32 z)) : CredsAt (fun k => k = b) w (some ⟨b, 0, none⟩) [cI9, cM9] := fun i hi => by
  rcases i with _ | _ | i
  · exact ⟨b, 0, rfl, rfl, ⟨cell_blk h 0, cell_blk h 1, cell_blk h 2, cell_blk h 3, cell_blk h 4, cell_blk h 5, cell_blk h 6, cell_blk h 7, cell_blk h 8⟩, short_I9.mono (by omega)⟩
  · exact ⟨b, 0, rfl, rfl, ⟨cell_blk h 9, cell_blk h 10, cell_blk h 11, cell_blk h 12, cell_blk h 13, cell_blk h 14, cell_blk h 15, cell_blk h 16, cell_blk h 17⟩, short_M9.mono (by omega)⟩
  · simp at hi; omega

theorem kinds_XY : KindsS [stX, stY] := fun s hs => by
  rcases List.mem_cons.1 hs with rfl | hs
  · show (Lit.int .i64 1).wf = true; decide
  · rw [List.mem_singleton.1 hs]; show (Lit.int .i64 2).wf = true; decide
theorem kinds_IM : KindsC [cI9, cM9] := fun c hc => by
  rcases List.mem_cons.1 hc with rfl | hc
  · show (Lit.int .i64 2).wf = true; decide
  · rw [List.mem_singleton.1 hc]; show (Lit.int .i64 1).wf = true; decide

theorem cf_check1 (HK : CK) {D E : Nat → Prop} (ao co : Option Addr) (w : World) (h : StepsAt D w ao [stX, stY]) (hc : CredsAt E w co [cI9, cM9]) :
    Calls Try.prog 11 #[.slice ao 2 2, .slice co 2 2, .agg #[.string ⟨#[97]⟩, .string ⟨#[114]⟩, .string ⟨#[100]⟩]] w fun e w' => e = .returned (.tuple #[.int .i64 2, .int .i64 0]) ∧ Chg (fun _ => False) w w' :=
  (HK.check ao co 2 2 [stX, stY] [cI9, cM9] fA9 w (by decide +kernel) short_Y.2 (by simp) (by omega) h hc (fun s hs => kinds_XY s (by revert hs; simp (config := {contextual := true}))) kinds_IM).mono (by
    rintro e w' ⟨n, f, rfl, _, hci, hc⟩
    obtain ⟨rfl, rfl⟩ := hci.one check_one
    exact ⟨rfl, hc⟩)
theorem cf_check2 (HK : CK) {D E : Nat → Prop} (ao co : Option Addr) (w : World) (h : StepsAt D w ao [stY]) (hc : CredsAt E w co [cI9, cM9]) :
    Calls Try.prog 11 #[.slice ao 1 1, .slice co 2 2, .agg #[.string ⟨#[97]⟩, .string ⟨#[114]⟩, .string ⟨#[100]⟩]] w fun e w' => e = .returned (.tuple #[.int .i64 0, .int .i64 50]) ∧ Chg (fun _ => False) w w' :=
  (HK.check ao co 1 2 [stY] [cI9, cM9] fA9 w (by decide +kernel) short_Y.2 (by simp) (by omega) h hc (fun s hs => kinds_XY s (by revert hs; simp (config := {contextual := true}))) kinds_IM).mono (by
    rintro e w' ⟨n, f, rfl, _, hci, hc⟩
    obtain ⟨rfl, rfl⟩ := hci.one check_two
    exact ⟨rfl, hc⟩)
theorem cf_check3 (HK : CK) {D E : Nat → Prop} (ao co : Option Addr) (w : World) (h : StepsAt D w ao [stX]) (hc : CredsAt E w co [cI9, cM9]) :
    Calls Try.prog 11 #[.slice ao 1 1, .slice co 2 2, .agg #[.string ⟨#[97]⟩, .string ⟨#[114]⟩, .string ⟨#[100]⟩]] w fun e w' => e = .returned (.tuple #[.int .i64 1, .int .i64 42]) ∧ Chg (fun _ => False) w w' :=
  (HK.check ao co 1 2 [stX] [cI9, cM9] fA9 w (by decide +kernel) short_Y.2 (by simp) (by omega) h hc (fun s hs => kinds_XY s (by revert hs; simp (config := {contextual := true}))) kinds_IM).mono (by
    rintro e w' ⟨n, f, rfl, _, hci, hc⟩
    obtain ⟨rfl, rfl⟩ := hci.one check_three
    exact ⟨rfl, hc⟩)
theorem cf_followsX (HK : CK) (w : World) : Calls Try.prog 31 #[.agg #[.int .i64 1, .string ⟨#[98]⟩, .string ⟨#[115]⟩, .string ⟨#[100]⟩, .string ⟨#[]⟩, .string ⟨#[]⟩, .string ⟨#[]⟩, .string ⟨#[]⟩, .string ⟨#[]⟩, .string ⟨#[98]⟩, .string ⟨#[115]⟩, .string ⟨#[100]⟩], .slice none 0 0] w fun e w' => e = .returned (.bool true) ∧ Chg (fun _ => False) w w' :=
  (HK.follows (D := fun _ => True) none 0 stX [] w (by simp) short_X (fun _ h => by cases h) (fun i h => absurd h (by simp))).mono (by
    rintro e w' ⟨rfl, hc⟩
    exact ⟨by rw [follows_X], hc⟩)
theorem cf_followsY (HK : CK) (w : World) : Calls Try.prog 31 #[.agg #[.int .i64 2, .string ⟨#[97]⟩, .string ⟨#[114]⟩, .string ⟨#[]⟩, .string ⟨#[98]⟩, .string ⟨#[115]⟩, .string ⟨#[]⟩, .string ⟨#[]⟩, .string ⟨#[]⟩, .string ⟨#[97]⟩, .string ⟨#[114]⟩, .string ⟨#[100]⟩], .slice none 0 0] w fun e w' => e = .returned (.bool false) ∧ Chg (fun _ => False) w w' :=
  (HK.follows (D := fun _ => True) none 0 stY [] w (by simp) short_Y (fun _ h => by cases h) (fun i h => absurd h (by simp))).mono (by
    rintro e w' ⟨rfl, hc⟩
    exact ⟨by rw [follows_Y], hc⟩)
theorem cf_tight (HK : CK) {D : Nat → Prop} (ao : Option Addr) (w : World) (h : StepsAt D w ao [stX, stY]) (hD : ∀ i, D i → i < w.heap.size) : Calls Try.prog 32 #[.slice ao 2 2] w fun e w' => e = .returned (.bool true) ∧ Chg (fun _ => False) w w' :=
  (HK.tight ao 2 [stX, stY] w (by decide +kernel) (by simp) (by omega) h hD).mono (by
    rintro e w' ⟨rfl, hc⟩
    exact ⟨by rw [tight_XY], hc⟩)
theorem cf_put (HK : CG) {D : Nat → Prop} (B P : Nat) (ao : Option Addr) (w : World) (hp : PenAt B w P none 0 []) (hPB : P < B) (hB : B ≤ w.heap.size) (h : StepsAt D w ao [stX, stY]) (hD : ∀ i, D i → i ≠ P ∧ i < w.heap.size) :
    Calls Try.prog 26 #[.pointer (some ⟨P, 0, none⟩), .slice ao 2 2] w fun e w' => e = .returned (.bool true) ∧ (∃ ao9 cap9, PenAt B w' P ao9 cap9 (chainBytes [stX, stY])) ∧ Chg (· = P) w w' :=
  (HK.put B P 2 ao [stX, stY] w (by decide +kernel) hp hPB hB h hD).mono (by
    rintro e w' ⟨rfl, hq, hc⟩
    exact ⟨by rw [decide_eq_true bytes_XY], hq, hc⟩)
theorem cf_err : ckErr (chainBytes [stX, stY]) 9 = 0 := by rw [ckErr, get_XY]; rfl
theorem cf_got : ckGot (chainBytes [stX, stY]) 9 = [stX, stY] := by rw [ckGot, get_XY]
theorem cf_len : (chainBytes [stX, stY]).length ≤ 140737488355328 := by decide +kernel

/-- What first has made. -/
structure Fst9 (w0 : World) (c d x y : Nat) (w : World) : Prop where
  cc : w.heap[c]? = some (.cells (credBox cI9) 32 (0, 0))
  cd : w.heap[d]? = some (.cells (credBox cM9) 32 (0, 0))
  bx : w.heap[x]? = some (.cells (stepBox stX) 36 (0, 0))
  bY : w.heap[y]? = some (.cells (stepBox stY) 36 (0, 0))
  ch : Chg (fun _ => False) w0 w

theorem Fst9.keep {S : Nat → Prop} {w0 w w' : World} {c d x y : Nat} (h : Fst9 w0 c d x y w) (hc : Chg S w w') (h1 : ¬ S c) (h2 : ¬ S d) (h3 : ¬ S x) (h4 : ¬ S y) (h5 : ∀ i, i < w0.heap.size → ¬ S i) : Fst9 w0 c d x y w' :=
  ⟨blk_keep h.cc hc h1, blk_keep h.cd hc h2, blk_keep h.bx hc h3, blk_keep h.bY hc h4, h.ch.trans hc (fun i hi hs => h5 i hi hs)⟩
theorem Fst9.go {w0 w w' : World} {c d x y : Nat} (h : Fst9 w0 c d x y w) (hc : Chg (fun _ => False) w w') : Fst9 w0 c d x y w' := h.keep hc id id id id (fun _ _ => id)
end Go.Proofs.Ytcdjjengkdbngaa
