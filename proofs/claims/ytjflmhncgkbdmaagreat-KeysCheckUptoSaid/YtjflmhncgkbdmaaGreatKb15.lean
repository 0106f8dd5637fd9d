/- Texts that the proof leans on, in one: CredParse, RefSign, TagSum, TagMake. -/
import Derived.Test.YtjflmhncgkbdmaaGreatKb7
import Derived.Test.YtjflmhncgkbdmaaGreatKb14
import Derived.Test.YtjflmhncgkbdmaaGreatRows
import Derived.Test.YtjflmhncgkbdmaaGreatKb1
import Derived.Test.YtjflmhncgkbdmaaGreatKb2
/- Which credential a text is: plain words; a credential stored in its nine cells. -/
namespace Go.Proofs.YtjflmhncgkbdmaaGreat
open Go.RowKit

def roleOr (s : List UInt8) : RoleB := (parseR s).getD noRole
def someIf (c : CredB) : Option CredB := if isCred c then some c else none

/-- What stands behind the arrow, cut at full stops. -/
def parseDots (hd : RoleB) (body : List UInt8) (dots : List (List UInt8)) : Option CredB :=
  match dots with
  | [_] => someIf ⟨1, hd, body, noneR, noneR, []⟩
  | [x, y] => someIf ⟨2, hd, [], (x, y), noneR, []⟩
  | [x, y, z] => someIf ⟨3, hd, [], (x, y), noneR, z⟩
  | _ => none

/-- .. and at ' & '. -/
def parseBody (hd : RoleB) (body : List UInt8) (both dots : List (List UInt8)) : Option CredB :=
  match both with
  | [x, y] => someIf ⟨4, hd, [], roleOr x, roleOr y, []⟩
  | _ => if 2 < both.length ∨ 3 < dots.length then none else parseDots hd body dots

theorem parseBody_many {hd : RoleB} {body : List UInt8} {both dots : List (List UInt8)} (h2 : both.length ≠ 2) (hm : 2 < both.length ∨ 3 < dots.length) : parseBody hd body both dots = none := by
  match both, h2, hm with
  | [], _, hm => simp only [parseBody]; rw [if_pos hm]
  | [_], _, hm => simp only [parseBody]; rw [if_pos hm]
  | [_, _], h2, _ => exact absurd rfl h2
  | _ :: _ :: _ :: _, _, hm => simp only [parseBody]; rw [if_pos hm]

theorem parseBody_few {hd : RoleB} {body : List UInt8} {both dots : List (List UInt8)} (h2 : both.length ≠ 2) (hm : ¬ (2 < both.length ∨ 3 < dots.length)) : parseBody hd body both dots = parseDots hd body dots := by
  match both, h2, hm with
  | [], _, hm => simp only [parseBody]; rw [if_neg hm]
  | [_], _, hm => simp only [parseBody]; rw [if_neg hm]
  | [_, _], h2, _ => exact absurd rfl h2
  | _ :: _ :: _ :: _, _, hm => simp only [parseBody]; rw [if_neg hm]

def parseC (s : List UInt8) : Option CredB :=
  match splitL [32, 60, 45, 32] s with
  | [h, body] => parseBody (roleOr h) body (splitL [32, 38, 32] body) (splitL [46] body)
  | _ => none

def ParsePostC (s : List UInt8) (w : World) (e : Ending) (w' : World) : Prop :=
  e = .returned (.tuple #[credV ((parseC s).getD noCred), .bool (parseC s).isSome]) ∧ Chg (fun _ => False) w w'

/-- The nine cells of the block b, stored one by one. -/
def setCred (w : World) (b : Nat) (c : CredB) : World :=
  ((((((((w.setCell ⟨b, 0, none⟩ (.int .i64 c.kind)).setCell ⟨b, 1, none⟩ (.string ⟨c.head.1.toArray⟩)).setCell ⟨b, 2, none⟩ (.string ⟨c.head.2.toArray⟩)).setCell ⟨b, 3, none⟩ (.string ⟨c.who.toArray⟩)).setCell ⟨b, 4, none⟩ (.string ⟨c.b.1.toArray⟩)).setCell ⟨b, 5, none⟩ (.string ⟨c.b.2.toArray⟩)).setCell ⟨b, 6, none⟩ (.string ⟨c.c.1.toArray⟩)).setCell ⟨b, 7, none⟩ (.string ⟨c.c.2.toArray⟩)).setCell ⟨b, 8, none⟩ (.string ⟨c.w2.toArray⟩)

theorem setCred_chg (w : World) (b : Nat) (c : CredB) : Chg (· = b) w (setCred w b c) := by
  unfold setCred
  exact ((((((((setCell_chg _ b 0 _).trans (setCell_chg _ b 1 _) (fun _ _ h => h)).trans (setCell_chg _ b 2 _) (fun _ _ h => h)).trans (setCell_chg _ b 3 _) (fun _ _ h => h)).trans (setCell_chg _ b 4 _) (fun _ _ h => h)).trans (setCell_chg _ b 5 _) (fun _ _ h => h)).trans (setCell_chg _ b 6 _) (fun _ _ h => h)).trans (setCell_chg _ b 7 _) (fun _ _ h => h)).trans (setCell_chg _ b 8 _) (fun _ _ h => h)

theorem credBox_set (c0 c : CredB) : ((((((((((credBox c0).setIfInBounds 0 (.int .i64 c.kind)).setIfInBounds 1 (.string ⟨c.head.1.toArray⟩)).setIfInBounds 2 (.string ⟨c.head.2.toArray⟩)).setIfInBounds 3 (.string ⟨c.who.toArray⟩)).setIfInBounds 4 (.string ⟨c.b.1.toArray⟩)).setIfInBounds 5 (.string ⟨c.b.2.toArray⟩)).setIfInBounds 6 (.string ⟨c.c.1.toArray⟩)).setIfInBounds 7 (.string ⟨c.c.2.toArray⟩)).setIfInBounds 8 (.string ⟨c.w2.toArray⟩)) = credBox c := by
  simp [credBox]

theorem setCred_blk {w : World} {b : Nat} {c0 : CredB} (c : CredB) {ty : TypeId} {f : Nat × Nat} (h : w.heap[b]? = some (.cells (credBox c0) ty f)) : (setCred w b c).heap[b]? = some (.cells (credBox c) ty f) := by
  have h0 := set_blk h 0 (.int .i64 c.kind)
  have h1 := set_blk h0 1 (.string ⟨c.head.1.toArray⟩)
  have h2 := set_blk h1 2 (.string ⟨c.head.2.toArray⟩)
  have h3 := set_blk h2 3 (.string ⟨c.who.toArray⟩)
  have h4 := set_blk h3 4 (.string ⟨c.b.1.toArray⟩)
  have h5 := set_blk h4 5 (.string ⟨c.b.2.toArray⟩)
  have h6 := set_blk h5 6 (.string ⟨c.c.1.toArray⟩)
  have h7 := set_blk h6 7 (.string ⟨c.c.2.toArray⟩)
  have h8 := set_blk h7 8 (.string ⟨c.w2.toArray⟩)
  rw [credBox_set] at h8
  exact h8

/-- How a result that lies in nine cells and a second one come back. -/
theorem results_cred {fn : Func} {p u : Tmp} (h : fn.results = #[.cell p 35, .tmp u]) (tmps : Array Value) (w : World) (g : Nat) (c : CredB) (hp : tmps.getD p undef = .pointer (some ⟨g, 0, none⟩))
    (hg : w.heap[g]? = some (.cells (credBox c) 35 (0, 0))) : (results fn tmps).run Tryz.prog w = .ok (.tuple #[credV c, tmps.getD u undef]) w :=
  results_row_tmp h tmps w g _ hp (run_loadVar_row (P := Tryz.prog) w g 35 35 _ (0, 0) _ hg Tryz.underlying35 rfl (by kernel_rfl))
end Go.Proofs.YtjflmhncgkbdmaaGreat

/- The contract of the document's Sign, of layer 6. -/
namespace Go.Proofs.YtjflmhncgkbdmaaGreat
open Go.RowKit

/-- Ten cells of the block b, stored one by one. -/
def setSign (w : World) (b : Nat) (c : CredB) (v : Value) : World := (setCred w b c).setCell ⟨b, 9, none⟩ v

theorem setSign_chg (w : World) (b : Nat) (c : CredB) (v : Value) : Chg (· = b) w (setSign w b c v) := (setCred_chg w b c).trans (setCell_chg _ b 9 v) (fun _ _ h => h)

theorem setSign_blk {w : World} {b : Nat} {c0 : CredB} {v0 : Value} (c : CredB) (v : Value) {ty : TypeId} {f : Nat × Nat} (h : w.heap[b]? = some (.cells (signBox c0 v0) ty f)) : (setSign w b c v).heap[b]? = some (.cells (signBox c v) ty f) := by
  have h0 := set_blk h 0 (.int .i64 c.kind)
  have h1 := set_blk h0 1 (.string ⟨c.head.1.toArray⟩)
  have h2 := set_blk h1 2 (.string ⟨c.head.2.toArray⟩)
  have h3 := set_blk h2 3 (.string ⟨c.who.toArray⟩)
  have h4 := set_blk h3 4 (.string ⟨c.b.1.toArray⟩)
  have h5 := set_blk h4 5 (.string ⟨c.b.2.toArray⟩)
  have h6 := set_blk h5 6 (.string ⟨c.c.1.toArray⟩)
  have h7 := set_blk h6 7 (.string ⟨c.c.2.toArray⟩)
  have h8 := set_blk h7 8 (.string ⟨c.w2.toArray⟩)
  have h9 := set_blk h8 9 v
  have e : ((((((((((((signBox c0 v0).setIfInBounds 0 (.int .i64 c.kind)).setIfInBounds 1 (.string ⟨c.head.1.toArray⟩)).setIfInBounds 2 (.string ⟨c.head.2.toArray⟩)).setIfInBounds 3 (.string ⟨c.who.toArray⟩)).setIfInBounds 4 (.string ⟨c.b.1.toArray⟩)).setIfInBounds 5 (.string ⟨c.b.2.toArray⟩)).setIfInBounds 6 (.string ⟨c.c.1.toArray⟩)).setIfInBounds 7 (.string ⟨c.c.2.toArray⟩)).setIfInBounds 8 (.string ⟨c.w2.toArray⟩)).setIfInBounds 9 v)) = signBox c v := by simp [signBox]
  rw [e] at h9
  exact h9

/-- What is so amid the making: B holds the zero one, then the signed one, whose tag is in new memory. -/
def SgnW (B : Nat) (w2 : World) (c : CredB) (tag : List UInt8) (L : Nat → Bool) (w9 : World) : Prop :=
  Chg (· = B) w2 w9 ∧ (L 7 = true → ∃ ta cap, w9.heap[B]? = some (.cells (signBox c (.slice ta tag.length cap)) 38 (0, 0)) ∧ BytesAt (fun k => w2.heap.size ≤ k ∧ k < w9.heap.size) w9 (.slice ta tag.length cap) tag) ∧ (L 7 = false → w9.heap[B]? = some (.cells (signBox noCred (.slice none 0 0)) 38 (0, 0)))

theorem SgnW.keep {B : Nat} {w2 w9 w' : World} {c : CredB} {tag : List UInt8} {L : Nat → Bool} (h : SgnW B w2 c tag L w9) (_ : B < w2.heap.size) (hc : Chg (fun _ => False) w9 w') : SgnW B w2 c tag L w' := by
  obtain ⟨h1, h2, h3⟩ := h
  refine ⟨h1.trans hc (fun _ _ h => h.elim), fun hl => ?_, fun hl => blk_keep (h3 hl) hc id⟩
  obtain ⟨ta, cap, a, b⟩ := h2 hl
  exact ⟨ta, cap, blk_keep a hc id, (b.keep hc (fun _ _ => id)).mono (fun i hi => ⟨hi.1, Nat.lt_of_lt_of_le hi.2 hc.size⟩)⟩

theorem SgnW.step {B : Nat} {w2 w9 : World} {c : CredB} {tag : List UInt8} {L : Nat → Bool} {i : Nat} (h : SgnW B w2 c tag L w9) (hi : ¬ 7 = i) : SgnW B w2 c tag (upd L i) w9 := by
  have e : upd L i 7 = L 7 := if_neg hi
  exact ⟨h.1, fun h7 => h.2.1 (by rw [← e]; exact h7), fun h7 => h.2.2 (by rw [← e]; exact h7)⟩

def SpecR.bts (B lo : Nat) (hB : B < lo) (l : List UInt8) : SpecR (Chg (· = B)) :=
  ⟨fun v w => ∃ ta cap, v = .slice ta l.length cap ∧ l = l ∧ BytesAt (fun k => lo ≤ k ∧ k < w.heap.size) w v l, fun _ _ _ hc ⟨ta, cap, h1, h2, h3⟩ => ⟨ta, cap, h1, h2, (h3.keep hc (fun i hi e => by have := hi.1; have : i = B := e; omega)).mono (fun i hi => ⟨hi.1, Nat.lt_of_lt_of_le hi.2 hc.size⟩)⟩⟩
def SpecR.sgn (B lo : Nat) (hB : B < lo) (c : CredB) (l : List UInt8) : SpecR (Chg (· = B)) :=
  ⟨fun v w => ∃ ta cap, v = signV c (.slice ta l.length cap) ∧ BytesAt (fun k => lo ≤ k ∧ k < w.heap.size) w (.slice ta l.length cap) l, fun _ _ _ hc ⟨ta, cap, h1, h3⟩ => ⟨ta, cap, h1, (h3.keep hc (fun i hi e => by have := hi.1; have : i = B := e; omega)).mono (fun i hi => ⟨hi.1, Nat.lt_of_lt_of_le hi.2 hc.size⟩)⟩⟩

def rsgSpecs (A B lo : Nat) (hB : B < lo) (c : CredB) (key : List UInt8) : List (SpecR (Chg (· = B))) := [.any, .any, .any, .eq (.pointer (some ⟨A, 0, none⟩)), .eq (.pointer (some ⟨B, 0, none⟩)), .eq (.int .i64 0), .eq (.string ⟨key.toArray⟩), .any, .any, .any, .any, .any, .any, .any, .any, .any, .any, .any, .eq (credV c), .eq (.string ⟨key.toArray⟩), .eq (credV c), .eq (.string ⟨(credEnc c).toArray⟩), .eq (.string ⟨(tagOf key (credEnc c)).toArray⟩), .bts B lo hB (tagOf key (credEnc c)), .sgn B lo hB c (tagOf key (credEnc c))]

def SignPost (s : SignB) (e0 : Int) (w : World) (e : Ending) (w' : World) : Prop :=
  ∃ v, e = .returned (.tuple #[v, .int .i64 e0]) ∧ SignVal (fun k => w.heap.size ≤ k ∧ k < w'.heap.size) w' v s ∧ Chg (fun _ => False) w w'

set_option maxRecDepth 100000 in
set_option maxHeartbeats 4000000 in
theorem rsign_any {D : Nat → Prop} (ao : Option Addr) (cp : Nat) (l : List KeyB) (c : CredB) (w : World) (hn : l.length ≤ 4611686018427387904) (h : KeysAt D w ao l) (hreg : newErr l = 0) (hs : credShort c 1048576) (hce0 : isCred c = true → (credEnc c).length ≤ 1048576) :
    Calls Tryz.prog 13 #[.slice ao l.length cp, credV c] w (SignPost (signed l c) (signErr l c) w) := by
  have hA1 : ((w.alloc (.cells #[.int .i64 c.kind, .string ⟨c.head.1.toArray⟩, .string ⟨c.head.2.toArray⟩, .string ⟨c.who.toArray⟩, .string ⟨c.b.1.toArray⟩, .string ⟨c.b.2.toArray⟩, .string ⟨c.c.1.toArray⟩, .string ⟨c.c.2.toArray⟩, .string ⟨c.w2.toArray⟩] 35)).alloc (.cells #[.int .i64 0, .string ⟨#[]⟩, .string ⟨#[]⟩, .string ⟨#[]⟩, .string ⟨#[]⟩, .string ⟨#[]⟩, .string ⟨#[]⟩, .string ⟨#[]⟩, .string ⟨#[]⟩, .slice none 0 0] 38)).heap[w.heap.size]? = some (.cells (credBox c) 35 (0, 0)) := blk_keep (heap_alloc_new w (.cells (credBox c) 35)) ((Chg.refl (fun _ => False) _).alloc _) id
  have hB1 : ((w.alloc (.cells #[.int .i64 c.kind, .string ⟨c.head.1.toArray⟩, .string ⟨c.head.2.toArray⟩, .string ⟨c.who.toArray⟩, .string ⟨c.b.1.toArray⟩, .string ⟨c.b.2.toArray⟩, .string ⟨c.c.1.toArray⟩, .string ⟨c.c.2.toArray⟩, .string ⟨c.w2.toArray⟩] 35)).alloc (.cells #[.int .i64 0, .string ⟨#[]⟩, .string ⟨#[]⟩, .string ⟨#[]⟩, .string ⟨#[]⟩, .string ⟨#[]⟩, .string ⟨#[]⟩, .string ⟨#[]⟩, .string ⟨#[]⟩, .slice none 0 0] 38)).heap[w.heap.size + 1]? = some (.cells (signBox noCred (.slice none 0 0)) 38 (0, 0)) := by
    have := heap_alloc_new (w.alloc (.cells #[.int .i64 c.kind, .string ⟨c.head.1.toArray⟩, .string ⟨c.head.2.toArray⟩, .string ⟨c.who.toArray⟩, .string ⟨c.b.1.toArray⟩, .string ⟨c.b.2.toArray⟩, .string ⟨c.c.1.toArray⟩, .string ⟨c.c.2.toArray⟩, .string ⟨c.w2.toArray⟩] 35)) (.cells #[.int .i64 0, .string ⟨#[]⟩, .string ⟨#[]⟩, .string ⟨#[]⟩, .string ⟨#[]⟩, .string ⟨#[]⟩, .string ⟨#[]⟩, .string ⟨#[]⟩, .string ⟨#[]⟩, .slice none 0 0] 38)
    rw [show (w.alloc (.cells #[.int .i64 c.kind, .string ⟨c.head.1.toArray⟩, .string ⟨c.head.2.toArray⟩, .string ⟨c.who.toArray⟩, .string ⟨c.b.1.toArray⟩, .string ⟨c.b.2.toArray⟩, .string ⟨c.c.1.toArray⟩, .string ⟨c.c.2.toArray⟩, .string ⟨c.w2.toArray⟩] 35)).heap.size = w.heap.size + 1 by simp] at this
    exact this
  have hc1 : Chg (fun _ => False) w ((w.alloc (.cells #[.int .i64 c.kind, .string ⟨c.head.1.toArray⟩, .string ⟨c.head.2.toArray⟩, .string ⟨c.who.toArray⟩, .string ⟨c.b.1.toArray⟩, .string ⟨c.b.2.toArray⟩, .string ⟨c.c.1.toArray⟩, .string ⟨c.c.2.toArray⟩, .string ⟨c.w2.toArray⟩] 35)).alloc (.cells #[.int .i64 0, .string ⟨#[]⟩, .string ⟨#[]⟩, .string ⟨#[]⟩, .string ⟨#[]⟩, .string ⟨#[]⟩, .string ⟨#[]⟩, .string ⟨#[]⟩, .string ⟨#[]⟩, .slice none 0 0] 38)) := ((Chg.refl _ w).alloc _).alloc _
  have hkc := rkey_any ao cp l c ((w.alloc (.cells #[.int .i64 c.kind, .string ⟨c.head.1.toArray⟩, .string ⟨c.head.2.toArray⟩, .string ⟨c.who.toArray⟩, .string ⟨c.b.1.toArray⟩, .string ⟨c.b.2.toArray⟩, .string ⟨c.c.1.toArray⟩, .string ⟨c.c.2.toArray⟩, .string ⟨c.w2.toArray⟩] 35)).alloc (.cells #[.int .i64 0, .string ⟨#[]⟩, .string ⟨#[]⟩, .string ⟨#[]⟩, .string ⟨#[]⟩, .string ⟨#[]⟩, .string ⟨#[]⟩, .string ⟨#[]⟩, .string ⟨#[]⟩, .slice none 0 0] 38)) hn (h.keep hc1 (fun _ _ => id)) (hs.mono (by decide))
  have HH := hid (And.intro hkc (And.intro hA1 (And.intro hB1 hc1)))
  have HK0 := hid (reg_key hreg c.head.1)
  clear hkc hA1 hB1 hc1 hreg h
  show Calls Tryz.prog 13 #[.slice ao l.length cp, .agg #[.int .i64 c.kind, .string ⟨c.head.1.toArray⟩, .string ⟨c.head.2.toArray⟩, .string ⟨c.who.toArray⟩, .string ⟨c.b.1.toArray⟩, .string ⟨c.b.2.toArray⟩, .string ⟨c.c.1.toArray⟩, .string ⟨c.c.2.toArray⟩, .string ⟨c.w2.toArray⟩]] w _
  go_enter Tryz.func13, Tryz.ntmps13
  go_wp2_with fail
  obtain ⟨hkc, hA1, hB1, hc1⟩ := HH.out
  clear HH
  generalize ((w.alloc (.cells #[.int .i64 c.kind, .string ⟨c.head.1.toArray⟩, .string ⟨c.head.2.toArray⟩, .string ⟨c.who.toArray⟩, .string ⟨c.b.1.toArray⟩, .string ⟨c.b.2.toArray⟩, .string ⟨c.c.1.toArray⟩, .string ⟨c.c.2.toArray⟩, .string ⟨c.w2.toArray⟩] 35)).alloc (.cells #[.int .i64 0, .string ⟨#[]⟩, .string ⟨#[]⟩, .string ⟨#[]⟩, .string ⟨#[]⟩, .string ⟨#[]⟩, .string ⟨#[]⟩, .string ⟨#[]⟩, .string ⟨#[]⟩, .slice none 0 0] 38)) = w1 at *
  refine hkc.mono ?_
  rintro e w2 ⟨rfl, hc12⟩
  have hA2 := blk_keep hA1 hc12 id
  have hB2 := blk_keep hB1 hc12 id
  have hc2 := hc1.trans hc12 (fun _ _ h => h)
  clear hkc hA1 hB1 hc1 hc12
  generalize hBe : w.heap.size + 1 = B at *
  have HBe := hid hBe
  clear hBe
  generalize hAe : w.heap.size = A at *
  have HAe := hid hAe
  clear hAe
  have hAB : A < B ∧ B < w2.heap.size := ⟨by have := HBe.out; omega, lt_blk hB2⟩
  by_cases h0 : signErr l c = 0
  · obtain ⟨hi, _⟩ := signErr_ok h0
    obtain ⟨n, hk1, hn2⟩ := isCred_nat hi
    have hce1 := hce0 hi
    have hn1 := hid hk1
    obtain ⟨key, hkey⟩ : ∃ key, keyOf l c.head.1 = key := ⟨_, rfl⟩
    have HE : Hid (keyStr l c = key ∧ signed l c = ⟨c, tagOf key (credEnc c)⟩ ∧ signErr l c = 0) := hid ⟨by rw [keyStr, h0, ← hkey]; rfl, by rw [signed, if_pos h0, signTag, hkey], h0⟩
    have HK : Hid (key.length ≤ 32) := hid (by rw [← hkey]; exact HK0.out)
    rw [h0, HE.out.1]
    have hce : (credEnc c).length ≤ 70368744177664 := by omega
    have HA := hid hA2
    have HC := hid hc2
    clear hkey hk1 h0 hi hce0 hce1 HK0 hA2 hc2
    go_wp2_with fail
    refine wp_region_state (Chg (· = B)) (SgnW B w2 c (tagOf key (credEnc c))) (specAtR (rsgSpecs A B w2.heap.size hAB.2 c key)) [18, 19, 20, 21, 22, 23, 24, 5] [3, 4, 6] (by kernel_rfl) (by kernel_rfl) ⟨(Chg.refl _ _).drew, (fun h => by cases h), (fun _ => hB2)⟩ (fun t v w w' hc h => specAtR_st _ t v w w' hc h) (by rfl) (by kernel_rfl) ?start ?obs ?fin
    case start =>
      simp only [List.forall_mem_cons]
      exact ⟨⟨_, rfl, rfl⟩, ⟨_, rfl, rfl⟩, ⟨_, rfl, rfl⟩, fun _ h => by cases h⟩
    case obs =>
      clear HC hB2
      refine ObsL.cons none (by kernel_rfl) ?_ ?_
      · refine ObL.plain fun L a w hi he hW hk K k => ?_
        obtain ⟨_, e3, rfl⟩ := hk 3 (by decide)
        clear hk he
        obtain ⟨y0, y1, y2, y3, y4, y5, y6, y7, y8⟩ := (cred_at_blk HA.out).keep hW.1 (show ¬ A = B by omega)
        simp only [Nat.zero_add] at y0 y1 y2 y3 y4 y5 y6 y7 y8
        clear hi
        go_simp
        exact k _ _ (Chg.refl _ _) (hW.step (by decide)) rfl
      refine ObsL.cons none (by kernel_rfl) ?_ ?_
      · refine ObL.plain fun L a w hi he hW hk K k => ?_
        obtain ⟨_, e6, f6⟩ := hk 6 (by decide)
        clear hk he
        clear hi
        go_simp
        exact k _ _ (Chg.refl _ _) (hW.step (by decide)) f6
      refine ObsL.cons none (by kernel_rfl) ?_ ?_
      · refine ObL.plain fun L a w hi he hW hk K k => ?_
        obtain ⟨_, e3, rfl⟩ := hk 3 (by decide)
        clear hk he
        obtain ⟨y0, y1, y2, y3, y4, y5, y6, y7, y8⟩ := (cred_at_blk HA.out).keep hW.1 (show ¬ A = B by omega)
        simp only [Nat.zero_add] at y0 y1 y2 y3 y4 y5 y6 y7 y8
        clear hi
        go_simp
        exact k _ _ (Chg.refl _ _) (hW.step (by decide)) rfl
      refine ObsL.cons none (by kernel_rfl) ?_ ?_
      · refine ObL.plain fun L a w hi he hW hk K k => ?_
        obtain ⟨_, e20, rfl⟩ := hk 20 (by decide)
        clear hk he
        clear hi
        go_simp
        refine (cbytes_ref c w n hn1.out hn2 hs).mono ?_
        rintro e w5 ⟨rfl, hcc⟩
        exact k _ _ (hcc.mono (fun _ _ h => h.elim)) ((hW.keep hAB.2 hcc).step (by decide)) rfl
      refine ObsL.cons none (by kernel_rfl) ?_ ?_
      · refine ObL.plain fun L a w hi he hW hk K k => ?_
        obtain ⟨_, e19, rfl⟩ := hk 19 (by decide)
        obtain ⟨_, e21, rfl⟩ := hk 21 (by decide)
        clear hk he
        clear hi
        go_simp
        refine (refmake_any key (credEnc c) w HK.out hce).mono ?_
        rintro e w5 ⟨rfl, hcc⟩
        exact k _ _ (hcc.mono (fun _ _ h => h.elim)) ((hW.keep hAB.2 hcc).step (by decide)) rfl
      refine ObsL.cons none (by kernel_rfl) ?_ ?_
      · refine ObL.plain fun L a w hi he hW hk K k => ?_
        obtain ⟨_, e22, rfl⟩ := hk 22 (by decide)
        clear hk he
        clear hi
        have hcv := conv_str (tagOf key (credEnc c)) w
        have hg1 := grownCap_ge w (tagOf key (credEnc c)).length 0 5
        have hg2 := grownCap_le_maxLen w (tagOf key (credEnc c)).length 0 5 (by rw [tagOf_length]; unfold maxLen; omega)
        generalize grownCap w (tagOf key (credEnc c)).length 0 5 = gc at *
        have hba := bytes_of (tagOf key (credEnc c)) w.drew gc hg1 hg2 ((bytesRow ⟨(tagOf key (credEnc c)).toArray⟩ gc).size, (bytesRow ⟨(tagOf key (credEnc c)).toArray⟩ gc).size + 1)
        have hcc : Chg (fun _ => False) w (w.drew.alloc (.cells (bytesRow ⟨(tagOf key (credEnc c)).toArray⟩ gc) 5 ((bytesRow ⟨(tagOf key (credEnc c)).toArray⟩ gc).size, (bytesRow ⟨(tagOf key (credEnc c)).toArray⟩ gc).size + 1))) := ((Chg.refl _ w).drew).alloc _
        have hsz := hW.1.size
        have hres := k (.slice (some ⟨w.heap.size, 0, none⟩) (tagOf key (credEnc c)).length gc) _ (hcc.mono (fun _ _ h => h.elim)) ((hW.keep hAB.2 hcc).step (by decide)) ⟨_, _, rfl, rfl, hba.mono (fun i hi => by subst hi; exact ⟨hsz, by show w.heap.size < _; simp⟩)⟩
        have HR := hid hres
        clear hg1 hg2 hba hcc hsz hres
        go_simp
        exact HR.out
      refine ObsL.cons none (by kernel_rfl) ?_ ?_
      · refine ObL.plain fun L a w hi he hW hk K k => ?_
        obtain ⟨_, e18, rfl⟩ := hk 18 (by decide)
        obtain ⟨_, e23, f23⟩ := hk 23 (by decide)
        clear hk he
        clear hi
        obtain ⟨ta, cap, rfl, _, hbt⟩ := f23
        have HB := hid hbt
        clear hbt
        unfold credV credBox at e18
        go_simp
        exact k _ _ (Chg.refl _ _) (hW.step (by decide)) ⟨ta, cap, rfl, HB.out⟩
      refine ObsL.cons none (by kernel_rfl) ?_ ?_
      · refine ObL.plain fun L a w hi he hW hk K k => ?_
        obtain ⟨_, e4, rfl⟩ := hk 4 (by decide)
        obtain ⟨_, e24, f24⟩ := hk 24 (by decide)
        clear hk he
        obtain ⟨ta, cap, rfl, hbt⟩ := f24
        have hz := hW.2.2 hi
        have hset := setSign_blk c (.slice ta (tagOf key (credEnc c)).length cap) hz
        have hcs := setSign_chg w B c (.slice ta (tagOf key (credEnc c)).length cap)
        have hW2 : SgnW B w2 c (tagOf key (credEnc c)) (upd L 7) (setSign w B c (.slice ta (tagOf key (credEnc c)).length cap)) := ⟨hW.1.trans hcs (fun _ _ h => h), fun _ => ⟨ta, cap, hset, (hbt.keep hcs (fun i hi e => by have := hi.1; have : i = B := e; omega)).mono (fun i hi => ⟨hi.1, Nat.lt_of_lt_of_le hi.2 hcs.size⟩)⟩, fun h => by cases h⟩
        have HB := hid (And.intro hW2 hcs)
        obtain ⟨hq, y9⟩ := cred_at_sign hz
        obtain ⟨y0, y1, y2, y3, y4, y5, y6, y7, y8⟩ := hq
        simp only [Nat.zero_add, noCred, noneR] at y0 y1 y2 y3 y4 y5 y6 y7 y8
        have g0 := froz_blk hz 0
        have g1 := froz_blk hz 1
        have g2 := froz_blk hz 2
        have g3 := froz_blk hz 3
        have g4 := froz_blk hz 4
        have g5 := froz_blk hz 5
        have g6 := froz_blk hz 6
        have g7 := froz_blk hz 7
        have g8 := froz_blk hz 8
        have g9 := froz_blk hz 9
        clear hi hz hset hcs hW2 hbt hW
        unfold signV signBox at e24
        go_simp
        exact k undef _ HB.out.2 HB.out.1 trivial
      refine ObsL.cons none (by kernel_rfl) ?_ ?_
      · refine ObL.plain fun L a w hi he hW hk K k => ?_
        clear hk he
        clear hi
        go_simp
        exact k _ _ (Chg.refl _ _) (hW.step (by decide)) rfl
      exact ObsL.nil
    case fin =>
      intro L vals w9 hL hWL hv
      have h5 : vals 5 = .int .i64 0 := hv 5 (by decide)
      obtain ⟨hc9, hy, _⟩ := hWL
      obtain ⟨ta, cap, hb9, hbt⟩ := hy (hL 7 (by decide))
      have hch : Chg (fun _ => False) w w9 := HC.out.trans hc9 (fun i hi e => by have := HBe.out; have := HAe.out; have : i = B := e; omega)
      have hsz := HC.out.size
      have HX := hid (And.intro hb9 (And.intro hch (And.intro hbt hsz)))
      clear hB2 hL hv hc9 hy hb9 hbt hch hsz HC HA HK
      simp only [putAll, List.setIfInBounds_toArray, List.set_cons_zero, List.set_cons_succ, h5]
      clear h5
      go_wp2
      refine bodyPost_ret (results_row_tmp rfl _ _ B _ rfl (run_loadVar_row (P := Tryz.prog) _ B 38 38 _ (0, 0) _ HX.out.1 Tryz.underlying38 rfl (by kernel_rfl))) rfl ?_
      exact ⟨_, by rw [HE.out.2.2]; rfl, by rw [HE.out.2.1]; exact ⟨ta, cap, rfl, HX.out.2.2.1.mono (fun i hi => ⟨Nat.le_trans (by have := HX.out.2.2.2; have := HAe.out; omega) hi.1, hi.2⟩)⟩, HX.out.2.1⟩
  · have HE : Hid (signed l c = noSign) := hid (by rw [signed, if_neg h0])
    obtain ⟨e0, he0⟩ : ∃ e0 : Int, ((signErr l c : Nat) : Int) = e0 := ⟨_, rfl⟩
    have hne : (e0 == 0) = false := beq_eq_false_iff_ne.2 (by omega)
    have hne2 : (e0 != 0) = true := by rw [bne, hne]; rfl
    rw [he0]
    have hset := setSign_blk noCred (.slice none 0 0) hB2
    have hcs := setSign_chg w2 B noCred (.slice none 0 0)
    have hch : Chg (fun _ => False) w (setSign w2 B noCred (.slice none 0 0)) := hc2.trans hcs (fun i hi e => by have := HBe.out; have := HAe.out; have : i = B := e; omega)
    obtain ⟨hq, y9⟩ := cred_at_sign hB2
    obtain ⟨y0, y1, y2, y3, y4, y5, y6, y7, y8⟩ := hq
    simp only [Nat.zero_add, noCred, noneR] at y0 y1 y2 y3 y4 y5 y6 y7 y8
    have g0 := froz_blk hB2 0
    have g1 := froz_blk hB2 1
    have g2 := froz_blk hB2 2
    have g3 := froz_blk hB2 3
    have g4 := froz_blk hB2 4
    have g5 := froz_blk hB2 5
    have g6 := froz_blk hB2 6
    have g7 := froz_blk hB2 7
    have g8 := froz_blk hB2 8
    have g9 := froz_blk hB2 9
    have HX := hid (And.intro hset hch)
    have HE0 := hid he0
    clear he0 h0 hce0 hset hcs hch hA2 hB2 hc2
    go_wp2
    refine bodyPost_ret (results_row_tmp rfl _ _ B _ rfl (run_loadVar_row (P := Tryz.prog) _ B 38 38 _ (0, 0) _ HX.out.1 Tryz.underlying38 rfl (by kernel_rfl))) rfl ?_
    exact ⟨_, by rw [HE0.out]; rfl, by rw [HE.out]; exact ⟨none, 0, rfl, BytesAt.nil _ _⟩, HX.out.2⟩
end Go.Proofs.YtjflmhncgkbdmaaGreat

/- The contracts of the two sums: of the document's answer, of the program. -/
namespace Go.Proofs.YtjflmhncgkbdmaaGreat
open Go.RowKit
/-- The cells from ao on hold slices of the bytes ls. -/
def PartsAt (D : Nat → Prop) (w : World) (ao : Option Addr) (ls : List (List UInt8)) : Prop :=
  ∀ i (h : i < ls.length), ∃ b off v, ao = some ⟨b, off, none⟩ ∧ w.cell? ⟨b, off + i, none⟩ = some v ∧ BytesAt D w v ls[i] ∧ ls[i].length ≤ 9223372036854775807

theorem flat_take (ls : List (List UInt8)) (i : Nat) (h : i < ls.length) : (ls.take (i + 1)).flatten = (ls.take i).flatten ++ ls[i] := by
  rw [List.take_succ_eq_append_getElem h, List.flatten_append, List.flatten_singleton]

set_option maxHeartbeats 400000 in
theorem sum_any {D : Nat → Prop} (ao : Option Addr) (cp : Nat) (ls : List (List UInt8)) (w : World) (hn : ls.length ≤ 9223372036854775807) (hp : PartsAt D w ao ls) :
    Calls Tryz.prog 71 #[.slice ao ls.length cp] w fun e w' => e = .returned (.int .u64 (sumOf ls.flatten : Nat)) ∧ w = w' := by
  go_enter Tryz.func71, Tryz.ntmps71
  go_wp2
  go_loop [3, 10] (fun h i => ∃ k : Nat, k ≤ ls.length ∧ i = .int .i64 k ∧ h = .int .u64 ((fnv fnvBasis (ls.take k).flatten : Nat) : Int)) (fun _ i => ls.length - (intOf i).toNat)
  case atStart => exact ⟨0, Nat.zero_le _, rfl, rfl⟩
  case round =>
    obtain ⟨k, hk, rfl, rfl⟩ := hrel
    by_cases hlt : k < ls.length
    · obtain ⟨b, off, v, rfl, hc, hb, hbl⟩ := hp k hlt
      have hft := flat_take ls k hlt
      clear hp
      obtain ⟨ao2, cp2, rfl⟩ := hb.shape
      have HF := hid hft
      clear hft
      generalize ls[k] = l at *
      go_wp2
      go_loop [3, 16] (fun h i => ∃ j : Nat, j ≤ l.length ∧ i = .int .i64 j ∧ h = .int .u64 ((fnv fnvBasis ((ls.take k).flatten ++ l.take j) : Nat) : Int)) (fun _ i => l.length - (intOf i).toNat)
      case atStart => exact ⟨0, Nat.zero_le _, rfl, by simp⟩
      case round =>
        obtain ⟨j, hj, rfl, rfl⟩ := hrel
        by_cases hjl : j < l.length
        · rcases hb with ⟨_, _, h1, h2, _⟩ | ⟨b2, off2, cap2, h1, h2, h3, h4, h5⟩
          · subst h2
            simp at hjl
          · have hcell := h5 j hjl
            cases h1
            clear h5
            have hw := fnvStep_walk (fnv fnvBasis ((ls.take k).flatten ++ l.take j)) l[j] (fnv_lt _ _ (by unfold fnvBasis two64; omega))
            have ht : fnv fnvBasis ((ls.take k).flatten ++ l.take (j + 1)) = fnvStep (fnv fnvBasis ((ls.take k).flatten ++ l.take j)) l[j] := by
              rw [fnv_append, fnv_append, fnv_take _ _ _ hjl]
            have HS : Hid (IntKind.u64.wrap (bits .xor .u64 (fnv fnvBasis ((ls.take k).flatten ++ l.take j) : Int) (IntKind.u64.wrap (l[j].toNat : Int)) * 1099511628211) = ((fnv fnvBasis ((ls.take k).flatten ++ l.take (j + 1)) : Nat) : Int)) := by rw [hw, ht]; rfl
            clear hw ht
            go_wp2
            go_round
            case rel => exact ⟨j + 1, by omega, by go_num, by rw [HS.out]⟩
            case measure => simp [intOf]; omega
        · have hjj : j = l.length := by omega
          subst hjj
          go_wp2
          go_round
          case rel => exact ⟨k + 1, by omega, by go_num, by rw [HF.out, List.take_of_length_le (Nat.le_refl _)]⟩
          case measure => simp [intOf]; omega
    · go_wp2
      go_ret
      refine ⟨?_, rfl⟩
      rw [List.take_of_length_le (by omega)]
      rfl
end Go.Proofs.YtjflmhncgkbdmaaGreat

/- The contracts of rightKey and Make. -/
namespace Go.Proofs.YtjflmhncgkbdmaaGreat
open Go.RowKit
theorem rightKey_yes (ao : Option Addr) (n cp : Nat) (w : World) (h1 : 1 ≤ n) (h2 : n ≤ 32) :
    Calls Tryz.prog 59 #[.slice ao n cp] w fun e w' => e = .returned (.bool true) ∧ w = w' := by
  have d : decide ((n : Int) ≤ 32) = true := by simp; omega
  go_enter Tryz.func59, Tryz.ntmps59
  go_wp2
  go_ret
  exact ⟨rfl, rfl⟩
theorem rightKey_no (ao : Option Addr) (n cp : Nat) (w : World) (h : n = 0 ∨ 32 < n) (hn : n ≤ 9223372036854775807) :
    Calls Tryz.prog 59 #[.slice ao n cp] w fun e w' => e = .returned (.bool false) ∧ w = w' := by
  rcases h with rfl | h
  · go_enter Tryz.func59, Tryz.ntmps59
    go_wp2
    go_ret
    exact ⟨rfl, rfl⟩
  · have d : decide ((n : Int) ≤ 32) = false := by simp; omega
    go_enter Tryz.func59, Tryz.ntmps59
    go_wp2
    go_ret
    exact ⟨rfl, rfl⟩

/-- A block of four slices. -/
theorem parts4 {D : Nat → Prop} {w : World} {B : Nat} {T : TypeId} {f : Nat × Nat} {v0 v1 v2 v3 : Value} {l0 l1 l2 l3 : List UInt8} (h : w.heap[B]? = some (.cells #[v0, v1, v2, v3] T f))
    (h0 : BytesAt D w v0 l0) (h1 : BytesAt D w v1 l1) (h2 : BytesAt D w v2 l2) (h3 : BytesAt D w v3 l3) (b0 : l0.length ≤ 9223372036854775807) (b1 : l1.length ≤ 9223372036854775807) (b2 : l2.length ≤ 9223372036854775807) (b3 : l3.length ≤ 9223372036854775807) :
    PartsAt D w (some ⟨B, 0, none⟩) [l0, l1, l2, l3] := by
  intro i hi
  match i, hi with
  | 0, _ => exact ⟨B, 0, v0, rfl, by rw [cell_blk h]; rfl, h0, b0⟩
  | 1, _ => exact ⟨B, 0, v1, rfl, by rw [cell_blk h]; rfl, h1, b1⟩
  | 2, _ => exact ⟨B, 0, v2, rfl, by rw [cell_blk h]; rfl, h2, b2⟩
  | 3, _ => exact ⟨B, 0, v3, rfl, by rw [cell_blk h]; rfl, h3, b3⟩

/-- The cells of a tag of which k bytes are written. -/
def tagCells (h k : Nat) : List Value := (List.range 8).map fun i => if i < k then .int .u8 ((h / 2 ^ (8 * (7 - i)) % 256 : Nat) : Int) else .int .u8 0

theorem tagCells_zero (h : Nat) : tagCells h 0 = [.int .u8 0, .int .u8 0, .int .u8 0, .int .u8 0, .int .u8 0, .int .u8 0, .int .u8 0, .int .u8 0] := by
  simp [tagCells, List.range, List.range.loop]

theorem tagCells_length (h k : Nat) : (tagCells h k).length = 8 := by simp [tagCells]

theorem tagCells_set (h k : Nat) : (tagCells h k).toArray.setIfInBounds k (.int .u8 ((h / 2 ^ (8 * (7 - k)) % 256 : Nat) : Int)) = (tagCells h (k + 1)).toArray := by
  rw [List.setIfInBounds_toArray]
  congr 1
  refine List.ext_getElem (by simp [tagCells]) fun i h1 h2 => ?_
  rw [List.getElem_set]
  simp only [tagCells, List.getElem_map, List.getElem_range]
  by_cases hik : k = i
  · subst hik
    rw [if_pos rfl, if_pos (by omega)]
  · rw [if_neg hik]
    by_cases h3 : i < k
    · rw [if_pos h3, if_pos (by omega)]
    · rw [if_neg h3, if_neg (by omega)]

theorem tagCells_bytes {w : World} {B : Nat} {T : TypeId} {f : Nat × Nat} (n : Nat) (h : w.heap[B]? = some (.cells (tagCells n 8).toArray T f)) : BytesAt (fun k => k = B) w (.slice (some ⟨B, 0, none⟩) 8 8) (bytes8 n) := by
  refine .inr ⟨B, 0, 8, by rw [bytes8_length], by rw [bytes8_length]; omega, by decide, rfl, fun i hi => ?_⟩
  have hi' : i < 8 := by rw [bytes8_length] at hi; exact hi
  rw [cell_blk h, Nat.zero_add]
  simp only [tagCells, bytes8, List.getElem?_toArray, List.getElem?_map, List.getElem_map, List.getElem_range, List.getElem?_range hi', Option.map_some, if_pos hi']
  rw [ofNat_u8 _ (Nat.mod_lt _ (by omega))]

set_option maxHeartbeats 400000 in
theorem make_yes {D : Nat → Prop} (a1 a2 : Option Addr) (c1 c2 : Nat) (key b : List UInt8) (w : World) (h1 : 1 ≤ key.length) (h2 : key.length ≤ 32) (hb : b.length ≤ 9223372036854775807)
   (k1 : BytesAt D w (.slice a1 key.length c1) key) (k2 : BytesAt D w (.slice a2 b.length c2) b) :
    Calls Tryz.prog 39 #[.slice a1 key.length c1, .slice a2 b.length c2] w fun e w' => ∃ g, e = .returned (.slice (some ⟨g, 0, none⟩) 8 8) ∧ w.heap.size ≤ g ∧ w'.heap[g]? = some (.cells (tagCells (tagSum key b) 8).toArray 5 (0, 0)) ∧ Chg (fun _ => False) w w' := by
  go_enter Tryz.func39, Tryz.ntmps39
  go_wp2_with (go_at_call 59; refine (rightKey_yes _ _ _ _ h1 h2).mono ?_; rintro e w' ⟨rfl, rfl⟩)
  have hc := ((Chg.refl (fun _ => False) w).alloc (.cells #[.int .u8 (key.length : Int)] 5)).alloc (.cells #[.slice (some ⟨w.heap.size, 0, none⟩) 1 1, .slice a1 key.length c1, .slice a2 b.length c2, .slice a1 key.length c1] 36)
  have hB := heap_alloc_new (w.alloc (.cells #[.int .u8 (key.length : Int)] 5)) (.cells #[.slice (some ⟨w.heap.size, 0, none⟩) 1 1, .slice a1 key.length c1, .slice a2 b.length c2, .slice a1 key.length c1] 36)
  rw [show (w.alloc (.cells #[.int .u8 (key.length : Int)] 5)).heap.size = w.heap.size + 1 from by simp] at hB
  have hA : ((w.alloc (.cells #[.int .u8 (key.length : Int)] 5)).alloc (.cells #[.slice (some ⟨w.heap.size, 0, none⟩) 1 1, .slice a1 key.length c1, .slice a2 b.length c2, .slice a1 key.length c1] 36)).heap[w.heap.size]? = some (.cells #[.int .u8 (key.length : Int)] 5 (0, 0)) := by
    rw [Below.heap_alloc _ _ _ (by simp)]
    exact heap_alloc_new w _
  have hsz : w.heap.size + 2 ≤ ((w.alloc (.cells #[.int .u8 (key.length : Int)] 5)).alloc (.cells #[.slice (some ⟨w.heap.size, 0, none⟩) 1 1, .slice a1 key.length c1, .slice a2 b.length c2, .slice a1 key.length c1] 36)).heap.size := by simp
  have k1' := k1.keep hc (fun _ _ => id)
  have k2' := k2.keep hc (fun _ _ => id)
  generalize (w.alloc (.cells #[.int .u8 (key.length : Int)] 5)).alloc (.cells #[.slice (some ⟨w.heap.size, 0, none⟩) 1 1, .slice a1 key.length c1, .slice a2 b.length c2, .slice a1 key.length c1] 36) = w3 at *
  have hp := parts4 (D := fun _ => True) hB ((bytes_one key.length (by omega) hA).mono (fun _ _ => trivial)) (k1'.mono (fun _ _ => trivial)) (k2'.mono (fun _ _ => trivial)) (k1'.mono (fun _ _ => trivial)) (by simp) (by omega) hb (by omega)
  clear hA hB k1' k2' k1 k2
  refine (sum_any (some ⟨w.heap.size + 1, 0, none⟩) 4 [[UInt8.ofNat key.length], key, b, key] w3 (by simp) hp).mono ?_
  rintro e w4 ⟨rfl, rfl⟩
  have hfl : ([[UInt8.ofNat key.length], key, b, key] : List (List UInt8)).flatten = [UInt8.ofNat key.length] ++ key ++ b ++ key := by simp
  rw [hfl]
  clear hfl hp
  have hlt := tagSum_lt key b
  rw [show sumOf ([UInt8.ofNat key.length] ++ key ++ b ++ key) = tagSum key b from rfl]
  obtain ⟨n, hn⟩ : ∃ n, n = tagSum key b := ⟨_, rfl⟩
  rw [← hn] at hlt ⊢
  have HN := hid hn
  clear hn
  have hmk : ∀ w, (Instr.makeSlice 36 (.int .i64 8) (.int .i64 8)).run Tryz.prog w = .ok (.slice (some ⟨w.heap.size, 0, none⟩) 8 8) (w.alloc (.cells #[.int .u8 0, .int .u8 0, .int .u8 0, .int .u8 0, .int .u8 0, .int .u8 0, .int .u8 0, .int .u8 0] 5)) := fun _ => by kernel_rfl
  go_wp2
  have hg := heap_alloc_new w3 (.cells #[.int .u8 0, .int .u8 0, .int .u8 0, .int .u8 0, .int .u8 0, .int .u8 0, .int .u8 0, .int .u8 0] 5)
  have hcw := hc.alloc (.cells #[.int .u8 0, .int .u8 0, .int .u8 0, .int .u8 0, .int .u8 0, .int .u8 0, .int .u8 0, .int .u8 0] 5)
  generalize w3.alloc (.cells #[.int .u8 0, .int .u8 0, .int .u8 0, .int .u8 0, .int .u8 0, .int .u8 0, .int .u8 0, .int .u8 0] 5) = w4 at *
  have hgw : w.heap.size ≤ w3.heap.size := by omega
  generalize w3.heap.size = g at *
  clear hc hsz hmk
  go_loopw [23] (fun i wr => ∃ k : Nat, k ≤ 8 ∧ i = .int .i64 k ∧ wr.heap[g]? = some (.cells (tagCells n k).toArray 5 (0, 0)) ∧ Chg (fun _ => False) w wr) (fun i _ => 8 - (intOf i).toNat)
  case atStart => exact ⟨0, by omega, rfl, by rw [tagCells_zero]; exact hg, hcw⟩
  case round =>
    clear hg hcw
    obtain ⟨k, hk, rfl, hg, hcw⟩ := hrel
    by_cases hlt : k < 8
    · have hcell : wr.cell? ⟨g, k, none⟩ = some (.int .u8 0) := by
        rw [cell_blk hg]
        simp [tagCells, hlt]
      have hfr := froz_blk hg k
      have hset := set_blk hg k (.int .u8 ((n / 2 ^ (8 * (7 - k)) % 256 : Nat) : Int))
      rw [tagCells_set n k] at hset
      have hcs := hcw.setCell (p := ⟨g, k, none⟩) (fun h => by simp at h; omega) (.int .u8 ((n / 2 ^ (8 * (7 - k)) % 256 : Nat) : Int))
      have HS := hid (And.intro hset hcs)
      clear hset hcs
      go_wp2
      go_roundw
      case rel => exact ⟨k + 1, by omega, by go_num, by rw [← byte8_int]; exact HS.out.1, by rw [← byte8_int]; exact HS.out.2⟩
      case measure => simp [intOf]; omega
    · have hk8 : k = 8 := by omega
      subst hk8
      go_wp2
      go_ret
      exact ⟨g, rfl, hgw, by rw [← HN.out]; exact hg, hcw⟩

theorem make_no (a1 : Option Addr) (v2 : Value) (n1 c1 : Nat) (w : World) (h : n1 = 0 ∨ 32 < n1) (hn : n1 ≤ 9223372036854775807) :
    Calls Tryz.prog 39 #[.slice a1 n1 c1, v2] w fun e w' => e = .returned (.slice none 0 0) ∧ w = w' := by
  go_enter Tryz.func39, Tryz.ntmps39
  go_wp2_with (go_at_call 59; refine (rightKey_no _ _ _ _ h hn).mono ?_; rintro e w' ⟨rfl, rfl⟩)
  go_ret
  exact ⟨rfl, rfl⟩

end Go.Proofs.YtjflmhncgkbdmaaGreat
