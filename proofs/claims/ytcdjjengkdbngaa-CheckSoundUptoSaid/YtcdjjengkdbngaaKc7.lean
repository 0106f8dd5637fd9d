/- Texts that the proof leans on, in one: NmPut, NmGet, RefGet, RoleBytes, CredText, TapeBad, RoleGet, RoleRef, RoleParse, CredParse, BackNum, RoleBackMath, CredGet, CredOrd, ModelMath, RoleOwn. -/
import Derived.Test.YtcdjjengkdbngaaKc5
import Derived.Test.YtcdjjengkdbngaaKc6
import Derived.Test.YtcdjjengkdbngaaKc4
import Derived.Test.YtcdjjengkdbngaaKc2
import Derived.Deep.QuietTactic
import Derived.BigQuiet
import Derived.Maps.AppendAt
/- The contracts of the program's Put and Get. -/
namespace Go.Proofs.Ytcdjjengkdbngaa
open Go.RowKit

theorem name_len {s : List UInt8} (hn : isName s = true) : 0 < s.length ∧ s.length ≤ 16 := by
  cases s with
  | nil => cases hn
  | cons c l =>
    simp only [isName, Bool.and_eq_true, decide_eq_true_eq] at hn
    simp
    omega

set_option maxRecDepth 100000 in
theorem put_yes (B P cap : Nat) (ao : Option Addr) (zs s : List UInt8) (w : World) (hp : PenAt B w P ao cap zs) (hB : B ≤ w.heap.size) (hPB : P < B) (hx : zs.length ≤ 1000000) (hn : isName s = true) :
    Calls Try.prog 55 #[.pointer (some ⟨P, 0, none⟩), .string ⟨s.toArray⟩] w fun e w' => e = .returned (.bool true) ∧ PenPost B P ao (zs ++ (enc s.length ++ s)) w w' := by
  have hl := name_len hn
  have hcv := conv_str s w
  have hg1 := grownCap_ge w s.length 0 5
  have hg2 := grownCap_le_maxLen w s.length 0 5 (by unfold maxLen; omega)
  have hba := bytes_of s w.drew (grownCap w s.length 0 5) hg1 hg2 ((bytesRow ⟨s.toArray⟩ (grownCap w s.length 0 5)).size, (bytesRow ⟨s.toArray⟩ (grownCap w s.length 0 5)).size + 1)
  have hPw := lt_blk hp.cell
  have hrow : ∀ k, rowOf ao = some k → k < w.heap.size := fun k hk => (hp.row.lt k ((rowOf_block _ _ _).trans hk)).2
  have hc3 : Chg (fun _ => False) w (w.drew.alloc (.cells (bytesRow ⟨s.toArray⟩ (grownCap w s.length 0 5)) 5 ((bytesRow ⟨s.toArray⟩ (grownCap w s.length 0 5)).size, (bytesRow ⟨s.toArray⟩ (grownCap w s.length 0 5)).size + 1))) := ((Chg.refl _ w).drew).alloc _
  have hp3 := hp.keep hc3 id (fun _ _ => id)
  have hs3 := hc3.size
  have htx := text_any B P cap ao zs s _ _ hp3 (by omega) hPB (by omega) (by omega) hba (fun i hi => by subst hi; exact ⟨by show w.heap.size ≠ P; omega, fun e => by have := hrow _ e; exact absurd this (Nat.lt_irrefl _)⟩)
  have HC := hid hc3
  clear hc3 hp3 hba hg1 hg2 hs3 hrow hp
  go_enter Try.func55, Try.ntmps55
  go_wp2_with (first
    | (go_at_call 86; refine (right_any s _ (by omega)).mono ?_; rintro e w' ⟨rfl, rfl⟩; rw [hn])
    | (go_at_call 88; refine htx.mono ?_; rintro e w' ⟨rfl, ao', cap', hp', hch⟩))
  go_ret
  refine ⟨rfl, ao', cap', hp', ⟨(HC.out.mono (fun _ _ h => h.elim)).trans hch.chg (fun i _ h => h), ?_⟩⟩
  rcases hch.row with h | ⟨g, h1, h2⟩
  · exact .inl h
  · have := HC.out.size
    exact .inr ⟨g, h1, by omega⟩
end Go.Proofs.Ytcdjjengkdbngaa

/- The contract of the program's Get, of an open reader and of none. -/
namespace Go.Proofs.Ytcdjjengkdbngaa
open Go.RowKit

/-- The text that comes next, what is left behind it; the error there. -/
def nameOf (l : List UInt8) : List UInt8 := (l.drop (numN 9 l 0 0).2.1).take (numN 9 l 0 0).1
def nameRest (l : List UInt8) : List UInt8 := l.drop ((numN 9 l 0 0).2.1 + (numN 9 l 0 0).1)
def nameBad (l : List UInt8) : Nat := if errText l 16 = 0 then 30 else errText l 16
def nameOk (l : List UInt8) : Bool := decide (errText l 16 = 0) && isName (nameOf l)

theorem nameBad_ne (l : List UInt8) : ¬ ((nameBad l : Int) = 0) := by
  unfold nameBad
  split <;> omega

def GetOk (D : Nat → Prop) (R : Nat) (l : List UInt8) (w : World) (e : Ending) (w' : World) : Prop :=
  e = .returned (.string ⟨(nameOf l).toArray⟩) ∧ ∃ v', BytesAt D w' v' (nameRest l) ∧ ReaderAt w' R true v' 0 ∧ Chg (· = R) w w'

set_option maxRecDepth 100000 in
theorem get_reads {D : Nat → Prop} {R : Nat} {v : Value} {l : List UInt8} {w : World} (hl : l.length ≤ 140737488355328) (hv : BytesAt D w v l) (hDR : ¬ D R) (hR : ReaderAt w R true v 0) (hok : nameOk l = true) :
    Calls Try.prog 61 #[.pointer (some ⟨R, 0, none⟩)] w (GetOk D R l w) := by
  have hok' : errText l 16 = 0 ∧ isName (nameOf l) = true := by simpa [nameOk] using hok
  have h1 := rtext_reads (most := 16) hl hv hDR hR hok'.1
  have hnl : (nameOf l).length ≤ 9223372036854775807 := by have := name_len hok'.2; omega
  go_enter Try.func61, Try.ntmps61
  go_wp2_with fail
  refine h1.mono ?_
  rintro e w1 ⟨ao, cap, rfl, hby, v5, hv5, hR5, hch5⟩
  have hconv := conv_bytes hby
  change (convert 61 9 _).run Try.prog w1 = .ok (.string ⟨(nameOf l).toArray⟩) w1 at hconv
  change BytesAt D w1 v5 (nameRest l) at hv5
  have HN := hok'.2
  clear hok hok' hby h1
  have HG : Hid (GetOk D R l w (.returned (.string ⟨(nameOf l).toArray⟩)) w1) := hid ⟨rfl, v5, hv5, hR5, hch5⟩
  clear hv5 hR5 hch5 hv hR
  generalize nameOf l = s at *
  go_wp2_with (go_at_call 86; refine (right_any s _ hnl).mono ?_; rintro e w' ⟨rfl, rfl⟩; rw [HN])
  go_ret
  exact HG.out

set_option maxRecDepth 100000 in
theorem get_stops {D : Nat → Prop} {R : Nat} {v : Value} {l : List UInt8} {w : World} (hl : l.length ≤ 140737488355328) (hv : BytesAt D w v l) (hDR : ¬ D R) (hR : ReaderAt w R true v 0) (hok : nameOk l = false) :
    Calls Try.prog 61 #[.pointer (some ⟨R, 0, none⟩)] w (Stops R (nameBad l) w) := by
  by_cases he : errText l 16 = 0
  · have hn : isName (nameOf l) = false := by simpa [nameOk, he] using hok
    have hb : nameBad l = 30 := by rw [nameBad, if_pos he]
    rw [hb]
    have h1 := rtext_reads (most := 16) hl hv hDR hR he
    have hnl : (nameOf l).length ≤ 9223372036854775807 := by simp only [nameOf, List.length_take, List.length_drop]; omega
    go_enter Try.func61, Try.ntmps61
    go_wp2_with fail
    refine h1.mono ?_
    rintro e w1 ⟨ao, cap, rfl, hby, v5, hv5, hR5, hch5⟩
    have hconv := conv_bytes hby
    change (convert 61 9 _).run Try.prog w1 = .ok (.string ⟨(nameOf l).toArray⟩) w1 at hconv
    obtain ⟨ao5, cap5, rfl⟩ := hv5.shape
    have HE := hid he
    have HK := hid hok
    have r0 := cell_blk hR5 0
    have r2 := cell_blk hR5 2
    have f2 := froz_blk hR5 2
    simp only [List.getElem?_toArray, List.getElem?_cons_zero, List.getElem?_cons_succ] at r0 r2
    have HR5 := hid (And.intro hR5 hch5)
    clear hok hby h1 he hv5 hR5 hch5 hv hR
    generalize nameOf l = s at *
    go_wp2_with (first
      | (go_at_call 86; refine (right_any s _ hnl).mono ?_; rintro e w' ⟨rfl, rfl⟩; rw [hn])
      | (go_at_call 91; refine (fail_stops R 30 (.bool true) _ rfl r0 r2 f2).mono ?_; rintro e w' ⟨rfl, rfl⟩))
    exact ⟨rfl, rfl, _, _, _, set_blk HR5.out.1 2 (.int .i64 30), HR5.out.2.trans (setCell_chg w1 R 2 _) (fun _ _ h => h)⟩
  · have hb : nameBad l = errText l 16 := by rw [nameBad, if_neg he]
    have h1 := rtext_stops (most := 16) hl hv hR he
    have HE := hid he
    clear he hok
    rw [hb]
    go_enter Try.func61, Try.ntmps61
    go_wp2_with (go_at_call 93; refine h1.mono ?_; rintro e w1 ⟨rfl, hs⟩)
    exact ⟨rfl, rfl, hs⟩
end Go.Proofs.Ytcdjjengkdbngaa

/- The contract of the document's Get (layer 3), and what End says then. -/
namespace Go.Proofs.Ytcdjjengkdbngaa
open Go.RowKit

end Go.Proofs.Ytcdjjengkdbngaa

/- The contracts of the document's Bytes and Get of layer 4. -/
namespace Go.Proofs.Ytcdjjengkdbngaa
open Go.RowKit

/-- A role's bytes. -/
def roleEnc (r : RoleB) : List UInt8 := (enc r.1.length ++ r.1) ++ (enc r.2.length ++ r.2)

end Go.Proofs.Ytcdjjengkdbngaa

/- A credential's text, and its bytes; a text cut at each place where another one stands: plain words. -/
namespace Go.Proofs.Ytcdjjengkdbngaa
open Go.RowKit

/-- A text's bytes. -/
def encS (s : List UInt8) : List UInt8 := enc s.length ++ s
def credTail (c : CredB) : List UInt8 :=
  if c.kind = 1 then encS c.who else if c.kind = 3 then roleEnc c.b ++ encS c.w2 else if c.kind = 4 then roleEnc c.b ++ roleEnc c.c else roleEnc c.b
def credEnc (c : CredB) : List UInt8 := enc c.kind.toNat ++ (roleEnc c.head ++ credTail c)

/-- The bytes of a right one; none of others. -/
def credBytes (c : CredB) : List UInt8 := if isCred c then credEnc c else []

end Go.Proofs.Ytcdjjengkdbngaa

/- The document's tape behind an error: nothing more comes; its Get of a name, told by nameOk. -/
namespace Go.Proofs.Ytcdjjengkdbngaa
open Go.RowKit

end Go.Proofs.Ytcdjjengkdbngaa

/- The contract of the document's Get of layer 4. -/
namespace Go.Proofs.Ytcdjjengkdbngaa
open Go.RowKit

/-- The role that comes next, what is left behind it, the error there. -/
def roleOk (l : List UInt8) : Bool := nameOk l && nameOk (nameRest l)
def roleOf (l : List UInt8) : RoleB := (nameOf l, nameOf (nameRest l))
def roleRest (l : List UInt8) : List UInt8 := nameRest (nameRest l)
def roleBad (l : List UInt8) : Nat := if nameOk l = true then nameBad (nameRest l) else nameBad l
theorem roleBad_ne (l : List UInt8) : ¬ ((roleBad l : Int) = 0) := by
  unfold roleBad
  split
  · exact nameBad_ne _
  · exact nameBad_ne _

theorem nameRest_len (l : List UInt8) : (nameRest l).length ≤ l.length := by
  unfold nameRest
  simp

end Go.Proofs.Ytcdjjengkdbngaa

/- The contracts of the document's Right of layer 4. -/
namespace Go.Proofs.Ytcdjjengkdbngaa
open Go.RowKit

end Go.Proofs.Ytcdjjengkdbngaa

/- Which role a text is. -/
namespace Go.Proofs.Ytcdjjengkdbngaa
open Go.RowKit

end Go.Proofs.Ytcdjjengkdbngaa

/- Which credential a text is: plain words; a credential stored in its nine cells. -/
namespace Go.Proofs.Ytcdjjengkdbngaa
open Go.RowKit

/-- The nine cells of the block b, stored one by one. -/
def setCred (w : World) (b : Nat) (c : CredB) : World :=
  ((((((((w.setCell ⟨b, 0, none⟩ (.int .i64 c.kind)).setCell ⟨b, 1, none⟩ (.string ⟨c.head.1.toArray⟩)).setCell ⟨b, 2, none⟩ (.string ⟨c.head.2.toArray⟩)).setCell ⟨b, 3, none⟩ (.string ⟨c.who.toArray⟩)).setCell ⟨b, 4, none⟩ (.string ⟨c.b.1.toArray⟩)).setCell ⟨b, 5, none⟩ (.string ⟨c.b.2.toArray⟩)).setCell ⟨b, 6, none⟩ (.string ⟨c.c.1.toArray⟩)).setCell ⟨b, 7, none⟩ (.string ⟨c.c.2.toArray⟩)).setCell ⟨b, 8, none⟩ (.string ⟨c.w2.toArray⟩)

theorem setCred_chg (w : World) (b : Nat) (c : CredB) : Chg (· = b) w (setCred w b c) := by
  unfold setCred
  exact ((((((((setCell_chg _ b 0 _).trans (setCell_chg _ b 1 _) (fun _ _ h => h)).trans (setCell_chg _ b 2 _) (fun _ _ h => h)).trans (setCell_chg _ b 3 _) (fun _ _ h => h)).trans (setCell_chg _ b 4 _) (fun _ _ h => h)).trans (setCell_chg _ b 5 _) (fun _ _ h => h)).trans (setCell_chg _ b 6 _) (fun _ _ h => h)).trans (setCell_chg _ b 7 _) (fun _ _ h => h)).trans (setCell_chg _ b 8 _) (fun _ _ h => h)

theorem credBox_set (c0 c : CredB) : ((((((((((credBox c0).setIfInBounds 0 (.int .i64 c.kind)).setIfInBounds 1 (.string ⟨c.head.1.toArray⟩)).setIfInBounds 2 (.string ⟨c.head.2.toArray⟩)).setIfInBounds 3 (.string ⟨c.who.toArray⟩)).setIfInBounds 4 (.string ⟨c.b.1.toArray⟩)).setIfInBounds 5 (.string ⟨c.b.2.toArray⟩)).setIfInBounds 6 (.string ⟨c.c.1.toArray⟩)).setIfInBounds 7 (.string ⟨c.c.2.toArray⟩)).setIfInBounds 8 (.string ⟨c.w2.toArray⟩)) = credBox c := by
  simp [credBox]

theorem setCred_blk {w : World} {b : Nat} {c0 : CredB} (c : CredB) {ty : TypeId} {f : Nat × Nat} (h : w.heap[b]? = some (.cells (credBox c0) ty f)) : (setCred w b c).heap[b]? = some (.cells (credBox c) ty f) := by
  have h0 := set_blk h 0 (.int .i64 c.kind)
  have h1 := set_blk h0 1 (.string ⟨c.head.1.toArray⟩)
  have h2 := set_blk h1 2 (.string ⟨c.head.2.toArray⟩)
  have h3 := set_blk h2 3 (.string ⟨c.who.toArray⟩)
  have h4 := set_blk h3 4 (.string ⟨c.b.1.toArray⟩)
  have h5 := set_blk h4 5 (.string ⟨c.b.2.toArray⟩)
  have h6 := set_blk h5 6 (.string ⟨c.c.1.toArray⟩)
  have h7 := set_blk h6 7 (.string ⟨c.c.2.toArray⟩)
  have h8 := set_blk h7 8 (.string ⟨c.w2.toArray⟩)
  rw [credBox_set] at h8
  exact h8

end Go.Proofs.Ytcdjjengkdbngaa

/- A number's bytes, written and read again. -/
namespace Go.Proofs.Ytcdjjengkdbngaa
open Go.RowKit

end Go.Proofs.Ytcdjjengkdbngaa

/- Roles put and got, told and parsed, and their order: plain words. -/
namespace Go.Proofs.Ytcdjjengkdbngaa
open Go.RowKit

end Go.Proofs.Ytcdjjengkdbngaa

/- Which credential any bytes are, and the error; what is put is got: plain words. -/
namespace Go.Proofs.Ytcdjjengkdbngaa
open Go.RowKit

/-- What comes next: an error, or a credential and what is left. -/
inductive GetC where
  | bad (e : Nat)
  | ok (c : CredB) (rest : List UInt8)

def numBad (l : List UInt8) : Nat := (numN 9 l 0 0).2.2
def numOf (l : List UInt8) : Nat := (numN 9 l 0 0).1
def numRest (l : List UInt8) : List UInt8 := l.drop (numN 9 l 0 0).2.1

/-- The last part, and whether it is right as a whole. -/
def getEnd (c : CredB) (l : List UInt8) : GetC := if isCred c then .ok c l else .bad 11
def getWord (c : CredB) (l : List UInt8) : GetC := if nameOk l then getEnd { c with w2 := nameOf l } (nameRest l) else .bad (nameBad l)
def getC (c : CredB) (l : List UInt8) : GetC := if roleOk l then getEnd { c with c := roleOf l } (roleRest l) else .bad (roleBad l)
def getB (c : CredB) (l : List UInt8) : GetC :=
  if roleOk l then (if c.kind = 3 then getWord { c with b := roleOf l } (roleRest l) else if c.kind = 4 then getC { c with b := roleOf l } (roleRest l) else getEnd { c with b := roleOf l } (roleRest l)) else .bad (roleBad l)
def getWho (c : CredB) (l : List UInt8) : GetC := if nameOk l then getEnd { c with who := nameOf l } (nameRest l) else .bad (nameBad l)
def getHead (k : Int) (l : List UInt8) : GetC :=
  if roleOk l then (if k = 1 then getWho { noCred with kind := k, head := roleOf l } (roleRest l) else getB { noCred with kind := k, head := roleOf l } (roleRest l)) else .bad (roleBad l)
def credGet (l : List UInt8) : GetC :=
  if numBad l = 0 then (if 1 ≤ numOf l ∧ numOf l ≤ 4 then getHead (numOf l : Nat) (numRest l) else .bad 11) else .bad (numBad l)

/-- A right credential's kind. -/
theorem isCred_kind {c : CredB} (h : isCred c = true) : c.kind = 1 ∨ c.kind = 2 ∨ c.kind = 3 ∨ c.kind = 4 := by
  unfold isCred at h
  by_cases h1 : c.kind = 1
  · exact .inl h1
  · by_cases h2 : c.kind = 2
    · exact .inr (.inl h2)
    · by_cases h3 : c.kind = 3
      · exact .inr (.inr (.inl h3))
      · rw [if_neg h1, if_neg h2, if_neg h3] at h
        simp only [Bool.and_eq_true, beq_iff_eq] at h
        exact .inr (.inr (.inr h.2.2.1))

theorem isCred_head {c : CredB} (h : isCred c = true) : isRole c.head = true := by
  unfold isCred at h
  simp only [Bool.and_eq_true] at h
  exact h.1

theorem isCred_one {c : CredB} (h : isCred c = true) (k : c.kind = 1) : isName c.who = true ∧ c.b = noneR ∧ c.c = noneR ∧ c.w2 = [] := by
  unfold isCred at h
  rw [if_pos k] at h
  simp only [Bool.and_eq_true, beq_iff_eq] at h
  exact h.2

theorem isCred_two {c : CredB} (h : isCred c = true) (k : c.kind = 2) : c.who = [] ∧ isRole c.b = true ∧ c.c = noneR ∧ c.w2 = [] := by
  unfold isCred at h
  rw [if_neg (by omega), if_pos k] at h
  simp only [Bool.and_eq_true, beq_iff_eq] at h
  exact ⟨h.2.1.1, h.2.1.2, h.2.2⟩

theorem isCred_three {c : CredB} (h : isCred c = true) (k : c.kind = 3) : c.who = [] ∧ isRole c.b = true ∧ c.c = noneR ∧ c.b.1 = c.head.1 ∧ isName c.w2 = true := by
  unfold isCred at h
  rw [if_neg (by omega), if_neg (by omega), if_pos k] at h
  simp only [Bool.and_eq_true, beq_iff_eq] at h
  exact ⟨h.2.1.1, h.2.1.2, h.2.2⟩

theorem isCred_four {c : CredB} (h : isCred c = true) (k : c.kind = 4) : c.who = [] ∧ isRole c.b = true ∧ c.w2 = [] ∧ isRole c.c = true ∧ ltR c.b c.c = true := by
  unfold isCred at h
  rw [if_neg (by omega), if_neg (by omega), if_neg (by omega)] at h
  simp only [Bool.and_eq_true, beq_iff_eq] at h
  exact ⟨h.2.1.1, h.2.1.2, h.2.2.2⟩

end Go.Proofs.Ytcdjjengkdbngaa

/- The order of credentials, made whole: by their bytes, then by their fields; sets of right ones: plain words. -/
namespace Go.Proofs.Ytcdjjengkdbngaa
open Go.RowKit

theorem Ord.comap {α β : Type} {lt : β → β → Bool} (o : Ord lt) (f : α → β) (hf : ∀ a b, f a = f b → a = b) : Ord (fun a b => lt (f a) (f b)) where
  irrefl a := o.irrefl (f a)
  trans a b c h1 h2 := o.trans _ _ _ h1 h2
  tri a b := by
    rcases o.tri (f a) (f b) with h | h | h
    · exact .inl h
    · exact .inr (.inl (hf a b h))
    · exact .inr (.inr h)

def ltI (a b : Int) : Bool := decide (a < b)
theorem ltI_ord : Ord ltI where
  irrefl a := by simp [ltI]
  trans a b c h1 h2 := by simp only [ltI, decide_eq_true_eq] at *; omega
  tri a b := by simp only [ltI, decide_eq_true_eq]; omega

/-- Bytes first, then each field. -/
def credKey (c : CredB) : List UInt8 × (Int × (RoleB × (List UInt8 × (RoleB × (RoleB × List UInt8))))) := (credBytes c, (c.kind, (c.head, (c.who, (c.b, (c.c, c.w2))))))
def ltKey : (List UInt8 × (Int × (RoleB × (List UInt8 × (RoleB × (RoleB × List UInt8)))))) → (List UInt8 × (Int × (RoleB × (List UInt8 × (RoleB × (RoleB × List UInt8)))))) → Bool :=
  lexLt ltS (lexLt ltI (lexLt ltR (lexLt ltS (lexLt ltR (lexLt ltR ltS)))))
theorem ltKey_ord : Ord ltKey := lexLt_ord ltS_ord (lexLt_ord ltI_ord (lexLt_ord ltR_ord (lexLt_ord ltS_ord (lexLt_ord ltR_ord (lexLt_ord ltR_ord ltS_ord)))))
theorem credKey_inj (a b : CredB) (h : credKey a = credKey b) : a = b := by
  obtain ⟨k, hd, who, b1, c1, w2⟩ := a
  obtain ⟨k', hd', who', b1', c1', w2'⟩ := b
  simp only [credKey, Prod.mk.injEq] at h
  obtain ⟨_, h1, h2, h3, h4, h5, h6⟩ := h
  subst h1 h2 h3 h4 h5 h6
  rfl

def ltC (a b : CredB) : Bool := ltKey (credKey a) (credKey b)
theorem ltC_ord : Ord ltC := ltKey_ord.comap credKey credKey_inj
def SetC (ls out : List CredB) : Prop := SetG ltC isCred ls out
theorem SetC.one {ls a b : List CredB} (ha : SetC ls a) (hb : SetC ls b) : a = b := SetG.one ltC_ord ha hb

end Go.Proofs.Ytcdjjengkdbngaa

/- The least model of credentials: plain words, nothing of the program's text. -/
namespace Go.Proofs.Ytcdjjengkdbngaa
open Go.RowKit

/-- Somebody is in a role. -/
abbrev FactB := RoleB × List UInt8
def ltF (a b : FactB) : Bool := lexLt ltR ltS a b
theorem ltF_ord : Ord ltF := lexLt_ord ltR_ord ltS_ord

/-- What follows from credentials. -/
inductive Der (ls : List CredB) : FactB → Prop
  | mem {c : CredB} : c ∈ ls → isCred c = true → c.kind = 1 → Der ls (c.head, c.who)
  | inc {c : CredB} {w : List UInt8} : c ∈ ls → isCred c = true → c.kind = 2 → Der ls (c.b, w) → Der ls (c.head, w)
  | link {c : CredB} {b w : List UInt8} : c ∈ ls → isCred c = true → c.kind = 3 → Der ls (c.b, b) → Der ls ((b, c.w2), w) → Der ls (c.head, w)
  | both {c : CredB} {w : List UInt8} : c ∈ ls → isCred c = true → c.kind = 4 → Der ls (c.b, w) → Der ls (c.c, w) → Der ls (c.head, w)

theorem Der.mono {ls ls' : List CredB} (h : ∀ c ∈ ls, isCred c = true → c ∈ ls') : ∀ {f : FactB}, Der ls f → Der ls' f := by
  intro f hf
  induction hf with
  | mem hc hr hk => exact .mem (h _ hc hr) hr hk
  | inc hc hr hk _ ih => exact .inc (h _ hc hr) hr hk ih
  | link hc hr hk _ _ ih1 ih2 => exact .link (h _ hc hr) hr hk ih1 ih2
  | both hc hr hk _ _ ih1 ih2 => exact .both (h _ hc hr) hr hk ih1 ih2

/-- xs are the facts of the least model of ls, in order. -/
def ModelOf (ls : List CredB) (xs : List FactB) : Prop := RisingG ltF xs ∧ ∀ f, f ∈ xs ↔ Der ls f

theorem ModelOf.one {ls : List CredB} {a b : List FactB} (ha : ModelOf ls a) (hb : ModelOf ls b) : a = b :=
  ha.1.ext ltF_ord hb.1 fun x => (ha.2 x).trans (hb.2 x).symm

/-- Who may be in a role at all: the Members' names. -/
theorem Der.who {ls : List CredB} {f : FactB} (h : Der ls f) : ∃ c ∈ ls, isCred c = true ∧ c.kind = 1 ∧ c.who = f.2 := by
  induction h with
  | mem hc hr hk => exact ⟨_, hc, hr, hk, rfl⟩
  | inc _ _ _ _ ih => exact ih
  | link _ _ _ _ _ _ ih2 => exact ih2
  | both _ _ _ _ _ ih1 _ => exact ih1

theorem Der.head {ls : List CredB} {f : FactB} (h : Der ls f) : ∃ c ∈ ls, isCred c = true ∧ c.head = f.1 := by
  cases h with
  | mem hc hr _ => exact ⟨_, hc, hr, rfl⟩
  | inc hc hr _ _ => exact ⟨_, hc, hr, rfl⟩
  | link hc hr _ _ _ => exact ⟨_, hc, hr, rfl⟩
  | both hc hr _ _ _ => exact ⟨_, hc, hr, rfl⟩

theorem isCred_member {c : CredB} (h : isCred c = true) (hk : c.kind = 1) : isName c.who = true := by
  unfold isCred at h
  simp [hk] at h
  exact h.2.1

/-- Is a fact among facts? -/
def inF (xs : List FactB) (r : RoleB) (w : List UInt8) : Bool := xs.any (fun f => f.1 == r && f.2 == w)
theorem inF_iff {xs : List FactB} {r : RoleB} {w : List UInt8} : inF xs r w = true ↔ (r, w) ∈ xs := by
  unfold inF
  rw [List.any_eq_true]
  constructor
  · rintro ⟨f, hf, h⟩
    simp only [Bool.and_eq_true, beq_iff_eq] at h
    rw [← h.1, ← h.2]
    exact hf
  · intro h
    exact ⟨_, h, by simp⟩

/-- Does a credential bring somebody by one step? -/
def stepF (xs : List FactB) (c : CredB) (names : List (List UInt8)) (w : List UInt8) : Bool :=
  if c.kind = 1 then c.who == w else if c.kind = 2 then inF xs c.b w else if c.kind = 4 then inF xs c.b w && inF xs c.c w else names.any (fun b => inF xs c.b b && inF xs (b, c.w2) w)

theorem stepF_der {ls : List CredB} {xs : List FactB} (hx : ∀ f ∈ xs, Der ls f) {c : CredB} (hc : c ∈ ls) (hr : isCred c = true) {names : List (List UInt8)} {w : List UInt8} (h : stepF xs c names w = true) : Der ls (c.head, w) := by
  unfold stepF at h
  rcases isCred_kind hr with k | k | k | k
  · rw [if_pos k] at h
    rw [← beq_iff_eq.1 h]
    exact .mem hc hr k
  · rw [if_neg (by omega), if_pos k] at h
    exact .inc hc hr k (hx _ (inF_iff.1 h))
  · rw [if_neg (by omega), if_neg (by omega), if_neg (by omega), List.any_eq_true] at h
    obtain ⟨b, _, hb⟩ := h
    simp only [Bool.and_eq_true] at hb
    exact .link hc hr k (hx _ (inF_iff.1 hb.1)) (hx _ (inF_iff.1 hb.2))
  · rw [if_neg (by omega), if_neg (by omega), if_pos k] at h
    simp only [Bool.and_eq_true] at h
    exact .both hc hr k (hx _ (inF_iff.1 h.1)) (hx _ (inF_iff.1 h.2))

/-- Nothing comes by one step any more: all is there. -/
theorem closed_der {ls : List CredB} {xs : List FactB} {names : List (List UInt8)} (hn : ∀ c ∈ ls, isCred c = true → c.kind = 1 → c.who ∈ names)
    (hcl : ∀ c ∈ ls, isCred c = true → ∀ w ∈ names, inF xs c.head w = true ∨ stepF xs c names w = false) {f : FactB} (h : Der ls f) : f ∈ xs := by
  have hwho : ∀ {f : FactB}, Der ls f → f.2 ∈ names := fun h => by
    obtain ⟨c, hc, hr, hk, he⟩ := h.who
    rw [← he]
    exact hn c hc hr hk
  have key : ∀ {c : CredB} {w : List UInt8}, c ∈ ls → isCred c = true → w ∈ names → stepF xs c names w = true → (c.head, w) ∈ xs := fun hc hr hw hs => by
    rcases hcl _ hc hr _ hw with h1 | h1
    · exact inF_iff.1 h1
    · rw [hs] at h1; cases h1
  induction h with
  | mem hc hr hk =>
    refine key hc hr (hn _ hc hr hk) ?_
    unfold stepF
    rw [if_pos hk]
    exact beq_iff_eq.2 rfl
  | inc hc hr hk h1 ih =>
    refine key hc hr (hwho h1) ?_
    unfold stepF
    rw [if_neg (by omega), if_pos hk]
    exact inF_iff.2 ih
  | link hc hr hk h1 h2 ih1 ih2 =>
    refine key hc hr (hwho h2) ?_
    unfold stepF
    rw [if_neg (by omega), if_neg (by omega), if_neg (by omega), List.any_eq_true]
    exact ⟨_, hwho h1, by simp only [Bool.and_eq_true]; exact ⟨inF_iff.2 ih1, inF_iff.2 ih2⟩⟩
  | both hc hr hk h1 h2 ih1 ih2 =>
    refine key hc hr (hwho h1) ?_
    unfold stepF
    rw [if_neg (by omega), if_neg (by omega), if_pos hk]
    simp only [Bool.and_eq_true]
    exact ⟨inF_iff.2 ih1, inF_iff.2 ih2⟩

/-- The names of credentials. -/
def whosOf (ls : List CredB) : List (List UInt8) := ls.flatMap (fun c => [c.who, c.head.1, c.b.1, c.c.1])
theorem whosOf_len (ls : List CredB) : (whosOf ls).length = ls.length * 4 := by
  unfold whosOf
  induction ls with
  | nil => rfl
  | cons x l ih => rw [List.flatMap_cons, List.length_append, ih, List.length_cons]; simp; omega
theorem whosOf_who {ls : List CredB} {c : CredB} (h : c ∈ ls) : c.who ∈ whosOf ls := by
  unfold whosOf
  rw [List.mem_flatMap]
  exact ⟨c, h, by simp⟩

/-- Pairs of heads and names: no more facts than these. -/
def pairsF (rs : List RoleB) (ns : List (List UInt8)) : List FactB := rs.flatMap (fun r => ns.map (fun n => (r, n)))
theorem pairsF_len (rs : List RoleB) (ns : List (List UInt8)) : (pairsF rs ns).length = rs.length * ns.length := by
  unfold pairsF
  induction rs with
  | nil => simp
  | cons x l ih => rw [List.flatMap_cons, List.length_append, ih, List.length_map, List.length_cons, Nat.add_mul]; omega
theorem facts_le {rs : List RoleB} {ns : List (List UInt8)} {xs : List FactB} (hd : xs.Nodup) (h : ∀ f ∈ xs, f.1 ∈ rs ∧ f.2 ∈ ns) : xs.length ≤ rs.length * ns.length := by
  rw [← pairsF_len]
  refine nodup_lengthG _ _ hd fun f hf => ?_
  unfold pairsF
  rw [List.mem_flatMap]
  exact ⟨f.1, (h f hf).1, List.mem_map.2 ⟨f.2, (h f hf).2, rfl⟩⟩

/-- What is so between two rounds of the document's way: some of what follows, each once. -/
def PartM (ls : List CredB) (xs : List FactB) : Prop := xs.Nodup ∧ ∀ f ∈ xs, Der ls f

theorem PartM.nil (ls : List CredB) : PartM ls [] := ⟨List.nodup_nil, fun _ h => (by cases h)⟩
theorem PartM.snoc {ls : List CredB} {xs : List FactB} (h : PartM ls xs) {f : FactB} (hf : Der ls f) (hn : f ∉ xs) : PartM ls (xs ++ [f]) := by
  refine ⟨List.nodup_append.2 ⟨h.1, by simp, fun a ha b hb => ?_⟩, fun g hg => ?_⟩
  · rw [List.mem_singleton] at hb
    subst hb
    intro e
    subst e
    exact hn ha
  · rcases List.mem_append.1 hg with hg | hg
    · exact h.2 g hg
    · rw [List.mem_singleton] at hg; rw [hg]; exact hf

end Go.Proofs.Ytcdjjengkdbngaa

/- Lists of roles of the call's own. -/
namespace Go.Proofs.Ytcdjjengkdbngaa
open Go.RowKit

theorem ownsRow_keep {S : Nat → Prop} {B E n s : Nat} {w w' : World} {v : Value} {xs : List Value} (h : w.ownsRow B E s v n xs) (hc : Chg S w w') (hr : ∀ k, v.ownBlock = some k → ¬ S k) : w'.ownsRow B E s v n xs := by
  refine ⟨h.1, ?_⟩
  rcases h.2 with hn | ⟨g, cap, cur, hv, hg, hh, r⟩
  · exact .inl hn
  · exact .inr ⟨g, cap, cur, hv, hg, blk_keep hh hc (hr g (by rw [hv]; rfl)), r⟩

theorem ownsRow_lt {B E n s : Nat} {w : World} {v : Value} {xs : List Value} (h : w.ownsRow B E s v n xs) (k : Nat) (hk : v.ownBlock = some k) : B ≤ k ∧ k < w.heap.size := by
  rcases h.2 with ⟨hn, _⟩ | ⟨g, cap, cur, hv, hg, hh, r⟩
  · rw [hn] at hk; cases hk
  · rw [hv] at hk; cases hk; exact ⟨hg, lt_blk hh⟩

def roleRow (ls : List RoleB) : List Value := ls.flatMap roleCells

/-- A list of roles of the call's own. -/
def OwnR (B : Nat) (w : World) (v : Value) (ls : List RoleB) : Prop := w.ownsRow B 30 2 v ls.length (roleRow ls)

theorem OwnR.shape {B : Nat} {w : World} {v : Value} {ls : List RoleB} (h : OwnR B w v ls) : ∃ ao cap, v = .slice ao ls.length cap := by
  rcases h.2 with ⟨rfl, h0⟩ | ⟨g, cap, cur, rfl, _⟩
  · exact ⟨none, 0, by rw [h0]⟩
  · exact ⟨_, _, rfl⟩

theorem OwnR.keep {S : Nat → Prop} {B : Nat} {w w' : World} {v : Value} {ls : List RoleB} (h : OwnR B w v ls) (hc : Chg S w w') (hr : ∀ k, v.ownBlock = some k → ¬ S k) : OwnR B w' v ls := ownsRow_keep h hc hr

end Go.Proofs.Ytcdjjengkdbngaa
