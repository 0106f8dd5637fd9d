/- Texts that the proof leans on, in one: PkGood, SignMath, OwnS, ShelfI, ShelfI2, PkNames. -/
import Derived.Test.YtjflmhncgkbdmaaGreatKb22
import Derived.Test.YtjflmhncgkbdmaaGreatKb24
import Derived.Test.YtjflmhncgkbdmaaGreatKb21
import Derived.Test.YtjflmhncgkbdmaaGreatKb1
import Derived.Test.YtjflmhncgkbdmaaGreatKb2
import Derived.Test.YtjflmhncgkbdmaaGreatProg
import Derived.Test.YtjflmhncgkbdmaaGreatChecked
import Derived.Maps.AppendAt
import Derived.Shelf.SlIter.Nil
import Derived.Shelf.SortM.Plain
import Derived.Shelf.SortM.SortNone
import Derived.Ground.GgzProg
import Derived.Ground.SlgmProg
import Derived.Test.YtjflmhncgkbdmaaGreatKb10
/- The contract of the program's Good. -/
namespace Go.Proofs.YtjflmhncgkbdmaaGreat
open Go.RowKit Go.Maps

set_option maxRecDepth 100000 in
set_option maxHeartbeats 4000000 in
theorem pgood {D E : Nat → Prop} (g : Nat) (l : List KeyB) (so : Option Addr) (sp : Nat) (ss : List SignB) (w : World) (h : RegAt D w g l) (hreg : newErr l = 0) (hsn : ss.length ≤ 4194304) (hss : SignsAt E w so ss) :
    Calls Tryz.prog 11 #[.pointer (some ⟨g, 0, none⟩), .slice so ss.length sp] w (SetPostC (goodC l ss) w) := by
  obtain ⟨i0, hi, hz0, hz1, hz2⟩ := info_parts Tryz.info35
  have HP := hid hreg
  clear hreg
  go_enter Tryz.func11, Tryz.ntmps11
  go_wp2
  go_loopw [5, 10] (fun v i wr => ∃ (k : Nat) (out : List CredB) (ao' : Option Addr) (cap : Nat), i = .int .i64 k ∧ k ≤ ss.length ∧ v = .slice ao' out.length cap ∧ Hid (out = goodC l (ss.take k)) ∧ out.length ≤ k ∧ OwnC w.heap.size wr (.slice ao' out.length cap) out ∧ Chg (fun _ => False) w wr) (fun _ i _ => ss.length - (intOf i).toNat)
  case atStart => exact ⟨0, [], none, 0, rfl, Nat.zero_le _, rfl, rfl, Nat.zero_le _, World.ownsRow_nil _ _ _ _, Chg.refl _ _⟩
  case round =>
    obtain ⟨k, out, ao', cap', rfl, hk, rfl, hout, hol, ho, hc⟩ := hrel
    by_cases hlt : k < ss.length
    · obtain ⟨b, off, rfl, _, hat⟩ := (hss.keep hc (fun _ _ => id)) k hlt
      have hmem := List.getElem_mem hlt
      have hgt := goodC_take l ss k hlt
      have hreg := HP.out
      obtain ⟨s, hs⟩ : ∃ s, s = ss[k] := ⟨_, rfl⟩
      rw [← hs] at hat hgt
      have hkeys := h.keep hc (fun _ _ => id)
      have HQ := hid (And.intro hss h)
      clear hs hmem hss h
      obtain ⟨c, tag⟩ := s
      obtain ⟨hcr, ⟨ta, tcap, c9, hby⟩, hsh, hln⟩ := hat
      dsimp only at hcr c9 hby hln hgt hsh
      obtain ⟨c0, c1, c2, c3, c4, c5, c6, c7, c8⟩ := hcr
      have hS : (wr.alloc (.cells #[.int .i64 c.kind, .string ⟨c.head.1.toArray⟩, .string ⟨c.head.2.toArray⟩, .string ⟨c.who.toArray⟩, .string ⟨c.b.1.toArray⟩, .string ⟨c.b.2.toArray⟩, .string ⟨c.c.1.toArray⟩, .string ⟨c.c.2.toArray⟩, .string ⟨c.w2.toArray⟩, .slice ta tag.length tcap] 38)).heap[wr.heap.size]? = some (.cells (signBox c (.slice ta tag.length tcap)) 38 (0, 0)) := heap_alloc_new wr _
      have hal : Chg (fun _ => False) wr (wr.alloc (.cells #[.int .i64 c.kind, .string ⟨c.head.1.toArray⟩, .string ⟨c.head.2.toArray⟩, .string ⟨c.who.toArray⟩, .string ⟨c.b.1.toArray⟩, .string ⟨c.b.2.toArray⟩, .string ⟨c.c.1.toArray⟩, .string ⟨c.c.2.toArray⟩, .string ⟨c.w2.toArray⟩, .slice ta tag.length tcap] 38)) := (Chg.refl _ wr).alloc _
      have hck := pcheck g l c tag ta tcap (wr.alloc (.cells #[.int .i64 c.kind, .string ⟨c.head.1.toArray⟩, .string ⟨c.head.2.toArray⟩, .string ⟨c.who.toArray⟩, .string ⟨c.b.1.toArray⟩, .string ⟨c.b.2.toArray⟩, .string ⟨c.c.1.toArray⟩, .string ⟨c.c.2.toArray⟩, .string ⟨c.w2.toArray⟩, .slice ta tag.length tcap] 38)) (hkeys.keep hal (fun _ _ => id)) hreg hsh (hby.keep hal (fun _ _ => id))
      have HH := hid (And.intro hck (And.intro hS (And.intro (ho.keep hal (fun _ _ => id)) (hc.trans hal (fun _ _ h => h)))))
      have HG := hid hgt
      clear hck hS hal ho hc hgt hkeys hby hsh hreg
      go_wp2_with fail
      obtain ⟨hck, hS, ho, hc⟩ := HH.out
      clear HH c0 c1 c2 c3 c4 c5 c6 c7 c8 c9
      generalize wr.alloc (.cells #[.int .i64 c.kind, .string ⟨c.head.1.toArray⟩, .string ⟨c.head.2.toArray⟩, .string ⟨c.who.toArray⟩, .string ⟨c.b.1.toArray⟩, .string ⟨c.b.2.toArray⟩, .string ⟨c.c.1.toArray⟩, .string ⟨c.c.2.toArray⟩, .string ⟨c.w2.toArray⟩, .slice ta tag.length tcap] 38) = w3 at *
      generalize wr.heap.size = X at *
      refine hck.mono ?_
      rintro e w4 ⟨rfl, hc4⟩
      have hS4 := blk_keep hS hc4 id
      have ho4 := ho.keep hc4 (fun _ _ => id)
      have hcw4 := hc.trans hc4 (fun _ _ h => h)
      clear hck hS ho hc hc4
      obtain ⟨⟨b0, b1, b2, b3, b4, b5, b6, b7, b8⟩, _⟩ := cred_at_sign hS4
      simp only [Nat.zero_add] at b0 b1 b2 b3 b4 b5 b6 b7 b8
      have HR := hid (And.intro ho4 hcw4)
      have hszw := hcw4.size
      clear hS4 ho4 hcw4
      by_cases h0 : checkErr l ⟨c, tag⟩ = 0
      · have hn2 : Hid (out ++ [c] = goodC l (ss.take (k + 1))) := hid (by rw [HG.out, if_pos h0, ← hout.out])
        rw [h0]
        clear h0
        go_wp2_with (at_builtin; refine wpList_append_own_at _ rfl (.tmp 18) (.tmp 21) 41 rfl w.heap.size 35 i0 (.agg #[.int .i64 0, .string ⟨#[]⟩, .string ⟨#[]⟩, .string ⟨#[]⟩, .string ⟨#[]⟩, .string ⟨#[]⟩, .string ⟨#[]⟩, .string ⟨#[]⟩, .string ⟨#[]⟩]) 9 136 Tryz.underlying41 hi hz0 hz1 hz2 rfl (by decide) _ _ _ rfl (World.ownsRow.alloc HR.out.1 _) ⟨w4.heap.size, 0, none⟩ 1 1 (credCells c) rfl rfl ?c1 ?c2 ?c3 ?c4 ?c5 ?_)
        case c1 => exact fun j u hj => cred_cells_new w4 c j u hj
        case c2 => intro u hu; simp only [credCells, List.mem_cons, List.not_mem_nil, or_false] at hu; rcases hu with rfl | rfl | rfl | rfl | rfl | rfl | rfl | rfl | rfl <;> rfl
        case c3 => unfold maxLen; omega
        case c4 => omega
        case c5 => simp; omega
        intro v' w2 hown hgrow _ hat2
        obtain ⟨ho6, hc6⟩ := HR.out
        have hrow : ∀ k, Value.ownBlock (.slice ao' out.length cap') = some k → w.heap.size ≤ k := fun k hk => (ownsRow_lt ho6 k hk).1
        have ho2 : OwnC w.heap.size w2 v' (out ++ [c]) := by
          unfold OwnC
          rw [credRow_snoc, List.length_append, List.length_singleton]
          exact hown
        have hc2 : Chg (fun _ => False) w w2 := (hc6.alloc _).grown hgrow (fun k e hk => by have := hrow k e; omega)
        obtain ⟨ao5, cap5, hv5⟩ := ho2.shape
        have hl : (out ++ [c]).length = out.length + 1 := by simp
        subst hv5
        have HY := hid (And.intro ho2 hc2)
        clear hown hgrow hat2 hrow ho6 hc6 ho2 hc2 HR b0 b1 b2 b3 b4 b5 b6 b7 b8
        rw [hl]
        go_wp2
        obtain ⟨ho2, hc2⟩ := HY.out
        go_roundw
        case rel => exact ⟨k + 1, out ++ [c], ao5, cap5, by go_num, by omega, by rw [hl], hn2, by rw [hl]; omega, ho2, hc2⟩
        case measure => simp [intOf]; omega
      · have hn2 : Hid (out = goodC l (ss.take (k + 1))) := hid (by rw [HG.out, if_neg h0, ← hout.out]; simp)
        obtain ⟨e0, he0⟩ : ∃ e0 : Int, ((checkErr l ⟨c, tag⟩ : Nat) : Int) = e0 := ⟨_, rfl⟩
        have hne : (e0 == 0) = false := beq_eq_false_iff_ne.2 (by omega)
        rw [he0]
        clear h0 he0
        go_wp2
        obtain ⟨ho4, hcw4⟩ := HR.out
        go_roundw
        case rel => exact ⟨k + 1, out, ao', cap', by go_num, by omega, rfl, hn2, by omega, ho4, hcw4⟩
        case measure => simp [intOf]; omega
    · have ho2 : Hid (out = goodC l ss) := by
        have := hout.out
        rw [List.take_of_length_le (by omega)] at this
        exact hid this
      have hbd : ∀ x ∈ out, credShort x 9223372036854775807 := fun x hx => by
        rw [ho2.out, goodC, List.mem_map] at hx
        obtain ⟨s, hs, rfl⟩ := hx
        obtain ⟨j, hj, rfl⟩ := List.getElem_of_mem (List.mem_filter.1 hs).1
        obtain ⟨_, _, _, _, hat⟩ := hss j hj
        exact hat.sh
      obtain ⟨ao5, cap5, hv, hst, hzz⟩ := ho.creds hbd
      cases hv
      have HS := hid (And.intro hst hc)
      have hol2 : out.length ≤ 4194304 := by omega
      have HZ := hid hzz
      clear hzz
      clear hbd ho hst hc h hss hout
      go_wp2_with fail
      refine (pcset _ _ out wr hol2 HS.out.1 (fun i hi => hi.2) HZ.out).mono ?_
      rintro e w3 ⟨so2, ao7, cap7, rfl, hset, hst7, hc37, hz7⟩
      have hsz := HS.out.2.size
      have HF := hid (And.intro hset (And.intro hst7 (And.intro hc37 hz7)))
      clear hset hst7 hc37 hz7
      go_wp2
      go_ret
      exact ⟨so2, _, _, rfl, by rw [← ho2.out]; exact HF.out.1, HF.out.2.1.mono (fun i hi => ⟨Nat.le_trans hsz hi.1, hi.2⟩), HS.out.2.trans HF.out.2.2.1 (fun _ _ h => h), HF.out.2.2.2⟩

theorem SetC.none {out : List CredB} (h : SetC [] out) : out = [] := by
  have h0 : SetC [] [] := ⟨trivial, fun x => by simp⟩
  exact h.one h0

set_option maxRecDepth 100000 in
set_option maxHeartbeats 4000000 in
/-- Of a nil registry: none. -/
theorem pgood_nil {E : Nat → Prop} (so : Option Addr) (sp : Nat) (ss : List SignB) (w : World) (hsn : ss.length ≤ 4194304) (hss : SignsAt E w so ss) :
    Calls Tryz.prog 11 #[.pointer none, .slice so ss.length sp] w fun e w' => (∃ ao cap, e = .returned (.slice ao 0 cap)) ∧ Chg (fun _ => False) w w' := by
  go_enter Tryz.func11, Tryz.ntmps11
  go_wp2
  go_loopw [5, 10] (fun v i wr => ∃ k : Nat, i = .int .i64 k ∧ k ≤ ss.length ∧ v = .slice none 0 0 ∧ Chg (fun _ => False) w wr) (fun _ i _ => ss.length - (intOf i).toNat)
  case atStart => exact ⟨0, rfl, Nat.zero_le _, rfl, Chg.refl _ _⟩
  case round =>
    obtain ⟨k, rfl, hk, rfl, hc⟩ := hrel
    by_cases hlt : k < ss.length
    · obtain ⟨b, off, rfl, _, hat⟩ := (hss.keep hc (fun _ _ => id)) k hlt
      obtain ⟨s, hs⟩ : ∃ s, s = ss[k] := ⟨_, rfl⟩
      rw [← hs] at hat
      clear hs
      obtain ⟨c, tag⟩ := s
      obtain ⟨hcr, ⟨ta, tcap, c9, _⟩, _, _⟩ := hat
      dsimp only at hcr c9
      obtain ⟨c0, c1, c2, c3, c4, c5, c6, c7, c8⟩ := hcr
      have hal : Chg (fun _ => False) wr (wr.alloc (.cells #[.int .i64 c.kind, .string ⟨c.head.1.toArray⟩, .string ⟨c.head.2.toArray⟩, .string ⟨c.who.toArray⟩, .string ⟨c.b.1.toArray⟩, .string ⟨c.b.2.toArray⟩, .string ⟨c.c.1.toArray⟩, .string ⟨c.c.2.toArray⟩, .string ⟨c.w2.toArray⟩, .slice ta tag.length tcap] 38)) := (Chg.refl _ wr).alloc _
      have hck := pcheck_nil c tag.length ta tcap (wr.alloc (.cells #[.int .i64 c.kind, .string ⟨c.head.1.toArray⟩, .string ⟨c.head.2.toArray⟩, .string ⟨c.who.toArray⟩, .string ⟨c.b.1.toArray⟩, .string ⟨c.b.2.toArray⟩, .string ⟨c.c.1.toArray⟩, .string ⟨c.c.2.toArray⟩, .string ⟨c.w2.toArray⟩, .slice ta tag.length tcap] 38))
      have HH := hid (And.intro hck (hc.trans hal (fun _ _ h => h)))
      clear hck hal hc
      go_wp2_with fail
      obtain ⟨hck, hc⟩ := HH.out
      clear HH c0 c1 c2 c3 c4 c5 c6 c7 c8 c9
      generalize wr.alloc (.cells #[.int .i64 c.kind, .string ⟨c.head.1.toArray⟩, .string ⟨c.head.2.toArray⟩, .string ⟨c.who.toArray⟩, .string ⟨c.b.1.toArray⟩, .string ⟨c.b.2.toArray⟩, .string ⟨c.c.1.toArray⟩, .string ⟨c.c.2.toArray⟩, .string ⟨c.w2.toArray⟩, .slice ta tag.length tcap] 38) = w3 at *
      generalize wr.heap.size = X at *
      refine hck.mono ?_
      rintro e w4 ⟨rfl, hc4⟩
      have HC := hid (hc.trans hc4 (fun _ _ h => h))
      clear hck hc hc4
      go_wp2
      go_roundw
      case rel => exact ⟨k + 1, by go_num, by omega, rfl, HC.out⟩
      case measure => simp [intOf]; omega
    · have HC := hid hc
      clear hc
      go_wp2_with fail
      refine (pcset (D := fun _ => False) none 0 [] wr (by simp) (CredsAt.nil _ _ _) (fun i hi => hi.elim) (fun _ => rfl)).mono ?_
      rintro e w3 ⟨out, ao7, cap7, rfl, hset, _, hc37, _⟩
      have h0 := hset.none
      subst h0
      have HF := hid (HC.out.trans hc37 (fun _ _ h => h))
      clear hset hc37
      go_wp2
      go_ret
      exact ⟨⟨ao7, cap7, rfl⟩, HF.out⟩
end Go.Proofs.YtjflmhncgkbdmaaGreat

/- Signed credentials put and got again; the data of law 6's first. Plain words. -/
namespace Go.Proofs.YtjflmhncgkbdmaaGreat
open Go.RowKit

theorem signGet_enc {s : SignB} (h : isSign s = true) (x : List UInt8) : signGet (signBytes s ++ x) = .ok s x := by
  obtain ⟨c, tag⟩ := s
  unfold isSign at h
  rw [Bool.and_eq_true] at h
  obtain ⟨h1, h2⟩ := h
  have h8 : tag.length = 8 := of_decide_eq_true h2
  have hg := credGet_enc h1 (encS tag ++ x)
  have e1 : signBytes ⟨c, tag⟩ ++ x = credEnc c ++ (encS tag ++ x) := by rw [signBytes, List.append_assoc]
  have he : numN 9 ((enc tag.length ++ tag) ++ x) 0 0 = (tag.length, (enc tag.length).length, 0) := by
    rw [List.append_assoc]
    exact numN_enc9 (by omega) (tag ++ x)
  have t1 : errText (encS tag ++ x) 8 = 0 := by
    unfold encS errText
    rw [he, if_pos rfl, if_neg (by omega), if_neg (by simp only [List.length_append]; omega)]
  have t2 : nameOf (encS tag ++ x) = tag := by
    unfold encS nameOf
    rw [he, List.append_assoc]
    simp
  have t3 : nameRest (encS tag ++ x) = x := by
    unfold encS nameRest
    rw [he]
    have : (enc tag.length).length + tag.length = (enc tag.length ++ tag).length := by simp
    rw [this, List.drop_left]
  rw [e1, signGet, hg]
  show signEnd c (encS tag ++ x) = _
  rw [signEnd, if_pos t1, t2, t3, if_pos h8]

theorem sgErr_bytes {s : SignB} (h : isSign s = true) : sgErr (signBytes s) = 0 := by
  have := signGet_enc h []
  rw [List.append_nil] at this
  rw [sgErr, this]
  rfl
theorem signGot_bytes {s : SignB} (h : isSign s = true) : signGot (signBytes s) = s := by
  have := signGet_enc h []
  rw [List.append_nil] at this
  rw [signGot, this]

theorem signed_eq {l : List KeyB} {c : CredB} (h : signErr l c = 0) : signed l c = ⟨c, signTag l c⟩ := by rw [signed, if_pos h]
theorem signed_right {l : List KeyB} {c : CredB} (h : signErr l c = 0) : isSign (signed l c) = true := by
  rw [signed_eq h, isSign]
  simp [(signErr_ok h).1, signTag, tagOf_length]
theorem signed_check {l : List KeyB} {c : CredB} (h : signErr l c = 0) : checkErr l (signed l c) = 0 := by
  rw [signed_eq h, checkErr, if_pos h, if_pos rfl]

theorem short_enc {c : CredB} (h : isCred c = true) : (credEnc c).length ≤ 1048576 := by
  have hh := pc_roleEnc_len (isCred_head h)
  have hk : (enc c.kind.toNat).length = 1 := by
    have := isCred_kind h
    rw [enc_small (by omega)]; rfl
  rw [credEnc, List.length_append, List.length_append, hk]
  unfold credTail
  rcases isCred_kind h with k | k | k | k
  · have := pc_encS_len (isCred_one h k).1
    rw [if_pos k]; omega
  · have := pc_roleEnc_len (isCred_two h k).2.1
    rw [if_neg (by omega), if_neg (by omega), if_neg (by omega)]; omega
  · have h1 := pc_roleEnc_len (isCred_three h k).2.1
    have h2 := pc_encS_len (isCred_three h k).2.2.2.2
    rw [if_neg (by omega), if_pos k, List.length_append]; omega
  · have h1 := pc_roleEnc_len (isCred_four h k).2.1
    have h2 := pc_roleEnc_len (isCred_four h k).2.2.2.1
    rw [if_neg (by omega), if_neg (by omega), if_pos k, List.length_append]; omega

theorem signBytes_short {s : SignB} (h : isSign s = true) : (signBytes s).length ≤ 140737488355328 := by
  obtain ⟨c, tag⟩ := s
  unfold isSign at h
  rw [Bool.and_eq_true] at h
  have h8 : tag.length = 8 := of_decide_eq_true h.2
  have h1 : isCred c = true := h.1
  have := short_enc h1
  rw [signBytes, List.length_append]
  show (credEnc c).length + (encS tag).length ≤ _
  rw [encS, List.length_append, h8, enc_small (by decide)]
  simp only [List.length_cons, List.length_nil]
  omega
theorem good_noSign (l : List KeyB) : goodC l [noSign] = [] := by
  have h : checkErr l noSign ≠ 0 := by
    have h1 : signErr l noSign.c = 11 := rfl
    rw [checkErr, if_neg (by rw [h1]; decide), h1]
    decide
  rw [goodC, List.filter_cons_of_neg (by simpa using h)]
  rfl
theorem good_two {l : List KeyB} {s : SignB} (h : checkErr l s = 0) : goodC l [s, s] = [s.c, s.c] := by
  rw [goodC, List.filter_cons_of_pos (by rw [h]; rfl), List.filter_cons_of_pos (by rw [h]; rfl)]
  rfl

/-- A set of one. -/
theorem SetC.single {c : CredB} {ls out : List CredB} (h : SetC ls out) (hc : isCred c = true) (hne : ls ≠ []) (hl : ∀ x ∈ ls, x = c) : out = [c] := by
  refine h.one ⟨⟨fun y hy => by simp at hy, trivial⟩, fun x => ⟨fun hx => ?_, fun hx => ?_⟩⟩
  · rw [List.mem_singleton.1 hx]
    obtain ⟨y, r, rfl⟩ := List.exists_cons_of_ne_nil hne
    exact ⟨by rw [← hl y (by simp)]; simp, hc⟩
  · rw [hl x hx.1]; simp

def kA : KeyB := ⟨[97], [107]⟩
def kB : KeyB := ⟨[98], [108]⟩
def kE : KeyB := ⟨[97], []⟩
def kM : KeyB := ⟨[97], [109]⟩
def c0 : CredB := ⟨1, ([97], [114]), [100], noneR, noneR, []⟩
def enc0 : List UInt8 := [1, 1, 97, 1, 114, 1, 100]
def tag0 : List UInt8 := tagOf [107] enc0
theorem reg_AB : newErr [kA, kB] = 0 := by decide
theorem reg_E : newErr [kE] = 21 := by decide
theorem reg_M : newErr [kM] = 0 := by decide
theorem c0_cred : isCred c0 = true := by decide
theorem c0_short : credShort c0 9223372036854775807 := by unfold credShort; decide
theorem c0_enc : credEnc c0 = enc0 := by
  simp only [credEnc, credTail, roleEnc, encS, c0, if_true]
  rw [enc_small (by decide), enc_small (by decide), enc_small (by decide), enc_small (by decide)]
  decide
theorem sgn_AB : signErr [kA, kB] c0 = 0 := by decide
theorem sgn_M : signErr [kM] c0 = 0 := by decide
theorem tag_AB : signTag [kA, kB] c0 = tag0 := by
  rw [signTag, c0_enc]; rfl
theorem tag_M : signTag [kM] c0 = tagOf [109] enc0 := by
  rw [signTag, c0_enc]; rfl
theorem tags_ne : (tagOf [109] enc0 == tag0) = false := by decide +kernel
theorem tag0_len : tag0.length = 8 := tagOf_length _ _
theorem signed_AB : signed [kA, kB] c0 = ⟨c0, tag0⟩ := by rw [signed_eq sgn_AB, tag_AB]
theorem check_AB : checkErr [kA, kB] ⟨c0, tag0⟩ = 0 := by rw [← signed_AB]; exact signed_check sgn_AB
theorem check_M : checkErr [kM] ⟨c0, tag0⟩ = 20 := by
  rw [checkErr, if_pos sgn_M]
  show (if signTag [kM] c0 = tag0 then 0 else 20) = 20
  rw [tag_M, if_neg]
  intro e
  have := tags_ne
  rw [e] at this
  simp at this
theorem check_none : checkErr [kA, kB] ⟨c0, []⟩ ≠ 0 := by
  rw [checkErr, if_pos sgn_AB]
  show (if signTag [kA, kB] c0 = [] then 0 else 20) ≠ 0
  rw [tag_AB, if_neg]
  · decide
  · intro e
    have := tag0_len
    rw [e] at this
    cases this
theorem good_AB : goodC [kA, kB] [⟨c0, tag0⟩, ⟨c0, []⟩] = [c0] := by
  have h1 := check_AB
  have h2 := check_none
  rw [goodC, List.filter_cons_of_pos (by rw [h1]; rfl), List.filter_cons_of_neg (by simpa using h2)]
  rfl
theorem sign_AB : isSign ⟨c0, tag0⟩ = true := by rw [← signed_AB]; exact signed_right sgn_AB
theorem bytes_AB : (credEnc c0).length = 7 := by rw [c0_enc]; rfl

/-- Keys in a row, whose bytes are in rows of their own. -/
theorem keys_one {w : World} {g : Nat} {k : KeyB} {a : Option Addr} {c : Nat} {T : TypeId} {f : Nat × Nat} (hb : w.heap[g]? = some (.cells #[.string ⟨k.who.toArray⟩, .slice a k.key.length c] T f)) (h1 : BytesAt (fun _ => True) w (.slice a k.key.length c) k.key) (l0 : k.who.length ≤ 9223372036854775807) :
    KeysAt (fun _ => True) w (some ⟨g, 0, none⟩) [k] := fun i hi => by
  match i, hi with
  | 0, _ => exact ⟨g, 0, rfl, trivial, cell_blk hb 0, ⟨a, c, cell_blk hb 1, h1⟩, l0, bytes_len63 h1⟩
theorem keys_two {w : World} {g : Nat} {k q : KeyB} {a b : Option Addr} {c d : Nat} {T : TypeId} {f : Nat × Nat} (hb : w.heap[g]? = some (.cells #[.string ⟨k.who.toArray⟩, .slice a k.key.length c, .string ⟨q.who.toArray⟩, .slice b q.key.length d] T f)) (h1 : BytesAt (fun _ => True) w (.slice a k.key.length c) k.key) (h2 : BytesAt (fun _ => True) w (.slice b q.key.length d) q.key)
    (l0 : k.who.length ≤ 9223372036854775807) (l1 : q.who.length ≤ 9223372036854775807) : KeysAt (fun _ => True) w (some ⟨g, 0, none⟩) [k, q] := fun i hi => by
  match i, hi with
  | 0, _ => exact ⟨g, 0, rfl, trivial, cell_blk hb 0, ⟨a, c, cell_blk hb 1, h1⟩, l0, bytes_len63 h1⟩
  | 1, _ => exact ⟨g, 0, rfl, trivial, cell_blk hb 2, ⟨b, d, cell_blk hb 3, h2⟩, l1, bytes_len63 h2⟩

theorem NewPost.ok {l : List KeyB} {w w' : World} {e : Ending} (h : NewPost l w e w') (h0 : newErr l = 0) : ∃ g, e = .returned (.tuple #[.pointer (some ⟨g, 0, none⟩), .int .i64 0]) ∧ RegOwn w.heap.size w' g l ∧ Chg (fun _ => False) w w' := by
  rcases h with ⟨_, h⟩ | ⟨h, _⟩
  · exact h
  · exact absurd h0 h
theorem NewPost.bad {l : List KeyB} {w w' : World} {e : Ending} (h : NewPost l w e w') (h0 : newErr l ≠ 0) : e = .returned (.tuple #[.pointer none, .int .i64 (newErr l : Nat)]) ∧ Chg (fun _ => False) w w' := by
  rcases h with ⟨h, _⟩ | ⟨_, h⟩
  · exact absurd h h0
  · exact h

/-- Signed ones in a row. -/
theorem signs_one {w : World} {g : Nat} {s : SignB} {a : Option Addr} {c : Nat} {T : TypeId} {f : Nat × Nat} (hb : w.heap[g]? = some (.cells (signBox s.c (.slice a s.tag.length c)) T f)) (h1 : BytesAt (fun _ => True) w (.slice a s.tag.length c) s.tag) (hs : credShort s.c 9223372036854775807) :
    SignsAt (fun _ => True) w (some ⟨g, 0, none⟩) [s] := fun i hi => by
  match i, hi with
  | 0, _ => exact ⟨g, 0, rfl, trivial, (cred_at_sign hb).1, ⟨a, c, (cred_at_sign hb).2, h1⟩, hs, bytes_len63 h1⟩
theorem signs_two {w : World} {g : Nat} {s t : SignB} {a b : Option Addr} {c d : Nat} {T : TypeId} {f : Nat × Nat} (hb : w.heap[g]? = some (.cells (signBox s.c (.slice a s.tag.length c) ++ signBox t.c (.slice b t.tag.length d)) T f)) (h1 : BytesAt (fun _ => True) w (.slice a s.tag.length c) s.tag) (h2 : BytesAt (fun _ => True) w (.slice b t.tag.length d) t.tag)
    (hs : credShort s.c 9223372036854775807) (ht : credShort t.c 9223372036854775807) : SignsAt (fun _ => True) w (some ⟨g, 0, none⟩) [s, t] := fun i hi => by
  have e : signBox s.c (.slice a s.tag.length c) ++ signBox t.c (.slice b t.tag.length d) = #[.int .i64 s.c.kind, .string ⟨s.c.head.1.toArray⟩, .string ⟨s.c.head.2.toArray⟩, .string ⟨s.c.who.toArray⟩, .string ⟨s.c.b.1.toArray⟩, .string ⟨s.c.b.2.toArray⟩, .string ⟨s.c.c.1.toArray⟩, .string ⟨s.c.c.2.toArray⟩, .string ⟨s.c.w2.toArray⟩, .slice a s.tag.length c, .int .i64 t.c.kind, .string ⟨t.c.head.1.toArray⟩, .string ⟨t.c.head.2.toArray⟩, .string ⟨t.c.who.toArray⟩, .string ⟨t.c.b.1.toArray⟩, .string ⟨t.c.b.2.toArray⟩, .string ⟨t.c.c.1.toArray⟩, .string ⟨t.c.c.2.toArray⟩, .string ⟨t.c.w2.toArray⟩, .slice b t.tag.length d] := rfl
  rw [e] at hb
  match i, hi with
  | 0, _ => exact ⟨g, 0, rfl, trivial, ⟨cell_blk hb 0, cell_blk hb 1, cell_blk hb 2, cell_blk hb 3, cell_blk hb 4, cell_blk hb 5, cell_blk hb 6, cell_blk hb 7, cell_blk hb 8⟩, ⟨a, c, cell_blk hb 9, h1⟩, hs, bytes_len63 h1⟩
  | 1, _ => exact ⟨g, 0, rfl, trivial, ⟨cell_blk hb 10, cell_blk hb 11, cell_blk hb 12, cell_blk hb 13, cell_blk hb 14, cell_blk hb 15, cell_blk hb 16, cell_blk hb 17, cell_blk hb 18⟩, ⟨b, d, cell_blk hb 19, h2⟩, ht, bytes_len63 h2⟩
end Go.Proofs.YtjflmhncgkbdmaaGreat

/- Lists of texts of the call's own. -/
namespace Go.Proofs.YtjflmhncgkbdmaaGreat
open Go.RowKit

def strV (l : List UInt8) : Value := .string ⟨l.toArray⟩
theorem Tryz.info9 : (Tryz.prog.info? 9).map (fun i => (i.zero, i.size, i.bytes)) = some (some (.string ⟨#[]⟩), 1, 16) := by kernel_rfl

/-- A list of texts of the call's own. -/
def OwnS (B : Nat) (w : World) (v : Value) (ls : List (List UInt8)) : Prop := w.ownsRow B 9 1 v ls.length (ls.map strV)

theorem OwnS.strs {B : Nat} {w : World} {v : Value} {ls : List (List UInt8)} (h : OwnS B w v ls) (hb : ∀ x ∈ ls, x.length ≤ 9223372036854775807) : ∃ ao cap, v = .slice ao ls.length cap ∧ StrsAt (fun k => B ≤ k ∧ k < w.heap.size) w ao ls := by
  rcases h.2 with ⟨rfl, h0⟩ | ⟨g, cap, cur, rfl, hg, hh, h1, h2, h3, h4⟩
  · have : ls = [] := List.eq_nil_of_length_eq_zero h0
    subst this
    exact ⟨none, 0, rfl, StrsAt.nil _ _ _⟩
  · refine ⟨_, _, rfl, fun i hi => ⟨g, 0, rfl, ⟨hg, lt_blk hh⟩, ?_, hb _ (List.getElem_mem hi)⟩⟩
    have hcell := h.cells (g := g) rfl i (strV ls[i]) (by simp [hi])
    rw [add_off] at hcell
    exact hcell

def lenOf : Value → Nat
  | .slice _ n _ => n
  | _ => 0
end Go.Proofs.YtjflmhncgkbdmaaGreat

/-
  DERIVED: THE SHELF's CONTRACTS AT THIS DUMP, IN PLAIN WORDS (tools/lay-plain.mjs out of 'TryzShelfI.lean', which tools/lay-shelf.mjs wrote): THE SAME DECLARATIONS UNDER THE SAME NAMES: 'import', 'namespace', 'open', 'def', 'theorem' AND NOTHING ELSE: no command of the shelf's: FOR A HAND-IN. Each laying: the table of numbers ('.._ren') and one theorem, a field a fact of the dump's own or the kernel's comparison; each contract: ONE APPLICATION.
-/
namespace Go.Proofs
open Go.Shelf
def Tryz.keysI_ren : Go.Shelf.Ren := ⟨fun | 7 => 37 | 10 => 66 | n => n, fun | 23 => 74 | 26 => 9 | 3 => 36 | 28 => 85 | 0 => 0 | 27 => 84 | 33 => 78 | 4 => 4 | n => n, fun | n => n⟩
theorem Tryz.keysI : Go.Proofs.SlLaysZ.n7 Tryz.prog Tryz.keysI_ren := {
  mixed := by kernel_rfl
  f7 := ⟨Tryz.f37.name, by decide, Tryz.func37.trans (congrArg some (by kernel_rfl))⟩
  f10 := ⟨Tryz.f66.name, by decide, Tryz.func66.trans (congrArg some (by kernel_rfl))⟩
  t0 := Tryz.underlying0
  a0 := Tryz.isAgg0
  z0 := Tryz.sizeOf0
  v0 := Tryz.zeroValue0
  t4 := Tryz.underlying4
  a4 := Tryz.isAgg4
  z4 := Tryz.sizeOf4
  v4 := Tryz.zeroValue4
  t23 := Tryz.underlying74
  a23 := Tryz.isAgg74
  z23 := Tryz.sizeOf74
  v23 := Tryz.zeroValue74
  t26 := Tryz.underlying9
  a26 := Tryz.isAgg9
  z26 := Tryz.sizeOf9
  v26 := Tryz.zeroValue9
  t27 := Tryz.underlying84
  a27 := Tryz.isAgg84
  z27 := Tryz.sizeOf84
  v27 := Tryz.zeroValue84
  t28 := Tryz.underlying85
  a28 := Tryz.isAgg85
  z28 := Tryz.sizeOf85
  v28 := Tryz.zeroValue85
  t33 := Tryz.underlying78
  a33 := Tryz.isAgg78
  z33 := Tryz.sizeOf78
  v33 := Tryz.zeroValue78 }
def Tryz.sortedI_ren : Go.Shelf.Ren := ⟨fun | 6 => 36 | 8 => 64 | 9 => 65 | 11 => 90 | 13 => 92 | 12 => 91 | 23 => 107 | 24 => 108 | 14 => 98 | 15 => 99 | 16 => 100 | 17 => 101 | 18 => 102 | 19 => 103 | 20 => 104 | 21 => 105 | 22 => 106 | 25 => 118 | 26 => 119 | 27 => 120 | 28 => 121 | 29 => 122 | 30 => 123 | 31 => 128 | n => n, fun | 26 => 9 | 28 => 85 | 24 => 39 | 0 => 0 | 3 => 3 | 37 => 138 | 48 => 156 | 50 => 122 | 4 => 4 | 40 => 148 | 39 => 147 | 45 => 153 | 5 => 5 | 9 => 9 | 51 => 164 | 55 => 168 | 57 => 172 | 58 => 173 | 33 => 78 | n => n, fun | n => n⟩
theorem Tryz.sortedI : Go.Proofs.SlLaysZ.n6 Tryz.prog Tryz.sortedI_ren := {
  mixed := by kernel_rfl
  f6 := ⟨Tryz.f36.name, by decide, Tryz.func36.trans (congrArg some (by kernel_rfl))⟩
  f8 := ⟨Tryz.f64.name, by decide, Tryz.func64.trans (congrArg some (by kernel_rfl))⟩
  f11 := ⟨Tryz.f90.name, by decide, Tryz.func90.trans (congrArg some (by kernel_rfl))⟩
  t0 := Tryz.underlying0
  a0 := Tryz.isAgg0
  z0 := Tryz.sizeOf0
  v0 := Tryz.zeroValue0
  t24 := Tryz.underlying39
  a24 := Tryz.isAgg39
  z24 := Tryz.sizeOf39
  v24 := Tryz.zeroValue39
  t26 := Tryz.underlying9
  a26 := Tryz.isAgg9
  z26 := Tryz.sizeOf9
  v26 := Tryz.zeroValue9
  t28 := Tryz.underlying85
  a28 := Tryz.isAgg85
  z28 := Tryz.sizeOf85
  v28 := Tryz.zeroValue85
  i26 := by kernel_rfl }
def Tryz.sortI_ren : Go.Shelf.Ren := ⟨fun | 6 => 65 | 8 => 92 | 9 => 91 | 19 => 107 | 20 => 108 | 21 => 98 | 22 => 99 | 23 => 100 | 24 => 101 | 25 => 102 | 26 => 103 | 27 => 104 | 28 => 105 | 29 => 106 | 36 => 118 | 31 => 119 | 32 => 120 | 37 => 121 | 38 => 122 | 39 => 123 | 41 => 128 | n => n, fun | 27 => 39 | 29 => 9 | 3 => 3 | 32 => 138 | 26 => 39 | 0 => 0 | 44 => 156 | 46 => 122 | 4 => 4 | 36 => 148 | 35 => 147 | 41 => 153 | 5 => 5 | 9 => 9 | 53 => 164 | 57 => 168 | 63 => 172 | 64 => 173 | n => n, fun | n => n⟩
theorem Tryz.sortI : Go.Proofs.SlLaysM.n6 Tryz.prog Tryz.sortI_ren := {
  mixed := by kernel_rfl
  f6 := ⟨Tryz.f65.name, by decide, Tryz.func65.trans (congrArg some (by kernel_rfl))⟩
  f8 := Tryz.func92.trans (congrArg some (by kernel_rfl))
  f9 := ⟨Tryz.f91.name, by decide, Tryz.func91.trans (congrArg some (by kernel_rfl))⟩
  f19 := Tryz.func107.trans (congrArg some (by kernel_rfl))
  f20 := Tryz.func108.trans (congrArg some (by kernel_rfl))
  f21 := ⟨Tryz.f98.name, by decide, Tryz.func98.trans (congrArg some (by kernel_rfl))⟩
  f22 := ⟨Tryz.f99.name, by decide, Tryz.func99.trans (congrArg some (by kernel_rfl))⟩
  f23 := ⟨Tryz.f100.name, by decide, Tryz.func100.trans (congrArg some (by kernel_rfl))⟩
  f24 := ⟨Tryz.f101.name, by decide, Tryz.func101.trans (congrArg some (by kernel_rfl))⟩
  f25 := ⟨Tryz.f102.name, by decide, Tryz.func102.trans (congrArg some (by kernel_rfl))⟩
  f26 := ⟨Tryz.f103.name, by decide, Tryz.func103.trans (congrArg some (by kernel_rfl))⟩
  f27 := ⟨Tryz.f104.name, by decide, Tryz.func104.trans (congrArg some (by kernel_rfl))⟩
  f28 := ⟨Tryz.f105.name, by decide, Tryz.func105.trans (congrArg some (by kernel_rfl))⟩
  f29 := ⟨Tryz.f106.name, by decide, Tryz.func106.trans (congrArg some (by kernel_rfl))⟩
  f31 := Tryz.func119.trans (congrArg some (by kernel_rfl))
  f32 := Tryz.func120.trans (congrArg some (by kernel_rfl))
  f36 := ⟨Tryz.f118.name, by decide, Tryz.func118.trans (congrArg some (by kernel_rfl))⟩
  f37 := ⟨Tryz.f121.name, by decide, Tryz.func121.trans (congrArg some (by kernel_rfl))⟩
  f38 := ⟨Tryz.f122.name, by decide, Tryz.func122.trans (congrArg some (by kernel_rfl))⟩
  f39 := ⟨Tryz.f123.name, by decide, Tryz.func123.trans (congrArg some (by kernel_rfl))⟩
  f41 := ⟨Tryz.f128.name, by decide, Tryz.func128.trans (congrArg some (by kernel_rfl))⟩
  t0 := Tryz.underlying0
  a0 := Tryz.isAgg0
  z0 := Tryz.sizeOf0
  v0 := Tryz.zeroValue0
  t3 := Tryz.underlying3
  a3 := Tryz.isAgg3
  z3 := Tryz.sizeOf3
  v3 := Tryz.zeroValue3
  t4 := Tryz.underlying4
  a4 := Tryz.isAgg4
  z4 := Tryz.sizeOf4
  v4 := Tryz.zeroValue4
  t5 := Tryz.underlying5
  a5 := Tryz.isAgg5
  z5 := Tryz.sizeOf5
  v5 := Tryz.zeroValue5
  t9 := Tryz.underlying9
  a9 := Tryz.isAgg9
  z9 := Tryz.sizeOf9
  v9 := Tryz.zeroValue9
  t26 := Tryz.underlying39
  a26 := Tryz.isAgg39
  z26 := Tryz.sizeOf39
  v26 := Tryz.zeroValue39
  t27 := Tryz.underlying39
  a27 := Tryz.isAgg39
  z27 := Tryz.sizeOf39
  v27 := Tryz.zeroValue39
  t29 := Tryz.underlying9
  a29 := Tryz.isAgg9
  z29 := Tryz.sizeOf9
  v29 := Tryz.zeroValue9
  t32 := Tryz.underlying138
  a32 := Tryz.isAgg138
  z32 := Tryz.sizeOf138
  v32 := Tryz.zeroValue138
  t35 := Tryz.underlying147
  a35 := Tryz.isAgg147
  z35 := Tryz.sizeOf147
  v35 := Tryz.zeroValue147
  t36 := Tryz.underlying148
  a36 := Tryz.isAgg148
  z36 := Tryz.sizeOf148
  v36 := Tryz.zeroValue148
  t41 := Tryz.underlying153
  a41 := Tryz.isAgg153
  z41 := Tryz.sizeOf153
  v41 := Tryz.zeroValue153
  t44 := Tryz.underlying156
  a44 := Tryz.isAgg156
  z44 := Tryz.sizeOf156
  v44 := Tryz.zeroValue156
  t46 := Tryz.underlying122
  a46 := Tryz.isAgg122
  z46 := Tryz.sizeOf122
  v46 := Tryz.zeroValue122
  t53 := Tryz.underlying164
  a53 := Tryz.isAgg164
  z53 := Tryz.sizeOf164
  v53 := Tryz.zeroValue164
  t57 := Tryz.underlying168
  a57 := Tryz.isAgg168
  z57 := Tryz.sizeOf168
  v57 := Tryz.zeroValue168
  t63 := Tryz.underlying172
  a63 := Tryz.isAgg172
  z63 := Tryz.sizeOf172
  v63 := Tryz.zeroValue172
  t64 := Tryz.underlying173
  a64 := Tryz.isAgg173
  z64 := Tryz.sizeOf173
  v64 := Tryz.zeroValue173 }
end Go.Proofs

/- The library's contract of slices.Sorted at what maps.Keys hands back, at this program. -/
namespace Go.Proofs
open Go.RowKit Go.Maps Go.Sort Go.Shelf


theorem Tryz.sortsI (m : Nat) : AnyZ.SortsIn Tryz.prog Tryz.sortedI_ren Fence.wide m :=
  ⟨fun blk off cap ss W hH hblk hsz => callsIn_wide.2 (AnyM.slices_Sort_string Tryz.sortI blk off cap ss W hH hblk hsz),
   fun p cap W => callsIn_wide.2 (AnyM.slices_Sort_string_none Tryz.sortI p cap W)⟩

theorem Tryz.maps_Keys_m (mb : Option Nat) (W : World) : CallsIn Fence.wide 5 Tryz.prog 37 #[.map mb] W fun e w' => e = .returned (.func (.func 66) #[] #[.pointer (some ⟨W.heap.size, 0, none⟩)]) ∧ w' = W.alloc (.cells #[.map mb] 74) :=
  AnyZ.keys_in Tryz.keysI Fence.wide 5 trivial rfl mb W

set_option maxHeartbeats 1000000 in
theorem Tryz.slices_Sorted_keys_m {H : Type} (b nn : Nat) (D0 : DataW H) (R : Value → Option (DataW H × List MemPlace)) (w : World) (hown : w.ownsMap Tryz.prog 9 R b nn D0) (hmax : Maps.size D0 ≤ maxLen) (hbytes : Maps.size D0 * 16 ≤ 140737488355328) :
    CallsIn Fence.wide 5 Tryz.prog 36 #[.func (.func 66) #[] #[.pointer (some ⟨w.heap.size, 0, none⟩)]] (w.alloc (.cells #[.map (some b)] 74)) fun e w' => ∃ (v : Value) (ss : List (List UInt8)), e = .returned v ∧ ss.Perm (strKeys D0) ∧
      w'.ownsRow (w.alloc (.cells #[.map (some b)] 74)).heap.size 9 1 v ss.length ((ss.mergeSort (fun x y => decide (x ≤ y))).map encStr) ∧ (v = .slice none 0 0 ↔ ss = []) ∧ Below (w.alloc (.cells #[.map (some b)] 74)).heap.size (w.alloc (.cells #[.map (some b)] 74)) w' := by
  have hbl := hown.lt
  have hseq : SeqGives Fence.wide 2 Tryz.prog 66 #[.pointer (some ⟨w.heap.size, 0, none⟩)] encStr (fun ss => ss.Perm (strKeys D0)) (Maps.size D0) (w.alloc (.cells #[.map (some b)] 74)) :=
    AnyZ.keys_gives (ρ := Tryz.keysI_ren) { Tryz.keysI with } Fence.wide _ trivial rfl (by omega) w.heap.size b nn D0 _ (by simp) (by simp) (by
      obtain ⟨es, clock, hb, Ft, hs, hD⟩ := hown
      exact ⟨es, clock, (Below.heap_alloc _ _ b hbl).trans hb, Ft, hs, hD⟩)
  exact AnyZ.sorted_in Tryz.sortedI Fence.wide 5 trivial trivial trivial trivial rfl (by omega) (Tryz.sortsI _) (enters_of Tryz.func65 (by kernel_rfl) rfl) 66 #[.pointer (some ⟨w.heap.size, 0, none⟩)] trivial (enters_of Tryz.func66 (by kernel_rfl) rfl) _ _ hmax hbytes _ hseq

end Go.Proofs

/- The names that have keys: slices.Sorted of maps.Keys. -/
namespace Go.Proofs.YtjflmhncgkbdmaaGreat
open Go.RowKit Go.Maps

theorem ltS_eq : ∀ (x y : List UInt8), ltS x y = decide (x < y)
  | [], [] => by simp [ltS_nil]
  | _ :: _, [] => by simp [ltS_nil]
  | [], _ :: _ => by simp [ltS_nil_cons]
  | x :: xs, y :: ys => by
    rw [ltS_cons, ltS_eq xs ys]
    by_cases h : x < y
    · simp [h, List.cons_lt_cons_iff]
    · by_cases e : x = y
      · subst e; simp [List.cons_lt_cons_iff]
      · simp [h, e, List.cons_lt_cons_iff]

theorem le_ltS (x y : List UInt8) : decide (x ≤ y) = !ltS y x := by
  rw [ltS_eq]
  by_cases h : y < x
  · simp [h]
  · simp [h, List.not_lt.1 h]

/-- In order, some more than once. -/
def sortS (l : List (List UInt8)) : List (List UInt8) := l.mergeSort fun x y => decide (x ≤ y)
theorem sortS_length (l : List (List UInt8)) : (sortS l).length = l.length := List.length_mergeSort l
theorem sortS_mem (l : List (List UInt8)) (x : List UInt8) : x ∈ sortS l ↔ x ∈ l := (List.mergeSort_perm l _).mem_iff
theorem sortS_sorted (l : List (List UInt8)) : (sortS l).Pairwise fun x y => ltS y x = false := by
  have h : (sortS l).Pairwise fun x y => decide (x ≤ y) = true := by
    refine List.pairwise_mergeSort (fun a b c h1 h2 => ?_) (fun a b => ?_) l
    · rw [le_ltS] at *
      simp only [Bool.not_eq_true'] at *
      cases hx : ltS c a with
      | false => rfl
      | true =>
        rcases ltS_tri a b with k | k | k
        · have := ltS_trans _ _ _ hx k; rw [h2] at this; cases this
        · subst k; rw [hx] at h2; cases h2
        · rw [k] at h1; cases h1
    · rw [le_ltS, le_ltS]
      cases h1 : ltS b a with
      | false => rfl
      | true =>
        cases h2 : ltS a b with
        | false => rfl
        | true => have := ltS_trans _ _ _ h1 h2; rw [ltS_irrefl] at this; cases this
  exact h.imp fun {a b} k => by rw [le_ltS] at k; simpa using k

theorem sortS_rising {l : List (List UInt8)} (h : l.Nodup) : Rising (sortS l) := by
  have hn : (sortS l).Nodup := (List.mergeSort_perm l _).nodup_iff.2 h
  have hs := sortS_sorted l
  generalize sortS l = m at *
  induction m with
  | nil => trivial
  | cons x m ih =>
    obtain ⟨a, b⟩ := List.nodup_cons.1 hn
    obtain ⟨c, d⟩ := List.pairwise_cons.1 hs
    refine ⟨fun y hy => ?_, ih b d⟩
    rcases ltS_tri x y with k | k | k
    · exact k
    · exact absurd (k ▸ hy) a
    · rw [c y hy] at k; cases k

/-- What Names leaves: the names, rising, in new memory. -/
def NamesPost (l : List KeyB) (w : World) (e : Ending) (w' : World) : Prop :=
  ∃ out ao cap, e = .returned (.slice ao out.length cap) ∧ SetOf (l.map (·.who)) out ∧ out.length = l.length ∧ StrsAt (fun k => w.heap.size ≤ k ∧ k < w'.heap.size) w' ao out ∧ Chg (fun _ => False) w w'

theorem pnames_nil (w : World) : Calls Tryz.prog 10 #[.pointer none] w fun e w' => e = .returned (.slice none 0 0) ∧ w = w' := by
  go_enter Tryz.func10, Tryz.ntmps10
  go_wp2
  go_ret
  exact ⟨rfl, rfl⟩

set_option maxRecDepth 100000 in
set_option maxHeartbeats 2000000 in
theorem pnames {B : Nat} (g : Nat) (l : List KeyB) (w : World) (hreg : newErr l = 0) (hn : l.length ≤ 4194304) (h : RegOwn B w g l) :
    Calls Tryz.prog 10 #[.pointer (some ⟨g, 0, none⟩)] w (NamesPost l w) := by
  obtain ⟨⟨mb, hg, _, hM⟩, _⟩ := h
  obtain ⟨M, hown, hperm, hsz⟩ := hM.names
  have hnd := hM.nd
  have hk := callsIn_wide.1 (Tryz.maps_Keys_m (some mb) w)
  have hs := callsIn_wide.1 (Tryz.slices_Sorted_keys_m mb l.length M selfElem w hown (by unfold maxLen; omega) (by omega))
  have z0 := cell_blk hg 0
  simp only [List.getElem?_toArray, List.getElem?_cons_zero] at z0
  have HH := hid (And.intro hperm (And.intro hnd hs))
  clear hperm hnd hs hown hsz hM hg
  go_enter Tryz.func10, Tryz.ntmps10
  go_wp2_with fail
  refine hk.mono ?_
  rintro e w' ⟨rfl, rfl⟩
  clear hk z0
  go_wp2_with fail
  obtain ⟨hperm, hnd, hs⟩ := HH.out
  clear HH
  refine hs.mono ?_
  rintro e w' ⟨v, ss, rfl, hS, hrow, _, hb⟩
  have hss : ss.Perm (l.map (·.who)) := hS.trans hperm.symm
  have hlen : ss.length = l.length := by rw [hss.length_eq, List.length_map]
  have ho : OwnS w.heap.size w' v (sortS ss) := by
    have h1 := ownsRow_base_a hrow (base' := w.heap.size) (by simp)
    unfold OwnS
    rw [sortS_length]
    exact h1
  have hset : SetOf (l.map (·.who)) (sortS ss) := by
    refine ⟨sortS_rising (hss.nodup_iff.2 hnd), fun x => ?_⟩
    rw [sortS_mem, hss.mem_iff]
    refine ⟨fun hx => ⟨hx, ?_⟩, fun hx => hx.1⟩
    obtain ⟨k, hk, rfl⟩ := List.mem_map.1 hx
    exact (reg_mem hreg hk).1
  obtain ⟨ao, cap, rfl, hst⟩ := ho.strs (fun x hx => by
    have hx2 := ((hset.2 x).1 hx).2
    have := isName_len hx2
    omega)
  have hc : Chg (fun _ => False) w w' := by
    have h1 : Chg (fun _ => False) w (w.alloc (.cells #[.map (some mb)] 74)) := (Chg.refl _ w).alloc _
    exact h1.trans (⟨hb.os, hb.tape, hb.output, hb.size, fun k hk _ => hb.block k hk⟩ : Chg (fun _ => False) _ w') (fun _ _ h => h)
  have HR := hid (And.intro hset (And.intro hst (And.intro hc (show (sortS ss).length = l.length by rw [sortS_length, hlen]))))
  clear hset hst hc ho hrow hb hS hss hlen hperm hnd hs
  go_wp2
  go_ret
  exact ⟨sortS ss, ao, cap, rfl, HR.out.1, HR.out.2.2.2, HR.out.2.1, HR.out.2.2.1⟩
end Go.Proofs.YtjflmhncgkbdmaaGreat
