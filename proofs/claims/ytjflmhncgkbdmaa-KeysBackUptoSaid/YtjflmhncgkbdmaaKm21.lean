/- Texts that the proof leans on, in one: PkGood, SignMath, OwnS, ShelfI, ShelfI2, PkNames. -/
import Derived.Test.YtjflmhncgkbdmaaKm18
import Derived.Test.YtjflmhncgkbdmaaKm20
import Derived.Test.YtjflmhncgkbdmaaKm17
import Derived.Test.YtjflmhncgkbdmaaKm1
import Derived.Test.YtjflmhncgkbdmaaKm2
import Derived.Test.YtjflmhncgkbdmaaProg
import Derived.Test.YtjflmhncgkbdmaaChecked
import Derived.Maps.AppendAt
import Derived.Shelf.SlIter.Nil
import Derived.Shelf.SortM.Plain
import Derived.Shelf.SortM.SortNone
import Derived.Ground.GgzProg
import Derived.Ground.SlgmProg
import Derived.Test.YtjflmhncgkbdmaaKm8
/- The contract of the program's Good. -/
namespace Go.Proofs.Ytjflmhncgkbdmaa
open Go.RowKit Go.Maps

set_option maxRecDepth 100000 in
set_option maxHeartbeats 4000000 in
theorem pgood {D E : Nat → Prop} (g : Nat) (l : List KeyB) (so : Option Addr) (sp : Nat) (ss : List SignB) (w : World) (h : RegAt D w g l) (hreg : newErr l = 0) (hsn : ss.length ≤ 4194304) (hss : SignsAt E w so ss) :
    Calls Try.prog 9 #[.pointer (some ⟨g, 0, none⟩), .slice so ss.length sp] w (SetPostC (goodC l ss) w) := by
  obtain ⟨i0, hi, hz0, hz1, hz2⟩ := info_parts Try.info26
  have HP := hid hreg
  clear hreg
  go_enter Try.func9, Try.ntmps9
  go_wp2
  go_loopw [5, 10] (fun v i wr => ∃ (k : Nat) (out : List CredB) (ao' : Option Addr) (cap : Nat), i = .int .i64 k ∧ k ≤ ss.length ∧ v = .slice ao' out.length cap ∧ Hid (out = goodC l (ss.take k)) ∧ out.length ≤ k ∧ OwnC w.heap.size wr (.slice ao' out.length cap) out ∧ Chg (fun _ => False) w wr) (fun _ i _ => ss.length - (intOf i).toNat)
  case atStart => exact ⟨0, [], none, 0, rfl, Nat.zero_le _, rfl, rfl, Nat.zero_le _, World.ownsRow_nil _ _ _ _, Chg.refl _ _⟩
  case round =>
    obtain ⟨k, out, ao', cap', rfl, hk, rfl, hout, hol, ho, hc⟩ := hrel
    by_cases hlt : k < ss.length
    · obtain ⟨b, off, rfl, _, hat⟩ := (hss.keep hc (fun _ _ => id)) k hlt
      have hmem := List.getElem_mem hlt
      have hgt := goodC_take l ss k hlt
      have hreg := HP.out
      obtain ⟨s, hs⟩ : ∃ s, s = ss[k] := ⟨_, rfl⟩
      rw [← hs] at hat hgt
      have hkeys := h.keep hc (fun _ _ => id)
      have HQ := hid (And.intro hss h)
      clear hs hmem hss h
      obtain ⟨c, tag⟩ := s
      obtain ⟨hcr, ⟨ta, tcap, c9, hby⟩, hsh, hln⟩ := hat
      dsimp only at hcr c9 hby hln hgt hsh
      obtain ⟨c0, c1, c2, c3, c4, c5, c6, c7, c8⟩ := hcr
      have hS : (wr.alloc (.cells #[.int .i64 c.kind, .string ⟨c.head.1.toArray⟩, .string ⟨c.head.2.toArray⟩, .string ⟨c.who.toArray⟩, .string ⟨c.b.1.toArray⟩, .string ⟨c.b.2.toArray⟩, .string ⟨c.c.1.toArray⟩, .string ⟨c.c.2.toArray⟩, .string ⟨c.w2.toArray⟩, .slice ta tag.length tcap] 36)).heap[wr.heap.size]? = some (.cells (signBox c (.slice ta tag.length tcap)) 36 (0, 0)) := heap_alloc_new wr _
      have hal : Chg (fun _ => False) wr (wr.alloc (.cells #[.int .i64 c.kind, .string ⟨c.head.1.toArray⟩, .string ⟨c.head.2.toArray⟩, .string ⟨c.who.toArray⟩, .string ⟨c.b.1.toArray⟩, .string ⟨c.b.2.toArray⟩, .string ⟨c.c.1.toArray⟩, .string ⟨c.c.2.toArray⟩, .string ⟨c.w2.toArray⟩, .slice ta tag.length tcap] 36)) := (Chg.refl _ wr).alloc _
      have hck := pcheck g l c tag ta tcap (wr.alloc (.cells #[.int .i64 c.kind, .string ⟨c.head.1.toArray⟩, .string ⟨c.head.2.toArray⟩, .string ⟨c.who.toArray⟩, .string ⟨c.b.1.toArray⟩, .string ⟨c.b.2.toArray⟩, .string ⟨c.c.1.toArray⟩, .string ⟨c.c.2.toArray⟩, .string ⟨c.w2.toArray⟩, .slice ta tag.length tcap] 36)) (hkeys.keep hal (fun _ _ => id)) hreg hsh (hby.keep hal (fun _ _ => id))
      have HH := hid (And.intro hck (And.intro hS (And.intro (ho.keep hal (fun _ _ => id)) (hc.trans hal (fun _ _ h => h)))))
      have HG := hid hgt
      clear hck hS hal ho hc hgt hkeys hby hsh hreg
      go_wp2_with fail
      obtain ⟨hck, hS, ho, hc⟩ := HH.out
      clear HH c0 c1 c2 c3 c4 c5 c6 c7 c8 c9
      generalize wr.alloc (.cells #[.int .i64 c.kind, .string ⟨c.head.1.toArray⟩, .string ⟨c.head.2.toArray⟩, .string ⟨c.who.toArray⟩, .string ⟨c.b.1.toArray⟩, .string ⟨c.b.2.toArray⟩, .string ⟨c.c.1.toArray⟩, .string ⟨c.c.2.toArray⟩, .string ⟨c.w2.toArray⟩, .slice ta tag.length tcap] 36) = w3 at *
      generalize wr.heap.size = X at *
      refine hck.mono ?_
      rintro e w4 ⟨rfl, hc4⟩
      have hS4 := blk_keep hS hc4 id
      have ho4 := ho.keep hc4 (fun _ _ => id)
      have hcw4 := hc.trans hc4 (fun _ _ h => h)
      clear hck hS ho hc hc4
      obtain ⟨⟨b0, b1, b2, b3, b4, b5, b6, b7, b8⟩, _⟩ := cred_at_sign hS4
      simp only [Nat.zero_add] at b0 b1 b2 b3 b4 b5 b6 b7 b8
      have HR := hid (And.intro ho4 hcw4)
      have hszw := hcw4.size
      clear hS4 ho4 hcw4
      by_cases h0 : checkErr l ⟨c, tag⟩ = 0
      · have hn2 : Hid (out ++ [c] = goodC l (ss.take (k + 1))) := hid (by rw [HG.out, if_pos h0, ← hout.out])
        rw [h0]
        clear h0
        go_wp2_with (at_builtin; refine wpList_append_own_at _ rfl (.tmp 18) (.tmp 21) 39 rfl w.heap.size 26 i0 (.agg #[.int .i64 0, .string ⟨#[]⟩, .string ⟨#[]⟩, .string ⟨#[]⟩, .string ⟨#[]⟩, .string ⟨#[]⟩, .string ⟨#[]⟩, .string ⟨#[]⟩, .string ⟨#[]⟩]) 9 136 Try.underlying39 hi hz0 hz1 hz2 rfl (by decide) _ _ _ rfl (World.ownsRow.alloc HR.out.1 _) ⟨w4.heap.size, 0, none⟩ 1 1 (credCells c) rfl rfl ?c1 ?c2 ?c3 ?c4 ?c5 ?_)
        case c1 => exact fun j u hj => cred_cells_new w4 c j u hj
        case c2 => intro u hu; simp only [credCells, List.mem_cons, List.not_mem_nil, or_false] at hu; rcases hu with rfl | rfl | rfl | rfl | rfl | rfl | rfl | rfl | rfl <;> rfl
        case c3 => unfold maxLen; omega
        case c4 => omega
        case c5 => simp; omega
        intro v' w2 hown hgrow _ hat2
        obtain ⟨ho6, hc6⟩ := HR.out
        have hrow : ∀ k, Value.ownBlock (.slice ao' out.length cap') = some k → w.heap.size ≤ k := fun k hk => (ownsRow_lt ho6 k hk).1
        have ho2 : OwnC w.heap.size w2 v' (out ++ [c]) := by
          unfold OwnC
          rw [credRow_snoc, List.length_append, List.length_singleton]
          exact hown
        have hc2 : Chg (fun _ => False) w w2 := (hc6.alloc _).grown hgrow (fun k e hk => by have := hrow k e; omega)
        obtain ⟨ao5, cap5, hv5⟩ := ho2.shape
        have hl : (out ++ [c]).length = out.length + 1 := by simp
        subst hv5
        have HY := hid (And.intro ho2 hc2)
        clear hown hgrow hat2 hrow ho6 hc6 ho2 hc2 HR b0 b1 b2 b3 b4 b5 b6 b7 b8
        rw [hl]
        go_wp2
        obtain ⟨ho2, hc2⟩ := HY.out
        go_roundw
        case rel => exact ⟨k + 1, out ++ [c], ao5, cap5, by go_num, by omega, by rw [hl], hn2, by rw [hl]; omega, ho2, hc2⟩
        case measure => simp [intOf]; omega
      · have hn2 : Hid (out = goodC l (ss.take (k + 1))) := hid (by rw [HG.out, if_neg h0, ← hout.out]; simp)
        obtain ⟨e0, he0⟩ : ∃ e0 : Int, ((checkErr l ⟨c, tag⟩ : Nat) : Int) = e0 := ⟨_, rfl⟩
        have hne : (e0 == 0) = false := beq_eq_false_iff_ne.2 (by omega)
        rw [he0]
        clear h0 he0
        go_wp2
        obtain ⟨ho4, hcw4⟩ := HR.out
        go_roundw
        case rel => exact ⟨k + 1, out, ao', cap', by go_num, by omega, rfl, hn2, by omega, ho4, hcw4⟩
        case measure => simp [intOf]; omega
    · have ho2 : Hid (out = goodC l ss) := by
        have := hout.out
        rw [List.take_of_length_le (by omega)] at this
        exact hid this
      have hbd : ∀ x ∈ out, credShort x 9223372036854775807 := fun x hx => by
        rw [ho2.out, goodC, List.mem_map] at hx
        obtain ⟨s, hs, rfl⟩ := hx
        obtain ⟨j, hj, rfl⟩ := List.getElem_of_mem (List.mem_filter.1 hs).1
        obtain ⟨_, _, _, _, hat⟩ := hss j hj
        exact hat.sh
      obtain ⟨ao5, cap5, hv, hst, hzz⟩ := ho.creds hbd
      cases hv
      have HS := hid (And.intro hst hc)
      have hol2 : out.length ≤ 4194304 := by omega
      have HZ := hid hzz
      clear hzz
      clear hbd ho hst hc h hss hout
      go_wp2_with fail
      refine (pcset _ _ out wr hol2 HS.out.1 (fun i hi => hi.2) HZ.out).mono ?_
      rintro e w3 ⟨so2, ao7, cap7, rfl, hset, hst7, hc37, hz7⟩
      have hsz := HS.out.2.size
      have HF := hid (And.intro hset (And.intro hst7 (And.intro hc37 hz7)))
      clear hset hst7 hc37 hz7
      go_wp2
      go_ret
      exact ⟨so2, _, _, rfl, by rw [← ho2.out]; exact HF.out.1, HF.out.2.1.mono (fun i hi => ⟨Nat.le_trans hsz hi.1, hi.2⟩), HS.out.2.trans HF.out.2.2.1 (fun _ _ h => h), HF.out.2.2.2⟩

theorem SetC.none {out : List CredB} (h : SetC [] out) : out = [] := by
  have h0 : SetC [] [] := ⟨trivial, fun x => by simp⟩
  exact h.one h0

set_option maxRecDepth 100000 in
set_option maxHeartbeats 4000000 in
/-- Of a nil registry: none. -/
theorem pgood_nil {E : Nat → Prop} (so : Option Addr) (sp : Nat) (ss : List SignB) (w : World) (hsn : ss.length ≤ 4194304) (hss : SignsAt E w so ss) :
    Calls Try.prog 9 #[.pointer none, .slice so ss.length sp] w fun e w' => (∃ ao cap, e = .returned (.slice ao 0 cap)) ∧ Chg (fun _ => False) w w' := by
  go_enter Try.func9, Try.ntmps9
  go_wp2
  go_loopw [5, 10] (fun v i wr => ∃ k : Nat, i = .int .i64 k ∧ k ≤ ss.length ∧ v = .slice none 0 0 ∧ Chg (fun _ => False) w wr) (fun _ i _ => ss.length - (intOf i).toNat)
  case atStart => exact ⟨0, rfl, Nat.zero_le _, rfl, Chg.refl _ _⟩
  case round =>
    obtain ⟨k, rfl, hk, rfl, hc⟩ := hrel
    by_cases hlt : k < ss.length
    · obtain ⟨b, off, rfl, _, hat⟩ := (hss.keep hc (fun _ _ => id)) k hlt
      obtain ⟨s, hs⟩ : ∃ s, s = ss[k] := ⟨_, rfl⟩
      rw [← hs] at hat
      clear hs
      obtain ⟨c, tag⟩ := s
      obtain ⟨hcr, ⟨ta, tcap, c9, _⟩, _, _⟩ := hat
      dsimp only at hcr c9
      obtain ⟨c0, c1, c2, c3, c4, c5, c6, c7, c8⟩ := hcr
      have hal : Chg (fun _ => False) wr (wr.alloc (.cells #[.int .i64 c.kind, .string ⟨c.head.1.toArray⟩, .string ⟨c.head.2.toArray⟩, .string ⟨c.who.toArray⟩, .string ⟨c.b.1.toArray⟩, .string ⟨c.b.2.toArray⟩, .string ⟨c.c.1.toArray⟩, .string ⟨c.c.2.toArray⟩, .string ⟨c.w2.toArray⟩, .slice ta tag.length tcap] 36)) := (Chg.refl _ wr).alloc _
      have hck := pcheck_nil c tag.length ta tcap (wr.alloc (.cells #[.int .i64 c.kind, .string ⟨c.head.1.toArray⟩, .string ⟨c.head.2.toArray⟩, .string ⟨c.who.toArray⟩, .string ⟨c.b.1.toArray⟩, .string ⟨c.b.2.toArray⟩, .string ⟨c.c.1.toArray⟩, .string ⟨c.c.2.toArray⟩, .string ⟨c.w2.toArray⟩, .slice ta tag.length tcap] 36))
      have HH := hid (And.intro hck (hc.trans hal (fun _ _ h => h)))
      clear hck hal hc
      go_wp2_with fail
      obtain ⟨hck, hc⟩ := HH.out
      clear HH c0 c1 c2 c3 c4 c5 c6 c7 c8 c9
      generalize wr.alloc (.cells #[.int .i64 c.kind, .string ⟨c.head.1.toArray⟩, .string ⟨c.head.2.toArray⟩, .string ⟨c.who.toArray⟩, .string ⟨c.b.1.toArray⟩, .string ⟨c.b.2.toArray⟩, .string ⟨c.c.1.toArray⟩, .string ⟨c.c.2.toArray⟩, .string ⟨c.w2.toArray⟩, .slice ta tag.length tcap] 36) = w3 at *
      generalize wr.heap.size = X at *
      refine hck.mono ?_
      rintro e w4 ⟨rfl, hc4⟩
      have HC := hid (hc.trans hc4 (fun _ _ h => h))
      clear hck hc hc4
      go_wp2
      go_roundw
      case rel => exact ⟨k + 1, by go_num, by omega, rfl, HC.out⟩
      case measure => simp [intOf]; omega
    · have HC := hid hc
      clear hc
      go_wp2_with fail
      refine (pcset (D := fun _ => False) none 0 [] wr (by simp) (CredsAt.nil _ _ _) (fun i hi => hi.elim) (fun _ => rfl)).mono ?_
      rintro e w3 ⟨out, ao7, cap7, rfl, hset, _, hc37, _⟩
      have h0 := hset.none
      subst h0
      have HF := hid (HC.out.trans hc37 (fun _ _ h => h))
      clear hset hc37
      go_wp2
      go_ret
      exact ⟨⟨ao7, cap7, rfl⟩, HF.out⟩
end Go.Proofs.Ytjflmhncgkbdmaa

/- Signed credentials put and got again; the data of law 6's first. Plain words. -/
namespace Go.Proofs.Ytjflmhncgkbdmaa
open Go.RowKit

theorem signGet_enc {s : SignB} (h : isSign s = true) (x : List UInt8) : signGet (signBytes s ++ x) = .ok s x := by
  obtain ⟨c, tag⟩ := s
  unfold isSign at h
  rw [Bool.and_eq_true] at h
  obtain ⟨h1, h2⟩ := h
  have h8 : tag.length = 8 := of_decide_eq_true h2
  have hg := credGet_enc h1 (encS tag ++ x)
  have e1 : signBytes ⟨c, tag⟩ ++ x = credEnc c ++ (encS tag ++ x) := by rw [signBytes, List.append_assoc]
  have he : numN 9 ((enc tag.length ++ tag) ++ x) 0 0 = (tag.length, (enc tag.length).length, 0) := by
    rw [List.append_assoc]
    exact numN_enc9 (by omega) (tag ++ x)
  have t1 : errText (encS tag ++ x) 8 = 0 := by
    unfold encS errText
    rw [he, if_pos rfl, if_neg (by omega), if_neg (by simp only [List.length_append]; omega)]
  have t2 : nameOf (encS tag ++ x) = tag := by
    unfold encS nameOf
    rw [he, List.append_assoc]
    simp
  have t3 : nameRest (encS tag ++ x) = x := by
    unfold encS nameRest
    rw [he]
    have : (enc tag.length).length + tag.length = (enc tag.length ++ tag).length := by simp
    rw [this, List.drop_left]
  rw [e1, signGet, hg]
  show signEnd c (encS tag ++ x) = _
  rw [signEnd, if_pos t1, t2, t3, if_pos h8]

theorem sgErr_bytes {s : SignB} (h : isSign s = true) : sgErr (signBytes s) = 0 := by
  have := signGet_enc h []
  rw [List.append_nil] at this
  rw [sgErr, this]
  rfl
theorem signGot_bytes {s : SignB} (h : isSign s = true) : signGot (signBytes s) = s := by
  have := signGet_enc h []
  rw [List.append_nil] at this
  rw [signGot, this]

theorem signed_eq {l : List KeyB} {c : CredB} (h : signErr l c = 0) : signed l c = ⟨c, signTag l c⟩ := by rw [signed, if_pos h]
theorem signed_right {l : List KeyB} {c : CredB} (h : signErr l c = 0) : isSign (signed l c) = true := by
  rw [signed_eq h, isSign]
  simp [(signErr_ok h).1, signTag, tagOf_length]
theorem signed_check {l : List KeyB} {c : CredB} (h : signErr l c = 0) : checkErr l (signed l c) = 0 := by
  rw [signed_eq h, checkErr, if_pos h, if_pos rfl]

theorem short_enc {c : CredB} (h : isCred c = true) : (credEnc c).length ≤ 1048576 := by
  have hh := pc_roleEnc_len (isCred_head h)
  have hk : (enc c.kind.toNat).length = 1 := by
    have := isCred_kind h
    rw [enc_small (by omega)]; rfl
  rw [credEnc, List.length_append, List.length_append, hk]
  unfold credTail
  rcases isCred_kind h with k | k | k | k
  · have := pc_encS_len (isCred_one h k).1
    rw [if_pos k]; omega
  · have := pc_roleEnc_len (isCred_two h k).2.1
    rw [if_neg (by omega), if_neg (by omega), if_neg (by omega)]; omega
  · have h1 := pc_roleEnc_len (isCred_three h k).2.1
    have h2 := pc_encS_len (isCred_three h k).2.2.2.2
    rw [if_neg (by omega), if_pos k, List.length_append]; omega
  · have h1 := pc_roleEnc_len (isCred_four h k).2.1
    have h2 := pc_roleEnc_len (isCred_four h k).2.2.2.1
    rw [if_neg (by omega), if_neg (by omega), if_pos k, List.length_append]; omega

theorem signBytes_short {s : SignB} (h : isSign s = true) : (signBytes s).length ≤ 140737488355328 := by
  obtain ⟨c, tag⟩ := s
  unfold isSign at h
  rw [Bool.and_eq_true] at h
  have h8 : tag.length = 8 := of_decide_eq_true h.2
  have h1 : isCred c = true := h.1
  have := short_enc h1
  rw [signBytes, List.length_append]
  show (credEnc c).length + (encS tag).length ≤ _
  rw [encS, List.length_append, h8, enc_small (by decide)]
  simp only [List.length_cons, List.length_nil]
  omega
theorem good_noSign (l : List KeyB) : goodC l [noSign] = [] := by
  have h : checkErr l noSign ≠ 0 := by
    have h1 : signErr l noSign.c = 11 := rfl
    rw [checkErr, if_neg (by rw [h1]; decide), h1]
    decide
  rw [goodC, List.filter_cons_of_neg (by simpa using h)]
  rfl
theorem good_two {l : List KeyB} {s : SignB} (h : checkErr l s = 0) : goodC l [s, s] = [s.c, s.c] := by
  rw [goodC, List.filter_cons_of_pos (by rw [h]; rfl), List.filter_cons_of_pos (by rw [h]; rfl)]
  rfl

/-- A set of one. -/
theorem SetC.single {c : CredB} {ls out : List CredB} (h : SetC ls out) (hc : isCred c = true) (hne : ls ≠ []) (hl : ∀ x ∈ ls, x = c) : out = [c] := by
  refine h.one ⟨⟨fun y hy => by simp at hy, trivial⟩, fun x => ⟨fun hx => ?_, fun hx => ?_⟩⟩
  · rw [List.mem_singleton.1 hx]
    obtain ⟨y, r, rfl⟩ := List.exists_cons_of_ne_nil hne
    exact ⟨by rw [← hl y (by simp)]; simp, hc⟩
  · rw [hl x hx.1]; simp

def kA : KeyB := ⟨[97], [107]⟩
def kB : KeyB := ⟨[98], [108]⟩
def kE : KeyB := ⟨[97], []⟩
def kM : KeyB := ⟨[97], [109]⟩
def c0 : CredB := ⟨1, ([97], [114]), [100], noneR, noneR, []⟩
def enc0 : List UInt8 := [1, 1, 97, 1, 114, 1, 100]
def tag0 : List UInt8 := tagOf [107] enc0
theorem reg_AB : newErr [kA, kB] = 0 := by decide
theorem reg_E : newErr [kE] = 21 := by decide
theorem reg_M : newErr [kM] = 0 := by decide
theorem c0_cred : isCred c0 = true := by decide
theorem c0_short : credShort c0 9223372036854775807 := by unfold credShort; decide
theorem c0_enc : credEnc c0 = enc0 := by
  simp only [credEnc, credTail, roleEnc, encS, c0, if_true]
  rw [enc_small (by decide), enc_small (by decide), enc_small (by decide), enc_small (by decide)]
  decide
theorem sgn_AB : signErr [kA, kB] c0 = 0 := by decide
theorem sgn_M : signErr [kM] c0 = 0 := by decide
theorem tag_AB : signTag [kA, kB] c0 = tag0 := by
  rw [signTag, c0_enc]; rfl
theorem tag_M : signTag [kM] c0 = tagOf [109] enc0 := by
  rw [signTag, c0_enc]; rfl
theorem tags_ne : (tagOf [109] enc0 == tag0) = false := by decide +kernel
theorem tag0_len : tag0.length = 8 := tagOf_length _ _
theorem signed_AB : signed [kA, kB] c0 = ⟨c0, tag0⟩ := by rw [signed_eq sgn_AB, tag_AB]
theorem check_AB : checkErr [kA, kB] ⟨c0, tag0⟩ = 0 := by rw [← signed_AB]; exact signed_check sgn_AB
theorem check_M : checkErr [kM] ⟨c0, tag0⟩ = 20 := by
  rw [checkErr, if_pos sgn_M]
  show (if signTag [kM] c0 = tag0 then 0 else 20) = 20
  rw [tag_M, if_neg]
  intro e
  have := tags_ne
  rw [e] at this
  simp at this
theorem check_none : checkErr [kA, kB] ⟨c0, []⟩ ≠ 0 := by
  rw [checkErr, if_pos sgn_AB]
  show (if signTag [kA, kB] c0 = [] then 0 else 20) ≠ 0
  rw [tag_AB, if_neg]
  · decide
  · intro e
    have := tag0_len
    rw [e] at this
    cases this
theorem good_AB : goodC [kA, kB] [⟨c0, tag0⟩, ⟨c0, []⟩] = [c0] := by
  have h1 := check_AB
  have h2 := check_none
  rw [goodC, List.filter_cons_of_pos (by rw [h1]; rfl), List.filter_cons_of_neg (by simpa using h2)]
  rfl
theorem sign_AB : isSign ⟨c0, tag0⟩ = true := by rw [← signed_AB]; exact signed_right sgn_AB
theorem bytes_AB : (credEnc c0).length = 7 := by rw [c0_enc]; rfl

/-- Keys in a row, whose bytes are in rows of their own. -/
theorem keys_one {w : World} {g : Nat} {k : KeyB} {a : Option Addr} {c : Nat} {T : TypeId} {f : Nat × Nat} (hb : w.heap[g]? = some (.cells #[.string ⟨k.who.toArray⟩, .slice a k.key.length c] T f)) (h1 : BytesAt (fun _ => True) w (.slice a k.key.length c) k.key) (l0 : k.who.length ≤ 9223372036854775807) :
    KeysAt (fun _ => True) w (some ⟨g, 0, none⟩) [k] := fun i hi => by
  match i, hi with
  | 0, _ => exact ⟨g, 0, rfl, trivial, cell_blk hb 0, ⟨a, c, cell_blk hb 1, h1⟩, l0, bytes_len63 h1⟩
theorem keys_two {w : World} {g : Nat} {k q : KeyB} {a b : Option Addr} {c d : Nat} {T : TypeId} {f : Nat × Nat} (hb : w.heap[g]? = some (.cells #[.string ⟨k.who.toArray⟩, .slice a k.key.length c, .string ⟨q.who.toArray⟩, .slice b q.key.length d] T f)) (h1 : BytesAt (fun _ => True) w (.slice a k.key.length c) k.key) (h2 : BytesAt (fun _ => True) w (.slice b q.key.length d) q.key)
    (l0 : k.who.length ≤ 9223372036854775807) (l1 : q.who.length ≤ 9223372036854775807) : KeysAt (fun _ => True) w (some ⟨g, 0, none⟩) [k, q] := fun i hi => by
  match i, hi with
  | 0, _ => exact ⟨g, 0, rfl, trivial, cell_blk hb 0, ⟨a, c, cell_blk hb 1, h1⟩, l0, bytes_len63 h1⟩
  | 1, _ => exact ⟨g, 0, rfl, trivial, cell_blk hb 2, ⟨b, d, cell_blk hb 3, h2⟩, l1, bytes_len63 h2⟩

theorem NewPost.ok {l : List KeyB} {w w' : World} {e : Ending} (h : NewPost l w e w') (h0 : newErr l = 0) : ∃ g, e = .returned (.tuple #[.pointer (some ⟨g, 0, none⟩), .int .i64 0]) ∧ RegOwn w.heap.size w' g l ∧ Chg (fun _ => False) w w' := by
  rcases h with ⟨_, h⟩ | ⟨h, _⟩
  · exact h
  · exact absurd h0 h
theorem NewPost.bad {l : List KeyB} {w w' : World} {e : Ending} (h : NewPost l w e w') (h0 : newErr l ≠ 0) : e = .returned (.tuple #[.pointer none, .int .i64 (newErr l : Nat)]) ∧ Chg (fun _ => False) w w' := by
  rcases h with ⟨h, _⟩ | ⟨_, h⟩
  · exact absurd h h0
  · exact h

/-- Signed ones in a row. -/
theorem signs_one {w : World} {g : Nat} {s : SignB} {a : Option Addr} {c : Nat} {T : TypeId} {f : Nat × Nat} (hb : w.heap[g]? = some (.cells (signBox s.c (.slice a s.tag.length c)) T f)) (h1 : BytesAt (fun _ => True) w (.slice a s.tag.length c) s.tag) (hs : credShort s.c 9223372036854775807) :
    SignsAt (fun _ => True) w (some ⟨g, 0, none⟩) [s] := fun i hi => by
  match i, hi with
  | 0, _ => exact ⟨g, 0, rfl, trivial, (cred_at_sign hb).1, ⟨a, c, (cred_at_sign hb).2, h1⟩, hs, bytes_len63 h1⟩
theorem signs_two {w : World} {g : Nat} {s t : SignB} {a b : Option Addr} {c d : Nat} {T : TypeId} {f : Nat × Nat} (hb : w.heap[g]? = some (.cells (signBox s.c (.slice a s.tag.length c) ++ signBox t.c (.slice b t.tag.length d)) T f)) (h1 : BytesAt (fun _ => True) w (.slice a s.tag.length c) s.tag) (h2 : BytesAt (fun _ => True) w (.slice b t.tag.length d) t.tag)
    (hs : credShort s.c 9223372036854775807) (ht : credShort t.c 9223372036854775807) : SignsAt (fun _ => True) w (some ⟨g, 0, none⟩) [s, t] := fun i hi => by
  have e : signBox s.c (.slice a s.tag.length c) ++ signBox t.c (.slice b t.tag.length d) = #[.int .i64 s.c.kind, .string ⟨s.c.head.1.toArray⟩, .string ⟨s.c.head.2.toArray⟩, .string ⟨s.c.who.toArray⟩, .string ⟨s.c.b.1.toArray⟩, .string ⟨s.c.b.2.toArray⟩, .string ⟨s.c.c.1.toArray⟩, .string ⟨s.c.c.2.toArray⟩, .string ⟨s.c.w2.toArray⟩, .slice a s.tag.length c, .int .i64 t.c.kind, .string ⟨t.c.head.1.toArray⟩, .string ⟨t.c.head.2.toArray⟩, .string ⟨t.c.who.toArray⟩, .string ⟨t.c.b.1.toArray⟩, .string ⟨t.c.b.2.toArray⟩, .string ⟨t.c.c.1.toArray⟩, .string ⟨t.c.c.2.toArray⟩, .string ⟨t.c.w2.toArray⟩, .slice b t.tag.length d] := rfl
  rw [e] at hb
  match i, hi with
  | 0, _ => exact ⟨g, 0, rfl, trivial, ⟨cell_blk hb 0, cell_blk hb 1, cell_blk hb 2, cell_blk hb 3, cell_blk hb 4, cell_blk hb 5, cell_blk hb 6, cell_blk hb 7, cell_blk hb 8⟩, ⟨a, c, cell_blk hb 9, h1⟩, hs, bytes_len63 h1⟩
  | 1, _ => exact ⟨g, 0, rfl, trivial, ⟨cell_blk hb 10, cell_blk hb 11, cell_blk hb 12, cell_blk hb 13, cell_blk hb 14, cell_blk hb 15, cell_blk hb 16, cell_blk hb 17, cell_blk hb 18⟩, ⟨b, d, cell_blk hb 19, h2⟩, ht, bytes_len63 h2⟩
end Go.Proofs.Ytjflmhncgkbdmaa

/- Lists of texts of the call's own. -/
namespace Go.Proofs.Ytjflmhncgkbdmaa
open Go.RowKit

def strV (l : List UInt8) : Value := .string ⟨l.toArray⟩
theorem Try.info9 : (Try.prog.info? 9).map (fun i => (i.zero, i.size, i.bytes)) = some (some (.string ⟨#[]⟩), 1, 16) := by kernel_rfl

/-- A list of texts of the call's own. -/
def OwnS (B : Nat) (w : World) (v : Value) (ls : List (List UInt8)) : Prop := w.ownsRow B 9 1 v ls.length (ls.map strV)

theorem OwnS.strs {B : Nat} {w : World} {v : Value} {ls : List (List UInt8)} (h : OwnS B w v ls) (hb : ∀ x ∈ ls, x.length ≤ 9223372036854775807) : ∃ ao cap, v = .slice ao ls.length cap ∧ StrsAt (fun k => B ≤ k ∧ k < w.heap.size) w ao ls := by
  rcases h.2 with ⟨rfl, h0⟩ | ⟨g, cap, cur, rfl, hg, hh, h1, h2, h3, h4⟩
  · have : ls = [] := List.eq_nil_of_length_eq_zero h0
    subst this
    exact ⟨none, 0, rfl, StrsAt.nil _ _ _⟩
  · refine ⟨_, _, rfl, fun i hi => ⟨g, 0, rfl, ⟨hg, lt_blk hh⟩, ?_, hb _ (List.getElem_mem hi)⟩⟩
    have hcell := h.cells (g := g) rfl i (strV ls[i]) (by simp [hi])
    rw [add_off] at hcell
    exact hcell

def lenOf : Value → Nat
  | .slice _ n _ => n
  | _ => 0
end Go.Proofs.Ytjflmhncgkbdmaa

/-
  DERIVED: THE SHELF's CONTRACTS AT THIS DUMP, IN PLAIN WORDS (tools/lay-plain.mjs out of 'TryShelfI.lean', which tools/lay-shelf.mjs wrote): THE SAME DECLARATIONS UNDER THE SAME NAMES: 'import', 'namespace', 'open', 'def', 'theorem' AND NOTHING ELSE: no command of the shelf's: FOR A HAND-IN. Each laying: the table of numbers ('.._ren') and one theorem, a field a fact of the dump's own or the kernel's comparison; each contract: ONE APPLICATION.
-/
namespace Go.Proofs
open Go.Shelf
def Try.keysI_ren : Go.Shelf.Ren := ⟨fun | 7 => 35 | 10 => 56 | n => n, fun | 23 => 58 | 26 => 9 | 3 => 34 | 28 => 82 | 0 => 0 | 27 => 81 | 33 => 84 | 4 => 4 | n => n, fun | n => n⟩
theorem Try.keysI : Go.Proofs.SlLaysZ.n7 Try.prog Try.keysI_ren := {
  mixed := by kernel_rfl
  f7 := ⟨Try.f35.name, by decide, Try.func35.trans (congrArg some (by kernel_rfl))⟩
  f10 := ⟨Try.f56.name, by decide, Try.func56.trans (congrArg some (by kernel_rfl))⟩
  t0 := Try.underlying0
  a0 := Try.isAgg0
  z0 := Try.sizeOf0
  v0 := Try.zeroValue0
  t4 := Try.underlying4
  a4 := Try.isAgg4
  z4 := Try.sizeOf4
  v4 := Try.zeroValue4
  t23 := Try.underlying58
  a23 := Try.isAgg58
  z23 := Try.sizeOf58
  v23 := Try.zeroValue58
  t26 := Try.underlying9
  a26 := Try.isAgg9
  z26 := Try.sizeOf9
  v26 := Try.zeroValue9
  t27 := Try.underlying81
  a27 := Try.isAgg81
  z27 := Try.sizeOf81
  v27 := Try.zeroValue81
  t28 := Try.underlying82
  a28 := Try.isAgg82
  z28 := Try.sizeOf82
  v28 := Try.zeroValue82
  t33 := Try.underlying84
  a33 := Try.isAgg84
  z33 := Try.sizeOf84
  v33 := Try.zeroValue84 }
def Try.sortedI_ren : Go.Shelf.Ren := ⟨fun | 6 => 34 | 8 => 54 | 9 => 55 | 11 => 64 | 13 => 60 | 12 => 65 | 23 => 74 | 24 => 75 | 14 => 77 | 15 => 78 | 16 => 79 | 17 => 80 | 18 => 81 | 19 => 82 | 20 => 83 | 21 => 84 | 22 => 85 | 25 => 92 | 26 => 87 | 27 => 88 | 28 => 93 | 29 => 94 | 30 => 95 | 31 => 97 | n => n, fun | 26 => 9 | 28 => 82 | 24 => 54 | 0 => 0 | 3 => 3 | 37 => 109 | 48 => 125 | 50 => 86 | 4 => 4 | 40 => 118 | 39 => 117 | 45 => 122 | 5 => 5 | 9 => 9 | 51 => 134 | 55 => 138 | 57 => 142 | 58 => 143 | 33 => 84 | n => n, fun | n => n⟩
theorem Try.sortedI : Go.Proofs.SlLaysZ.n6 Try.prog Try.sortedI_ren := {
  mixed := by kernel_rfl
  f6 := ⟨Try.f34.name, by decide, Try.func34.trans (congrArg some (by kernel_rfl))⟩
  f8 := ⟨Try.f54.name, by decide, Try.func54.trans (congrArg some (by kernel_rfl))⟩
  f11 := ⟨Try.f64.name, by decide, Try.func64.trans (congrArg some (by kernel_rfl))⟩
  t0 := Try.underlying0
  a0 := Try.isAgg0
  z0 := Try.sizeOf0
  v0 := Try.zeroValue0
  t24 := Try.underlying54
  a24 := Try.isAgg54
  z24 := Try.sizeOf54
  v24 := Try.zeroValue54
  t26 := Try.underlying9
  a26 := Try.isAgg9
  z26 := Try.sizeOf9
  v26 := Try.zeroValue9
  t28 := Try.underlying82
  a28 := Try.isAgg82
  z28 := Try.sizeOf82
  v28 := Try.zeroValue82
  i26 := by kernel_rfl }
def Try.sortI_ren : Go.Shelf.Ren := ⟨fun | 6 => 55 | 8 => 60 | 9 => 65 | 19 => 74 | 20 => 75 | 21 => 77 | 22 => 78 | 23 => 79 | 24 => 80 | 25 => 81 | 26 => 82 | 27 => 83 | 28 => 84 | 29 => 85 | 36 => 92 | 31 => 87 | 32 => 88 | 37 => 93 | 38 => 94 | 39 => 95 | 41 => 97 | n => n, fun | 27 => 54 | 29 => 9 | 3 => 3 | 32 => 109 | 26 => 54 | 0 => 0 | 44 => 125 | 46 => 86 | 4 => 4 | 36 => 118 | 35 => 117 | 41 => 122 | 5 => 5 | 9 => 9 | 53 => 134 | 57 => 138 | 63 => 142 | 64 => 143 | n => n, fun | n => n⟩
theorem Try.sortI : Go.Proofs.SlLaysM.n6 Try.prog Try.sortI_ren := {
  mixed := by kernel_rfl
  f6 := ⟨Try.f55.name, by decide, Try.func55.trans (congrArg some (by kernel_rfl))⟩
  f8 := Try.func60.trans (congrArg some (by kernel_rfl))
  f9 := ⟨Try.f65.name, by decide, Try.func65.trans (congrArg some (by kernel_rfl))⟩
  f19 := Try.func74.trans (congrArg some (by kernel_rfl))
  f20 := Try.func75.trans (congrArg some (by kernel_rfl))
  f21 := ⟨Try.f77.name, by decide, Try.func77.trans (congrArg some (by kernel_rfl))⟩
  f22 := ⟨Try.f78.name, by decide, Try.func78.trans (congrArg some (by kernel_rfl))⟩
  f23 := ⟨Try.f79.name, by decide, Try.func79.trans (congrArg some (by kernel_rfl))⟩
  f24 := ⟨Try.f80.name, by decide, Try.func80.trans (congrArg some (by kernel_rfl))⟩
  f25 := ⟨Try.f81.name, by decide, Try.func81.trans (congrArg some (by kernel_rfl))⟩
  f26 := ⟨Try.f82.name, by decide, Try.func82.trans (congrArg some (by kernel_rfl))⟩
  f27 := ⟨Try.f83.name, by decide, Try.func83.trans (congrArg some (by kernel_rfl))⟩
  f28 := ⟨Try.f84.name, by decide, Try.func84.trans (congrArg some (by kernel_rfl))⟩
  f29 := ⟨Try.f85.name, by decide, Try.func85.trans (congrArg some (by kernel_rfl))⟩
  f31 := Try.func87.trans (congrArg some (by kernel_rfl))
  f32 := Try.func88.trans (congrArg some (by kernel_rfl))
  f36 := ⟨Try.f92.name, by decide, Try.func92.trans (congrArg some (by kernel_rfl))⟩
  f37 := ⟨Try.f93.name, by decide, Try.func93.trans (congrArg some (by kernel_rfl))⟩
  f38 := ⟨Try.f94.name, by decide, Try.func94.trans (congrArg some (by kernel_rfl))⟩
  f39 := ⟨Try.f95.name, by decide, Try.func95.trans (congrArg some (by kernel_rfl))⟩
  f41 := ⟨Try.f97.name, by decide, Try.func97.trans (congrArg some (by kernel_rfl))⟩
  t0 := Try.underlying0
  a0 := Try.isAgg0
  z0 := Try.sizeOf0
  v0 := Try.zeroValue0
  t3 := Try.underlying3
  a3 := Try.isAgg3
  z3 := Try.sizeOf3
  v3 := Try.zeroValue3
  t4 := Try.underlying4
  a4 := Try.isAgg4
  z4 := Try.sizeOf4
  v4 := Try.zeroValue4
  t5 := Try.underlying5
  a5 := Try.isAgg5
  z5 := Try.sizeOf5
  v5 := Try.zeroValue5
  t9 := Try.underlying9
  a9 := Try.isAgg9
  z9 := Try.sizeOf9
  v9 := Try.zeroValue9
  t26 := Try.underlying54
  a26 := Try.isAgg54
  z26 := Try.sizeOf54
  v26 := Try.zeroValue54
  t27 := Try.underlying54
  a27 := Try.isAgg54
  z27 := Try.sizeOf54
  v27 := Try.zeroValue54
  t29 := Try.underlying9
  a29 := Try.isAgg9
  z29 := Try.sizeOf9
  v29 := Try.zeroValue9
  t32 := Try.underlying109
  a32 := Try.isAgg109
  z32 := Try.sizeOf109
  v32 := Try.zeroValue109
  t35 := Try.underlying117
  a35 := Try.isAgg117
  z35 := Try.sizeOf117
  v35 := Try.zeroValue117
  t36 := Try.underlying118
  a36 := Try.isAgg118
  z36 := Try.sizeOf118
  v36 := Try.zeroValue118
  t41 := Try.underlying122
  a41 := Try.isAgg122
  z41 := Try.sizeOf122
  v41 := Try.zeroValue122
  t44 := Try.underlying125
  a44 := Try.isAgg125
  z44 := Try.sizeOf125
  v44 := Try.zeroValue125
  t46 := Try.underlying86
  a46 := Try.isAgg86
  z46 := Try.sizeOf86
  v46 := Try.zeroValue86
  t53 := Try.underlying134
  a53 := Try.isAgg134
  z53 := Try.sizeOf134
  v53 := Try.zeroValue134
  t57 := Try.underlying138
  a57 := Try.isAgg138
  z57 := Try.sizeOf138
  v57 := Try.zeroValue138
  t63 := Try.underlying142
  a63 := Try.isAgg142
  z63 := Try.sizeOf142
  v63 := Try.zeroValue142
  t64 := Try.underlying143
  a64 := Try.isAgg143
  z64 := Try.sizeOf143
  v64 := Try.zeroValue143 }
end Go.Proofs

/- The library's contract of slices.Sorted at what maps.Keys hands back, at this program. -/
namespace Go.Proofs
open Go.RowKit Go.Maps Go.Sort Go.Shelf


theorem Try.sortsI (m : Nat) : AnyZ.SortsIn Try.prog Try.sortedI_ren Fence.wide m :=
  ⟨fun blk off cap ss W hH hblk hsz => callsIn_wide.2 (AnyM.slices_Sort_string Try.sortI blk off cap ss W hH hblk hsz),
   fun p cap W => callsIn_wide.2 (AnyM.slices_Sort_string_none Try.sortI p cap W)⟩

theorem Try.maps_Keys_m (mb : Option Nat) (W : World) : CallsIn Fence.wide 5 Try.prog 35 #[.map mb] W fun e w' => e = .returned (.func (.func 56) #[] #[.pointer (some ⟨W.heap.size, 0, none⟩)]) ∧ w' = W.alloc (.cells #[.map mb] 58) :=
  AnyZ.keys_in Try.keysI Fence.wide 5 trivial rfl mb W

set_option maxHeartbeats 1000000 in
theorem Try.slices_Sorted_keys_m {H : Type} (b nn : Nat) (D0 : DataW H) (R : Value → Option (DataW H × List MemPlace)) (w : World) (hown : w.ownsMap Try.prog 9 R b nn D0) (hmax : Maps.size D0 ≤ maxLen) (hbytes : Maps.size D0 * 16 ≤ 140737488355328) :
    CallsIn Fence.wide 5 Try.prog 34 #[.func (.func 56) #[] #[.pointer (some ⟨w.heap.size, 0, none⟩)]] (w.alloc (.cells #[.map (some b)] 58)) fun e w' => ∃ (v : Value) (ss : List (List UInt8)), e = .returned v ∧ ss.Perm (strKeys D0) ∧
      w'.ownsRow (w.alloc (.cells #[.map (some b)] 58)).heap.size 9 1 v ss.length ((ss.mergeSort (fun x y => decide (x ≤ y))).map encStr) ∧ (v = .slice none 0 0 ↔ ss = []) ∧ Below (w.alloc (.cells #[.map (some b)] 58)).heap.size (w.alloc (.cells #[.map (some b)] 58)) w' := by
  have hbl := hown.lt
  have hseq : SeqGives Fence.wide 2 Try.prog 56 #[.pointer (some ⟨w.heap.size, 0, none⟩)] encStr (fun ss => ss.Perm (strKeys D0)) (Maps.size D0) (w.alloc (.cells #[.map (some b)] 58)) :=
    AnyZ.keys_gives (ρ := Try.keysI_ren) { Try.keysI with } Fence.wide _ trivial rfl (by omega) w.heap.size b nn D0 _ (by simp) (by simp) (by
      obtain ⟨es, clock, hb, Ft, hs, hD⟩ := hown
      exact ⟨es, clock, (Below.heap_alloc _ _ b hbl).trans hb, Ft, hs, hD⟩)
  exact AnyZ.sorted_in Try.sortedI Fence.wide 5 trivial trivial trivial trivial rfl (by omega) (Try.sortsI _) (enters_of Try.func55 (by kernel_rfl) rfl) 56 #[.pointer (some ⟨w.heap.size, 0, none⟩)] trivial (enters_of Try.func56 (by kernel_rfl) rfl) _ _ hmax hbytes _ hseq

end Go.Proofs

/- The names that have keys: slices.Sorted of maps.Keys. -/
namespace Go.Proofs.Ytjflmhncgkbdmaa
open Go.RowKit Go.Maps

theorem ltS_eq : ∀ (x y : List UInt8), ltS x y = decide (x < y)
  | [], [] => by simp [ltS_nil]
  | _ :: _, [] => by simp [ltS_nil]
  | [], _ :: _ => by simp [ltS_nil_cons]
  | x :: xs, y :: ys => by
    rw [ltS_cons, ltS_eq xs ys]
    by_cases h : x < y
    · simp [h, List.cons_lt_cons_iff]
    · by_cases e : x = y
      · subst e; simp [List.cons_lt_cons_iff]
      · simp [h, e, List.cons_lt_cons_iff]

theorem le_ltS (x y : List UInt8) : decide (x ≤ y) = !ltS y x := by
  rw [ltS_eq]
  by_cases h : y < x
  · simp [h]
  · simp [h, List.not_lt.1 h]

/-- In order, some more than once. -/
def sortS (l : List (List UInt8)) : List (List UInt8) := l.mergeSort fun x y => decide (x ≤ y)
theorem sortS_length (l : List (List UInt8)) : (sortS l).length = l.length := List.length_mergeSort l
theorem sortS_mem (l : List (List UInt8)) (x : List UInt8) : x ∈ sortS l ↔ x ∈ l := (List.mergeSort_perm l _).mem_iff
theorem sortS_sorted (l : List (List UInt8)) : (sortS l).Pairwise fun x y => ltS y x = false := by
  have h : (sortS l).Pairwise fun x y => decide (x ≤ y) = true := by
    refine List.pairwise_mergeSort (fun a b c h1 h2 => ?_) (fun a b => ?_) l
    · rw [le_ltS] at *
      simp only [Bool.not_eq_true'] at *
      cases hx : ltS c a with
      | false => rfl
      | true =>
        rcases ltS_tri a b with k | k | k
        · have := ltS_trans _ _ _ hx k; rw [h2] at this; cases this
        · subst k; rw [hx] at h2; cases h2
        · rw [k] at h1; cases h1
    · rw [le_ltS, le_ltS]
      cases h1 : ltS b a with
      | false => rfl
      | true =>
        cases h2 : ltS a b with
        | false => rfl
        | true => have := ltS_trans _ _ _ h1 h2; rw [ltS_irrefl] at this; cases this
  exact h.imp fun {a b} k => by rw [le_ltS] at k; simpa using k

theorem sortS_rising {l : List (List UInt8)} (h : l.Nodup) : Rising (sortS l) := by
  have hn : (sortS l).Nodup := (List.mergeSort_perm l _).nodup_iff.2 h
  have hs := sortS_sorted l
  generalize sortS l = m at *
  induction m with
  | nil => trivial
  | cons x m ih =>
    obtain ⟨a, b⟩ := List.nodup_cons.1 hn
    obtain ⟨c, d⟩ := List.pairwise_cons.1 hs
    refine ⟨fun y hy => ?_, ih b d⟩
    rcases ltS_tri x y with k | k | k
    · exact k
    · exact absurd (k ▸ hy) a
    · rw [c y hy] at k; cases k

/-- What Names leaves: the names, rising, in new memory. -/
def NamesPost (l : List KeyB) (w : World) (e : Ending) (w' : World) : Prop :=
  ∃ out ao cap, e = .returned (.slice ao out.length cap) ∧ SetOf (l.map (·.who)) out ∧ out.length = l.length ∧ StrsAt (fun k => w.heap.size ≤ k ∧ k < w'.heap.size) w' ao out ∧ Chg (fun _ => False) w w'

theorem pnames_nil (w : World) : Calls Try.prog 17 #[.pointer none] w fun e w' => e = .returned (.slice none 0 0) ∧ w = w' := by
  go_enter Try.func17, Try.ntmps17
  go_wp2
  go_ret
  exact ⟨rfl, rfl⟩

set_option maxRecDepth 100000 in
set_option maxHeartbeats 2000000 in
theorem pnames {B : Nat} (g : Nat) (l : List KeyB) (w : World) (hreg : newErr l = 0) (hn : l.length ≤ 4194304) (h : RegOwn B w g l) :
    Calls Try.prog 17 #[.pointer (some ⟨g, 0, none⟩)] w (NamesPost l w) := by
  obtain ⟨⟨mb, hg, _, hM⟩, _⟩ := h
  obtain ⟨M, hown, hperm, hsz⟩ := hM.names
  have hnd := hM.nd
  have hk := callsIn_wide.1 (Try.maps_Keys_m (some mb) w)
  have hs := callsIn_wide.1 (Try.slices_Sorted_keys_m mb l.length M selfElem w hown (by unfold maxLen; omega) (by omega))
  have z0 := cell_blk hg 0
  simp only [List.getElem?_toArray, List.getElem?_cons_zero] at z0
  have HH := hid (And.intro hperm (And.intro hnd hs))
  clear hperm hnd hs hown hsz hM hg
  go_enter Try.func17, Try.ntmps17
  go_wp2_with fail
  refine hk.mono ?_
  rintro e w' ⟨rfl, rfl⟩
  clear hk z0
  go_wp2_with fail
  obtain ⟨hperm, hnd, hs⟩ := HH.out
  clear HH
  refine hs.mono ?_
  rintro e w' ⟨v, ss, rfl, hS, hrow, _, hb⟩
  have hss : ss.Perm (l.map (·.who)) := hS.trans hperm.symm
  have hlen : ss.length = l.length := by rw [hss.length_eq, List.length_map]
  have ho : OwnS w.heap.size w' v (sortS ss) := by
    have h1 := ownsRow_base_a hrow (base' := w.heap.size) (by simp)
    unfold OwnS
    rw [sortS_length]
    exact h1
  have hset : SetOf (l.map (·.who)) (sortS ss) := by
    refine ⟨sortS_rising (hss.nodup_iff.2 hnd), fun x => ?_⟩
    rw [sortS_mem, hss.mem_iff]
    refine ⟨fun hx => ⟨hx, ?_⟩, fun hx => hx.1⟩
    obtain ⟨k, hk, rfl⟩ := List.mem_map.1 hx
    exact (reg_mem hreg hk).1
  obtain ⟨ao, cap, rfl, hst⟩ := ho.strs (fun x hx => by
    have hx2 := ((hset.2 x).1 hx).2
    have := isName_len hx2
    omega)
  have hc : Chg (fun _ => False) w w' := by
    have h1 : Chg (fun _ => False) w (w.alloc (.cells #[.map (some mb)] 58)) := (Chg.refl _ w).alloc _
    exact h1.trans (⟨hb.os, hb.tape, hb.output, hb.size, fun k hk _ => hb.block k hk⟩ : Chg (fun _ => False) _ w') (fun _ _ h => h)
  have HR := hid (And.intro hset (And.intro hst (And.intro hc (show (sortS ss).length = l.length by rw [sortS_length, hlen]))))
  clear hset hst hc ho hrow hb hS hss hlen hperm hnd hs
  go_wp2
  go_ret
  exact ⟨sortS ss, ao, cap, rfl, HR.out.1, HR.out.2.2.2, HR.out.2.1, HR.out.2.2.1⟩
end Go.Proofs.Ytjflmhncgkbdmaa
