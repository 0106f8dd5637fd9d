/- Texts that the proof leans on, in one: RefFNames, RefFLess, RefFSame, RoleSpec, RefFSorted, RefCredSet, ModelOfM, RefFOf, RefFMembers, RefFRoles, RoleSame, ModelK, CheckSound, OpenB, RoleCells. -/
import Derived.Test.YtcdjjengkdbngaaKc8
import Derived.Test.YtcdjjengkdbngaaProg
import Derived.Test.YtcdjjengkdbngaaChecked
import Derived.Deep.QuietTactic
import Derived.BigQuiet
import Derived.Test.YtcdjjengkdbngaaKc7
import Derived.Test.YtcdjjengkdbngaaKc2
import Derived.Test.YtcdjjengkdbngaaKc10
import Derived.Test.YtcdjjengkdbngaaKc4
import Derived.Test.YtcdjjengkdbngaaRows
import Derived.Test.YtcdjjengkdbngaaKc5
import Derived.ProofKit
import Derived.OpenShut
import Derived.ShutString
import Derived.ChangeOld
import Derived.Deep.Slices
import Derived.Deep.Fields
import Derived.ChangeSame
/- The contract of the document's Names, of layer 8. -/
namespace Go.Proofs.Ytcdjjengkdbngaa
open Go.RowKit

end Go.Proofs.Ytcdjjengkdbngaa

/- The contract of the document's less, of layer 8; == and != at facts. -/
namespace Go.Proofs.Ytcdjjengkdbngaa
open Go.RowKit

theorem run_eqg_fact (x y : Operand) (a b : FactB) (w : World) : Sem.run Try.prog (eqGuard BinOp.neq 34 x y (.agg #[.string ⟨a.1.1.toArray⟩, .string ⟨a.1.2.toArray⟩, .string ⟨a.2.toArray⟩]) (.agg #[.string ⟨b.1.1.toArray⟩, .string ⟨b.1.2.toArray⟩, .string ⟨b.2.toArray⟩])) w = .ok () w := by
  go_simp

theorem run_neq_fact (a b : FactB) (w : World) : Sem.run Try.prog (binOp BinOp.neq 34 (.agg #[.string ⟨a.1.1.toArray⟩, .string ⟨a.1.2.toArray⟩, .string ⟨a.2.toArray⟩]) (.agg #[.string ⟨b.1.1.toArray⟩, .string ⟨b.1.2.toArray⟩, .string ⟨b.2.toArray⟩])) w = .ok (.bool (!decide (a = b))) w := by
  have : decide (a = b) = decide (a.1.1 = b.1.1 ∧ a.1.2 = b.1.2 ∧ a.2 = b.2) := by simp only [Prod.ext_iff, and_assoc]
  rw [this]
  go_simp
  repeat' split
  all_goals simp_all

attribute [local go_sem ↓ high] run_eqg_role run_eql_role
end Go.Proofs.Ytcdjjengkdbngaa

/- The contract of the document's Same of layer 8. -/
namespace Go.Proofs.Ytcdjjengkdbngaa
open Go.RowKit
attribute [local go_sem ↓ high] run_eqg_fact run_neq_fact

end Go.Proofs.Ytcdjjengkdbngaa

/- Roles in slots. -/
namespace Go.Proofs.Ytcdjjengkdbngaa
open Go.RowKit

end Go.Proofs.Ytcdjjengkdbngaa

/- The contract of the document's Sorted, of layer 8. -/
namespace Go.Proofs.Ytcdjjengkdbngaa
open Go.RowKit

end Go.Proofs.Ytcdjjengkdbngaa

/- The contract of the document's Set of layer 5. -/
namespace Go.Proofs.Ytcdjjengkdbngaa
open Go.RowKit

end Go.Proofs.Ytcdjjengkdbngaa

/- The document's way to the least model, round by round: plain words, nothing of the program's text. -/
namespace Go.Proofs.Ytcdjjengkdbngaa
open Go.RowKit

theorem PartM.len {cs : List CredB} {ns : List (List UInt8)} {xs : List FactB} (hns : SetOf (whosOf cs) ns) (h : PartM cs xs) : xs.length ≤ cs.length * ns.length := by
  have := facts_le (rs := cs.map (·.head)) (ns := ns) h.1 (fun f hf => by
    have hd := h.2 f hf
    refine ⟨?_, ?_⟩
    · obtain ⟨c, hc, _, e⟩ := hd.head
      exact List.mem_map.2 ⟨c, hc, e⟩
    · obtain ⟨c, hc, hr, hk, e⟩ := hd.who
      rw [← e]
      exact (hns.2 _).2 ⟨whosOf_who hc, isCred_member hr hk⟩)
  rwa [List.length_map] at this

/-- Nothing comes of the credential c for n. -/
def okF (xs : List FactB) (c : CredB) (ns : List (List UInt8)) (n : List UInt8) : Prop := inF xs c.head n = true ∨ stepF xs c ns n = false

/-- Within a round that began with xs, behind k credentials. -/
def RoundM (cs : List CredB) (ns : List (List UInt8)) (xs : List FactB) (k : Nat) (came : Bool) (ys : List FactB) : Prop :=
  PartM cs ys ∧ (came = true → xs.length < ys.length) ∧ (came = false → ys = xs ∧ ∀ c ∈ cs.take k, ∀ n ∈ ns, okF xs c ns n)
def InnerM (cs : List CredB) (ns : List (List UInt8)) (xs : List FactB) (k : Nat) (c : CredB) (j : Nat) (came : Bool) (ys : List FactB) : Prop :=
  RoundM cs ns xs k came ys ∧ (came = false → ∀ n ∈ ns.take j, okF xs c ns n)

theorem RoundM.start {cs : List CredB} {ns : List (List UInt8)} {xs : List FactB} (h : PartM cs xs) : RoundM cs ns xs 0 false xs :=
  ⟨h, (fun e => by cases e), fun _ => ⟨rfl, fun c hc => by simp at hc⟩⟩
theorem InnerM.no {cs : List CredB} {ns : List (List UInt8)} {xs ys : List FactB} {k j : Nat} {c : CredB} {came : Bool} (h : InnerM cs ns xs k c j came ys) (hj : j < ns.length) (hok : okF ys c ns ns[j]) : InnerM cs ns xs k c (j + 1) came ys := by
  refine ⟨h.1, fun e n hn => ?_⟩
  rw [List.take_succ_eq_append_getElem hj] at hn
  rcases List.mem_append.1 hn with hn | hn
  · exact h.2 e n hn
  · rw [List.mem_singleton.1 hn, ← (h.1.2.2 e).1]
    exact hok
theorem InnerM.yes {cs : List CredB} {ns : List (List UInt8)} {xs ys : List FactB} {k j : Nat} {c : CredB} {came : Bool} (h : InnerM cs ns xs k c j came ys) (hc : c ∈ cs) (hr : isCred c = true) {n : List UInt8} (h0 : inF ys c.head n = false) (h1 : stepF ys c ns n = true) : InnerM cs ns xs k c (j + 1) true (ys ++ [(c.head, n)]) := by
  have hp := h.1.1.snoc (stepF_der h.1.1.2 hc hr h1) (fun hm => by rw [inF_iff.2 hm] at h0; cases h0)
  refine ⟨⟨hp, fun _ => ?_, fun e => by cases e⟩, fun e => by cases e⟩
  rw [List.length_append, List.length_singleton]
  cases came with
  | true => have := h.1.2.1 rfl; omega
  | false => rw [(h.1.2.2 rfl).1]; omega
theorem InnerM.done {cs : List CredB} {ns : List (List UInt8)} {xs ys : List FactB} {k : Nat} {came : Bool} (hk : k < cs.length) (h : InnerM cs ns xs k cs[k] ns.length came ys) : RoundM cs ns xs (k + 1) came ys := by
  refine ⟨h.1.1, h.1.2.1, fun e => ⟨(h.1.2.2 e).1, fun c hc n hn => ?_⟩⟩
  rw [List.take_succ_eq_append_getElem hk] at hc
  rcases List.mem_append.1 hc with hc | hc
  · exact (h.1.2.2 e).2 c hc n hn
  · rw [List.mem_singleton.1 hc]
    exact h.2 e n (by rwa [List.take_length])
theorem RoundM.all {cs : List CredB} {ns : List (List UInt8)} {xs ys : List FactB} (hns : SetOf (whosOf cs) ns) (h : RoundM cs ns xs cs.length false ys) : ∀ f, Der cs f → f ∈ ys := by
  obtain ⟨e, hcl⟩ := h.2.2 rfl
  subst e
  rw [List.take_length] at hcl
  exact fun f hf => closed_der (names := ns) (fun c hc hr hk => (hns.2 _).2 ⟨whosOf_who hc, isCred_member hr hk⟩) (fun c hc _ n hn => hcl c hc n hn) hf

end Go.Proofs.Ytcdjjengkdbngaa

/- The contract of the document's Of, of layer 8. -/
namespace Go.Proofs.Ytcdjjengkdbngaa
open Go.RowKit

end Go.Proofs.Ytcdjjengkdbngaa

/- The contract of the document's Members, of layer 8. -/
namespace Go.Proofs.Ytcdjjengkdbngaa
open Go.RowKit
attribute [local go_sem ↓ high] run_eqg_role run_eql_role

end Go.Proofs.Ytcdjjengkdbngaa

/- The contract of the document's Roles, of layer 8. -/
namespace Go.Proofs.Ytcdjjengkdbngaa
open Go.RowKit
attribute [local go_sem ↓ high] run_eqg_role run_eql_role

end Go.Proofs.Ytcdjjengkdbngaa

/- The contract of the document's Same of layer 4. -/
namespace Go.Proofs.Ytcdjjengkdbngaa
open Go.RowKit


end Go.Proofs.Ytcdjjengkdbngaa

/- What the laws of layer 8 ask of the program's model: its contracts, as the fields of a structure. -/
namespace Go.Proofs.Ytcdjjengkdbngaa
open Go.RowKit

/-- Few credentials, of short texts. -/
def SmallC (ls : List CredB) : Prop := ls.length ≤ 1000 ∧ ∀ c ∈ ls, credShort c 100000

theorem totalC_len20 (a : List CredB) : a.length * 20 ≤ totalC a := by
  induction a with
  | nil => simp [totalC]
  | cons x l ih => rw [totalC, List.length_cons, sizeC]; omega

theorem SmallC.of {ls : List CredB} (h : totalC ls ≤ 20000) : SmallC ls :=
  ⟨by have := totalC_len20 ls; omega, fun _ hc => (sizeC_short (Nat.le_trans (totalC_mem hc) h)).mono (by omega)⟩

theorem ModelOf.len {ls : List CredB} {xs : List FactB} (h : ModelOf ls xs) : xs.length ≤ ls.length * (ls.length * 4) := by
  have := facts_le (rs := ls.map (·.head)) (ns := whosOf ls) (h.1.nodup ltF_ord) (fun f hf => by
    have hd := (h.2 f).1 hf
    refine ⟨?_, ?_⟩
    · obtain ⟨c, hc, _, e⟩ := hd.head
      exact List.mem_map.2 ⟨c, hc, e⟩
    · obtain ⟨c, hc, hr, hk, e⟩ := hd.who
      rw [← e]
      exact whosOf_who hc)
  rwa [List.length_map, whosOf_len] at this

theorem ModelOf.few {ls : List CredB} {xs : List FactB} (h : ModelOf ls xs) (hs : SmallC ls) : xs.length ≤ 4000000 :=
  Nat.le_trans h.len (Nat.le_trans (Nat.mul_le_mul hs.1 (Nat.mul_le_mul_right 4 hs.1)) (by decide))

/-- Does a credential bring somebody by one step, if p says who is in which role? -/
def stepP (p : RoleB → List UInt8 → Bool) (c : CredB) (names : List (List UInt8)) (w : List UInt8) : Bool :=
  if c.kind = 1 then c.who == w else if c.kind = 2 then p c.b w else if c.kind = 4 then p c.b w && p c.c w else names.any (fun b => p c.b b && p (b, c.w2) w)

/-- What a credential brings by one step. -/
def HoldsOf (p : RoleB → List UInt8 → Bool) (c : CredB) (names : List (List UInt8)) (hs : List FactB) : Prop :=
  RisingG ltF hs ∧ ∀ f : FactB, f ∈ hs ↔ isCred c = true ∧ f.1 = c.head ∧ stepP p c (names.filter isName) f.2 = true ∧ (c.kind ≠ 1 → f.2 ∈ names ∧ isName f.2 = true)

theorem HoldsOf.len {p : RoleB → List UInt8 → Bool} {c : CredB} {names : List (List UInt8)} {hs : List FactB} (h : HoldsOf p c names hs) : hs.length ≤ names.length + 1 := by
  have := nodup_lengthG hs (pairsF [c.head] (c.who :: names)) (h.1.nodup ltF_ord) fun f hf => by
    obtain ⟨_, h1, h2, h3⟩ := (h.2 f).1 hf
    unfold pairsF
    rw [List.mem_flatMap]
    refine ⟨f.1, by rw [h1]; simp, List.mem_map.2 ⟨f.2, ?_, rfl⟩⟩
    by_cases k : c.kind = 1
    · unfold stepP at h2
      rw [if_pos k] at h2
      rw [← beq_iff_eq.1 h2]
      simp
    · exact List.mem_cons_of_mem _ (h3 k).1
  rw [pairsF_len] at this
  simpa using this

theorem HoldsOf.one {p : RoleB → List UInt8 → Bool} {c : CredB} {names : List (List UInt8)} {a b : List FactB} (ha : HoldsOf p c names a) (hb : HoldsOf p c names b) : a = b :=
  ha.1.ext ltF_ord hb.1 fun x => (ha.2 x).trans (hb.2 x).symm

end Go.Proofs.Ytcdjjengkdbngaa

/- The law CheckSound, walked, over the contracts of the program's model (ModelK) and of its Check. -/
namespace Go.Proofs.Ytcdjjengkdbngaa
open Go.RowKit

/-- What is asked of the program's model here: three of its contracts. -/
structure MKs (MA : (Nat → Prop) → World → Nat → List CredB → Prop) : Prop where
  keep : ∀ {O S : Nat → Prop} {w w' : World} {g : Nat} {ls : List CredB}, MA O w g ls → Chg S w w' → (∀ i, O i → ¬ S i) → MA O w' g ls
  low : ∀ {O : Nat → Prop} {w : World} {g : Nat} {ls : List CredB}, MA O w g ls → ∀ i, O i → i < w.heap.size
  of : ∀ {D : Nat → Prop} (ao : Option Addr) (cp : Nat) (ls : List CredB) (w : World), SmallC ls → CredsAt D w ao ls → (ao = none → cp = 0) → (∀ i, D i → i < w.heap.size) → Calls Try.prog 10 #[.slice ao ls.length cp] w fun e w' => ∃ g O, e = .returned (.pointer (some ⟨g, 0, none⟩)) ∧ MA O w' g ls ∧ (∀ i, O i → w.heap.size ≤ i) ∧ Chg (fun _ => False) w w'
  inn : ∀ {O : Nat → Prop} (g : Nat) (ls : List CredB) (xs : List FactB) (r : RoleB) (s : List UInt8) (w : World), MA O w g ls → SmallC ls → ModelOf ls xs → r.1.length ≤ 100000 → r.2.length ≤ 100000 → s.length ≤ 100000 → Calls Try.prog 12 #[.pointer (some ⟨g, 0, none⟩), .agg #[.string ⟨r.1.toArray⟩, .string ⟨r.2.toArray⟩], .string ⟨s.toArray⟩] w fun e w' => e = .returned (.bool (inF xs r s)) ∧ Chg (fun _ => False) w w'

/-- What is asked of the program's Check. -/
def CheckC : Prop := ∀ (D E : Nat → Prop) (ao co : Option Addr) (cp cc : Nat) (ls : List StepB) (cs : List CredB) (wf : FactB) (w : World), totalSt ls + totalC cs ≤ 2500 → factShort wf 9223372036854775807 → ls.length ≤ cp → cp ≤ 9223372036854775807 → StepsAt D w ao ls → CredsAt E w co cs → KindsS ls → KindsC cs → Calls Try.prog 11 #[.slice ao ls.length cp, .slice co cs.length cc, .agg #[.string ⟨wf.1.1.toArray⟩, .string ⟨wf.1.2.toArray⟩, .string ⟨wf.2.toArray⟩]] w fun e w' => ∃ n f, e = .returned (.tuple #[.int .i64 (n : Nat), .int .i64 f]) ∧ n ≤ ls.length ∧ CheckIs ls cs wf n f ∧ Chg (fun _ => False) w w'

theorem good_der {ls : List StepB} {cs : List CredB} : ∀ (k : Nat), k ≤ ls.length → (∀ i, i < k → goodK ls cs i) → ∀ f ∈ factsK (ls.take k), Der cs f
  | 0, _, _ => fun f hf => by simp [factsK] at hf
  | k + 1, hk, hg => fun f hf => by
    have hlt : k < ls.length := by omega
    have ih := good_der k (by omega) (fun i hi => hg i (by omega))
    rw [List.take_succ_eq_append_getElem hlt, factsK_snoc] at hf
    rcases List.mem_append.1 hf with h | h
    · exact ih f h
    · rw [List.mem_singleton.1 h]
      obtain ⟨h1, h2⟩ := hg k (by omega) hlt
      have hc : ls[k].c ∈ cs := by simpa [hasC] using h1
      unfold followsK at h2
      simp only [Bool.and_eq_true, decide_eq_true_eq] at h2
      have := stepF_der ih hc h2.1 h2.2.2
      rw [← h2.2.1] at this
      exact this

theorem check_der {ls : List StepB} {cs : List CredB} {wf : FactB} {n : Nat} (h : CheckIs ls cs wf n 0) : Der cs wf := by
  rcases h with ⟨_, _, _, h4⟩ | ⟨h1, h2, h4⟩
  · cases h4
  · have hd := good_der ls.length (Nat.le_refl _) (fun i hi => h2 i (by omega))
    rw [List.take_length] at hd
    cases hin : inF (factsK ls) wf.1 wf.2 with
    | true => exact hd _ (inF_iff.1 hin)
    | false => rw [hin] at h4; cases h4

theorem sizeSt_mem {ls : List StepB} {s : StepB} (h : s ∈ ls) : sizeSt s ≤ totalSt ls := by
  induction ls with
  | nil => cases h
  | cons x l ih =>
    rw [totalSt]
    rcases List.mem_cons.1 h with rfl | h
    · omega
    · have := ih h; omega

set_option maxRecDepth 100000 in
set_option maxHeartbeats 8000000 in
theorem ksound_main {MA : (Nat → Prop) → World → Nat → List CredB → Prop} (HK0 : MKs MA) (HC0 : CheckC) (hex : ∀ cs : List CredB, ∃ xs, ModelOf cs xs) (hfirst : ∀ w : World, Calls Try.prog 7 #[] w fun e w' => e = .returned (.bool true) ∧ Chg (fun _ => False) w w')
    {D E : Nat → Prop} (ao co : Option Addr) (cp cc : Nat) (ls : List StepB) (cs : List CredB) (w : World) (hn : totalSt ls ≤ 4503599627370496) (hn2 : totalC cs ≤ 4503599627370496) (hcp : ls.length ≤ cp) (hcp2 : cp ≤ 9223372036854775807) (h : StepsAt D w ao ls) (hcs : CredsAt E w co cs) (hc0 : co = none → cc = 0) (hE : ∀ i, E i → i < w.heap.size) (hks : KindsS ls) (hkc : KindsC cs) :
    Calls Try.prog 3 #[.slice ao ls.length cp, .slice co cs.length cc] w fun e w' => e = .returned (.bool true) ∧ Chg (fun _ => False) w w' := by
  have HF := hid hfirst
  have HKH := hid HK0
  have HCC := hid HC0
  have HKD := hid (And.intro hks hkc)
  clear hks hkc
  have HX := hid (And.intro h (And.intro hcs hE))
  have H00 := hid hc0
  have hl := totalSt_len ls
  have hl2 := totalC_len20 cs
  clear hfirst HK0 HC0 h hcs hE hc0
  go_enter Try.func3, Try.ntmps3
  go_wp2_with fail
  refine (HF.out _).mono ?_
  rintro e w1 ⟨rfl, hc1⟩
  have HC1 := hid hc1
  have HG := hid (great9 ao cp ls w1 hn (HX.out.1.keep hc1 (fun _ _ => id)))
  clear hc1 HF
  go_wp2_with fail
  refine HG.out.mono ?_
  rintro e w2 ⟨rfl, hc2⟩
  have HC2 := hid (HC1.out.trans hc2 (fun _ _ h => h))
  have HG2 := hid (great_any co cc cs w2 hn2 (HX.out.2.1.keep HC2.out (fun _ _ => id)))
  clear hc2 HG HC1
  go_wp2_with fail
  refine HG2.out.mono ?_
  rintro e w3 ⟨rfl, hc3⟩
  have HC3 := hid (HC2.out.trans hc3 (fun _ _ h => h))
  have e1 : IntKind.i64.wrap ((totalSt ls : Int) + (totalC cs : Int)) = (totalSt ls : Int) + (totalC cs : Int) := by rw [IntKind.wrap_i64]; omega
  clear hc3 HG2 HC2
  by_cases hg : totalSt ls + totalC cs ≤ 2000
  · have z1 : decide ((2000 : Int) < (totalSt ls : Int) + (totalC cs : Int)) = false := decide_eq_false (by omega)
    have HSM : Hid (SmallC cs) := hid (SmallC.of (by omega))
    have HO := hid (HKH.out.of co cc cs w3 HSM.out (HX.out.2.1.keep HC3.out (fun _ _ => id)) H00.out (fun i hi => Nat.lt_of_lt_of_le (HX.out.2.2 i hi) HC3.out.size))
    go_wp2_with fail
    refine HO.out.mono ?_
    clear z1 e1 HO
    rintro e w4 ⟨g, O, rfl, hma, hol, hc4⟩
    obtain ⟨xs, hxs⟩ := hex cs
    have HM := hid (And.intro hma hxs)
    have HC4 := hid (HC3.out.trans hc4 (fun _ _ h => h))
    clear hma hol hc4 hxs HC3
    go_wp2
    go_loopw [22] (fun i wr => ∃ k : Nat, k ≤ ls.length ∧ i = .int .i64 k ∧ Hid (Chg (fun _ => False) w4 wr)) (fun i _ => ls.length - (intOf i).toNat)
    case atStart => exact ⟨0, Nat.zero_le _, rfl, hid (Chg.refl _ _)⟩
    case round =>
      obtain ⟨k, hk, rfl, hc⟩ := hrel
      by_cases hlt : k < ls.length
      · obtain ⟨b, off, hao, _, ⟨⟨a0, a1, a2, a3, a4, a5, a6, a7, a8⟩, ⟨b0, b1, b2⟩⟩, hss⟩ := (HX.out.1.keep (HC4.out.trans hc.out (fun _ _ h => h)) (fun _ _ => id)) k hlt
        have HSZ : Hid (sizeSt ls[k] ≤ 2000) := hid (Nat.le_trans (sizeSt_mem (List.getElem_mem hlt)) (by omega))
        have HKL := hid hlt
        generalize ls[k] = s at *
        change wr.cell? ⟨b, off + k * 12 + 10, none⟩ = _ at b1
        change wr.cell? ⟨b, off + k * 12 + 11, none⟩ = _ at b2
        have hSb : (wr.alloc (.cells #[.int .i64 s.c.kind, .string ⟨s.c.head.1.toArray⟩, .string ⟨s.c.head.2.toArray⟩, .string ⟨s.c.who.toArray⟩, .string ⟨s.c.b.1.toArray⟩, .string ⟨s.c.b.2.toArray⟩, .string ⟨s.c.c.1.toArray⟩, .string ⟨s.c.c.2.toArray⟩, .string ⟨s.c.w2.toArray⟩, .string ⟨s.f.1.1.toArray⟩, .string ⟨s.f.1.2.toArray⟩, .string ⟨s.f.2.toArray⟩] 36)).heap[wr.heap.size]? = some (.cells (stepBox s) 36 (0, 0)) := heap_alloc_new wr _
        have hcA : Chg (fun _ => False) wr (wr.alloc (.cells #[.int .i64 s.c.kind, .string ⟨s.c.head.1.toArray⟩, .string ⟨s.c.head.2.toArray⟩, .string ⟨s.c.who.toArray⟩, .string ⟨s.c.b.1.toArray⟩, .string ⟨s.c.b.2.toArray⟩, .string ⟨s.c.c.1.toArray⟩, .string ⟨s.c.c.2.toArray⟩, .string ⟨s.c.w2.toArray⟩, .string ⟨s.f.1.1.toArray⟩, .string ⟨s.f.1.2.toArray⟩, .string ⟨s.f.2.toArray⟩] 36)) := (Chg.refl _ wr).alloc _
        obtain ⟨_, ⟨t0, t1, t2⟩⟩ := step_at_blk hSb
        simp only [Nat.zero_add] at t0 t1 t2
        have HSB := hid hSb
        have HC2 := hid (hc.out.trans hcA (fun _ _ h => h))
        have HQ := hid (HCC.out D E ao co cp cc ls cs s.f (wr.alloc (.cells #[.int .i64 s.c.kind, .string ⟨s.c.head.1.toArray⟩, .string ⟨s.c.head.2.toArray⟩, .string ⟨s.c.who.toArray⟩, .string ⟨s.c.b.1.toArray⟩, .string ⟨s.c.b.2.toArray⟩, .string ⟨s.c.c.1.toArray⟩, .string ⟨s.c.c.2.toArray⟩, .string ⟨s.c.w2.toArray⟩, .string ⟨s.f.1.1.toArray⟩, .string ⟨s.f.1.2.toArray⟩, .string ⟨s.f.2.toArray⟩] 36)) (by omega) hss.2 hcp hcp2 (HX.out.1.keep (HC4.out.trans HC2.out (fun _ _ h => h)) (fun _ _ => id)) (HX.out.2.1.keep (HC4.out.trans HC2.out (fun _ _ h => h)) (fun _ _ => id)) HKD.out.1 HKD.out.2)
        clear hSb hcA hc hss
        subst hao
        go_wp2_with fail
        refine HQ.out.mono ?_
        clear HQ a0 a1 a2 a3 a4 a5 a6 a7 a8 b0 b1 b2 t0 t1 t2
        generalize (wr.alloc (.cells #[.int .i64 s.c.kind, .string ⟨s.c.head.1.toArray⟩, .string ⟨s.c.head.2.toArray⟩, .string ⟨s.c.who.toArray⟩, .string ⟨s.c.b.1.toArray⟩, .string ⟨s.c.b.2.toArray⟩, .string ⟨s.c.c.1.toArray⟩, .string ⟨s.c.c.2.toArray⟩, .string ⟨s.c.w2.toArray⟩, .string ⟨s.f.1.1.toArray⟩, .string ⟨s.f.1.2.toArray⟩, .string ⟨s.f.2.toArray⟩] 36)) = w5 at *
        generalize wr.heap.size = X at *
        rintro e w6 ⟨n, f, rfl, hnl, hci, hc6⟩
        have HC6 := hid (HC2.out.trans hc6 (fun _ _ h => h))
        obtain ⟨_, ⟨t0, t1, t2⟩⟩ := step_at_blk (blk_keep HSB.out hc6 id)
        simp only [Nat.zero_add] at t0 t1 t2
        have HCI := hid hci
        clear hc6 HC2 hnl hci HSB
        by_cases hf : f = 0
        · subst hf
          have hd := check_der HCI.out
          have hin : inF xs s.f.1 s.f.2 = true := inF_iff.2 ((HM.out.2.2 _).2 hd)
          have hzs : sizeSt s = sizeC s.c + s.f.2.length + s.f.1.1.length + s.f.1.2.length := rfl
          have HIQ := hid (HKH.out.inn g cs xs s.f.1 s.f.2 w6 (HKH.out.keep HM.out.1 HC6.out (fun _ _ => id)) HSM.out HM.out.2 (by have := HSZ.out; omega) (by have := HSZ.out; omega) (by have := HSZ.out; omega))
          rw [hin] at HIQ
          clear hd hin hzs
          go_wp2_with fail
          refine HIQ.out.mono ?_
          clear HIQ t0 t1 t2
          rintro e w7 ⟨rfl, hc7⟩
          have HC7 := hid (HC6.out.trans hc7 (fun _ _ h => h))
          clear hc7 HC6
          go_wp2
          go_roundw
          case rel => exact ⟨k + 1, by have := HKL.out; omega, by go_num, HC7⟩
          case measure => have := HKL.out; simp [intOf]; omega
        · have z2 : (f == 0) = false := by simpa using hf
          clear hf t0 t1 t2
          go_wp2
          go_roundw
          case rel => exact ⟨k + 1, by have := HKL.out; omega, by go_num, HC6⟩
          case measure => have := HKL.out; simp [intOf]; omega
      · have HEND := hid (HC4.out.trans hc.out (fun _ _ h => h))
        clear hc
        go_wp2
        go_ret
        exact ⟨rfl, HEND.out⟩
  · have z1 : decide ((2000 : Int) < (totalSt ls : Int) + (totalC cs : Int)) = true := decide_eq_true (by omega)
    go_wp2
    go_ret
    exact ⟨rfl, HC3.out⟩
end Go.Proofs.Ytcdjjengkdbngaa

/- The arguments of laws, opened to cells: bytes, a small array. -/
namespace Go.Proofs.Ytcdjjengkdbngaa
open Go.ChangeShapes Go.WideShapes Go.ChangeAt Go.RowKit Go.Deep

theorem Try.own : ownKnob Try.prog.godebug = none := by kernel_rfl
theorem Try.laidOut : laidOutB Try.prog = true := by kernel_rfl

theorem spot_none {w : World} {a : Addr} {v : Value} (h : w.cell? a = some v) : a = ⟨a.block, a.off, none⟩ := by
  obtain ⟨b, o, s⟩ := a
  cases s with
  | none => rfl
  | some x =>
    simp only [World.cell?] at h
    split at h
    · simp at h
    · cases h

theorem add_zero (a : Addr) : a.add 0 = a := by
  unfold Addr.add
  simp

section
variable {H : Type} {enc : TypeId × Value → H} {w : World} {base : Nat} {held : Bool} {fuel : Nat}

end

end Go.Proofs.Ytcdjjengkdbngaa

/- A role that came in, opened to its cells. -/
namespace Go.Proofs.Ytcdjjengkdbngaa
open Go.ChangeShapes Go.WideShapes Go.ChangeAt Go.RowKit Go.Deep

theorem choose_roles {α : Type} (n : Nat) (p : Nat → α → Prop) (h : ∀ i, i < n → ∃ x, p i x) : ∃ l : List α, l.length = n ∧ ∀ i (hi : i < l.length), p i l[i] := by
  induction n with
  | zero => exact ⟨[], rfl, fun i hi => by simp at hi⟩
  | succ n ih =>
    obtain ⟨l, hl, hp⟩ := ih (fun i hi => h i (by omega))
    obtain ⟨x, hx⟩ := h n (by omega)
    refine ⟨l ++ [x], by simp [hl], fun i hi => ?_⟩
    by_cases hin : i < l.length
    · rw [List.getElem_append_left hin]
      exact hp i hin
    · have : i = n := by simp [hl] at hi; omega
      subst this
      rw [List.getElem_append_right (by omega)]
      simpa [hl] using hx

section
variable {H : Type} {enc : TypeId × Value → H} {w : World} {base : Nat} {held : Bool} {fuel : Nat}

set_option maxRecDepth 100000 in
/-- Two cells that are read as a role. -/
theorem open_role_cells {spare : Nat → Bool} {cs : List Value} {x : DataW H × List MemPlace} (h : DataW.trod enc Try.prog w base spare held fuel 30 cs = some x) :
    ∃ r : RoleB, cs = roleCells r ∧ r.1.length ≤ 9223372036854775807 ∧ r.2.length ≤ 9223372036854775807 ∧ 1 + r.1.length + r.2.length ≤ Rows.uptoBulk x.1 := by
  obtain ⟨y0, y1, n, rfl, hl, h0, h1⟩ := trod_struct2 Try.underlying30 h
  have hc : Try.prog.cellsOf 30 = 2 := by kernel_rfl
  rw [hc] at hl
  match cs, hl with
  | [c0, c1], _ =>
    have e0 : DataW.trod enc Try.prog w base spare held n 9 [c0] = some y0 := h0
    have e1 : DataW.trod enc Try.prog w base spare held n 9 [c1] = some y1 := h1
    obtain ⟨s0, hs0, rfl, hm0⟩ := DataW.trod_string Try.underlying9 e0
    obtain ⟨s1, hs1, rfl, hm1⟩ := DataW.trod_string Try.underlying9 e1
    simp only [List.cons.injEq, and_true] at hs0 hs1
    subst hs0
    subst hs1
    unfold maxLen at hm0 hm1
    refine ⟨(s0.data.toList, s1.data.toList), rfl, hm0, hm1, ?_⟩
    simp [Rows.uptoBulk, Rows.uptoBulkAll]
    omega

end
end Go.Proofs.Ytcdjjengkdbngaa
