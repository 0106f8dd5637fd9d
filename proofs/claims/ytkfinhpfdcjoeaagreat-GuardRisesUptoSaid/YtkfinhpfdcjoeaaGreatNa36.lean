/- Texts that the proof leans on, in one: PcComp, PcSet. -/
import Derived.Test.YtkfinhpfdcjoeaaGreatNa35
/- slices.Compact at credentials: the walk. -/
namespace Go.Proofs.YtkfinhpfdcjoeaaGreat
section
open Go.RowKit Go.Lib Go.Sort
set_option maxRecDepth 100000 in
set_option maxHeartbeats 8000000 in
theorem ccompact_walk (g cap:Nat) (d:Array CredB) (w:World) (hH:HoldC w g cap d) (hsz:d.size≤4194304) (hcap:d.size≤cap) (hcm:cap≤9223372036854775807) :
  Calls Tryz.prog 42 #[.slice (some ⟨g,0,none⟩) d.size cap] w fun e w'=>e = .returned (.slice (some ⟨g,0,none⟩) (compactUpTo d d.size).length cap)∧HoldC w' g cap (compactUpTo d d.size).toArray∧Chg (fun k=>k=g) w w':=by
 have same:(∀j,j<d.size→keeps d j=true)→(compactUpTo d d.size).length=d.size∧∀j,j<(compactUpTo d d.size).length→d[j]! = (compactUpTo d d.size)[j]!:=by
  intro hall
  have e:compactUpTo d d.size=d.toList:=by rw[compactUpTo_all d _ hall,range_map_get]
  rw[e]
  refine⟨by simp,fun j hj=>?_⟩
  have hj':j<d.size:=by simpa using hj
  simp [getElem!_pos,hj']
 have HS:=hid same
 clear same
 by_cases h2:d.size<2
 ·have HH:=hid hH
  clear hH
  go_enter Tryz.func42,Tryz.ntmps42
  go_wp2
  go_ret
  obtain⟨e1,e2⟩:=HS.out (fun j hj=>keeps_lt_one d j (by omega))
  exact⟨by rw[e1];rfl,HH.out.low (by omega) e2,Chg.refl _ _⟩
 ·go_enter Tryz.func42,Tryz.ntmps42
  go_wp2
  go_loopw [3] (fun s3 wr=>∃k:Nat,1≤k∧k≤d.size∧s3 = .int .i64 k∧HoldC wr g cap d∧Chg (fun k=>k=g) w wr∧Hid (∀j,j<k→keeps d j=true)) (fun s3 _=>d.size-(intOf s3).toNat)
  case atStart=>exact⟨1,Nat.le_refl _,by omega,rfl,hH,Chg.refl _ _,keeps_lt_one d⟩
  case round=>
   obtain⟨k,hk1,hk,rfl,hHr,hc,A⟩:=hrel
   by_cases hlt:k<d.size
   ·have HX:=hid (aI (hHr.cred hlt) (hHr.cred (j:=k-1) (by omega)))
    have HC:=hid (aI hHr hc)
    have HZ:Hid (IntKind.i64.wrap ((k:Int)-1)=((k-1:Nat):Int)∧(0:Int)≤(k:Int)-1∧((k:Int)-1).toNat=k-1∧((k-1:Nat):Int)<d.size∧(k:Int)<d.size):=hid ⟨by rw[IntWalk.i64_in _ (by omega)];omega,by omega,by omega,by omega,by omega⟩
    clear hHr hc hH
    generalize hx:d[k]! = x at *
    generalize hy:d[k-1]! = y at *
    have B:=hid (aI hx hy)
    clear hx hy
    go_wp2
    refine wp_region_specs (compSpecs1 g d.size cap k x y) [16,17,18,19,20,21,22,23,24,25] [0,3] (by kernel_rfl) (by kernel_rfl) (by rfl) (by kernel_rfl) ?start ?obs ?fin
    case start=>
     simp only[List.forall_mem_cons]
     exact⟨⟨_,rfl,rfl⟩,⟨_,rfl,rfl⟩,fun _ h=>by cases h⟩
    case obs=>
     clear HC HS
     refine Obs.cons none (by kernel_rfl) ?_ ?_
     ·refine Ob.plain fun a w hR hk K k9=>?_
      obtain⟨_,e0,f0⟩:=hk 0 (by decide)
      clear hk
      go_simp
      exact k9 _ _ R0 f0
     refine Obs.cons none (by kernel_rfl) ?_ ?_
     ·refine Ob.plain fun a w hR hk K k9=>?_
      obtain⟨_,e3,f3⟩:=hk 3 (by decide)
      clear hk
      go_simp
      exact k9 _ _ R0 f3
     refine Obs.cons none (by kernel_rfl) ?_ ?_
     ·refine Ob.plain fun a w hR hk K k9=>?_
      obtain⟨_,e16,rfl⟩:=hk 16 (by decide)
      obtain⟨_,e17,rfl⟩:=hk 17 (by decide)
      clear hk
      clear HX
      obtain⟨z1,z2,z3,z4,z5⟩:=HZ.out
      go_simp
      exact k9 _ _ R0 rfl
     refine Obs.cons none (by kernel_rfl) ?_ ?_
     ·refine Ob.plain fun a w hR hk K k9=>?_
      obtain⟨_,e18,rfl⟩:=hk 18 (by decide)
      clear hk
      obtain⟨a0,a1,a2,a3,a4,a5,a6,a7,a8⟩:=HX.out.1.keep hR id
      clear HX
      go_simp
      exact k9 _ _ R0 rfl
     refine Obs.cons none (by kernel_rfl) ?_ ?_
     ·refine Ob.plain fun a w hR hk K k9=>?_
      obtain⟨_,e0,f0⟩:=hk 0 (by decide)
      clear hk
      go_simp
      exact k9 _ _ R0 f0
     refine Obs.cons none (by kernel_rfl) ?_ ?_
     ·refine Ob.plain fun a w hR hk K k9=>?_
      obtain⟨_,e3,f3⟩:=hk 3 (by decide)
      clear hk
      go_simp
      exact k9 _ _ R0 f3
     refine Obs.cons none (by kernel_rfl) ?_ ?_
     ·refine Ob.plain fun a w hR hk K k9=>?_
      obtain⟨_,e21,rfl⟩:=hk 21 (by decide)
      clear hk
      clear HX
      obtain⟨z1,z2,z3,z4,z5⟩:=HZ.out
      go_simp
      exact k9 _ _ R0 rfl
     refine Obs.cons none (by kernel_rfl) ?_ ?_
     ·refine Ob.plain fun a w hR hk K k9=>?_
      obtain⟨_,e20,rfl⟩:=hk 20 (by decide)
      obtain⟨_,e22,rfl⟩:=hk 22 (by decide)
      clear hk
      clear HX
      obtain⟨z1,z2,z3,z4,z5⟩:=HZ.out
      go_simp
      exact k9 _ _ R0 rfl
     refine Obs.cons none (by kernel_rfl) ?_ ?_
     ·refine Ob.plain fun a w hR hk K k9=>?_
      obtain⟨_,e23,rfl⟩:=hk 23 (by decide)
      clear hk
      obtain⟨a0,a1,a2,a3,a4,a5,a6,a7,a8⟩:=HX.out.2.keep hR id
      clear HX
      go_simp
      exact k9 _ _ R0 rfl
     refine Obs.cons none (by kernel_rfl) ?_ ?_
     ·refine Ob.plain fun a w hR hk K k9=>?_
      obtain⟨_,e19,rfl⟩:=hk 19 (by decide)
      obtain⟨_,e24,rfl⟩:=hk 24 (by decide)
      clear hk
      clear HX
      go_simp
      simp only[run_eqgC,run_eqlC,Result.andThen]
      go_simp
      exact k9 _ _ R0 rfl
     exact Obs.nil
    case fin=>
     intro vals w9 hc9 hv
     have h25:vals 25 = .bool (eqC x y):=hv 25 (by decide)
     simp only[putAll,List.setIfInBounds_toArray,List.set_cons_zero,List.set_cons_succ,h25]
     have HC9:=hid (aI (HC.out.1.keep hc9 id) (HC.out.2.trans hc9 (fun _ _ h=>h.elim)))
     clear hc9 hv h25 HC HX
     cases hq:eqC x y with
     | true=>
      have HK:Hid (keeps d k=false):=hid (keeps_neg (by omega) (by rw[B.out.1,B.out.2];exact eqC_true.1 hq))
      clear hq
      go_wp2
      go_loopw [3,5] (fun s3 s5 wr=>∃(kk k2:Nat) (dk:Array CredB),s3 = .int .i64 kk∧s5 = .int .i64 k2∧1≤k2∧k+k2≤d.size∧Chg (fun k=>k=g) w wr∧HoldC wr g cap dk∧CompInv d (k+k2) kk dk) (fun _ s5 _=>d.size-(k+(intOf s5).toNat))
      case atStart=>exact⟨k,1,d,rfl,rfl,Nat.le_refl _,by omega,HC9.out.2,HC9.out.1,CompInv.start A.out HK.out⟩
      case round=>
       obtain⟨kk,k2,dk,rfl,rfl,h1,hle,hc,hHk,hI⟩:=hrel
       have hkk:=hI.lt
       have hds:=hI.size
       by_cases hlt2:k+k2<d.size
       ·have c1:=hHk.cred (j:=k+k2) (by omega)
        have c2:=hHk.cred (j:=k+k2-1) (by omega)
        rw[hI.high (k+k2) (by omega),show (k+k2)*9=k*9+k2*9 by omega]at c1
        rw[hI.high (k+k2-1) (by omega),show (k+k2-1)*9=k*9+(k2-1)*9 by omega]at c2
        have HX:=hid (aI c1 c2)
        have HC:=hid (aI hHk (aI hc hI))
        have HZ2:Hid (IntKind.i64.wrap ((k2:Int)-1)=((k2-1:Nat):Int)∧(0:Int)≤(k2:Int)-1∧((k2:Int)-1).toNat=k2-1∧((k2-1:Nat):Int)<((d.size-k:Nat):Int)∧(k2:Int)<((d.size-k:Nat):Int)):=hid ⟨by rw[IntWalk.i64_in _ (by omega)];omega,by omega,by omega,by omega,by omega⟩
        clear HZ
        have HZ:=HZ2
        clear HZ2 c1 c2 hHk hc hI
        generalize hu:d[k+k2]! = u at *
        generalize hv:d[k+k2-1]! = v at *
        have C:=hid (aI hu hv)
        clear hu hv
        go_wp2
        refine wp_region_specs (compSpecs2 g (d.size-k) (cap-k) k k2 u v) [35,36,37,38,39,40,41,42,43,44] [4,5] (by kernel_rfl) (by kernel_rfl) (by rfl) (by kernel_rfl) ?start2 ?obs2 ?fin2
        case start2=>
         simp only[List.forall_mem_cons]
         exact⟨⟨_,rfl,rfl⟩,⟨_,rfl,rfl⟩,fun _ h=>by cases h⟩
        case obs2=>
         clear HC HS
         refine Obs.cons none (by kernel_rfl) ?_ ?_
         ·refine Ob.plain fun a w hR hk K k9=>?_
          obtain⟨_,e4,f4⟩:=hk 4 (by decide)
          clear hk
          go_simp
          exact k9 _ _ R0 f4
         refine Obs.cons none (by kernel_rfl) ?_ ?_
         ·refine Ob.plain fun a w hR hk K k9=>?_
          obtain⟨_,e5,f5⟩:=hk 5 (by decide)
          clear hk
          go_simp
          exact k9 _ _ R0 f5
         refine Obs.cons none (by kernel_rfl) ?_ ?_
         ·refine Ob.plain fun a w hR hk K k9=>?_
          obtain⟨_,e35,rfl⟩:=hk 35 (by decide)
          obtain⟨_,e36,rfl⟩:=hk 36 (by decide)
          clear hk
          clear HX
          obtain⟨z1,z2,z3,z4,z5⟩:=HZ.out
          go_simp
          exact k9 _ _ R0 rfl
         refine Obs.cons none (by kernel_rfl) ?_ ?_
         ·refine Ob.plain fun a w hR hk K k9=>?_
          obtain⟨_,e37,rfl⟩:=hk 37 (by decide)
          clear hk
          obtain⟨a0,a1,a2,a3,a4,a5,a6,a7,a8⟩:=HX.out.1.keep hR id
          clear HX
          go_simp
          exact k9 _ _ R0 rfl
         refine Obs.cons none (by kernel_rfl) ?_ ?_
         ·refine Ob.plain fun a w hR hk K k9=>?_
          obtain⟨_,e4,f4⟩:=hk 4 (by decide)
          clear hk
          go_simp
          exact k9 _ _ R0 f4
         refine Obs.cons none (by kernel_rfl) ?_ ?_
         ·refine Ob.plain fun a w hR hk K k9=>?_
          obtain⟨_,e5,f5⟩:=hk 5 (by decide)
          clear hk
          go_simp
          exact k9 _ _ R0 f5
         refine Obs.cons none (by kernel_rfl) ?_ ?_
         ·refine Ob.plain fun a w hR hk K k9=>?_
          obtain⟨_,e40,rfl⟩:=hk 40 (by decide)
          clear hk
          clear HX
          obtain⟨z1,z2,z3,z4,z5⟩:=HZ.out
          go_simp
          exact k9 _ _ R0 rfl
         refine Obs.cons none (by kernel_rfl) ?_ ?_
         ·refine Ob.plain fun a w hR hk K k9=>?_
          obtain⟨_,e39,rfl⟩:=hk 39 (by decide)
          obtain⟨_,e41,rfl⟩:=hk 41 (by decide)
          clear hk
          clear HX
          obtain⟨z1,z2,z3,z4,z5⟩:=HZ.out
          go_simp
          exact k9 _ _ R0 rfl
         refine Obs.cons none (by kernel_rfl) ?_ ?_
         ·refine Ob.plain fun a w hR hk K k9=>?_
          obtain⟨_,e42,rfl⟩:=hk 42 (by decide)
          clear hk
          obtain⟨a0,a1,a2,a3,a4,a5,a6,a7,a8⟩:=HX.out.2.keep hR id
          clear HX
          go_simp
          exact k9 _ _ R0 rfl
         refine Obs.cons none (by kernel_rfl) ?_ ?_
         ·refine Ob.plain fun a w hR hk K k9=>?_
          obtain⟨_,e38,rfl⟩:=hk 38 (by decide)
          obtain⟨_,e43,rfl⟩:=hk 43 (by decide)
          clear hk
          clear HX
          go_simp
          simp only[run_neqgC,run_neqC,Result.andThen]
          go_simp
          exact k9 _ _ R0 rfl
         exact Obs.nil
        case fin2=>
         intro vals w9 hc9 hv
         have h44:vals 44 = .bool (!eqC u v):=hv 44 (by decide)
         simp only[putAll,List.setIfInBounds_toArray,List.set_cons_zero,List.set_cons_succ,h44]
         have HC9:=hid (aI (HC.out.1.keep hc9 id) (aI (HC.out.2.1.trans hc9 (fun _ _ h=>h.elim)) HC.out.2.2))
         clear hc9 hv h44 HC HX
         cases hq:eqC u v with
         | true=>
          have HX:=hid (aI HC9.out.1 (aI HC9.out.2.1 (HC9.out.2.2.skip (keeps_neg (by omega) (by rw[C.out.1,C.out.2];exact eqC_true.1 hq)))))
          clear HC9 hq
          go_wp2
          go_roundw
          case rel=>exact⟨kk,k2+1,dk,rfl,by go_num,by omega,by omega,HX.out.2.1,HX.out.1,HX.out.2.2⟩
          case measure=>simp [intOf];omega
         | false=>
          have hne:¬u=v:=fun e=>by rw[e]at hq;rw[eqC_true.2 rfl]at hq;cases hq
          have HX:=hid (aI (HC9.out.1.set (k:=kk) (u:=u) (by omega) (by omega)) (aI (HC9.out.2.1.trans (chg_setCells (credCells u) (kk*9) w9) (fun i hi h=>h)) (by have:=HC9.out.2.2.keep hlt2 (keeps_pos (by rw[C.out.1,C.out.2];exact hne));rwa [C.out.1]at this)))
          have c1:=HC9.out.1.cred (j:=k+k2) (by omega)
          rw[HC9.out.2.2.high (k+k2) (by omega),show (k+k2)*9=k*9+k2*9 by omega,C.out.1]at c1
          have c3:=HC9.out.1.cred (j:=kk) (by omega)
          have hfz:=HC9.out.1.froz
          obtain⟨c1a,c1b,c1c,c1d,c1e,c1f,c1g,c1h,c1i⟩:=c1
          obtain⟨c3a,c3b,c3c,c3d,c3e,c3f,c3g,c3h,c3i⟩:=c3
          have z0:=hfz (kk*9)
          have z1:=hfz (kk*9+1)
          have z2:=hfz (kk*9+2)
          have z3:=hfz (kk*9+3)
          have z4:=hfz (kk*9+4)
          have z5:=hfz (kk*9+5)
          have z6:=hfz (kk*9+6)
          have z7:=hfz (kk*9+7)
          have z8:=hfz (kk*9+8)
          clear HC9 hq hne hfz
          go_wp2
          go_roundw
          case rel=>exact⟨kk+1,k2+1,dk.setIfInBounds kk u,by go_num,by go_num,by omega,by omega,HX.out.2.1,HX.out.1,HX.out.2.2⟩
          case measure=>simp [intOf];omega
       ·have hend:k+k2=d.size:=by omega
        have hcl:∀ty,(Builtin.clear_ #[26] ty #[.slice (some ⟨g,kk*9,none⟩) (d.size-kk) (cap-kk)]).run Tryz.prog wr = .ok (.tuple #[]) (wr.setCells g (kk*9) (Builtin.zeroCells credZero.toArray (d.size-kk)).toList):=
         fun ty=>run_clear_gen wr 26 34 ty (.agg credZero.toArray) _ 9 Tryz.underlying26 (fun w=>by kernel_rfl) g (kk*9) _ _ (by omega) rfl (zero_cells _).1 (zero_cells _).2 (fun j hj=>by
          obtain⟨cur,b1,b2⟩:=hHk.blk
          rw[bC b1,Array.getElem?_eq_getElem (by omega)];rfl) (fun j hj=>hHk.froz _)
        rw[hend]at hI
        have hX:=hHk.low (c:=compactUpTo d d.size) (by rw[hI.len];omega) (fun j hj=>by
         have e:=hI.low j (by rw[hI.len]at hj;exact hj)
         rw[List.getElem?_eq_getElem hj]at e
         rw[getElem!_pos (compactUpTo d d.size) j hj]
         exact(Option.some.inj e).symm)
        have hY:=HoldC.aboves (Builtin.zeroCells credZero.toArray (d.size-kk)).toList (kk*9) wr hX (by simp [hI.len])
        have HX:=hid (aI hI.len (aI hY.1 (hc.trans hY.2 (fun _ _ h=>h))))
        clear hX hY hHk hI hc
        go_wp2
        go_ret
        exact⟨by rw[HX.out.1];rfl,HX.out.2.1,HX.out.2.2⟩
     | false=>
      have hne:¬x=y:=fun e=>by rw[e]at hq;rw[eqC_true.2 rfl]at hq;cases hq
      have A2:Hid (∀j,j<k+1→keeps d j=true):=hid (fun j hj=>by
       by_cases e:j=k
       ·subst e
        exact keeps_pos (by rw[B.out.1,B.out.2];exact hne)
       ·exact A.out j (by omega))
      clear hq hne
      go_wp2
      go_roundw
      case rel=>exact⟨k+1,by omega,by omega,by go_num,HC9.out.1,HC9.out.2,A2⟩
      case measure=>simp [intOf];omega
   ·have hk2:k=d.size:=by omega
    have HH:=hid (aI hHr hc)
    clear hHr hc hH
    subst hk2
    go_wp2
    go_ret
    obtain⟨e1,e2⟩:=HS.out A.out
    exact⟨by rw[e1];rfl,HH.out.1.low (by omega) e2,HH.out.2⟩
theorem ccomp_len (d:Array CredB):∀m,(compactUpTo d m).length≤m
 | 0=>by simp [compactUpTo]
 | m+1=>by
  have:=ccomp_len d m
  rw[compactUpTo_succ,List.length_append]
  split <;> simp <;> omega
theorem HoldC.own {B:Nat} {w:World} {g cap:Nat} {c:List CredB} (h:HoldC w g cap c.toArray) (hg:B≤g) (hl:c.length≤cap) (hm:cap≤maxLen):OwnC B w (.slice (some ⟨g,0,none⟩) c.length cap) c:=by
 obtain⟨cur,b1,b2⟩:=h.blk
 refine⟨by rw[credRow_length],.inr ⟨g,cap,cur,rfl,hg,b1,hl,hm,b2,?_⟩⟩
 apply List.ext_getElem?
 intro i
 rw[List.getElem?_take]
 by_cases hi:i<c.length*9
 ·rw[if_pos hi]
  have e1:cur.toList[i]? = cur[i]?:=by simp
  rw[e1]
  have hj:i / 9<c.length:=by omega
  have a:=h.at_ (i / 9) (by simpa using hj) (i % 9) (Nat.mod_lt _ (by decide))
  rw[bC b1,show i / 9*9+i % 9=i by omega]at a
  have b:=credRow_get c (i / 9) (i % 9) hj (Nat.mod_lt _ (by decide))
  rw[show i / 9*9+i % 9=i by omega]at b
  rw[a,b]
  simp [hj]
 ·rw[if_neg hi,List.getElem?_eq_none (by rw[credRow_length];omega)]
theorem OwnC.hold {B:Nat} {w:World} {g cap:Nat} {ls:List CredB} (h:OwnC B w (.slice (some ⟨g,0,none⟩) ls.length cap) ls):HoldC w g cap ls.toArray∧B≤g∧ls.length≤cap∧cap≤maxLen:=by
 have hall:=h
 rcases h.2 with ⟨he,_⟩|⟨g',cap',cur,he,hg,hh,h1,h2,h3,h4⟩
 ·cases he
 ·cases he
  refine⟨⟨⟨cur,hh,h3⟩,fun j hj i hi=>?_⟩,hg,h1,h2⟩
  have hj':j<ls.length:=by simpa using hj
  have hget:=credRow_get ls j i hj' hi
  have hs:i<(credCells ls[j]).length:=hi
  rw[List.getElem?_eq_getElem hs]at hget
  have:=hall.cells (g:=g) rfl (j*9+i) _ hget
  rw[add_off,Nat.zero_add]at this
  rw[this]
  simp [hj',hs]
theorem pccompact_own {B:Nat} {w:World} {ao:Option Addr} {cap:Nat} {ls:List CredB} (h:OwnC B w (.slice ao ls.length cap) ls) (hl:ls.length≤4194304) :
  Calls Tryz.prog 42 #[.slice ao ls.length cap] w fun e w'=>(∃ao2 cap2,e = .returned (.slice ao2 (Lib.compact ls).length cap2)∧OwnC B w' (.slice ao2 (Lib.compact ls).length cap2) (Lib.compact ls))∧(∀S:Nat→Prop,(∀k,B≤k→S k)→Chg S w w'):=by
 have hall:=h
 rcases h.2 with ⟨he,h0⟩|⟨g,cap',cur,he,hg,hh,h1,h2,h3,h4⟩
 ·have:ls=[]:=List.eq_nil_of_length_eq_zero h0
  subst this
  cases he
  go_enter Tryz.func42,Tryz.ntmps42
  go_wp2
  go_ret
  exact⟨⟨none,0,rfl,hall⟩,fun S _=>Chg.refl _ _⟩
 ·cases he
  obtain⟨hH,_,_,_⟩:=hall.hold
  have hwk:=ccompact_walk g cap ls.toArray w hH (by simpa using hl) (by simpa using h1) (by unfold maxLen at h2;exact h2)
  have hs:ls.toArray.size=ls.length:=by simp
  rw[hs]at hwk
  refine hwk.mono ?_
  rintro e w' ⟨rfl,hH',hc⟩
  exact⟨⟨_,_,rfl,hH'.own hg (Nat.le_trans (ccomp_len ls.toArray ls.length) h1) h2⟩,fun S hS=>hc.mono (fun k _ hk=>by subst hk;exact hS _ hg)⟩
end
section
open Go.RowKit
theorem credBytes_pos {c:CredB} (h:isCred c=true):0<(credBytes c).length:=by
 have:=credEnc_ne c
 rw[credBytes,if_pos h]
 exact List.length_pos_iff.2 this
theorem credBytes_none {c:CredB} (h:isCred c=false):credBytes c=[]:=by rw[credBytes,h];rfl
theorem OwnW.at_ {B:Nat} {w:World} {ao:Option Addr} {cap:Nat} {ls:List WrB} (h:OwnW B w (.slice ao ls.length cap) ls) {i:Nat} (hi:i<ls.length) :
  ∃g,ao=some ⟨g,0,none⟩∧∀j,j<10→w.cell? ⟨g,i*10+j,none⟩=(wrCells ls[i])[j]?:=by
 have hall:=h
 rcases h.2 with ⟨he,h0⟩|⟨g,cap',cur,he,hg,hh,h1,h2,h3,h4⟩
 ·omega
 ·cases he
  refine⟨g,rfl,fun j hj=>?_⟩
  have hget:=flat_get wrCells 10 wrCells_len ls i j hi hj
  have hs:j<(wrCells ls[i]).length:=hj
  rw[List.getElem?_eq_getElem hs]at hget ⊢
  have:=hall.cells (g:=g) rfl (i*10+j) _ hget
  rw[add_off,Nat.zero_add]at this
  exact this
set_option maxRecDepth 100000 in
set_option maxHeartbeats 4000000 in
theorem pcset {D:Nat→Prop} (ao:Option Addr) (cp:Nat) (ls:List CredB) (w:World) (hn:ls.length≤4194304) (h:CredsAt D w ao ls) (_:∀i,D i→i<w.heap.size) (hz:ao=none→cp=0) :
  Calls Tryz.prog 21 #[.slice ao ls.length cp] w (SetPostC ls w):=by
 obtain⟨i0,hi,hz0,hz1,hz2⟩:=info_parts Tryz.info88
 obtain⟨j0,hj,hy0,hy1,hy2⟩:=info_parts Tryz.info34
 have HJ:=hid (aI hj (aI hy0 (aI hy1 hy2)))
 clear hj hy0 hy1 hy2
 go_enter Tryz.func21,Tryz.ntmps21
 go_wp2
 go_loopw [3,12] (fun v i wr=>∃(k:Nat) (out:List WrB) (ao':Option Addr) (cap:Nat),i = .int .i64 k∧k≤ls.length∧v = .slice ao' out.length cap∧Hid (out.map (·.c)=(ls.take k).filter isCred)∧out.length≤k∧OwnW w.heap.size wr (.slice ao' out.length cap) out∧ReadsW w.heap.size wr (Value.ownBlock (.slice ao' out.length cap)) out∧Chg (fun _=>False) w wr) (fun _ i _=>ls.length-(intOf i).toNat)
 case atStart=>exact⟨0,[],none,0,rfl,Nat.zero_le _,rfl,rfl,Nat.zero_le _,World.ownsRow_nil _ _ _ _,ReadsW.nil _ _ _,Chg.refl _ _⟩
 case round=>
  obtain⟨k,out,ao',cap',rfl,hk,rfl,hout,hol,ho,hrd,hc⟩:=hrel
  by_cases hlt:k<ls.length
  ·obtain⟨b,off,rfl,hbD,hat,hsh⟩:=(h.keep hc (fun _ _=>id)) k hlt
   have HF:=hid (List.take_succ_eq_append_getElem hlt)
   clear h
   generalize ls[k]=s at *
   obtain⟨c0,c1,c2,c3,c4,c5,c6,c7,c8⟩:=hat
   have hS:=heap_alloc_new wr (.cells (credBox s) 34)
   have hcS:=alc wr (.cells (credBox s) 34)
   have hrd2:=hrd.keep hcS (fun _ h=>h.elim)
   have HS:=hid (aI hS (aI (ho.keep hcS (fun _ _=>id)) (aI hrd2 (hc.trans hcS (fun _ _ h=>h)))))
   clear hS hcS ho hc hrd hrd2
   go_wp2_with fail
   obtain⟨hS,ho,hrd,hc⟩:=HS.out
   clear HS c0 c1 c2 c3 c4 c5 c6 c7 c8
   generalize hw3:wr.alloc (.cells #[.int .i64 s.kind,.string ⟨s.head.1.toArray⟩,.string ⟨s.head.2.toArray⟩,.string ⟨s.who.toArray⟩,.string ⟨s.b.1.toArray⟩,.string ⟨s.b.2.toArray⟩,.string ⟨s.c.1.toArray⟩,.string ⟨s.c.2.toArray⟩,.string ⟨s.w2.toArray⟩] 34)=w3 at *
   change wr.alloc (.cells (credBox s) 34)=w3 at hw3
   rw[hw3]at hS ho hrd hc
   clear hw3
   generalize wr.heap.size=X at *
   refine(pcbytes s w3 hsh).mono ?_
   rintro e w4 ⟨ao4,cap4,rfl,hb4,hc4⟩
   have hS4:=bE hS hc4 id
   have ho4:=ho.keep hc4 (fun _ _=>id)
   have hrd4:=hrd.keep hc4 (fun _ h=>h.elim)
   have hcw4:=hc.trans hc4 (fun _ _ h=>h)
   have hrow3:∀q,Value.ownBlock (.slice ao' out.length cap')=some q→q<w3.heap.size:=fun q hq=>(ownsRow_lt ho q hq).2
   have hsz3:=hc.size
   have hb5:BytesAt (fun b=>w.heap.size≤b∧b<w4.heap.size∧some b≠Value.ownBlock (.slice ao' out.length cap')) w4 (.slice ao4 (credBytes s).length cap4) (credBytes s):=hb4.mono (fun i hi=>⟨Nat.le_trans hsz3 hi.1,hi.2,fun e=>by have:=hrow3 i e.symm;omega⟩)
   have HR:=hid (aI ho4 (aI hrd4 (aI hb5 hcw4)))
   obtain⟨b0,b1,b2,b3,b4,b5,b6,b7,b8⟩:=cred_at_blk hS4
   simp only[Nat.zero_add]at b0 b1 b2 b3 b4 b5 b6 b7 b8
   clear hS ho hrd hc hc4 hb4 hrow3 hsz3 hS4 ho4 hrd4 hb5 hcw4
   cases hx:isCred s with
   | false=>
    have hn2:Hid (out.map (·.c)=(ls.take (k+1)).filter isCred):=hid (by rw[HF.out,List.filter_append,←hout.out];simp [hx])
    have hl0:(credBytes s).length=0:=by rw[credBytes_none hx];rfl
    rw[hl0]
    clear hx hl0
    go_wp2
    obtain⟨ho4,hrd4,hb5,hcw4⟩:=HR.out
    go_roundw
    case rel=>exact⟨k+1,out,ao',cap',by go_num,by omega,rfl,hn2,by omega,ho4,hrd4,hcw4⟩
    case measure=>simp [intOf];omega
   | true=>
    have hn2:Hid ((out++[(⟨s,ao4,cap4⟩:WrB)]).map (·.c)=(ls.take (k+1)).filter isCred):=hid (by rw[HF.out,List.filter_append,←hout.out];simp [hx])
    have hlp:=credBytes_pos hx
    have HX:=hid hx
    have hszw:=HR.out.2.2.2.size
    clear hx
    go_wp2_with (at_builtin;refine wpList_append_own_atD _ rfl (.tmp 21) (.tmp 25) 85 rfl w.heap.size 88 i0 (.agg #[.int .i64 0,.string ⟨#[]⟩,.string ⟨#[]⟩,.string ⟨#[]⟩,.string ⟨#[]⟩,.string ⟨#[]⟩,.string ⟨#[]⟩,.string ⟨#[]⟩,.string ⟨#[]⟩,.slice none 0 0]) 10 160 Tryz.underlying85 hi hz0 hz1 hz2 rfl (by decide) _ _ _ rfl (World.ownsRow.alloc HR.out.1 _) ⟨w4.heap.size,0,none⟩ 1 1 (wrCells ⟨s,ao4,cap4⟩) rfl rfl ?c1 ?c2 ?c3 ?c4 ?c5 ?_)
    case c1=>exact fun j u hj=>wr_cells_new w4 ⟨s,ao4,cap4⟩ j u hj
    case c2=>exact wr_one _
    case c3=>unfold maxLen;omega
    case c4=>omega
    case c5=>simp;omega
    intro v' w2 hown hgrow _ hat
    obtain⟨ho4,hrd4,hb5,hcw4⟩:=HR.out
    have hcA:=alc w4 (.cells (wrBox ⟨s,ao4,cap4⟩) 88)
    have hsa:w4.heap.size≤(w4.alloc (.cells (wrBox ⟨s,ao4,cap4⟩) 88)).heap.size:=hcA.size
    obtain⟨ho2,hrd2⟩:=wr_grown (x:=⟨s,ao4,cap4⟩) hown hgrow (by
     rcases hat with e|e
     ·exact .inl e
     ·exact .inr (by rw[e];simp)) (hrd4.keep hcA (fun _ h=>h.elim)) HX.out ((hb5.keep hcA (fun _ _=>id)).mono (fun i hi=>⟨hi.1,Nat.lt_of_lt_of_le hi.2.1 hsa,hi.2.2⟩))
    have hrow:∀k,Value.ownBlock (.slice ao' out.length cap')=some k→w.heap.size≤k:=fun k hk=>(ownsRow_lt ho4 k hk).1
    have hc2:Chg (fun _=>False) w w2:=(hcw4.alloc _).grown hgrow (fun k e hk=>by have:=hrow k e;omega)
    obtain⟨ao5,cap5,hv5⟩:=ho2.shape
    have hl:(out++[(⟨s,ao4,cap4⟩:WrB)]).length=out.length+1:=by simp
    subst hv5
    have HY:=hid (aI ho2 (aI hrd2 hc2))
    clear hown hgrow hat hrow ho4 hrd4 hb5 hcw4 hcA hsa ho2 hrd2 hc2 HR b0 b1 b2 b3 b4 b5 b6 b7 b8
    rw[hl]
    go_wp2
    obtain⟨ho2,hrd2,hc2⟩:=HY.out
    go_roundw
    case rel=>exact⟨k+1,out++[(⟨s,ao4,cap4⟩:WrB)],ao5,cap5,by go_num,by omega,by rw[hl],hn2,by rw[hl];omega,ho2,hrd2,hc2⟩
    case measure=>simp [intOf];omega
  ·have hk2:k=ls.length:=by omega
   have ho2:Hid (out.map (·.c)=ls.filter isCred):=by
    have:=hout.out
    rw[List.take_of_length_le (by omega)]at this
    exact hid this
   clear h hout
   go_wp2_with fail
   refine(psort_wr ho hrd (by omega)).mono ?_
   rintro e w2 ⟨rfl,⟨ts,hp,hs,ho3⟩,hch3⟩
   have hc2:Chg (fun _=>False) w w2:=hc.trans (hch3 (fun k=>w.heap.size≤k) (fun _ h=>h)) (fun i hi hk=>by omega)
   have hpl:=hp.length_eq
   have hso:Hid (SetC ls (Lib.compact (ts.map (·.c)))):=hid (compactG_set ltC_ord hs fun x=>by
    rw[(hp.map (·.c)).mem_iff,ho2.out,List.mem_filter])
   have HW:=hid (aI ho3 hc2)
   clear hch3 hc ho hs hp ho2 ho3 hc2 hrd hi hz0 hz1 hz2
   obtain⟨hi,hz0,hz1,hz2⟩:=HJ.out
   rw[←hpl]
   have hwl:=HW.out.2.size
   go_wp2
   go_loopw [7,32] (fun v i wr=>∃(m:Nat) (st:List CredB) (ao6:Option Addr) (cap6:Nat),i = .int .i64 m∧m≤ts.length∧v = .slice ao6 st.length cap6∧Hid (st=(ts.take m).map (·.c))∧st.length≤m∧OwnC w2.heap.size wr (.slice ao6 st.length cap6) st∧Chg (fun _=>False) w2 wr) (fun _ i _=>ts.length-(intOf i).toNat)
   case atStart=>exact⟨0,[],none,0,rfl,Nat.zero_le _,rfl,rfl,Nat.zero_le _,World.ownsRow_nil _ _ _ _,Chg.refl _ _⟩
   case round=>
    obtain⟨m,st,ao6,cap6,rfl,hm,rfl,hst,hsl,ho6,hc6⟩:=hrel
    by_cases hlt:m<ts.length
    ·obtain⟨g,rfl,hat⟩:=(HW.out.1.keep hc6 (fun _ _=>id)).at_ hlt
     have HF:=hid (List.take_succ_eq_append_getElem hlt)
     generalize ts[m]=t at *
     obtain⟨s,ao4,cap4⟩:=t
     have c0:=hat 0 (by decide)
     have c1:=hat 1 (by decide)
     have c2:=hat 2 (by decide)
     have c3:=hat 3 (by decide)
     have c4:=hat 4 (by decide)
     have c5:=hat 5 (by decide)
     have c6:=hat 6 (by decide)
     have c7:=hat 7 (by decide)
     have c8:=hat 8 (by decide)
     have c9:=hat 9 (by decide)
     simp only[wrCells,lZ,lS,Nat.add_zero]at c0 c1 c2 c3 c4 c5 c6 c7 c8 c9
     clear hat
     have HR:=hid (aI ho6 hc6)
     have hn2:Hid (st++[s]=(ts.take (m+1)).map (·.c)):=hid (by rw[HF.out,List.map_append,←hst.out];rfl)
     have hszw:=HR.out.2.size
     clear ho6 hc6
     have hcA:=alc wr (.cells (wrBox ⟨s,ao4,cap4⟩) 88)
     have HA:=hid hcA
     clear hcA
     go_wp2_with (at_builtin;refine wpList_append_own_atD _ rfl (.tmp 36) (.tmp 39) 26 rfl w2.heap.size 34 j0 (.agg #[.int .i64 0,.string ⟨#[]⟩,.string ⟨#[]⟩,.string ⟨#[]⟩,.string ⟨#[]⟩,.string ⟨#[]⟩,.string ⟨#[]⟩,.string ⟨#[]⟩,.string ⟨#[]⟩]) 9 136 Tryz.underlying26 hi hz0 hz1 hz2 rfl (by decide) _ _ _ rfl (World.ownsRow.alloc (World.ownsRow.alloc HR.out.1 _) _) ⟨wr.heap.size+1,0,none⟩ 1 1 (credCells s) rfl rfl ?c1 ?c2 ?c3 ?c4 ?c5 ?_)
     case c1=>exact fun j u hj=>by have:=cred_cells_new (wr.alloc (.cells (wrBox ⟨s,ao4,cap4⟩) 88)) s j u hj;simp only[World.size_alloc]at this;exact this
     case c2=>intro u hu;simp only[credCells,List.mem_cons,List.not_mem_nil,or_false]at hu;rcases hu with rfl|rfl|rfl|rfl|rfl|rfl|rfl|rfl|rfl <;> rfl
     case c3=>unfold maxLen;omega
     case c4=>omega
     case c5=>simp;omega
     intro v' w3 hown hgrow _ hat2
     obtain⟨ho6,hc6⟩:=HR.out
     have hrow:∀k,Value.ownBlock (.slice ao6 st.length cap6)=some k→w2.heap.size≤k:=fun k hk=>(ownsRow_lt ho6 k hk).1
     have ho2:OwnC w2.heap.size w3 v' (st++[s]):=by
      unfold OwnC
      rw[credRow_snoc,List.length_append,List.length_singleton]
      exact hown
     have hc2:Chg (fun _=>False) w2 w3:=((hc6.alloc _).alloc _).grown hgrow (fun k e hk=>by have:=hrow k e;omega)
     obtain⟨ao5,cap5,hv5⟩:=ho2.shape
     have hl:(st++[s]).length=st.length+1:=by simp
     subst hv5
     have HY:=hid (aI ho2 hc2)
     clear hown hgrow hat2 hrow ho6 hc6 ho2 hc2 HR HA c0 c1 c2 c3 c4 c5 c6 c7 c8 c9
     rw[hl]
     go_wp2
     obtain⟨ho2,hc2⟩:=HY.out
     go_roundw
     case rel=>exact⟨m+1,st++[s],ao5,cap5,by go_num,by omega,by rw[hl],hn2,by rw[hl];omega,ho2,hc2⟩
     case measure=>simp [intOf];omega
    ·have hm2:m=ts.length:=by omega
     have hst2:Hid (st=ts.map (·.c)):=by
      have:=hst.out
      rw[List.take_of_length_le (by omega)]at this
      exact hid this
     have hstl:st.length≤4194304:=by omega
     clear hst hsl
     have HZ:=hid (aI hc6 HW.out.2)
     clear hc6
     go_wp2_with fail
     refine(pccompact_own ho6 hstl).mono ?_
     rintro e w3 ⟨⟨ao7,cap7,rfl,ho7⟩,hch7⟩
     have hc3:Chg (fun _=>False) w w3:=(HZ.out.2.trans HZ.out.1 (fun _ _ h=>h)).trans (hch7 (fun k=>w2.heap.size≤k) (fun _ h=>h)) (fun i hi hk=>by omega)
     rw[hst2.out]at ho7
     clear hch7 ho6 HZ
     rw[hst2.out]
     have hbd:∀x∈Lib.compact (ts.map (·.c)),credShort x 9223372036854775807:=fun x hx=>(isCred_short ((hso.out.2 x).1 hx).2).mono' (by decide)
     obtain⟨ao8,cap8,hv,hst8,hz8⟩:=ho7.creds hbd
     cases hv
     have HF:=hid (aI hst8 (aI hc3 hz8))
     clear hst8 hc3 hz8 ho7 hbd
     go_wp2
     go_ret
     exact⟨_,_,_,rfl,hso.out,HF.out.1.mono (fun i hi=>⟨Nat.le_trans hwl hi.1,hi.2⟩),HF.out.2.1,HF.out.2.2⟩
end
end Go.Proofs.YtkfinhpfdcjoeaaGreat
