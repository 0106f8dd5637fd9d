/- Texts that the proof leans on, in one: NnComp, NnSmall. -/
import Derived.Test.YtkfinhpfdcjoeaaGreatNa20
import Derived.Test.YtkfinhpfdcjoeaaGreatNa10
/- slices.CompactFunc at formulas: the walk. -/
namespace Go.Proofs.YtkfinhpfdcjoeaaGreat
section
open Go.RowKit Go.Lib Go.Sort
def fS:Value:=.func (.func 113) #[] #[]
def cfSpecs1 (g n cap k:Nat) (x y:AT) (b:Bool):List Spec:=[.eq (.slice (some ⟨g,0,none⟩) n cap),.eq fS,.any,.any,.any,.eq (.int .i64 k),.any,.any,.any,.any,.any,.any,.any,.any,.any,.any,.any,.any,.eq fS,.eq (.slice (some ⟨g,0,none⟩) n cap),.eq (.int .i64 k),.eq (.pointer (some ⟨g,k*5,none⟩)),.eq (fmV x),.eq (.slice (some ⟨g,0,none⟩) n cap),.eq (.int .i64 k),.eq (.int .i64 ((k-1:Nat):Int)),.eq (.pointer (some ⟨g,(k-1)*5,none⟩)),.eq (fmV y),.eq (.bool b)]
def cfSpecs2 (g n cap k m:Nat) (x y:AT) (b:Bool):List Spec:=[.any,.eq fS,.any,.any,.any,.any,.eq (.slice (some ⟨g,k*5,none⟩) n cap),.eq (.int .i64 m),.any,.any,.any,.any,.any,.any,.any,.any,.any,.any,.any,.any,.any,.any,.any,.any,.any,.any,.any,.any,.any,.any,.any,.any,.any,.any,.any,.any,.any,.any,.eq fS,.eq (.slice (some ⟨g,k*5,none⟩) n cap),.eq (.int .i64 m),.eq (.pointer (some ⟨g,k*5+m*5,none⟩)),.eq (fmV x),.eq (.slice (some ⟨g,k*5,none⟩) n cap),.eq (.int .i64 m),.eq (.int .i64 ((m-1:Nat):Int)),.eq (.pointer (some ⟨g,k*5+(m-1)*5,none⟩)),.eq (fmV y),.eq (.bool b),.eq (.bool (!b))]
set_option maxRecDepth 100000 in
set_option maxHeartbeats 8000000 in
theorem ncompact_walk {B:Nat} (g cap:Nat) (d:Array AT) (w:World) (hH:HoldA w g cap d) (hO:RowOk B w g d) (hsz:d.size≤4194304) (hcap:d.size≤cap) (hcm:cap≤9223372036854775807) :
  Calls Tryz.prog 112 #[.slice (some ⟨g,0,none⟩) d.size cap,.func (.func 113) #[] #[]] w fun e w'=>e = .returned (.slice (some ⟨g,0,none⟩) (compA d d.size).length cap)∧HoldA w' g cap (compA d d.size).toArray∧Chg (fun k=>k=g) w w':=by
 have same:(∀j,j<d.size→keepA d j=true)→(compA d d.size).length=d.size∧∀j (hj:j<(compA d d.size).length),d[j]! = (compA d d.size)[j]:=by
  intro hall
  have e:compA d d.size=d.toList:=by rw[compA_all d _ hall,range_mapA]
  refine⟨by rw[e];simp,fun j hj=>?_⟩
  have hj':j<d.size:=by rw[e]at hj;simpa using hj
  rw[getElem!_pos d j hj',←Array.getElem_toList]
  congr 1
  rw[e]
 have HS:=hid same
 have HO:=hid hO
 clear same hO
 by_cases h2:d.size<2
 ·have HH:=hid hH
  clear hH
  go_enter Tryz.func112,Tryz.ntmps112
  go_wp2
  go_ret
  obtain⟨e1,e2⟩:=HS.out (fun j hj=>keepA_one d j (by omega))
  exact⟨by rw[e1];rfl,HH.out.low (by omega) e2,Chg.refl _ _⟩
 ·go_enter Tryz.func112,Tryz.ntmps112
  go_wp2
  go_loopw [5] (fun s3 wr=>∃k:Nat,1≤k∧k≤d.size∧s3 = .int .i64 k∧HoldA wr g cap d∧Chg (fun k=>k=g) w wr∧Hid (∀j,j<k→keepA d j=true)) (fun s3 _=>d.size-(RowKit.intOf s3).toNat)
  case atStart=>exact⟨1,Nat.le_refl _,by omega,rfl,hH,Chg.refl _ _,keepA_one d⟩
  case round=>
   obtain⟨k,hk1,hk,rfl,hHr,hc,A⟩:=hrel
   by_cases hlt:k<d.size
   ·have HX:=hid (aI (hHr.fm hlt) (hHr.fm (j:=k-1) (by omega)))
    have HC:=hid (aI hHr hc)
    have HSM:Hid (∀W,Chg (fun _=>False) wr W→Calls Tryz.prog 113 #[fmV d[k]!,fmV d[k-1]!] W fun e w''=>e = .returned (.bool (sameA d[k]! d[k-1]!))∧Chg (fun _=>False) W w''):=hid fun W hW=>HO.out.same (hc.trans hW (fun _ _ h=>h.elim)) hlt (by omega)
    have HZ:Hid (IntKind.i64.wrap ((k:Int)-1)=((k-1:Nat):Int)∧(0:Int)≤(k:Int)-1∧((k:Int)-1).toNat=k-1∧((k-1:Nat):Int)<d.size∧(k:Int)<d.size):=hid ⟨by rw[IntWalk.i64_in _ (by omega)];omega,by omega,by omega,by omega,by omega⟩
    have HKP:=hid (aI (keepA_pos (d:=d) (m:=k)) (keepA_neg (d:=d) (m:=k) (by omega)))
    clear hHr hc hH
    generalize hx:d[k]! = x at *
    generalize hy:d[k-1]! = y at *
    generalize hb:sameA x y=b at *
    clear hx hy hb
    go_wp2
    refine wp_region_specs (cfSpecs1 g d.size cap k x y b) [18,19,20,21,22,23,24,25,26,27,28] [0,1,5] (by kernel_rfl) (by kernel_rfl) (by rfl) (by kernel_rfl) ?start ?obs ?fin
    case start=>
     simp only[List.forall_mem_cons]
     exact⟨⟨_,rfl,rfl⟩,⟨_,rfl,rfl⟩,⟨_,rfl,rfl⟩,fun _ h=>by cases h⟩
    case obs=>
     clear HC HS HKP
     refine Obs.cons none (by kernel_rfl) ?_ ?_
     ·refine Ob.plain fun a w hR hk K k9=>?_
      obtain⟨_,e1,f1⟩:=hk 1 (by decide)
      clear hk
      go_simp
      exact k9 _ _ R0 f1
     refine Obs.cons none (by kernel_rfl) ?_ ?_
     ·refine Ob.plain fun a w hR hk K k9=>?_
      obtain⟨_,e0,f0⟩:=hk 0 (by decide)
      clear hk
      go_simp
      exact k9 _ _ R0 f0
     refine Obs.cons none (by kernel_rfl) ?_ ?_
     ·refine Ob.plain fun a w hR hk K k9=>?_
      obtain⟨_,e5,f5⟩:=hk 5 (by decide)
      clear hk
      go_simp
      exact k9 _ _ R0 f5
     refine Obs.cons none (by kernel_rfl) ?_ ?_
     ·refine Ob.plain fun a w hR hk K k9=>?_
      obtain⟨_,e19,rfl⟩:=hk 19 (by decide)
      obtain⟨_,e20,rfl⟩:=hk 20 (by decide)
      clear hk
      clear HX
      obtain⟨z1,z2,z3,z4,z5⟩:=HZ.out
      go_simp
      exact k9 _ _ R0 rfl
     refine Obs.cons none (by kernel_rfl) ?_ ?_
     ·refine Ob.plain fun a w hR hk K k9=>?_
      obtain⟨_,e21,rfl⟩:=hk 21 (by decide)
      clear hk
      obtain⟨a0,a1,a2,a3,a4⟩:=HX.out.1.keep hR id
      clear HX
      go_simp
      exact k9 _ _ R0 rfl
     refine Obs.cons none (by kernel_rfl) ?_ ?_
     ·refine Ob.plain fun a w hR hk K k9=>?_
      obtain⟨_,e0,f0⟩:=hk 0 (by decide)
      clear hk
      go_simp
      exact k9 _ _ R0 f0
     refine Obs.cons none (by kernel_rfl) ?_ ?_
     ·refine Ob.plain fun a w hR hk K k9=>?_
      obtain⟨_,e5,f5⟩:=hk 5 (by decide)
      clear hk
      go_simp
      exact k9 _ _ R0 f5
     refine Obs.cons none (by kernel_rfl) ?_ ?_
     ·refine Ob.plain fun a w hR hk K k9=>?_
      obtain⟨_,e24,rfl⟩:=hk 24 (by decide)
      clear hk
      clear HX
      obtain⟨z1,z2,z3,z4,z5⟩:=HZ.out
      go_simp
      exact k9 _ _ R0 rfl
     refine Obs.cons none (by kernel_rfl) ?_ ?_
     ·refine Ob.plain fun a w hR hk K k9=>?_
      obtain⟨_,e23,rfl⟩:=hk 23 (by decide)
      obtain⟨_,e25,rfl⟩:=hk 25 (by decide)
      clear hk
      clear HX
      obtain⟨z1,z2,z3,z4,z5⟩:=HZ.out
      go_simp
      exact k9 _ _ R0 rfl
     refine Obs.cons none (by kernel_rfl) ?_ ?_
     ·refine Ob.plain fun a w hR hk K k9=>?_
      obtain⟨_,e26,rfl⟩:=hk 26 (by decide)
      clear hk
      obtain⟨a0,a1,a2,a3,a4⟩:=HX.out.2.keep hR id
      clear HX
      go_simp
      exact k9 _ _ R0 rfl
     refine Obs.cons none (by kernel_rfl) ?_ ?_
     ·refine Ob.plain fun a w hR hk K k9=>?_
      obtain⟨_,e18,rfl⟩:=hk 18 (by decide)
      obtain⟨_,e22,rfl⟩:=hk 22 (by decide)
      obtain⟨_,e27,rfl⟩:=hk 27 (by decide)
      clear hk
      have he:=eg_same
      clear HX
      go_simp
      refine(HSM.out _ hR).mono ?_
      rintro e w5 ⟨rfl,hcc⟩
      exact k9 _ _ hcc rfl
     exact Obs.nil
    case fin=>
     intro vals w9 hc9 hv
     have h28:vals 28 = .bool b:=hv 28 (by decide)
     simp only[putAll,List.setIfInBounds_toArray,List.set_cons_zero,List.set_cons_succ,h28]
     have HC9:=hid (aI (HC.out.1.keep hc9 id) (HC.out.2.trans hc9 (fun _ _ h=>h.elim)))
     clear hc9 hv h28 HC HX HSM
     cases b with
     | true=>
      have HK:Hid (keepA d k=false):=hid (HKP.out.2 rfl)
      clear HKP
      go_wp2
      go_loopw [5,7] (fun s3 s5 wr=>∃(kk k2:Nat) (dk:Array AT),s3 = .int .i64 kk∧s5 = .int .i64 k2∧1≤k2∧k+k2≤d.size∧Chg (fun k=>k=g) w wr∧HoldA wr g cap dk∧CompI d (k+k2) kk dk) (fun _ s5 _=>d.size-(k+(RowKit.intOf s5).toNat))
      case atStart=>exact⟨k,1,d,rfl,rfl,Nat.le_refl _,by omega,HC9.out.2,HC9.out.1,CompI.start hlt A.out HK.out⟩
      case round=>
       obtain⟨kk,k2,dk,rfl,rfl,h1,hle,hc,hHk,hI⟩:=hrel
       have hkk:=hI.lt
       have hds:=hI.size
       by_cases hlt2:k+k2<d.size
       ·have c1:=hHk.fm (j:=k+k2) (by omega)
        have c2:=hHk.fm (j:=k+k2-1) (by omega)
        rw[hI.high (k+k2) (by omega),show (k+k2)*5=k*5+k2*5 by omega]at c1
        rw[hI.high (k+k2-1) (by omega),show (k+k2-1)*5=k*5+(k2-1)*5 by omega]at c2
        have HX:=hid (aI c1 c2)
        have HC:=hid (aI hHk (aI hc hI))
        have HSM:Hid (∀W,Chg (fun _=>False) wr W→Calls Tryz.prog 113 #[fmV d[k+k2]!,fmV d[k+k2-1]!] W fun e w''=>e = .returned (.bool (sameA d[k+k2]! d[k+k2-1]!))∧Chg (fun _=>False) W w''):=hid fun W hW=>HO.out.same (hc.trans hW (fun _ _ h=>h.elim)) hlt2 (by omega)
        have HZ2:Hid (IntKind.i64.wrap ((k2:Int)-1)=((k2-1:Nat):Int)∧(0:Int)≤(k2:Int)-1∧((k2:Int)-1).toNat=k2-1∧((k2-1:Nat):Int)<((d.size-k:Nat):Int)∧(k2:Int)<((d.size-k:Nat):Int)):=hid ⟨by rw[IntWalk.i64_in _ (by omega)];omega,by omega,by omega,by omega,by omega⟩
        have HKP:=hid (aI (keepA_pos (d:=d) (m:=k+k2)) (keepA_neg (d:=d) (m:=k+k2) (by omega)))
        have HUO:Hid (∃uo un uc,d[k+k2]!.v = .slice uo un uc):=hid (by
         obtain⟨uo,uc,hv,_⟩:=own_fms (HO.out (k+k2) hlt2).1
         exact⟨uo,_,uc,hv⟩)
        clear HZ
        have HZ:=HZ2
        clear HZ2 c1 c2 hHk hc hI
        generalize hu:d[k+k2]! = u at *
        generalize hv:d[k+k2-1]! = v at *
        generalize hb:sameA u v=b2 at *
        have C:=hid hu
        clear hu hv hb
        go_wp2
        refine wp_region_specs (cfSpecs2 g (d.size-k) (cap-k) k k2 u v b2) [38,39,40,41,42,43,44,45,46,47,48,49] [1,6,7] (by kernel_rfl) (by kernel_rfl) (by rfl) (by kernel_rfl) ?start2 ?obs2 ?fin2
        case start2=>
         simp only[List.forall_mem_cons]
         exact⟨⟨_,rfl,rfl⟩,⟨_,rfl,rfl⟩,⟨_,rfl,rfl⟩,fun _ h=>by cases h⟩
        case obs2=>
         clear HC HS HKP HUO
         refine Obs.cons none (by kernel_rfl) ?_ ?_
         ·refine Ob.plain fun a w hR hk K k9=>?_
          obtain⟨_,e1,f1⟩:=hk 1 (by decide)
          clear hk
          go_simp
          exact k9 _ _ R0 f1
         refine Obs.cons none (by kernel_rfl) ?_ ?_
         ·refine Ob.plain fun a w hR hk K k9=>?_
          obtain⟨_,e6,f6⟩:=hk 6 (by decide)
          clear hk
          go_simp
          exact k9 _ _ R0 f6
         refine Obs.cons none (by kernel_rfl) ?_ ?_
         ·refine Ob.plain fun a w hR hk K k9=>?_
          obtain⟨_,e7,f7⟩:=hk 7 (by decide)
          clear hk
          go_simp
          exact k9 _ _ R0 f7
         refine Obs.cons none (by kernel_rfl) ?_ ?_
         ·refine Ob.plain fun a w hR hk K k9=>?_
          obtain⟨_,e39,rfl⟩:=hk 39 (by decide)
          obtain⟨_,e40,rfl⟩:=hk 40 (by decide)
          clear hk
          clear HX
          obtain⟨z1,z2,z3,z4,z5⟩:=HZ.out
          go_simp
          exact k9 _ _ R0 rfl
         refine Obs.cons none (by kernel_rfl) ?_ ?_
         ·refine Ob.plain fun a w hR hk K k9=>?_
          obtain⟨_,e41,rfl⟩:=hk 41 (by decide)
          clear hk
          obtain⟨a0,a1,a2,a3,a4⟩:=HX.out.1.keep hR id
          clear HX
          go_simp
          exact k9 _ _ R0 rfl
         refine Obs.cons none (by kernel_rfl) ?_ ?_
         ·refine Ob.plain fun a w hR hk K k9=>?_
          obtain⟨_,e6,f6⟩:=hk 6 (by decide)
          clear hk
          go_simp
          exact k9 _ _ R0 f6
         refine Obs.cons none (by kernel_rfl) ?_ ?_
         ·refine Ob.plain fun a w hR hk K k9=>?_
          obtain⟨_,e7,f7⟩:=hk 7 (by decide)
          clear hk
          go_simp
          exact k9 _ _ R0 f7
         refine Obs.cons none (by kernel_rfl) ?_ ?_
         ·refine Ob.plain fun a w hR hk K k9=>?_
          obtain⟨_,e44,rfl⟩:=hk 44 (by decide)
          clear hk
          clear HX
          obtain⟨z1,z2,z3,z4,z5⟩:=HZ.out
          go_simp
          exact k9 _ _ R0 rfl
         refine Obs.cons none (by kernel_rfl) ?_ ?_
         ·refine Ob.plain fun a w hR hk K k9=>?_
          obtain⟨_,e43,rfl⟩:=hk 43 (by decide)
          obtain⟨_,e45,rfl⟩:=hk 45 (by decide)
          clear hk
          clear HX
          obtain⟨z1,z2,z3,z4,z5⟩:=HZ.out
          go_simp
          exact k9 _ _ R0 rfl
         refine Obs.cons none (by kernel_rfl) ?_ ?_
         ·refine Ob.plain fun a w hR hk K k9=>?_
          obtain⟨_,e46,rfl⟩:=hk 46 (by decide)
          clear hk
          obtain⟨a0,a1,a2,a3,a4⟩:=HX.out.2.keep hR id
          clear HX
          go_simp
          exact k9 _ _ R0 rfl
         refine Obs.cons none (by kernel_rfl) ?_ ?_
         ·refine Ob.plain fun a w hR hk K k9=>?_
          obtain⟨_,e38,rfl⟩:=hk 38 (by decide)
          obtain⟨_,e42,rfl⟩:=hk 42 (by decide)
          obtain⟨_,e47,rfl⟩:=hk 47 (by decide)
          clear hk
          have he:=eg_same
          clear HX
          go_simp
          refine(HSM.out _ hR).mono ?_
          rintro e w5 ⟨rfl,hcc⟩
          exact k9 _ _ hcc rfl
         refine Obs.cons none (by kernel_rfl) ?_ ?_
         ·refine Ob.plain fun a w hR hk K k9=>?_
          obtain⟨_,e48,rfl⟩:=hk 48 (by decide)
          clear hk
          go_simp
          exact k9 _ _ R0 rfl
         exact Obs.nil
        case fin2=>
         intro vals w9 hc9 hv
         have h49:vals 49 = .bool (!b2):=hv 49 (by decide)
         simp only[putAll,List.setIfInBounds_toArray,List.set_cons_zero,List.set_cons_succ,h49]
         have HC9:=hid (aI (HC.out.1.keep hc9 id) (aI (HC.out.2.1.trans hc9 (fun _ _ h=>h.elim)) HC.out.2.2))
         clear hc9 hv h49 HC HX HSM
         cases b2 with
         | true=>
          have HX:=hid (aI HC9.out.1 (aI HC9.out.2.1 (HC9.out.2.2.skip (HKP.out.2 rfl))))
          clear HC9 HKP HUO
          go_wp2
          go_roundw
          case rel=>exact⟨kk,k2+1,dk,rfl,by go_num,by omega,by omega,HX.out.2.1,HX.out.1,HX.out.2.2⟩
          case measure=>simp [RowKit.intOf];omega
         | false=>
          have HX:=hid (aI (HC9.out.1.set (k:=kk) (u:=u) (by omega) (by omega)) (aI (HC9.out.2.1.trans (chg_setCellsA (cellsA u) (kk*5) w9) (fun i hi h=>h)) (by have:=HC9.out.2.2.keep hlt2 (HKP.out.1 rfl);rwa [C.out]at this)))
          have c1:=HC9.out.1.fm (j:=k+k2) (by omega)
          rw[HC9.out.2.2.high (k+k2) (by omega),show (k+k2)*5=k*5+k2*5 by omega,C.out]at c1
          have c3:=HC9.out.1.fm (j:=kk) (by omega)
          have hfz:=HC9.out.1.froz
          obtain⟨uo,un,uc,hv⟩:=HUO.out
          clear C HUO
          obtain⟨uop,uk,ur,uv,ukids⟩:=u
          simp only[AT.v]at hv
          subst hv
          rw[←putA_eq]at HX
          unfold putA at HX
          simp only[AT.op,AT.k,AT.r,AT.v]at HX
          obtain⟨c1a,c1b,c1c,c1d,c1e⟩:=c1
          simp only[AT.op,AT.k,AT.r,AT.v]at c1a c1b c1c c1d c1e
          obtain⟨c3a,c3b,c3c,c3d,c3e⟩:=c3
          have z0:=hfz (kk*5)
          have z1:=hfz (kk*5+1)
          have z2:=hfz (kk*5+2)
          have z3:=hfz (kk*5+3)
          have z4:=hfz (kk*5+4)
          clear HC9 HKP hfz
          go_wp2
          go_roundw
          case rel=>exact⟨kk+1,k2+1,dk.setIfInBounds kk (.mk uop uk ur (.slice uo un uc) ukids),by go_num,by go_num,by omega,by omega,HX.out.2.1,HX.out.1,HX.out.2.2⟩
          case measure=>simp [RowKit.intOf];omega
       ·have hend:k+k2=d.size:=by omega
        have hcl:∀ty,(Builtin.clear_ #[44] ty #[.slice (some ⟨g,kk*5,none⟩) (d.size-kk) (cap-kk)]).run Tryz.prog wr = .ok (.tuple #[]) (wr.setCells g (kk*5) (Builtin.zeroCells fmZero.toArray (d.size-kk)).toList):=
         fun ty=>run_clear_fm wr 44 46 ty (.agg fmZero.toArray) _ 5 Tryz.underlying44b (fun w=>by kernel_rfl) g (kk*5) _ _ (by omega) rfl (zero_cells_fm _).1 (zero_cells_fm _).2 (fun j hj=>by
          obtain⟨cur,b1,b2⟩:=hHk.blk
          rw[bC b1,Array.getElem?_eq_getElem (by omega)];rfl) (fun j hj=>hHk.froz _)
        rw[hend]at hI
        have hX:=hHk.low (c:=compA d d.size) (by rw[hI.len];omega) (fun j hj=>by
         have e:=hI.low j (by rw[hI.len]at hj;exact hj)
         rw[List.getElem?_eq_getElem hj]at e
         exact(Option.some.inj e).symm)
        have hY:=HoldA.aboves (Builtin.zeroCells fmZero.toArray (d.size-kk)).toList (kk*5) wr hX (by simp [hI.len])
        have HX:=hid (aI hI.len (aI hY.1 (hc.trans hY.2 (fun _ _ h=>h))))
        clear hX hY hHk hI hc
        go_wp2
        go_ret
        exact⟨by rw[HX.out.1];rfl,HX.out.2.1,HX.out.2.2⟩
     | false=>
      have A2:Hid (∀j,j<k+1→keepA d j=true):=hid (fun j hj=>by
       by_cases e:j=k
       ·subst e
        exact HKP.out.1 rfl
       ·exact A.out j (by omega))
      clear HKP
      go_wp2
      go_roundw
      case rel=>exact⟨k+1,by omega,by omega,by go_num,HC9.out.1,HC9.out.2,A2⟩
      case measure=>simp [RowKit.intOf];omega
   ·have hk2:k=d.size:=by omega
    have HH:=hid (aI hHr hc)
    clear hHr hc hH
    subst hk2
    go_wp2
    go_ret
    obtain⟨e1,e2⟩:=HS.out A.out
    exact⟨by rw[e1];rfl,HH.out.1.low (by omega) e2,HH.out.2⟩
end
section
open Go.RowKit Go.Lib Go.Sort
theorem OwnRw.hold {B:Nat} {w:World} {g cap:Nat} {ts:List AT} (h:OwnRw B w (.slice (some ⟨g,0,none⟩) ts.length cap) ts):HoldA w g cap ts.toArray∧B≤g∧ts.length≤cap∧cap≤maxLen:=by
 have hall:=h.row
 rcases h.row.2 with ⟨he,_⟩|⟨g',cap',cur,he,hg,hh,h1,h2,h3,h4⟩
 ·cases he
 ·cases he
  refine⟨⟨⟨cur,hh,h3⟩,fun j hj i hi=>?_⟩,hg,h1,h2⟩
  have hj':j<ts.length:=by simpa using hj
  have hget:=rowA_get ts j i hj' hi
  have hs:i<(cellsA ts[j]).length:=hi
  rw[List.getElem?_eq_getElem hs]at hget
  have:=hall.cells (g:=g) rfl (j*5+i) _ hget
  rw[add_off,Nat.zero_add]at this
  rw[this]
  simp [hj',hs]
theorem HoldA.own {B:Nat} {w:World} {g cap:Nat} {ts:List AT} (h:HoldA w g cap ts.toArray) (hg:B≤g) (hl:ts.length≤cap) (hm:cap≤maxLen):w.ownsRow B 46 5 (.slice (some ⟨g,0,none⟩) ts.length cap) ts.length (rowA ts):=by
 obtain⟨cur,b1,b2⟩:=h.blk
 refine⟨by rw[rowA_len],.inr ⟨g,cap,cur,rfl,hg,b1,hl,hm,b2,?_⟩⟩
 apply List.ext_getElem?
 intro i
 rw[List.getElem?_take]
 by_cases hi:i<ts.length*5
 ·rw[if_pos hi]
  have e1:cur.toList[i]? = cur[i]?:=by simp
  rw[e1]
  have hj:i / 5<ts.length:=by omega
  have a:=h.at_ (i / 5) (by simpa using hj) (i % 5) (Nat.mod_lt _ (by decide))
  rw[bC b1,show i / 5*5+i % 5=i by omega]at a
  have b:=rowA_get ts (i / 5) (i % 5) hj (Nat.mod_lt _ (by decide))
  rw[show i / 5*5+i % 5=i by omega]at b
  rw[a,b]
  simp [hj]
 ·rw[if_neg hi,List.getElem?_eq_none (by rw[rowA_len];omega)]
theorem blksL_sub {us ts:List AT} (h:us.Sublist ts):(blksL us).Sublist (blksL ts):=by
 induction h with
 | slnil=>exact List.Sublist.refl _
 | cons x _ ih=>rw[blksL];exact ih.trans (List.sublist_append_right _ _)
 | cons_cons x _ ih=>rw[blksL,blksL];exact(List.Sublist.refl _).append ih
theorem pcompact_fm {B:Nat} {w:World} {ao:Option Addr} {cap:Nat} {ts:List AT} (h:OwnRw B w (.slice ao ts.length cap) ts) (hN:∀t∈ts,nodesF (eraseA t)≤90000) (hl:ts.length≤4194304) :
  Calls Tryz.prog 112 #[.slice ao ts.length cap,.func (.func 113) #[] #[]] w fun e w'=>(∃(us:List AT) (cap2:Nat),e = .returned (.slice ao us.length cap2)∧us.map eraseA=cmpctN (ts.map eraseA)∧us.Sublist ts∧OwnRw B w' (.slice ao us.length cap2) us)∧Chg (fun k=>Value.ownBlock (.slice ao ts.length cap)=some k) w w':=by
 have hnd:=List.nodup_append.1 h.nd
 rcases h.row.2 with ⟨he,h0⟩|⟨g,cap',cur,he,hg,hh,h1,h2,h3,h4⟩
 ·have:ts=[]:=List.eq_nil_of_length_eq_zero h0
  subst this
  cases he
  have HH:=hid h
  clear h hnd hN
  go_enter Tryz.func112,Tryz.ntmps112
  go_wp2
  go_ret
  exact⟨⟨[],0,rfl,rfl,List.Sublist.refl _,HH.out⟩,Chg.refl _ _⟩
 ·cases he
  obtain⟨hH,_,_,_⟩:=h.hold
  have hgn:∀t∈ts,g∉blksA t:=fun t ht hb=>hnd.2.2 g (by simp [Value.ownBlock]) g (by rw[blksL_flat];exact List.mem_flatMap.2 ⟨t,ht,hb⟩) rfl
  have hO:RowOk B w g ts.toArray:=fun j hj=>by
   have hj':j<ts.length:=by simpa using hj
   have e:ts.toArray[j]! = ts[j]:=by simp [hj']
   have hm:=List.getElem_mem hj'
   rw[e]
   refine⟨(ownL_all _ _ _).1 h.own _ hm,?_,hgn _ hm,hN _ hm⟩
   have h5:[ts[j]].Sublist ts:=List.singleton_sublist.2 hm
   have:=(blksL_sub h5).nodup hnd.2.1
   rwa [blksL,blksL,List.append_nil]at this
  have hwk:=ncompact_walk g cap ts.toArray w hH hO (by simpa using hl) (by simpa using h1) (by unfold maxLen at h2;exact h2)
  have hs:ts.toArray.size=ts.length:=by simp
  rw[hs]at hwk
  have hsub:=compA_sub ts.toArray
  rw[hs]at hsub
  have her:=compA_erase ts.toArray ts.length (by simp)
  simp only[List.take_length]at her
  refine hwk.mono ?_
  rintro e w' ⟨rfl,hH',hc⟩
  have hlen:(compA ts.toArray ts.length).length≤cap:=Nat.le_trans (compA_len _ _) h1
  refine⟨⟨compA ts.toArray ts.length,cap,rfl,her,hsub,hH'.own hg hlen h2,?_,?_⟩,hc.mono (fun k _ hk=>by subst hk;rfl)⟩
  ·refine(ownL_all _ _ _).2 fun t ht=>?_
   have ht2:t∈ts:=hsub.subset ht
   exact ownA_keep hc t ((ownL_all _ _ _).1 h.own t ht2) (fun b hb e=>hgn t ht2 (e▸hb))
  ·exact((List.Sublist.refl _).append (blksL_sub hsub)).nodup h.nd
theorem pisConst (op k:Int) (r:RoleB) (ao:Option Addr) (n cp:Nat) (w:World) :
  Calls Tryz.prog 107 #[.agg #[.int .i64 op,.int .i64 k,.string ⟨r.1.toArray⟩,.string ⟨r.2.toArray⟩,.slice ao n cp]] w fun e w'=>e = .returned (.bool (decide (op≠1)&&decide (n=0)))∧Chg (fun _=>False) w w':=by
 have hc:=alc w (.cells #[.int .i64 op,.int .i64 k,.string ⟨r.1.toArray⟩,.string ⟨r.2.toArray⟩,.slice ao n cp] 46)
 have hb:=heap_alloc_new w (.cells #[.int .i64 op,.int .i64 k,.string ⟨r.1.toArray⟩,.string ⟨r.2.toArray⟩,.slice ao n cp] 46)
 have s0:=bC hb 0
 have s1:=bC hb 1
 have s2:=bC hb 2
 have s3:=bC hb 3
 have s4:=bC hb 4
 simp only[lA,lZ,lS]at s0 s1 s2 s3 s4
 have HC:=hid hc
 clear hc hb
 go_enter Tryz.func107,Tryz.ntmps107
 by_cases h1:op=1
 ·subst h1
  go_wp2
  go_ret
  exact⟨rfl,HC.out⟩
 ·have z0:(op==1)=false:=by simpa using h1
  have z1:(op != 1)=true:=by simpa using h1
  by_cases h2:n=0
  ·subst h2
   go_wp2
   go_ret
   exact⟨by simp,HC.out⟩
  ·have z2:((n:Int)==0)=false:=by simpa using h2
   go_wp2
   go_ret
   exact⟨by simp [h1,h2],HC.out⟩
theorem palways (w:World):Calls Tryz.prog 108 #[] w fun e w'=>e = .returned (.agg #[.int .i64 2,.int .i64 0,.string ⟨#[]⟩,.string ⟨#[]⟩,.slice none 0 0])∧Chg (fun _=>False) w w':=by
 go_enter Tryz.func108,Tryz.ntmps108
 go_wp2
 refine bodyPost_ret (results_cell_row (P:=Tryz.prog) rfl _ _ w.heap.size 46 _ (0,0) _ rfl (heap_alloc_new w _) Tryz.underlying46 rfl (by kernel_rfl)) rfl ?_
 exact⟨rfl,(Chg.refl _ w).alloc _⟩
theorem pnever (w:World):Calls Tryz.prog 109 #[] w fun e w'=>e = .returned (.agg #[.int .i64 3,.int .i64 0,.string ⟨#[]⟩,.string ⟨#[]⟩,.slice none 0 0])∧Chg (fun _=>False) w w':=by
 go_enter Tryz.func109,Tryz.ntmps109
 go_wp2
 refine bodyPost_ret (results_cell_row (P:=Tryz.prog) rfl _ _ w.heap.size 46 _ (0,0) _ rfl (heap_alloc_new w _) Tryz.underlying46 rfl (by kernel_rfl)) rfl ?_
 exact⟨rfl,(Chg.refl _ w).alloc _⟩
theorem runKids {B:Nat} {w:World} {v:Value} {ts us:List AT} (ty:TypeId) (hown:w.ownsRow B 46 5 v ts.length (rowA ts)) (sv:Value) (hs:(sv = .slice none 0 0∧us=[])∨∃ad c,sv = .slice (some ad) us.length c∧∀j u,(rowA us)[j]? = some u→w.cell? (ad.add j)=some u) (h1:∀u∈rowA us,u.oneCell'=true) (hlen:ts.length+us.length≤1048576) (hB:B≤w.heap.size) :
  ∃v' w',(Builtin.append_ #[44,44] ty #[v,sv]).run Tryz.prog w = .ok v' w'∧w'.ownsRow B 46 5 v' (ts++us).length (rowA (ts++us))∧Chg (fun k=>v.ownBlock=some k) w w':=by
 obtain⟨i0,hi,hz0,hz1,hz2⟩:=info_parts Tryz.info46
 have hra:rowA (ts++us)=rowA ts++rowA us:=by simp [rowA]
 rcases hs with ⟨rfl,rfl⟩|⟨ad,c,rfl,hc⟩
 ·exact⟨v,w,run_append_owned_none (P:=Tryz.prog) (w:=w) B 44 ty 46 i0 5 Tryz.underlying44b hi v _ _ hown,by rw[List.append_nil];exact hown,Chg.refl _ w⟩
 ·obtain⟨v',w',k1,k2,k3,k4⟩:=run_append_own_atD (P:=Tryz.prog) w B 44 ty 46 i0 (.agg #[.int .i64 0,.int .i64 0,.string ⟨#[]⟩,.string ⟨#[]⟩,.slice none 0 0]) 5 72 Tryz.underlying44b hi hz0 hz1 hz2 rfl (by decide) v _ _ hown ad us.length c (rowA us) (rowA_len us) hc h1 (by unfold maxLen;omega) (by omega) hB
  exact⟨v',w',k1,by rw[List.length_append,hra];exact k2,(Chg.refl _ w).grown k3 fun k e _=>e⟩
theorem rowA_one {B:Nat} {w:World} {us:List AT} (h:OwnL B w us):∀u∈rowA us,u.oneCell'=true:=by
 intro u hu
 obtain⟨t,ht,hu⟩:=List.mem_flatMap.1 hu
 exact cellsA_one ((ownL_all _ _ _).1 h t ht) u hu
/-- The Kids of a formula of the call's own, as a source. -/
theorem kids_src {B:Nat} {w:World} {t:AT} (h:OwnA B w t):(t.v = .slice none 0 0∧t.kids=[])∨∃ad c,t.v = .slice (some ad) t.kids.length c∧∀j u,(rowA t.kids)[j]? = some u→w.cell? (ad.add j)=some u:=by
 rw[ownA_eq]at h
 obtain⟨_,h2,_⟩:=h
 have hall:=h2
 rcases h2.2 with ⟨e,h0⟩|⟨g,cap,cur,e,hg,hh,k1,k2,k3,k4⟩
 ·exact .inl ⟨e,List.eq_nil_of_length_eq_zero h0⟩
 ·refine .inr ⟨⟨g,0,none⟩,cap,e,fun j u hj=>?_⟩
  rw[e]at hall
  exact hall.cells (g:=g) rfl j u hj
end
end Go.Proofs.YtkfinhpfdcjoeaaGreat
