/- Are two nodes alike, but for what is within their Kids? -/
import Derived.Test.YtkfinhpfdcjoeaaGreatNa13
import Derived.Test.YtkfinhpfdcjoeaaGreatNa6
namespace Go.Proofs.YtkfinhpfdcjoeaaGreat
open Go.RowKit
attribute [local go_sem ↓ high] run_eql_role run_eqg_role
set_option maxRecDepth 100000 in
set_option maxHeartbeats 8000000 in
theorem fm_alike (ba oa bb ob nA nB cpA cpB:Nat) (opA kA opB kB:Int) (rA rB:RoleB) (aoA aoB:Option Addr) (w:World) (ha:(w.cell? ⟨ba,oa,none⟩=some (.int .i64 opA)∧w.cell? ⟨ba,oa+1,none⟩=some (.int .i64 kA)∧w.cell? ⟨ba,oa+2,none⟩=some (.string ⟨rA.1.toArray⟩)∧w.cell? ⟨ba,oa+3,none⟩=some (.string ⟨rA.2.toArray⟩)∧w.cell? ⟨ba,oa+4,none⟩=some (.slice aoA nA cpA))) (hb:(w.cell? ⟨bb,ob,none⟩=some (.int .i64 opB)∧w.cell? ⟨bb,ob+1,none⟩=some (.int .i64 kB)∧w.cell? ⟨bb,ob+2,none⟩=some (.string ⟨rB.1.toArray⟩)∧w.cell? ⟨bb,ob+3,none⟩=some (.string ⟨rB.2.toArray⟩)∧w.cell? ⟨bb,ob+4,none⟩=some (.slice aoB nB cpB))) :
  Calls Tryz.prog 126 #[.agg #[.pointer (some ⟨ba,oa,none⟩),.pointer (some ⟨bb,ob,none⟩)]] w fun e w'=>e = .returned (.bool (decide (opA=opB∧kA=kB∧rA=rB∧nA=nB)))∧Chg (fun _=>False) w w':=by
 have hc:=alc w (.cells #[.pointer (some ⟨ba,oa,none⟩),.pointer (some ⟨bb,ob,none⟩)] 191)
 have hx:=heap_alloc_new w (.cells #[.pointer (some ⟨ba,oa,none⟩),.pointer (some ⟨bb,ob,none⟩)] 191)
 have x0:=bC hx 0
 have x1:=bC hx 1
 simp only[lA,lZ,lS]at x0 x1
 have HX:=hid (aI x0 x1)
 have HC:=hid hc
 have HA:=hid (aI (hc.cell ha.1 id) (aI (hc.cell ha.2.1 id) (aI (hc.cell ha.2.2.1 id) (aI (hc.cell ha.2.2.2.1 id) (hc.cell ha.2.2.2.2 id)))))
 have HBB:=hid (aI (hc.cell hb.1 id) (aI (hc.cell hb.2.1 id) (aI (hc.cell hb.2.2.1 id) (aI (hc.cell hb.2.2.2.1 id) (hc.cell hb.2.2.2.2 id)))))
 clear ha hb hc hx x0 x1
 go_enter Tryz.func126,Tryz.ntmps126
 go_wp2
 generalize (w.alloc (.cells #[.pointer (some ⟨ba,oa,none⟩),.pointer (some ⟨bb,ob,none⟩)] 191))=w1 at *
 generalize w.heap.size=X at *
 by_cases h0:opA=opB
 ·subst h0
  by_cases h1:kA=kB
  ·subst h1
   by_cases h2:rA=rB
   ·subst h2
    have HRD:Hid (decide (rA=rA)=true):=hid (decide_eq_true rfl)
    by_cases h3:nA=nB
    ·subst h3
     refine wp_region_specs [.any,.eq (.pointer (some ⟨X,0,none⟩)),.eq (.bool true),.eq (.pointer (some ⟨X,0,none⟩)),.eq (.pointer (some ⟨ba,oa,none⟩)),.eq (.pointer (some ⟨ba,oa,none⟩)),.eq (.pointer (some ⟨ba,oa,none⟩)),.eq (.int .i64 opA),.eq (.pointer (some ⟨X,1,none⟩)),.eq (.pointer (some ⟨bb,ob,none⟩)),.eq (.pointer (some ⟨bb,ob,none⟩)),.eq (.pointer (some ⟨bb,ob,none⟩)),.eq (.int .i64 opA),.eq (.bool true),.eq (.bool true),.eq (.pointer (some ⟨X,0,none⟩)),.eq (.pointer (some ⟨ba,oa,none⟩)),.eq (.pointer (some ⟨ba,oa,none⟩)),.eq (.pointer (some ⟨ba,oa+1,none⟩)),.eq (.int .i64 kA),.eq (.pointer (some ⟨X,1,none⟩)),.eq (.pointer (some ⟨bb,ob,none⟩)),.eq (.pointer (some ⟨bb,ob,none⟩)),.eq (.pointer (some ⟨bb,ob+1,none⟩)),.eq (.int .i64 kA),.eq (.bool true),.eq (.bool true),.eq (.bool true),.eq (.pointer (some ⟨X,0,none⟩)),.eq (.pointer (some ⟨ba,oa,none⟩)),.eq (.pointer (some ⟨ba,oa,none⟩)),.eq (.pointer (some ⟨ba,oa+2,none⟩)),.eq (.agg #[.string ⟨rA.1.toArray⟩,.string ⟨rA.2.toArray⟩]),.eq (.pointer (some ⟨X,1,none⟩)),.eq (.pointer (some ⟨bb,ob,none⟩)),.eq (.pointer (some ⟨bb,ob,none⟩)),.eq (.pointer (some ⟨bb,ob+2,none⟩)),.eq (.agg #[.string ⟨rA.1.toArray⟩,.string ⟨rA.2.toArray⟩]),.eq (.bool true),.eq (.bool true),.eq (.bool true),.eq (.pointer (some ⟨X,0,none⟩)),.eq (.pointer (some ⟨ba,oa,none⟩)),.eq (.pointer (some ⟨ba,oa,none⟩)),.eq (.pointer (some ⟨ba,oa+4,none⟩)),.eq (.slice aoA nA cpA),.eq (.int .i64 (nA:Nat)),.eq (.pointer (some ⟨X,1,none⟩)),.eq (.pointer (some ⟨bb,ob,none⟩)),.eq (.pointer (some ⟨bb,ob,none⟩)),.eq (.pointer (some ⟨bb,ob+4,none⟩)),.eq (.slice aoB nA cpB),.eq (.int .i64 (nA:Nat)),.eq (.bool true),.eq (.bool true)] [3,4,5,6,7,8,9,10,11,12,13,14,15,16,17,18,19,20,21,22,23,24,25,26,27,28,29,30,31,32,33,34,35,36,37,38,39,40,41,42,43,44,45,46,47,48,49,50,51,52,53,54,2] [1] (by kernel_rfl) (by kernel_rfl) (by rfl) (by kernel_rfl) ?start4 ?obs4 ?fin4
     case start4=>
      simp only[List.forall_mem_cons];exact⟨⟨_,rfl,rfl⟩,fun _ h=>by cases h⟩
     case obs4=>
      refine Obs.cons none (by kernel_rfl) ?_ ?_
      ·refine Ob.plain fun a w hR hk K k=>?_
       obtain⟨_,e1,rfl⟩:=hk 1 (by decide)
       clear hk
       go_simp
       exact k _ _ R0 rfl
      refine Obs.cons none (by kernel_rfl) ?_ ?_
      ·refine Ob.plain fun a w hR hk K k=>?_
       obtain⟨_,e3,rfl⟩:=hk 3 (by decide)
       clear hk
       have q0:=hR.cell HX.out.1 id
       go_simp
       exact k _ _ R0 rfl
      refine Obs.cons none (by kernel_rfl) ?_ ?_
      ·refine Ob.plain fun a w hR hk K k=>?_
       obtain⟨_,e4,rfl⟩:=hk 4 (by decide)
       clear hk
       go_simp
       exact k _ _ R0 rfl
      refine Obs.cons none (by kernel_rfl) ?_ ?_
      ·refine Ob.plain fun a w hR hk K k=>?_
       obtain⟨_,e5,rfl⟩:=hk 5 (by decide)
       clear hk
       go_simp
       exact k _ _ R0 rfl
      refine Obs.cons none (by kernel_rfl) ?_ ?_
      ·refine Ob.plain fun a w hR hk K k=>?_
       obtain⟨_,e6,rfl⟩:=hk 6 (by decide)
       clear hk
       obtain⟨a0,a1,a2,a3,a4⟩:=HA.out
       have c0:=hR.cell a0 id
       clear a0 a1 a2 a3 a4
       go_simp
       exact k _ _ R0 rfl
      refine Obs.cons none (by kernel_rfl) ?_ ?_
      ·refine Ob.plain fun a w hR hk K k=>?_
       obtain⟨_,e1,rfl⟩:=hk 1 (by decide)
       clear hk
       go_simp
       exact k _ _ R0 rfl
      refine Obs.cons none (by kernel_rfl) ?_ ?_
      ·refine Ob.plain fun a w hR hk K k=>?_
       obtain⟨_,e8,rfl⟩:=hk 8 (by decide)
       clear hk
       have q0:=hR.cell HX.out.2 id
       go_simp
       exact k _ _ R0 rfl
      refine Obs.cons none (by kernel_rfl) ?_ ?_
      ·refine Ob.plain fun a w hR hk K k=>?_
       obtain⟨_,e9,rfl⟩:=hk 9 (by decide)
       clear hk
       go_simp
       exact k _ _ R0 rfl
      refine Obs.cons none (by kernel_rfl) ?_ ?_
      ·refine Ob.plain fun a w hR hk K k=>?_
       obtain⟨_,e10,rfl⟩:=hk 10 (by decide)
       clear hk
       go_simp
       exact k _ _ R0 rfl
      refine Obs.cons none (by kernel_rfl) ?_ ?_
      ·refine Ob.plain fun a w hR hk K k=>?_
       obtain⟨_,e11,rfl⟩:=hk 11 (by decide)
       clear hk
       obtain⟨a0,a1,a2,a3,a4⟩:=HBB.out
       have c0:=hR.cell a0 id
       clear a0 a1 a2 a3 a4
       go_simp
       exact k _ _ R0 rfl
      refine Obs.cons none (by kernel_rfl) ?_ ?_
      ·refine Ob.plain fun a w hR hk K k=>?_
       obtain⟨_,e7,rfl⟩:=hk 7 (by decide)
       obtain⟨_,e12,rfl⟩:=hk 12 (by decide)
       clear hk
       go_simp
       exact k _ _ R0 rfl
      refine Obs.cons none (by kernel_rfl) ?_ ?_
      ·refine Ob.plain fun a w hR hk K k=>?_
       obtain⟨_,e13,f13⟩:=hk 13 (by decide)
       clear hk
       go_simp
       exact k _ _ R0 f13
      refine Obs.cons (some (14,true)) (by kernel_rfl) ?_ ?_
      ·refine Ob.yes (fun _ _ h=>h) fun a w hR hk K k=>?_
       obtain⟨_,e1,rfl⟩:=hk 1 (by decide)
       clear hk
       go_simp
       exact k _ _ R0 rfl
      refine Obs.cons (some (14,true)) (by kernel_rfl) ?_ ?_
      ·refine Ob.yes (fun _ _ h=>h) fun a w hR hk K k=>?_
       obtain⟨_,e15,rfl⟩:=hk 15 (by decide)
       clear hk
       have q0:=hR.cell HX.out.1 id
       go_simp
       exact k _ _ R0 rfl
      refine Obs.cons (some (14,true)) (by kernel_rfl) ?_ ?_
      ·refine Ob.yes (fun _ _ h=>h) fun a w hR hk K k=>?_
       obtain⟨_,e16,rfl⟩:=hk 16 (by decide)
       clear hk
       go_simp
       exact k _ _ R0 rfl
      refine Obs.cons (some (14,true)) (by kernel_rfl) ?_ ?_
      ·refine Ob.yes (fun _ _ h=>h) fun a w hR hk K k=>?_
       obtain⟨_,e17,rfl⟩:=hk 17 (by decide)
       clear hk
       go_simp
       exact k _ _ R0 rfl
      refine Obs.cons (some (14,true)) (by kernel_rfl) ?_ ?_
      ·refine Ob.yes (fun _ _ h=>h) fun a w hR hk K k=>?_
       obtain⟨_,e18,rfl⟩:=hk 18 (by decide)
       clear hk
       obtain⟨a0,a1,a2,a3,a4⟩:=HA.out
       have c1:=hR.cell a1 id
       clear a0 a1 a2 a3 a4
       go_simp
       exact k _ _ R0 rfl
      refine Obs.cons (some (14,true)) (by kernel_rfl) ?_ ?_
      ·refine Ob.yes (fun _ _ h=>h) fun a w hR hk K k=>?_
       obtain⟨_,e1,rfl⟩:=hk 1 (by decide)
       clear hk
       go_simp
       exact k _ _ R0 rfl
      refine Obs.cons (some (14,true)) (by kernel_rfl) ?_ ?_
      ·refine Ob.yes (fun _ _ h=>h) fun a w hR hk K k=>?_
       obtain⟨_,e20,rfl⟩:=hk 20 (by decide)
       clear hk
       have q0:=hR.cell HX.out.2 id
       go_simp
       exact k _ _ R0 rfl
      refine Obs.cons (some (14,true)) (by kernel_rfl) ?_ ?_
      ·refine Ob.yes (fun _ _ h=>h) fun a w hR hk K k=>?_
       obtain⟨_,e21,rfl⟩:=hk 21 (by decide)
       clear hk
       go_simp
       exact k _ _ R0 rfl
      refine Obs.cons (some (14,true)) (by kernel_rfl) ?_ ?_
      ·refine Ob.yes (fun _ _ h=>h) fun a w hR hk K k=>?_
       obtain⟨_,e22,rfl⟩:=hk 22 (by decide)
       clear hk
       go_simp
       exact k _ _ R0 rfl
      refine Obs.cons (some (14,true)) (by kernel_rfl) ?_ ?_
      ·refine Ob.yes (fun _ _ h=>h) fun a w hR hk K k=>?_
       obtain⟨_,e23,rfl⟩:=hk 23 (by decide)
       clear hk
       obtain⟨a0,a1,a2,a3,a4⟩:=HBB.out
       have c1:=hR.cell a1 id
       clear a0 a1 a2 a3 a4
       go_simp
       exact k _ _ R0 rfl
      refine Obs.cons (some (14,true)) (by kernel_rfl) ?_ ?_
      ·refine Ob.yes (fun _ _ h=>h) fun a w hR hk K k=>?_
       obtain⟨_,e19,rfl⟩:=hk 19 (by decide)
       obtain⟨_,e24,rfl⟩:=hk 24 (by decide)
       clear hk
       go_simp
       exact k _ _ R0 rfl
      refine Obs.cons none (by kernel_rfl) ?_ ?_
      ·refine Ob.plain fun a w hR hk K k=>?_
       obtain⟨_,e14,rfl⟩:=hk 14 (by decide)
       obtain⟨_,e25,rfl⟩:=hk 25 (by decide)
       clear hk
       go_simp
       exact k _ _ R0 rfl
      refine Obs.cons none (by kernel_rfl) ?_ ?_
      ·refine Ob.plain fun a w hR hk K k=>?_
       obtain⟨_,e26,f26⟩:=hk 26 (by decide)
       clear hk
       go_simp
       exact k _ _ R0 f26
      refine Obs.cons (some (27,true)) (by kernel_rfl) ?_ ?_
      ·refine Ob.yes (fun _ _ h=>h) fun a w hR hk K k=>?_
       obtain⟨_,e1,rfl⟩:=hk 1 (by decide)
       clear hk
       go_simp
       exact k _ _ R0 rfl
      refine Obs.cons (some (27,true)) (by kernel_rfl) ?_ ?_
      ·refine Ob.yes (fun _ _ h=>h) fun a w hR hk K k=>?_
       obtain⟨_,e28,rfl⟩:=hk 28 (by decide)
       clear hk
       have q0:=hR.cell HX.out.1 id
       go_simp
       exact k _ _ R0 rfl
      refine Obs.cons (some (27,true)) (by kernel_rfl) ?_ ?_
      ·refine Ob.yes (fun _ _ h=>h) fun a w hR hk K k=>?_
       obtain⟨_,e29,rfl⟩:=hk 29 (by decide)
       clear hk
       go_simp
       exact k _ _ R0 rfl
      refine Obs.cons (some (27,true)) (by kernel_rfl) ?_ ?_
      ·refine Ob.yes (fun _ _ h=>h) fun a w hR hk K k=>?_
       obtain⟨_,e30,rfl⟩:=hk 30 (by decide)
       clear hk
       go_simp
       exact k _ _ R0 rfl
      refine Obs.cons (some (27,true)) (by kernel_rfl) ?_ ?_
      ·refine Ob.yes (fun _ _ h=>h) fun a w hR hk K k=>?_
       obtain⟨_,e31,rfl⟩:=hk 31 (by decide)
       clear hk
       obtain⟨a0,a1,a2,a3,a4⟩:=HA.out
       have c2:=hR.cell a2 id
       have c3:=hR.cell a3 id
       clear a0 a1 a2 a3 a4
       go_simp
       exact k _ _ R0 rfl
      refine Obs.cons (some (27,true)) (by kernel_rfl) ?_ ?_
      ·refine Ob.yes (fun _ _ h=>h) fun a w hR hk K k=>?_
       obtain⟨_,e1,rfl⟩:=hk 1 (by decide)
       clear hk
       go_simp
       exact k _ _ R0 rfl
      refine Obs.cons (some (27,true)) (by kernel_rfl) ?_ ?_
      ·refine Ob.yes (fun _ _ h=>h) fun a w hR hk K k=>?_
       obtain⟨_,e33,rfl⟩:=hk 33 (by decide)
       clear hk
       have q0:=hR.cell HX.out.2 id
       go_simp
       exact k _ _ R0 rfl
      refine Obs.cons (some (27,true)) (by kernel_rfl) ?_ ?_
      ·refine Ob.yes (fun _ _ h=>h) fun a w hR hk K k=>?_
       obtain⟨_,e34,rfl⟩:=hk 34 (by decide)
       clear hk
       go_simp
       exact k _ _ R0 rfl
      refine Obs.cons (some (27,true)) (by kernel_rfl) ?_ ?_
      ·refine Ob.yes (fun _ _ h=>h) fun a w hR hk K k=>?_
       obtain⟨_,e35,rfl⟩:=hk 35 (by decide)
       clear hk
       go_simp
       exact k _ _ R0 rfl
      refine Obs.cons (some (27,true)) (by kernel_rfl) ?_ ?_
      ·refine Ob.yes (fun _ _ h=>h) fun a w hR hk K k=>?_
       obtain⟨_,e36,rfl⟩:=hk 36 (by decide)
       clear hk
       obtain⟨a0,a1,a2,a3,a4⟩:=HBB.out
       have c2:=hR.cell a2 id
       have c3:=hR.cell a3 id
       clear a0 a1 a2 a3 a4
       go_simp
       exact k _ _ R0 rfl
      refine Obs.cons (some (27,true)) (by kernel_rfl) ?_ ?_
      ·refine Ob.yes (fun _ _ h=>h) fun a w hR hk K k=>?_
       obtain⟨_,e32,rfl⟩:=hk 32 (by decide)
       obtain⟨_,e37,rfl⟩:=hk 37 (by decide)
       clear hk
       have z1:decide (rA=rA)=true:=HRD.out
       go_simp
       exact k _ _ R0 rfl
      refine Obs.cons none (by kernel_rfl) ?_ ?_
      ·refine Ob.plain fun a w hR hk K k=>?_
       obtain⟨_,e27,rfl⟩:=hk 27 (by decide)
       obtain⟨_,e38,rfl⟩:=hk 38 (by decide)
       clear hk
       go_simp
       exact k _ _ R0 rfl
      refine Obs.cons none (by kernel_rfl) ?_ ?_
      ·refine Ob.plain fun a w hR hk K k=>?_
       obtain⟨_,e39,f39⟩:=hk 39 (by decide)
       clear hk
       go_simp
       exact k _ _ R0 f39
      refine Obs.cons (some (40,true)) (by kernel_rfl) ?_ ?_
      ·refine Ob.yes (fun _ _ h=>h) fun a w hR hk K k=>?_
       obtain⟨_,e1,rfl⟩:=hk 1 (by decide)
       clear hk
       go_simp
       exact k _ _ R0 rfl
      refine Obs.cons (some (40,true)) (by kernel_rfl) ?_ ?_
      ·refine Ob.yes (fun _ _ h=>h) fun a w hR hk K k=>?_
       obtain⟨_,e41,rfl⟩:=hk 41 (by decide)
       clear hk
       have q0:=hR.cell HX.out.1 id
       go_simp
       exact k _ _ R0 rfl
      refine Obs.cons (some (40,true)) (by kernel_rfl) ?_ ?_
      ·refine Ob.yes (fun _ _ h=>h) fun a w hR hk K k=>?_
       obtain⟨_,e42,rfl⟩:=hk 42 (by decide)
       clear hk
       go_simp
       exact k _ _ R0 rfl
      refine Obs.cons (some (40,true)) (by kernel_rfl) ?_ ?_
      ·refine Ob.yes (fun _ _ h=>h) fun a w hR hk K k=>?_
       obtain⟨_,e43,rfl⟩:=hk 43 (by decide)
       clear hk
       go_simp
       exact k _ _ R0 rfl
      refine Obs.cons (some (40,true)) (by kernel_rfl) ?_ ?_
      ·refine Ob.yes (fun _ _ h=>h) fun a w hR hk K k=>?_
       obtain⟨_,e44,rfl⟩:=hk 44 (by decide)
       clear hk
       obtain⟨a0,a1,a2,a3,a4⟩:=HA.out
       have c4:=hR.cell a4 id
       clear a0 a1 a2 a3 a4
       go_simp
       exact k _ _ R0 rfl
      refine Obs.cons (some (40,true)) (by kernel_rfl) ?_ ?_
      ·refine Ob.yes (fun _ _ h=>h) fun a w hR hk K k=>?_
       obtain⟨_,e45,rfl⟩:=hk 45 (by decide)
       clear hk
       go_simp
       exact k _ _ R0 rfl
      refine Obs.cons (some (40,true)) (by kernel_rfl) ?_ ?_
      ·refine Ob.yes (fun _ _ h=>h) fun a w hR hk K k=>?_
       obtain⟨_,e1,rfl⟩:=hk 1 (by decide)
       clear hk
       go_simp
       exact k _ _ R0 rfl
      refine Obs.cons (some (40,true)) (by kernel_rfl) ?_ ?_
      ·refine Ob.yes (fun _ _ h=>h) fun a w hR hk K k=>?_
       obtain⟨_,e47,rfl⟩:=hk 47 (by decide)
       clear hk
       have q0:=hR.cell HX.out.2 id
       go_simp
       exact k _ _ R0 rfl
      refine Obs.cons (some (40,true)) (by kernel_rfl) ?_ ?_
      ·refine Ob.yes (fun _ _ h=>h) fun a w hR hk K k=>?_
       obtain⟨_,e48,rfl⟩:=hk 48 (by decide)
       clear hk
       go_simp
       exact k _ _ R0 rfl
      refine Obs.cons (some (40,true)) (by kernel_rfl) ?_ ?_
      ·refine Ob.yes (fun _ _ h=>h) fun a w hR hk K k=>?_
       obtain⟨_,e49,rfl⟩:=hk 49 (by decide)
       clear hk
       go_simp
       exact k _ _ R0 rfl
      refine Obs.cons (some (40,true)) (by kernel_rfl) ?_ ?_
      ·refine Ob.yes (fun _ _ h=>h) fun a w hR hk K k=>?_
       obtain⟨_,e50,rfl⟩:=hk 50 (by decide)
       clear hk
       obtain⟨a0,a1,a2,a3,a4⟩:=HBB.out
       have c4:=hR.cell a4 id
       clear a0 a1 a2 a3 a4
       go_simp
       exact k _ _ R0 rfl
      refine Obs.cons (some (40,true)) (by kernel_rfl) ?_ ?_
      ·refine Ob.yes (fun _ _ h=>h) fun a w hR hk K k=>?_
       obtain⟨_,e51,rfl⟩:=hk 51 (by decide)
       clear hk
       go_simp
       exact k _ _ R0 rfl
      refine Obs.cons (some (40,true)) (by kernel_rfl) ?_ ?_
      ·refine Ob.yes (fun _ _ h=>h) fun a w hR hk K k=>?_
       obtain⟨_,e46,rfl⟩:=hk 46 (by decide)
       obtain⟨_,e52,rfl⟩:=hk 52 (by decide)
       clear hk
       go_simp
       exact k _ _ R0 rfl
      refine Obs.cons none (by kernel_rfl) ?_ ?_
      ·refine Ob.plain fun a w hR hk K k=>?_
       obtain⟨_,e40,rfl⟩:=hk 40 (by decide)
       obtain⟨_,e53,rfl⟩:=hk 53 (by decide)
       clear hk
       go_simp
       exact k _ _ R0 rfl
      refine Obs.cons none (by kernel_rfl) ?_ ?_
      ·refine Ob.plain fun a w hR hk K k=>?_
       obtain⟨_,e54,f54⟩:=hk 54 (by decide)
       clear hk
       go_simp
       exact k _ _ R0 f54
      exact Obs.nil
     case fin4=>
      intro vals w9 hc9 hv
      have h2:vals 2 = .bool true:=hv 2 (by decide)
      have HC9:=hid (HC.out.trans hc9 (fun _ _ h=>h))
      simp only[putAll,List.setIfInBounds_toArray,List.set_cons_zero,List.set_cons_succ,h2]
      clear hv h2 hc9
      go_wp2
      go_ret
      exact⟨rfl,HC9.out⟩
    ·have HNE:Hid (((nA:Int)==(nB:Int))=false):=hid (by rw[beq_eq_false_iff_ne];omega)
     refine wp_region_specs [.any,.eq (.pointer (some ⟨X,0,none⟩)),.eq (.bool false),.eq (.pointer (some ⟨X,0,none⟩)),.eq (.pointer (some ⟨ba,oa,none⟩)),.eq (.pointer (some ⟨ba,oa,none⟩)),.eq (.pointer (some ⟨ba,oa,none⟩)),.eq (.int .i64 opA),.eq (.pointer (some ⟨X,1,none⟩)),.eq (.pointer (some ⟨bb,ob,none⟩)),.eq (.pointer (some ⟨bb,ob,none⟩)),.eq (.pointer (some ⟨bb,ob,none⟩)),.eq (.int .i64 opA),.eq (.bool true),.eq (.bool true),.eq (.pointer (some ⟨X,0,none⟩)),.eq (.pointer (some ⟨ba,oa,none⟩)),.eq (.pointer (some ⟨ba,oa,none⟩)),.eq (.pointer (some ⟨ba,oa+1,none⟩)),.eq (.int .i64 kA),.eq (.pointer (some ⟨X,1,none⟩)),.eq (.pointer (some ⟨bb,ob,none⟩)),.eq (.pointer (some ⟨bb,ob,none⟩)),.eq (.pointer (some ⟨bb,ob+1,none⟩)),.eq (.int .i64 kA),.eq (.bool true),.eq (.bool true),.eq (.bool true),.eq (.pointer (some ⟨X,0,none⟩)),.eq (.pointer (some ⟨ba,oa,none⟩)),.eq (.pointer (some ⟨ba,oa,none⟩)),.eq (.pointer (some ⟨ba,oa+2,none⟩)),.eq (.agg #[.string ⟨rA.1.toArray⟩,.string ⟨rA.2.toArray⟩]),.eq (.pointer (some ⟨X,1,none⟩)),.eq (.pointer (some ⟨bb,ob,none⟩)),.eq (.pointer (some ⟨bb,ob,none⟩)),.eq (.pointer (some ⟨bb,ob+2,none⟩)),.eq (.agg #[.string ⟨rA.1.toArray⟩,.string ⟨rA.2.toArray⟩]),.eq (.bool true),.eq (.bool true),.eq (.bool true),.eq (.pointer (some ⟨X,0,none⟩)),.eq (.pointer (some ⟨ba,oa,none⟩)),.eq (.pointer (some ⟨ba,oa,none⟩)),.eq (.pointer (some ⟨ba,oa+4,none⟩)),.eq (.slice aoA nA cpA),.eq (.int .i64 (nA:Nat)),.eq (.pointer (some ⟨X,1,none⟩)),.eq (.pointer (some ⟨bb,ob,none⟩)),.eq (.pointer (some ⟨bb,ob,none⟩)),.eq (.pointer (some ⟨bb,ob+4,none⟩)),.eq (.slice aoB nB cpB),.eq (.int .i64 (nB:Nat)),.eq (.bool false),.eq (.bool false)] [3,4,5,6,7,8,9,10,11,12,13,14,15,16,17,18,19,20,21,22,23,24,25,26,27,28,29,30,31,32,33,34,35,36,37,38,39,40,41,42,43,44,45,46,47,48,49,50,51,52,53,54,2] [1] (by kernel_rfl) (by kernel_rfl) (by rfl) (by kernel_rfl) ?start3 ?obs3 ?fin3
     case start3=>
      simp only[List.forall_mem_cons];exact⟨⟨_,rfl,rfl⟩,fun _ h=>by cases h⟩
     case obs3=>
      refine Obs.cons none (by kernel_rfl) ?_ ?_
      ·refine Ob.plain fun a w hR hk K k=>?_
       obtain⟨_,e1,rfl⟩:=hk 1 (by decide)
       clear hk
       go_simp
       exact k _ _ R0 rfl
      refine Obs.cons none (by kernel_rfl) ?_ ?_
      ·refine Ob.plain fun a w hR hk K k=>?_
       obtain⟨_,e3,rfl⟩:=hk 3 (by decide)
       clear hk
       have q0:=hR.cell HX.out.1 id
       go_simp
       exact k _ _ R0 rfl
      refine Obs.cons none (by kernel_rfl) ?_ ?_
      ·refine Ob.plain fun a w hR hk K k=>?_
       obtain⟨_,e4,rfl⟩:=hk 4 (by decide)
       clear hk
       go_simp
       exact k _ _ R0 rfl
      refine Obs.cons none (by kernel_rfl) ?_ ?_
      ·refine Ob.plain fun a w hR hk K k=>?_
       obtain⟨_,e5,rfl⟩:=hk 5 (by decide)
       clear hk
       go_simp
       exact k _ _ R0 rfl
      refine Obs.cons none (by kernel_rfl) ?_ ?_
      ·refine Ob.plain fun a w hR hk K k=>?_
       obtain⟨_,e6,rfl⟩:=hk 6 (by decide)
       clear hk
       obtain⟨a0,a1,a2,a3,a4⟩:=HA.out
       have c0:=hR.cell a0 id
       clear a0 a1 a2 a3 a4
       go_simp
       exact k _ _ R0 rfl
      refine Obs.cons none (by kernel_rfl) ?_ ?_
      ·refine Ob.plain fun a w hR hk K k=>?_
       obtain⟨_,e1,rfl⟩:=hk 1 (by decide)
       clear hk
       go_simp
       exact k _ _ R0 rfl
      refine Obs.cons none (by kernel_rfl) ?_ ?_
      ·refine Ob.plain fun a w hR hk K k=>?_
       obtain⟨_,e8,rfl⟩:=hk 8 (by decide)
       clear hk
       have q0:=hR.cell HX.out.2 id
       go_simp
       exact k _ _ R0 rfl
      refine Obs.cons none (by kernel_rfl) ?_ ?_
      ·refine Ob.plain fun a w hR hk K k=>?_
       obtain⟨_,e9,rfl⟩:=hk 9 (by decide)
       clear hk
       go_simp
       exact k _ _ R0 rfl
      refine Obs.cons none (by kernel_rfl) ?_ ?_
      ·refine Ob.plain fun a w hR hk K k=>?_
       obtain⟨_,e10,rfl⟩:=hk 10 (by decide)
       clear hk
       go_simp
       exact k _ _ R0 rfl
      refine Obs.cons none (by kernel_rfl) ?_ ?_
      ·refine Ob.plain fun a w hR hk K k=>?_
       obtain⟨_,e11,rfl⟩:=hk 11 (by decide)
       clear hk
       obtain⟨a0,a1,a2,a3,a4⟩:=HBB.out
       have c0:=hR.cell a0 id
       clear a0 a1 a2 a3 a4
       go_simp
       exact k _ _ R0 rfl
      refine Obs.cons none (by kernel_rfl) ?_ ?_
      ·refine Ob.plain fun a w hR hk K k=>?_
       obtain⟨_,e7,rfl⟩:=hk 7 (by decide)
       obtain⟨_,e12,rfl⟩:=hk 12 (by decide)
       clear hk
       go_simp
       exact k _ _ R0 rfl
      refine Obs.cons none (by kernel_rfl) ?_ ?_
      ·refine Ob.plain fun a w hR hk K k=>?_
       obtain⟨_,e13,f13⟩:=hk 13 (by decide)
       clear hk
       go_simp
       exact k _ _ R0 f13
      refine Obs.cons (some (14,true)) (by kernel_rfl) ?_ ?_
      ·refine Ob.yes (fun _ _ h=>h) fun a w hR hk K k=>?_
       obtain⟨_,e1,rfl⟩:=hk 1 (by decide)
       clear hk
       go_simp
       exact k _ _ R0 rfl
      refine Obs.cons (some (14,true)) (by kernel_rfl) ?_ ?_
      ·refine Ob.yes (fun _ _ h=>h) fun a w hR hk K k=>?_
       obtain⟨_,e15,rfl⟩:=hk 15 (by decide)
       clear hk
       have q0:=hR.cell HX.out.1 id
       go_simp
       exact k _ _ R0 rfl
      refine Obs.cons (some (14,true)) (by kernel_rfl) ?_ ?_
      ·refine Ob.yes (fun _ _ h=>h) fun a w hR hk K k=>?_
       obtain⟨_,e16,rfl⟩:=hk 16 (by decide)
       clear hk
       go_simp
       exact k _ _ R0 rfl
      refine Obs.cons (some (14,true)) (by kernel_rfl) ?_ ?_
      ·refine Ob.yes (fun _ _ h=>h) fun a w hR hk K k=>?_
       obtain⟨_,e17,rfl⟩:=hk 17 (by decide)
       clear hk
       go_simp
       exact k _ _ R0 rfl
      refine Obs.cons (some (14,true)) (by kernel_rfl) ?_ ?_
      ·refine Ob.yes (fun _ _ h=>h) fun a w hR hk K k=>?_
       obtain⟨_,e18,rfl⟩:=hk 18 (by decide)
       clear hk
       obtain⟨a0,a1,a2,a3,a4⟩:=HA.out
       have c1:=hR.cell a1 id
       clear a0 a1 a2 a3 a4
       go_simp
       exact k _ _ R0 rfl
      refine Obs.cons (some (14,true)) (by kernel_rfl) ?_ ?_
      ·refine Ob.yes (fun _ _ h=>h) fun a w hR hk K k=>?_
       obtain⟨_,e1,rfl⟩:=hk 1 (by decide)
       clear hk
       go_simp
       exact k _ _ R0 rfl
      refine Obs.cons (some (14,true)) (by kernel_rfl) ?_ ?_
      ·refine Ob.yes (fun _ _ h=>h) fun a w hR hk K k=>?_
       obtain⟨_,e20,rfl⟩:=hk 20 (by decide)
       clear hk
       have q0:=hR.cell HX.out.2 id
       go_simp
       exact k _ _ R0 rfl
      refine Obs.cons (some (14,true)) (by kernel_rfl) ?_ ?_
      ·refine Ob.yes (fun _ _ h=>h) fun a w hR hk K k=>?_
       obtain⟨_,e21,rfl⟩:=hk 21 (by decide)
       clear hk
       go_simp
       exact k _ _ R0 rfl
      refine Obs.cons (some (14,true)) (by kernel_rfl) ?_ ?_
      ·refine Ob.yes (fun _ _ h=>h) fun a w hR hk K k=>?_
       obtain⟨_,e22,rfl⟩:=hk 22 (by decide)
       clear hk
       go_simp
       exact k _ _ R0 rfl
      refine Obs.cons (some (14,true)) (by kernel_rfl) ?_ ?_
      ·refine Ob.yes (fun _ _ h=>h) fun a w hR hk K k=>?_
       obtain⟨_,e23,rfl⟩:=hk 23 (by decide)
       clear hk
       obtain⟨a0,a1,a2,a3,a4⟩:=HBB.out
       have c1:=hR.cell a1 id
       clear a0 a1 a2 a3 a4
       go_simp
       exact k _ _ R0 rfl
      refine Obs.cons (some (14,true)) (by kernel_rfl) ?_ ?_
      ·refine Ob.yes (fun _ _ h=>h) fun a w hR hk K k=>?_
       obtain⟨_,e19,rfl⟩:=hk 19 (by decide)
       obtain⟨_,e24,rfl⟩:=hk 24 (by decide)
       clear hk
       go_simp
       exact k _ _ R0 rfl
      refine Obs.cons none (by kernel_rfl) ?_ ?_
      ·refine Ob.plain fun a w hR hk K k=>?_
       obtain⟨_,e14,rfl⟩:=hk 14 (by decide)
       obtain⟨_,e25,rfl⟩:=hk 25 (by decide)
       clear hk
       go_simp
       exact k _ _ R0 rfl
      refine Obs.cons none (by kernel_rfl) ?_ ?_
      ·refine Ob.plain fun a w hR hk K k=>?_
       obtain⟨_,e26,f26⟩:=hk 26 (by decide)
       clear hk
       go_simp
       exact k _ _ R0 f26
      refine Obs.cons (some (27,true)) (by kernel_rfl) ?_ ?_
      ·refine Ob.yes (fun _ _ h=>h) fun a w hR hk K k=>?_
       obtain⟨_,e1,rfl⟩:=hk 1 (by decide)
       clear hk
       go_simp
       exact k _ _ R0 rfl
      refine Obs.cons (some (27,true)) (by kernel_rfl) ?_ ?_
      ·refine Ob.yes (fun _ _ h=>h) fun a w hR hk K k=>?_
       obtain⟨_,e28,rfl⟩:=hk 28 (by decide)
       clear hk
       have q0:=hR.cell HX.out.1 id
       go_simp
       exact k _ _ R0 rfl
      refine Obs.cons (some (27,true)) (by kernel_rfl) ?_ ?_
      ·refine Ob.yes (fun _ _ h=>h) fun a w hR hk K k=>?_
       obtain⟨_,e29,rfl⟩:=hk 29 (by decide)
       clear hk
       go_simp
       exact k _ _ R0 rfl
      refine Obs.cons (some (27,true)) (by kernel_rfl) ?_ ?_
      ·refine Ob.yes (fun _ _ h=>h) fun a w hR hk K k=>?_
       obtain⟨_,e30,rfl⟩:=hk 30 (by decide)
       clear hk
       go_simp
       exact k _ _ R0 rfl
      refine Obs.cons (some (27,true)) (by kernel_rfl) ?_ ?_
      ·refine Ob.yes (fun _ _ h=>h) fun a w hR hk K k=>?_
       obtain⟨_,e31,rfl⟩:=hk 31 (by decide)
       clear hk
       obtain⟨a0,a1,a2,a3,a4⟩:=HA.out
       have c2:=hR.cell a2 id
       have c3:=hR.cell a3 id
       clear a0 a1 a2 a3 a4
       go_simp
       exact k _ _ R0 rfl
      refine Obs.cons (some (27,true)) (by kernel_rfl) ?_ ?_
      ·refine Ob.yes (fun _ _ h=>h) fun a w hR hk K k=>?_
       obtain⟨_,e1,rfl⟩:=hk 1 (by decide)
       clear hk
       go_simp
       exact k _ _ R0 rfl
      refine Obs.cons (some (27,true)) (by kernel_rfl) ?_ ?_
      ·refine Ob.yes (fun _ _ h=>h) fun a w hR hk K k=>?_
       obtain⟨_,e33,rfl⟩:=hk 33 (by decide)
       clear hk
       have q0:=hR.cell HX.out.2 id
       go_simp
       exact k _ _ R0 rfl
      refine Obs.cons (some (27,true)) (by kernel_rfl) ?_ ?_
      ·refine Ob.yes (fun _ _ h=>h) fun a w hR hk K k=>?_
       obtain⟨_,e34,rfl⟩:=hk 34 (by decide)
       clear hk
       go_simp
       exact k _ _ R0 rfl
      refine Obs.cons (some (27,true)) (by kernel_rfl) ?_ ?_
      ·refine Ob.yes (fun _ _ h=>h) fun a w hR hk K k=>?_
       obtain⟨_,e35,rfl⟩:=hk 35 (by decide)
       clear hk
       go_simp
       exact k _ _ R0 rfl
      refine Obs.cons (some (27,true)) (by kernel_rfl) ?_ ?_
      ·refine Ob.yes (fun _ _ h=>h) fun a w hR hk K k=>?_
       obtain⟨_,e36,rfl⟩:=hk 36 (by decide)
       clear hk
       obtain⟨a0,a1,a2,a3,a4⟩:=HBB.out
       have c2:=hR.cell a2 id
       have c3:=hR.cell a3 id
       clear a0 a1 a2 a3 a4
       go_simp
       exact k _ _ R0 rfl
      refine Obs.cons (some (27,true)) (by kernel_rfl) ?_ ?_
      ·refine Ob.yes (fun _ _ h=>h) fun a w hR hk K k=>?_
       obtain⟨_,e32,rfl⟩:=hk 32 (by decide)
       obtain⟨_,e37,rfl⟩:=hk 37 (by decide)
       clear hk
       have z1:decide (rA=rA)=true:=HRD.out
       go_simp
       exact k _ _ R0 rfl
      refine Obs.cons none (by kernel_rfl) ?_ ?_
      ·refine Ob.plain fun a w hR hk K k=>?_
       obtain⟨_,e27,rfl⟩:=hk 27 (by decide)
       obtain⟨_,e38,rfl⟩:=hk 38 (by decide)
       clear hk
       go_simp
       exact k _ _ R0 rfl
      refine Obs.cons none (by kernel_rfl) ?_ ?_
      ·refine Ob.plain fun a w hR hk K k=>?_
       obtain⟨_,e39,f39⟩:=hk 39 (by decide)
       clear hk
       go_simp
       exact k _ _ R0 f39
      refine Obs.cons (some (40,true)) (by kernel_rfl) ?_ ?_
      ·refine Ob.yes (fun _ _ h=>h) fun a w hR hk K k=>?_
       obtain⟨_,e1,rfl⟩:=hk 1 (by decide)
       clear hk
       go_simp
       exact k _ _ R0 rfl
      refine Obs.cons (some (40,true)) (by kernel_rfl) ?_ ?_
      ·refine Ob.yes (fun _ _ h=>h) fun a w hR hk K k=>?_
       obtain⟨_,e41,rfl⟩:=hk 41 (by decide)
       clear hk
       have q0:=hR.cell HX.out.1 id
       go_simp
       exact k _ _ R0 rfl
      refine Obs.cons (some (40,true)) (by kernel_rfl) ?_ ?_
      ·refine Ob.yes (fun _ _ h=>h) fun a w hR hk K k=>?_
       obtain⟨_,e42,rfl⟩:=hk 42 (by decide)
       clear hk
       go_simp
       exact k _ _ R0 rfl
      refine Obs.cons (some (40,true)) (by kernel_rfl) ?_ ?_
      ·refine Ob.yes (fun _ _ h=>h) fun a w hR hk K k=>?_
       obtain⟨_,e43,rfl⟩:=hk 43 (by decide)
       clear hk
       go_simp
       exact k _ _ R0 rfl
      refine Obs.cons (some (40,true)) (by kernel_rfl) ?_ ?_
      ·refine Ob.yes (fun _ _ h=>h) fun a w hR hk K k=>?_
       obtain⟨_,e44,rfl⟩:=hk 44 (by decide)
       clear hk
       obtain⟨a0,a1,a2,a3,a4⟩:=HA.out
       have c4:=hR.cell a4 id
       clear a0 a1 a2 a3 a4
       go_simp
       exact k _ _ R0 rfl
      refine Obs.cons (some (40,true)) (by kernel_rfl) ?_ ?_
      ·refine Ob.yes (fun _ _ h=>h) fun a w hR hk K k=>?_
       obtain⟨_,e45,rfl⟩:=hk 45 (by decide)
       clear hk
       go_simp
       exact k _ _ R0 rfl
      refine Obs.cons (some (40,true)) (by kernel_rfl) ?_ ?_
      ·refine Ob.yes (fun _ _ h=>h) fun a w hR hk K k=>?_
       obtain⟨_,e1,rfl⟩:=hk 1 (by decide)
       clear hk
       go_simp
       exact k _ _ R0 rfl
      refine Obs.cons (some (40,true)) (by kernel_rfl) ?_ ?_
      ·refine Ob.yes (fun _ _ h=>h) fun a w hR hk K k=>?_
       obtain⟨_,e47,rfl⟩:=hk 47 (by decide)
       clear hk
       have q0:=hR.cell HX.out.2 id
       go_simp
       exact k _ _ R0 rfl
      refine Obs.cons (some (40,true)) (by kernel_rfl) ?_ ?_
      ·refine Ob.yes (fun _ _ h=>h) fun a w hR hk K k=>?_
       obtain⟨_,e48,rfl⟩:=hk 48 (by decide)
       clear hk
       go_simp
       exact k _ _ R0 rfl
      refine Obs.cons (some (40,true)) (by kernel_rfl) ?_ ?_
      ·refine Ob.yes (fun _ _ h=>h) fun a w hR hk K k=>?_
       obtain⟨_,e49,rfl⟩:=hk 49 (by decide)
       clear hk
       go_simp
       exact k _ _ R0 rfl
      refine Obs.cons (some (40,true)) (by kernel_rfl) ?_ ?_
      ·refine Ob.yes (fun _ _ h=>h) fun a w hR hk K k=>?_
       obtain⟨_,e50,rfl⟩:=hk 50 (by decide)
       clear hk
       obtain⟨a0,a1,a2,a3,a4⟩:=HBB.out
       have c4:=hR.cell a4 id
       clear a0 a1 a2 a3 a4
       go_simp
       exact k _ _ R0 rfl
      refine Obs.cons (some (40,true)) (by kernel_rfl) ?_ ?_
      ·refine Ob.yes (fun _ _ h=>h) fun a w hR hk K k=>?_
       obtain⟨_,e51,rfl⟩:=hk 51 (by decide)
       clear hk
       go_simp
       exact k _ _ R0 rfl
      refine Obs.cons (some (40,true)) (by kernel_rfl) ?_ ?_
      ·refine Ob.yes (fun _ _ h=>h) fun a w hR hk K k=>?_
       obtain⟨_,e46,rfl⟩:=hk 46 (by decide)
       obtain⟨_,e52,rfl⟩:=hk 52 (by decide)
       clear hk
       have z1:=HNE.out
       go_simp
       exact k _ _ R0 rfl
      refine Obs.cons none (by kernel_rfl) ?_ ?_
      ·refine Ob.plain fun a w hR hk K k=>?_
       obtain⟨_,e40,rfl⟩:=hk 40 (by decide)
       obtain⟨_,e53,rfl⟩:=hk 53 (by decide)
       clear hk
       go_simp
       exact k _ _ R0 rfl
      refine Obs.cons none (by kernel_rfl) ?_ ?_
      ·refine Ob.plain fun a w hR hk K k=>?_
       obtain⟨_,e54,f54⟩:=hk 54 (by decide)
       clear hk
       go_simp
       exact k _ _ R0 f54
      exact Obs.nil
     case fin3=>
      intro vals w9 hc9 hv
      have h2:vals 2 = .bool false:=hv 2 (by decide)
      have HC9:=hid (HC.out.trans hc9 (fun _ _ h=>h))
      simp only[putAll,List.setIfInBounds_toArray,List.set_cons_zero,List.set_cons_succ,h2]
      clear hv h2 hc9
      go_wp2
      go_ret
      exact⟨rfl,HC9.out⟩
   ·have HRD:Hid (decide (rA=rB)=false):=hid (decide_eq_false h2)
    refine wp_region_specs [.any,.eq (.pointer (some ⟨X,0,none⟩)),.eq (.bool false),.eq (.pointer (some ⟨X,0,none⟩)),.eq (.pointer (some ⟨ba,oa,none⟩)),.eq (.pointer (some ⟨ba,oa,none⟩)),.eq (.pointer (some ⟨ba,oa,none⟩)),.eq (.int .i64 opA),.eq (.pointer (some ⟨X,1,none⟩)),.eq (.pointer (some ⟨bb,ob,none⟩)),.eq (.pointer (some ⟨bb,ob,none⟩)),.eq (.pointer (some ⟨bb,ob,none⟩)),.eq (.int .i64 opA),.eq (.bool true),.eq (.bool true),.eq (.pointer (some ⟨X,0,none⟩)),.eq (.pointer (some ⟨ba,oa,none⟩)),.eq (.pointer (some ⟨ba,oa,none⟩)),.eq (.pointer (some ⟨ba,oa+1,none⟩)),.eq (.int .i64 kA),.eq (.pointer (some ⟨X,1,none⟩)),.eq (.pointer (some ⟨bb,ob,none⟩)),.eq (.pointer (some ⟨bb,ob,none⟩)),.eq (.pointer (some ⟨bb,ob+1,none⟩)),.eq (.int .i64 kA),.eq (.bool true),.eq (.bool true),.eq (.bool true),.eq (.pointer (some ⟨X,0,none⟩)),.eq (.pointer (some ⟨ba,oa,none⟩)),.eq (.pointer (some ⟨ba,oa,none⟩)),.eq (.pointer (some ⟨ba,oa+2,none⟩)),.eq (.agg #[.string ⟨rA.1.toArray⟩,.string ⟨rA.2.toArray⟩]),.eq (.pointer (some ⟨X,1,none⟩)),.eq (.pointer (some ⟨bb,ob,none⟩)),.eq (.pointer (some ⟨bb,ob,none⟩)),.eq (.pointer (some ⟨bb,ob+2,none⟩)),.eq (.agg #[.string ⟨rB.1.toArray⟩,.string ⟨rB.2.toArray⟩]),.eq (.bool false),.eq (.bool false),.eq (.bool false),.any,.any,.any,.any,.any,.any,.any,.any,.any,.any,.any,.any,.any,.eq (.bool false)] [3,4,5,6,7,8,9,10,11,12,13,14,15,16,17,18,19,20,21,22,23,24,25,26,27,28,29,30,31,32,33,34,35,36,37,38,39,40,41,42,43,44,45,46,47,48,49,50,51,52,53,54,2] [1] (by kernel_rfl) (by kernel_rfl) (by rfl) (by kernel_rfl) ?start2 ?obs2 ?fin2
    case start2=>
     simp only[List.forall_mem_cons];exact⟨⟨_,rfl,rfl⟩,fun _ h=>by cases h⟩
    case obs2=>
     refine Obs.cons none (by kernel_rfl) ?_ ?_
     ·refine Ob.plain fun a w hR hk K k=>?_
      obtain⟨_,e1,rfl⟩:=hk 1 (by decide)
      clear hk
      go_simp
      exact k _ _ R0 rfl
     refine Obs.cons none (by kernel_rfl) ?_ ?_
     ·refine Ob.plain fun a w hR hk K k=>?_
      obtain⟨_,e3,rfl⟩:=hk 3 (by decide)
      clear hk
      have q0:=hR.cell HX.out.1 id
      go_simp
      exact k _ _ R0 rfl
     refine Obs.cons none (by kernel_rfl) ?_ ?_
     ·refine Ob.plain fun a w hR hk K k=>?_
      obtain⟨_,e4,rfl⟩:=hk 4 (by decide)
      clear hk
      go_simp
      exact k _ _ R0 rfl
     refine Obs.cons none (by kernel_rfl) ?_ ?_
     ·refine Ob.plain fun a w hR hk K k=>?_
      obtain⟨_,e5,rfl⟩:=hk 5 (by decide)
      clear hk
      go_simp
      exact k _ _ R0 rfl
     refine Obs.cons none (by kernel_rfl) ?_ ?_
     ·refine Ob.plain fun a w hR hk K k=>?_
      obtain⟨_,e6,rfl⟩:=hk 6 (by decide)
      clear hk
      obtain⟨a0,a1,a2,a3,a4⟩:=HA.out
      have c0:=hR.cell a0 id
      clear a0 a1 a2 a3 a4
      go_simp
      exact k _ _ R0 rfl
     refine Obs.cons none (by kernel_rfl) ?_ ?_
     ·refine Ob.plain fun a w hR hk K k=>?_
      obtain⟨_,e1,rfl⟩:=hk 1 (by decide)
      clear hk
      go_simp
      exact k _ _ R0 rfl
     refine Obs.cons none (by kernel_rfl) ?_ ?_
     ·refine Ob.plain fun a w hR hk K k=>?_
      obtain⟨_,e8,rfl⟩:=hk 8 (by decide)
      clear hk
      have q0:=hR.cell HX.out.2 id
      go_simp
      exact k _ _ R0 rfl
     refine Obs.cons none (by kernel_rfl) ?_ ?_
     ·refine Ob.plain fun a w hR hk K k=>?_
      obtain⟨_,e9,rfl⟩:=hk 9 (by decide)
      clear hk
      go_simp
      exact k _ _ R0 rfl
     refine Obs.cons none (by kernel_rfl) ?_ ?_
     ·refine Ob.plain fun a w hR hk K k=>?_
      obtain⟨_,e10,rfl⟩:=hk 10 (by decide)
      clear hk
      go_simp
      exact k _ _ R0 rfl
     refine Obs.cons none (by kernel_rfl) ?_ ?_
     ·refine Ob.plain fun a w hR hk K k=>?_
      obtain⟨_,e11,rfl⟩:=hk 11 (by decide)
      clear hk
      obtain⟨a0,a1,a2,a3,a4⟩:=HBB.out
      have c0:=hR.cell a0 id
      clear a0 a1 a2 a3 a4
      go_simp
      exact k _ _ R0 rfl
     refine Obs.cons none (by kernel_rfl) ?_ ?_
     ·refine Ob.plain fun a w hR hk K k=>?_
      obtain⟨_,e7,rfl⟩:=hk 7 (by decide)
      obtain⟨_,e12,rfl⟩:=hk 12 (by decide)
      clear hk
      go_simp
      exact k _ _ R0 rfl
     refine Obs.cons none (by kernel_rfl) ?_ ?_
     ·refine Ob.plain fun a w hR hk K k=>?_
      obtain⟨_,e13,f13⟩:=hk 13 (by decide)
      clear hk
      go_simp
      exact k _ _ R0 f13
     refine Obs.cons (some (14,true)) (by kernel_rfl) ?_ ?_
     ·refine Ob.yes (fun _ _ h=>h) fun a w hR hk K k=>?_
      obtain⟨_,e1,rfl⟩:=hk 1 (by decide)
      clear hk
      go_simp
      exact k _ _ R0 rfl
     refine Obs.cons (some (14,true)) (by kernel_rfl) ?_ ?_
     ·refine Ob.yes (fun _ _ h=>h) fun a w hR hk K k=>?_
      obtain⟨_,e15,rfl⟩:=hk 15 (by decide)
      clear hk
      have q0:=hR.cell HX.out.1 id
      go_simp
      exact k _ _ R0 rfl
     refine Obs.cons (some (14,true)) (by kernel_rfl) ?_ ?_
     ·refine Ob.yes (fun _ _ h=>h) fun a w hR hk K k=>?_
      obtain⟨_,e16,rfl⟩:=hk 16 (by decide)
      clear hk
      go_simp
      exact k _ _ R0 rfl
     refine Obs.cons (some (14,true)) (by kernel_rfl) ?_ ?_
     ·refine Ob.yes (fun _ _ h=>h) fun a w hR hk K k=>?_
      obtain⟨_,e17,rfl⟩:=hk 17 (by decide)
      clear hk
      go_simp
      exact k _ _ R0 rfl
     refine Obs.cons (some (14,true)) (by kernel_rfl) ?_ ?_
     ·refine Ob.yes (fun _ _ h=>h) fun a w hR hk K k=>?_
      obtain⟨_,e18,rfl⟩:=hk 18 (by decide)
      clear hk
      obtain⟨a0,a1,a2,a3,a4⟩:=HA.out
      have c1:=hR.cell a1 id
      clear a0 a1 a2 a3 a4
      go_simp
      exact k _ _ R0 rfl
     refine Obs.cons (some (14,true)) (by kernel_rfl) ?_ ?_
     ·refine Ob.yes (fun _ _ h=>h) fun a w hR hk K k=>?_
      obtain⟨_,e1,rfl⟩:=hk 1 (by decide)
      clear hk
      go_simp
      exact k _ _ R0 rfl
     refine Obs.cons (some (14,true)) (by kernel_rfl) ?_ ?_
     ·refine Ob.yes (fun _ _ h=>h) fun a w hR hk K k=>?_
      obtain⟨_,e20,rfl⟩:=hk 20 (by decide)
      clear hk
      have q0:=hR.cell HX.out.2 id
      go_simp
      exact k _ _ R0 rfl
     refine Obs.cons (some (14,true)) (by kernel_rfl) ?_ ?_
     ·refine Ob.yes (fun _ _ h=>h) fun a w hR hk K k=>?_
      obtain⟨_,e21,rfl⟩:=hk 21 (by decide)
      clear hk
      go_simp
      exact k _ _ R0 rfl
     refine Obs.cons (some (14,true)) (by kernel_rfl) ?_ ?_
     ·refine Ob.yes (fun _ _ h=>h) fun a w hR hk K k=>?_
      obtain⟨_,e22,rfl⟩:=hk 22 (by decide)
      clear hk
      go_simp
      exact k _ _ R0 rfl
     refine Obs.cons (some (14,true)) (by kernel_rfl) ?_ ?_
     ·refine Ob.yes (fun _ _ h=>h) fun a w hR hk K k=>?_
      obtain⟨_,e23,rfl⟩:=hk 23 (by decide)
      clear hk
      obtain⟨a0,a1,a2,a3,a4⟩:=HBB.out
      have c1:=hR.cell a1 id
      clear a0 a1 a2 a3 a4
      go_simp
      exact k _ _ R0 rfl
     refine Obs.cons (some (14,true)) (by kernel_rfl) ?_ ?_
     ·refine Ob.yes (fun _ _ h=>h) fun a w hR hk K k=>?_
      obtain⟨_,e19,rfl⟩:=hk 19 (by decide)
      obtain⟨_,e24,rfl⟩:=hk 24 (by decide)
      clear hk
      go_simp
      exact k _ _ R0 rfl
     refine Obs.cons none (by kernel_rfl) ?_ ?_
     ·refine Ob.plain fun a w hR hk K k=>?_
      obtain⟨_,e14,rfl⟩:=hk 14 (by decide)
      obtain⟨_,e25,rfl⟩:=hk 25 (by decide)
      clear hk
      go_simp
      exact k _ _ R0 rfl
     refine Obs.cons none (by kernel_rfl) ?_ ?_
     ·refine Ob.plain fun a w hR hk K k=>?_
      obtain⟨_,e26,f26⟩:=hk 26 (by decide)
      clear hk
      go_simp
      exact k _ _ R0 f26
     refine Obs.cons (some (27,true)) (by kernel_rfl) ?_ ?_
     ·refine Ob.yes (fun _ _ h=>h) fun a w hR hk K k=>?_
      obtain⟨_,e1,rfl⟩:=hk 1 (by decide)
      clear hk
      go_simp
      exact k _ _ R0 rfl
     refine Obs.cons (some (27,true)) (by kernel_rfl) ?_ ?_
     ·refine Ob.yes (fun _ _ h=>h) fun a w hR hk K k=>?_
      obtain⟨_,e28,rfl⟩:=hk 28 (by decide)
      clear hk
      have q0:=hR.cell HX.out.1 id
      go_simp
      exact k _ _ R0 rfl
     refine Obs.cons (some (27,true)) (by kernel_rfl) ?_ ?_
     ·refine Ob.yes (fun _ _ h=>h) fun a w hR hk K k=>?_
      obtain⟨_,e29,rfl⟩:=hk 29 (by decide)
      clear hk
      go_simp
      exact k _ _ R0 rfl
     refine Obs.cons (some (27,true)) (by kernel_rfl) ?_ ?_
     ·refine Ob.yes (fun _ _ h=>h) fun a w hR hk K k=>?_
      obtain⟨_,e30,rfl⟩:=hk 30 (by decide)
      clear hk
      go_simp
      exact k _ _ R0 rfl
     refine Obs.cons (some (27,true)) (by kernel_rfl) ?_ ?_
     ·refine Ob.yes (fun _ _ h=>h) fun a w hR hk K k=>?_
      obtain⟨_,e31,rfl⟩:=hk 31 (by decide)
      clear hk
      obtain⟨a0,a1,a2,a3,a4⟩:=HA.out
      have c2:=hR.cell a2 id
      have c3:=hR.cell a3 id
      clear a0 a1 a2 a3 a4
      go_simp
      exact k _ _ R0 rfl
     refine Obs.cons (some (27,true)) (by kernel_rfl) ?_ ?_
     ·refine Ob.yes (fun _ _ h=>h) fun a w hR hk K k=>?_
      obtain⟨_,e1,rfl⟩:=hk 1 (by decide)
      clear hk
      go_simp
      exact k _ _ R0 rfl
     refine Obs.cons (some (27,true)) (by kernel_rfl) ?_ ?_
     ·refine Ob.yes (fun _ _ h=>h) fun a w hR hk K k=>?_
      obtain⟨_,e33,rfl⟩:=hk 33 (by decide)
      clear hk
      have q0:=hR.cell HX.out.2 id
      go_simp
      exact k _ _ R0 rfl
     refine Obs.cons (some (27,true)) (by kernel_rfl) ?_ ?_
     ·refine Ob.yes (fun _ _ h=>h) fun a w hR hk K k=>?_
      obtain⟨_,e34,rfl⟩:=hk 34 (by decide)
      clear hk
      go_simp
      exact k _ _ R0 rfl
     refine Obs.cons (some (27,true)) (by kernel_rfl) ?_ ?_
     ·refine Ob.yes (fun _ _ h=>h) fun a w hR hk K k=>?_
      obtain⟨_,e35,rfl⟩:=hk 35 (by decide)
      clear hk
      go_simp
      exact k _ _ R0 rfl
     refine Obs.cons (some (27,true)) (by kernel_rfl) ?_ ?_
     ·refine Ob.yes (fun _ _ h=>h) fun a w hR hk K k=>?_
      obtain⟨_,e36,rfl⟩:=hk 36 (by decide)
      clear hk
      obtain⟨a0,a1,a2,a3,a4⟩:=HBB.out
      have c2:=hR.cell a2 id
      have c3:=hR.cell a3 id
      clear a0 a1 a2 a3 a4
      go_simp
      exact k _ _ R0 rfl
     refine Obs.cons (some (27,true)) (by kernel_rfl) ?_ ?_
     ·refine Ob.yes (fun _ _ h=>h) fun a w hR hk K k=>?_
      obtain⟨_,e32,rfl⟩:=hk 32 (by decide)
      obtain⟨_,e37,rfl⟩:=hk 37 (by decide)
      clear hk
      have z1:decide (rA=rB)=false:=HRD.out
      go_simp
      exact k _ _ R0 rfl
     refine Obs.cons none (by kernel_rfl) ?_ ?_
     ·refine Ob.plain fun a w hR hk K k=>?_
      obtain⟨_,e27,rfl⟩:=hk 27 (by decide)
      obtain⟨_,e38,rfl⟩:=hk 38 (by decide)
      clear hk
      go_simp
      exact k _ _ R0 rfl
     refine Obs.cons none (by kernel_rfl) ?_ ?_
     ·refine Ob.plain fun a w hR hk K k=>?_
      obtain⟨_,e39,f39⟩:=hk 39 (by decide)
      clear hk
      go_simp
      exact k _ _ R0 f39
     refine Obs.cons (some (40,true)) (by kernel_rfl) ?_ ?_
     ·exact Ob.no (fun _ _ h=>h) (Chg.refl _) (fun _ _=>trivial)
     refine Obs.cons (some (40,true)) (by kernel_rfl) ?_ ?_
     ·exact Ob.no (fun _ _ h=>h) (Chg.refl _) (fun _ _=>trivial)
     refine Obs.cons (some (40,true)) (by kernel_rfl) ?_ ?_
     ·exact Ob.no (fun _ _ h=>h) (Chg.refl _) (fun _ _=>trivial)
     refine Obs.cons (some (40,true)) (by kernel_rfl) ?_ ?_
     ·exact Ob.no (fun _ _ h=>h) (Chg.refl _) (fun _ _=>trivial)
     refine Obs.cons (some (40,true)) (by kernel_rfl) ?_ ?_
     ·exact Ob.no (fun _ _ h=>h) (Chg.refl _) (fun _ _=>trivial)
     refine Obs.cons (some (40,true)) (by kernel_rfl) ?_ ?_
     ·exact Ob.no (fun _ _ h=>h) (Chg.refl _) (fun _ _=>trivial)
     refine Obs.cons (some (40,true)) (by kernel_rfl) ?_ ?_
     ·exact Ob.no (fun _ _ h=>h) (Chg.refl _) (fun _ _=>trivial)
     refine Obs.cons (some (40,true)) (by kernel_rfl) ?_ ?_
     ·exact Ob.no (fun _ _ h=>h) (Chg.refl _) (fun _ _=>trivial)
     refine Obs.cons (some (40,true)) (by kernel_rfl) ?_ ?_
     ·exact Ob.no (fun _ _ h=>h) (Chg.refl _) (fun _ _=>trivial)
     refine Obs.cons (some (40,true)) (by kernel_rfl) ?_ ?_
     ·exact Ob.no (fun _ _ h=>h) (Chg.refl _) (fun _ _=>trivial)
     refine Obs.cons (some (40,true)) (by kernel_rfl) ?_ ?_
     ·exact Ob.no (fun _ _ h=>h) (Chg.refl _) (fun _ _=>trivial)
     refine Obs.cons (some (40,true)) (by kernel_rfl) ?_ ?_
     ·exact Ob.no (fun _ _ h=>h) (Chg.refl _) (fun _ _=>trivial)
     refine Obs.cons (some (40,true)) (by kernel_rfl) ?_ ?_
     ·exact Ob.no (fun _ _ h=>h) (Chg.refl _) (fun _ _=>trivial)
     refine Obs.cons none (by kernel_rfl) ?_ ?_
     ·refine Ob.plain fun a w hR hk K k=>?_
      obtain⟨_,e40,rfl⟩:=hk 40 (by decide)
      obtain⟨_,e53,_⟩:=hk 53 (by decide)
      clear hk
      go_simp
      exact k _ _ R0 rfl
     refine Obs.cons none (by kernel_rfl) ?_ ?_
     ·refine Ob.plain fun a w hR hk K k=>?_
      obtain⟨_,e54,f54⟩:=hk 54 (by decide)
      clear hk
      go_simp
      exact k _ _ R0 f54
     exact Obs.nil
    case fin2=>
     intro vals w9 hc9 hv
     have h2:vals 2 = .bool false:=hv 2 (by decide)
     have HC9:=hid (HC.out.trans hc9 (fun _ _ h=>h))
     simp only[putAll,List.setIfInBounds_toArray,List.set_cons_zero,List.set_cons_succ,h2]
     clear hv h2 hc9
     go_wp2
     go_ret
     exact⟨rfl,HC9.out⟩
  ·have HNE:Hid ((kA==kB)=false):=hid (by simpa using h1)
   refine wp_region_specs [.any,.eq (.pointer (some ⟨X,0,none⟩)),.eq (.bool false),.eq (.pointer (some ⟨X,0,none⟩)),.eq (.pointer (some ⟨ba,oa,none⟩)),.eq (.pointer (some ⟨ba,oa,none⟩)),.eq (.pointer (some ⟨ba,oa,none⟩)),.eq (.int .i64 opA),.eq (.pointer (some ⟨X,1,none⟩)),.eq (.pointer (some ⟨bb,ob,none⟩)),.eq (.pointer (some ⟨bb,ob,none⟩)),.eq (.pointer (some ⟨bb,ob,none⟩)),.eq (.int .i64 opA),.eq (.bool true),.eq (.bool true),.eq (.pointer (some ⟨X,0,none⟩)),.eq (.pointer (some ⟨ba,oa,none⟩)),.eq (.pointer (some ⟨ba,oa,none⟩)),.eq (.pointer (some ⟨ba,oa+1,none⟩)),.eq (.int .i64 kA),.eq (.pointer (some ⟨X,1,none⟩)),.eq (.pointer (some ⟨bb,ob,none⟩)),.eq (.pointer (some ⟨bb,ob,none⟩)),.eq (.pointer (some ⟨bb,ob+1,none⟩)),.eq (.int .i64 kB),.eq (.bool false),.eq (.bool false),.eq (.bool false),.any,.any,.any,.any,.any,.any,.any,.any,.any,.any,.any,.eq (.bool false),.eq (.bool false),.any,.any,.any,.any,.any,.any,.any,.any,.any,.any,.any,.any,.any,.eq (.bool false)] [3,4,5,6,7,8,9,10,11,12,13,14,15,16,17,18,19,20,21,22,23,24,25,26,27,28,29,30,31,32,33,34,35,36,37,38,39,40,41,42,43,44,45,46,47,48,49,50,51,52,53,54,2] [1] (by kernel_rfl) (by kernel_rfl) (by rfl) (by kernel_rfl) ?start1 ?obs1 ?fin1
   case start1=>
    simp only[List.forall_mem_cons];exact⟨⟨_,rfl,rfl⟩,fun _ h=>by cases h⟩
   case obs1=>
    refine Obs.cons none (by kernel_rfl) ?_ ?_
    ·refine Ob.plain fun a w hR hk K k=>?_
     obtain⟨_,e1,rfl⟩:=hk 1 (by decide)
     clear hk
     go_simp
     exact k _ _ R0 rfl
    refine Obs.cons none (by kernel_rfl) ?_ ?_
    ·refine Ob.plain fun a w hR hk K k=>?_
     obtain⟨_,e3,rfl⟩:=hk 3 (by decide)
     clear hk
     have q0:=hR.cell HX.out.1 id
     go_simp
     exact k _ _ R0 rfl
    refine Obs.cons none (by kernel_rfl) ?_ ?_
    ·refine Ob.plain fun a w hR hk K k=>?_
     obtain⟨_,e4,rfl⟩:=hk 4 (by decide)
     clear hk
     go_simp
     exact k _ _ R0 rfl
    refine Obs.cons none (by kernel_rfl) ?_ ?_
    ·refine Ob.plain fun a w hR hk K k=>?_
     obtain⟨_,e5,rfl⟩:=hk 5 (by decide)
     clear hk
     go_simp
     exact k _ _ R0 rfl
    refine Obs.cons none (by kernel_rfl) ?_ ?_
    ·refine Ob.plain fun a w hR hk K k=>?_
     obtain⟨_,e6,rfl⟩:=hk 6 (by decide)
     clear hk
     obtain⟨a0,a1,a2,a3,a4⟩:=HA.out
     have c0:=hR.cell a0 id
     clear a0 a1 a2 a3 a4
     go_simp
     exact k _ _ R0 rfl
    refine Obs.cons none (by kernel_rfl) ?_ ?_
    ·refine Ob.plain fun a w hR hk K k=>?_
     obtain⟨_,e1,rfl⟩:=hk 1 (by decide)
     clear hk
     go_simp
     exact k _ _ R0 rfl
    refine Obs.cons none (by kernel_rfl) ?_ ?_
    ·refine Ob.plain fun a w hR hk K k=>?_
     obtain⟨_,e8,rfl⟩:=hk 8 (by decide)
     clear hk
     have q0:=hR.cell HX.out.2 id
     go_simp
     exact k _ _ R0 rfl
    refine Obs.cons none (by kernel_rfl) ?_ ?_
    ·refine Ob.plain fun a w hR hk K k=>?_
     obtain⟨_,e9,rfl⟩:=hk 9 (by decide)
     clear hk
     go_simp
     exact k _ _ R0 rfl
    refine Obs.cons none (by kernel_rfl) ?_ ?_
    ·refine Ob.plain fun a w hR hk K k=>?_
     obtain⟨_,e10,rfl⟩:=hk 10 (by decide)
     clear hk
     go_simp
     exact k _ _ R0 rfl
    refine Obs.cons none (by kernel_rfl) ?_ ?_
    ·refine Ob.plain fun a w hR hk K k=>?_
     obtain⟨_,e11,rfl⟩:=hk 11 (by decide)
     clear hk
     obtain⟨a0,a1,a2,a3,a4⟩:=HBB.out
     have c0:=hR.cell a0 id
     clear a0 a1 a2 a3 a4
     go_simp
     exact k _ _ R0 rfl
    refine Obs.cons none (by kernel_rfl) ?_ ?_
    ·refine Ob.plain fun a w hR hk K k=>?_
     obtain⟨_,e7,rfl⟩:=hk 7 (by decide)
     obtain⟨_,e12,rfl⟩:=hk 12 (by decide)
     clear hk
     go_simp
     exact k _ _ R0 rfl
    refine Obs.cons none (by kernel_rfl) ?_ ?_
    ·refine Ob.plain fun a w hR hk K k=>?_
     obtain⟨_,e13,f13⟩:=hk 13 (by decide)
     clear hk
     go_simp
     exact k _ _ R0 f13
    refine Obs.cons (some (14,true)) (by kernel_rfl) ?_ ?_
    ·refine Ob.yes (fun _ _ h=>h) fun a w hR hk K k=>?_
     obtain⟨_,e1,rfl⟩:=hk 1 (by decide)
     clear hk
     go_simp
     exact k _ _ R0 rfl
    refine Obs.cons (some (14,true)) (by kernel_rfl) ?_ ?_
    ·refine Ob.yes (fun _ _ h=>h) fun a w hR hk K k=>?_
     obtain⟨_,e15,rfl⟩:=hk 15 (by decide)
     clear hk
     have q0:=hR.cell HX.out.1 id
     go_simp
     exact k _ _ R0 rfl
    refine Obs.cons (some (14,true)) (by kernel_rfl) ?_ ?_
    ·refine Ob.yes (fun _ _ h=>h) fun a w hR hk K k=>?_
     obtain⟨_,e16,rfl⟩:=hk 16 (by decide)
     clear hk
     go_simp
     exact k _ _ R0 rfl
    refine Obs.cons (some (14,true)) (by kernel_rfl) ?_ ?_
    ·refine Ob.yes (fun _ _ h=>h) fun a w hR hk K k=>?_
     obtain⟨_,e17,rfl⟩:=hk 17 (by decide)
     clear hk
     go_simp
     exact k _ _ R0 rfl
    refine Obs.cons (some (14,true)) (by kernel_rfl) ?_ ?_
    ·refine Ob.yes (fun _ _ h=>h) fun a w hR hk K k=>?_
     obtain⟨_,e18,rfl⟩:=hk 18 (by decide)
     clear hk
     obtain⟨a0,a1,a2,a3,a4⟩:=HA.out
     have c1:=hR.cell a1 id
     clear a0 a1 a2 a3 a4
     go_simp
     exact k _ _ R0 rfl
    refine Obs.cons (some (14,true)) (by kernel_rfl) ?_ ?_
    ·refine Ob.yes (fun _ _ h=>h) fun a w hR hk K k=>?_
     obtain⟨_,e1,rfl⟩:=hk 1 (by decide)
     clear hk
     go_simp
     exact k _ _ R0 rfl
    refine Obs.cons (some (14,true)) (by kernel_rfl) ?_ ?_
    ·refine Ob.yes (fun _ _ h=>h) fun a w hR hk K k=>?_
     obtain⟨_,e20,rfl⟩:=hk 20 (by decide)
     clear hk
     have q0:=hR.cell HX.out.2 id
     go_simp
     exact k _ _ R0 rfl
    refine Obs.cons (some (14,true)) (by kernel_rfl) ?_ ?_
    ·refine Ob.yes (fun _ _ h=>h) fun a w hR hk K k=>?_
     obtain⟨_,e21,rfl⟩:=hk 21 (by decide)
     clear hk
     go_simp
     exact k _ _ R0 rfl
    refine Obs.cons (some (14,true)) (by kernel_rfl) ?_ ?_
    ·refine Ob.yes (fun _ _ h=>h) fun a w hR hk K k=>?_
     obtain⟨_,e22,rfl⟩:=hk 22 (by decide)
     clear hk
     go_simp
     exact k _ _ R0 rfl
    refine Obs.cons (some (14,true)) (by kernel_rfl) ?_ ?_
    ·refine Ob.yes (fun _ _ h=>h) fun a w hR hk K k=>?_
     obtain⟨_,e23,rfl⟩:=hk 23 (by decide)
     clear hk
     obtain⟨a0,a1,a2,a3,a4⟩:=HBB.out
     have c1:=hR.cell a1 id
     clear a0 a1 a2 a3 a4
     go_simp
     exact k _ _ R0 rfl
    refine Obs.cons (some (14,true)) (by kernel_rfl) ?_ ?_
    ·refine Ob.yes (fun _ _ h=>h) fun a w hR hk K k=>?_
     obtain⟨_,e19,rfl⟩:=hk 19 (by decide)
     obtain⟨_,e24,rfl⟩:=hk 24 (by decide)
     clear hk
     have z1:=HNE.out
     go_simp
     exact k _ _ R0 rfl
    refine Obs.cons none (by kernel_rfl) ?_ ?_
    ·refine Ob.plain fun a w hR hk K k=>?_
     obtain⟨_,e14,rfl⟩:=hk 14 (by decide)
     obtain⟨_,e25,rfl⟩:=hk 25 (by decide)
     clear hk
     go_simp
     exact k _ _ R0 rfl
    refine Obs.cons none (by kernel_rfl) ?_ ?_
    ·refine Ob.plain fun a w hR hk K k=>?_
     obtain⟨_,e26,f26⟩:=hk 26 (by decide)
     clear hk
     go_simp
     exact k _ _ R0 f26
    refine Obs.cons (some (27,true)) (by kernel_rfl) ?_ ?_
    ·exact Ob.no (fun _ _ h=>h) (Chg.refl _) (fun _ _=>trivial)
    refine Obs.cons (some (27,true)) (by kernel_rfl) ?_ ?_
    ·exact Ob.no (fun _ _ h=>h) (Chg.refl _) (fun _ _=>trivial)
    refine Obs.cons (some (27,true)) (by kernel_rfl) ?_ ?_
    ·exact Ob.no (fun _ _ h=>h) (Chg.refl _) (fun _ _=>trivial)
    refine Obs.cons (some (27,true)) (by kernel_rfl) ?_ ?_
    ·exact Ob.no (fun _ _ h=>h) (Chg.refl _) (fun _ _=>trivial)
    refine Obs.cons (some (27,true)) (by kernel_rfl) ?_ ?_
    ·exact Ob.no (fun _ _ h=>h) (Chg.refl _) (fun _ _=>trivial)
    refine Obs.cons (some (27,true)) (by kernel_rfl) ?_ ?_
    ·exact Ob.no (fun _ _ h=>h) (Chg.refl _) (fun _ _=>trivial)
    refine Obs.cons (some (27,true)) (by kernel_rfl) ?_ ?_
    ·exact Ob.no (fun _ _ h=>h) (Chg.refl _) (fun _ _=>trivial)
    refine Obs.cons (some (27,true)) (by kernel_rfl) ?_ ?_
    ·exact Ob.no (fun _ _ h=>h) (Chg.refl _) (fun _ _=>trivial)
    refine Obs.cons (some (27,true)) (by kernel_rfl) ?_ ?_
    ·exact Ob.no (fun _ _ h=>h) (Chg.refl _) (fun _ _=>trivial)
    refine Obs.cons (some (27,true)) (by kernel_rfl) ?_ ?_
    ·exact Ob.no (fun _ _ h=>h) (Chg.refl _) (fun _ _=>trivial)
    refine Obs.cons (some (27,true)) (by kernel_rfl) ?_ ?_
    ·exact Ob.no (fun _ _ h=>h) (Chg.refl _) (fun _ _=>trivial)
    refine Obs.cons none (by kernel_rfl) ?_ ?_
    ·refine Ob.plain fun a w hR hk K k=>?_
     obtain⟨_,e27,rfl⟩:=hk 27 (by decide)
     obtain⟨_,e38,_⟩:=hk 38 (by decide)
     clear hk
     go_simp
     exact k _ _ R0 rfl
    refine Obs.cons none (by kernel_rfl) ?_ ?_
    ·refine Ob.plain fun a w hR hk K k=>?_
     obtain⟨_,e39,f39⟩:=hk 39 (by decide)
     clear hk
     go_simp
     exact k _ _ R0 f39
    refine Obs.cons (some (40,true)) (by kernel_rfl) ?_ ?_
    ·exact Ob.no (fun _ _ h=>h) (Chg.refl _) (fun _ _=>trivial)
    refine Obs.cons (some (40,true)) (by kernel_rfl) ?_ ?_
    ·exact Ob.no (fun _ _ h=>h) (Chg.refl _) (fun _ _=>trivial)
    refine Obs.cons (some (40,true)) (by kernel_rfl) ?_ ?_
    ·exact Ob.no (fun _ _ h=>h) (Chg.refl _) (fun _ _=>trivial)
    refine Obs.cons (some (40,true)) (by kernel_rfl) ?_ ?_
    ·exact Ob.no (fun _ _ h=>h) (Chg.refl _) (fun _ _=>trivial)
    refine Obs.cons (some (40,true)) (by kernel_rfl) ?_ ?_
    ·exact Ob.no (fun _ _ h=>h) (Chg.refl _) (fun _ _=>trivial)
    refine Obs.cons (some (40,true)) (by kernel_rfl) ?_ ?_
    ·exact Ob.no (fun _ _ h=>h) (Chg.refl _) (fun _ _=>trivial)
    refine Obs.cons (some (40,true)) (by kernel_rfl) ?_ ?_
    ·exact Ob.no (fun _ _ h=>h) (Chg.refl _) (fun _ _=>trivial)
    refine Obs.cons (some (40,true)) (by kernel_rfl) ?_ ?_
    ·exact Ob.no (fun _ _ h=>h) (Chg.refl _) (fun _ _=>trivial)
    refine Obs.cons (some (40,true)) (by kernel_rfl) ?_ ?_
    ·exact Ob.no (fun _ _ h=>h) (Chg.refl _) (fun _ _=>trivial)
    refine Obs.cons (some (40,true)) (by kernel_rfl) ?_ ?_
    ·exact Ob.no (fun _ _ h=>h) (Chg.refl _) (fun _ _=>trivial)
    refine Obs.cons (some (40,true)) (by kernel_rfl) ?_ ?_
    ·exact Ob.no (fun _ _ h=>h) (Chg.refl _) (fun _ _=>trivial)
    refine Obs.cons (some (40,true)) (by kernel_rfl) ?_ ?_
    ·exact Ob.no (fun _ _ h=>h) (Chg.refl _) (fun _ _=>trivial)
    refine Obs.cons (some (40,true)) (by kernel_rfl) ?_ ?_
    ·exact Ob.no (fun _ _ h=>h) (Chg.refl _) (fun _ _=>trivial)
    refine Obs.cons none (by kernel_rfl) ?_ ?_
    ·refine Ob.plain fun a w hR hk K k=>?_
     obtain⟨_,e40,rfl⟩:=hk 40 (by decide)
     obtain⟨_,e53,_⟩:=hk 53 (by decide)
     clear hk
     go_simp
     exact k _ _ R0 rfl
    refine Obs.cons none (by kernel_rfl) ?_ ?_
    ·refine Ob.plain fun a w hR hk K k=>?_
     obtain⟨_,e54,f54⟩:=hk 54 (by decide)
     clear hk
     go_simp
     exact k _ _ R0 f54
    exact Obs.nil
   case fin1=>
    intro vals w9 hc9 hv
    have h2:vals 2 = .bool false:=hv 2 (by decide)
    have HC9:=hid (HC.out.trans hc9 (fun _ _ h=>h))
    simp only[putAll,List.setIfInBounds_toArray,List.set_cons_zero,List.set_cons_succ,h2]
    clear hv h2 hc9
    go_wp2
    go_ret
    exact⟨rfl,HC9.out⟩
 ·have HNE:Hid ((opA==opB)=false):=hid (by simpa using h0)
  refine wp_region_specs [.any,.eq (.pointer (some ⟨X,0,none⟩)),.eq (.bool false),.eq (.pointer (some ⟨X,0,none⟩)),.eq (.pointer (some ⟨ba,oa,none⟩)),.eq (.pointer (some ⟨ba,oa,none⟩)),.eq (.pointer (some ⟨ba,oa,none⟩)),.eq (.int .i64 opA),.eq (.pointer (some ⟨X,1,none⟩)),.eq (.pointer (some ⟨bb,ob,none⟩)),.eq (.pointer (some ⟨bb,ob,none⟩)),.eq (.pointer (some ⟨bb,ob,none⟩)),.eq (.int .i64 opB),.eq (.bool false),.eq (.bool false),.any,.any,.any,.any,.any,.any,.any,.any,.any,.any,.any,.eq (.bool false),.eq (.bool false),.any,.any,.any,.any,.any,.any,.any,.any,.any,.any,.any,.eq (.bool false),.eq (.bool false),.any,.any,.any,.any,.any,.any,.any,.any,.any,.any,.any,.any,.any,.eq (.bool false)] [3,4,5,6,7,8,9,10,11,12,13,14,15,16,17,18,19,20,21,22,23,24,25,26,27,28,29,30,31,32,33,34,35,36,37,38,39,40,41,42,43,44,45,46,47,48,49,50,51,52,53,54,2] [1] (by kernel_rfl) (by kernel_rfl) (by rfl) (by kernel_rfl) ?start0 ?obs0 ?fin0
  case start0=>
   simp only[List.forall_mem_cons];exact⟨⟨_,rfl,rfl⟩,fun _ h=>by cases h⟩
  case obs0=>
   refine Obs.cons none (by kernel_rfl) ?_ ?_
   ·refine Ob.plain fun a w hR hk K k=>?_
    obtain⟨_,e1,rfl⟩:=hk 1 (by decide)
    clear hk
    go_simp
    exact k _ _ R0 rfl
   refine Obs.cons none (by kernel_rfl) ?_ ?_
   ·refine Ob.plain fun a w hR hk K k=>?_
    obtain⟨_,e3,rfl⟩:=hk 3 (by decide)
    clear hk
    have q0:=hR.cell HX.out.1 id
    go_simp
    exact k _ _ R0 rfl
   refine Obs.cons none (by kernel_rfl) ?_ ?_
   ·refine Ob.plain fun a w hR hk K k=>?_
    obtain⟨_,e4,rfl⟩:=hk 4 (by decide)
    clear hk
    go_simp
    exact k _ _ R0 rfl
   refine Obs.cons none (by kernel_rfl) ?_ ?_
   ·refine Ob.plain fun a w hR hk K k=>?_
    obtain⟨_,e5,rfl⟩:=hk 5 (by decide)
    clear hk
    go_simp
    exact k _ _ R0 rfl
   refine Obs.cons none (by kernel_rfl) ?_ ?_
   ·refine Ob.plain fun a w hR hk K k=>?_
    obtain⟨_,e6,rfl⟩:=hk 6 (by decide)
    clear hk
    obtain⟨a0,a1,a2,a3,a4⟩:=HA.out
    have c0:=hR.cell a0 id
    clear a0 a1 a2 a3 a4
    go_simp
    exact k _ _ R0 rfl
   refine Obs.cons none (by kernel_rfl) ?_ ?_
   ·refine Ob.plain fun a w hR hk K k=>?_
    obtain⟨_,e1,rfl⟩:=hk 1 (by decide)
    clear hk
    go_simp
    exact k _ _ R0 rfl
   refine Obs.cons none (by kernel_rfl) ?_ ?_
   ·refine Ob.plain fun a w hR hk K k=>?_
    obtain⟨_,e8,rfl⟩:=hk 8 (by decide)
    clear hk
    have q0:=hR.cell HX.out.2 id
    go_simp
    exact k _ _ R0 rfl
   refine Obs.cons none (by kernel_rfl) ?_ ?_
   ·refine Ob.plain fun a w hR hk K k=>?_
    obtain⟨_,e9,rfl⟩:=hk 9 (by decide)
    clear hk
    go_simp
    exact k _ _ R0 rfl
   refine Obs.cons none (by kernel_rfl) ?_ ?_
   ·refine Ob.plain fun a w hR hk K k=>?_
    obtain⟨_,e10,rfl⟩:=hk 10 (by decide)
    clear hk
    go_simp
    exact k _ _ R0 rfl
   refine Obs.cons none (by kernel_rfl) ?_ ?_
   ·refine Ob.plain fun a w hR hk K k=>?_
    obtain⟨_,e11,rfl⟩:=hk 11 (by decide)
    clear hk
    obtain⟨a0,a1,a2,a3,a4⟩:=HBB.out
    have c0:=hR.cell a0 id
    clear a0 a1 a2 a3 a4
    go_simp
    exact k _ _ R0 rfl
   refine Obs.cons none (by kernel_rfl) ?_ ?_
   ·refine Ob.plain fun a w hR hk K k=>?_
    obtain⟨_,e7,rfl⟩:=hk 7 (by decide)
    obtain⟨_,e12,rfl⟩:=hk 12 (by decide)
    clear hk
    have z1:=HNE.out
    go_simp
    exact k _ _ R0 rfl
   refine Obs.cons none (by kernel_rfl) ?_ ?_
   ·refine Ob.plain fun a w hR hk K k=>?_
    obtain⟨_,e13,f13⟩:=hk 13 (by decide)
    clear hk
    go_simp
    exact k _ _ R0 f13
   refine Obs.cons (some (14,true)) (by kernel_rfl) ?_ ?_
   ·exact Ob.no (fun _ _ h=>h) (Chg.refl _) (fun _ _=>trivial)
   refine Obs.cons (some (14,true)) (by kernel_rfl) ?_ ?_
   ·exact Ob.no (fun _ _ h=>h) (Chg.refl _) (fun _ _=>trivial)
   refine Obs.cons (some (14,true)) (by kernel_rfl) ?_ ?_
   ·exact Ob.no (fun _ _ h=>h) (Chg.refl _) (fun _ _=>trivial)
   refine Obs.cons (some (14,true)) (by kernel_rfl) ?_ ?_
   ·exact Ob.no (fun _ _ h=>h) (Chg.refl _) (fun _ _=>trivial)
   refine Obs.cons (some (14,true)) (by kernel_rfl) ?_ ?_
   ·exact Ob.no (fun _ _ h=>h) (Chg.refl _) (fun _ _=>trivial)
   refine Obs.cons (some (14,true)) (by kernel_rfl) ?_ ?_
   ·exact Ob.no (fun _ _ h=>h) (Chg.refl _) (fun _ _=>trivial)
   refine Obs.cons (some (14,true)) (by kernel_rfl) ?_ ?_
   ·exact Ob.no (fun _ _ h=>h) (Chg.refl _) (fun _ _=>trivial)
   refine Obs.cons (some (14,true)) (by kernel_rfl) ?_ ?_
   ·exact Ob.no (fun _ _ h=>h) (Chg.refl _) (fun _ _=>trivial)
   refine Obs.cons (some (14,true)) (by kernel_rfl) ?_ ?_
   ·exact Ob.no (fun _ _ h=>h) (Chg.refl _) (fun _ _=>trivial)
   refine Obs.cons (some (14,true)) (by kernel_rfl) ?_ ?_
   ·exact Ob.no (fun _ _ h=>h) (Chg.refl _) (fun _ _=>trivial)
   refine Obs.cons (some (14,true)) (by kernel_rfl) ?_ ?_
   ·exact Ob.no (fun _ _ h=>h) (Chg.refl _) (fun _ _=>trivial)
   refine Obs.cons none (by kernel_rfl) ?_ ?_
   ·refine Ob.plain fun a w hR hk K k=>?_
    obtain⟨_,e14,rfl⟩:=hk 14 (by decide)
    obtain⟨_,e25,_⟩:=hk 25 (by decide)
    clear hk
    go_simp
    exact k _ _ R0 rfl
   refine Obs.cons none (by kernel_rfl) ?_ ?_
   ·refine Ob.plain fun a w hR hk K k=>?_
    obtain⟨_,e26,f26⟩:=hk 26 (by decide)
    clear hk
    go_simp
    exact k _ _ R0 f26
   refine Obs.cons (some (27,true)) (by kernel_rfl) ?_ ?_
   ·exact Ob.no (fun _ _ h=>h) (Chg.refl _) (fun _ _=>trivial)
   refine Obs.cons (some (27,true)) (by kernel_rfl) ?_ ?_
   ·exact Ob.no (fun _ _ h=>h) (Chg.refl _) (fun _ _=>trivial)
   refine Obs.cons (some (27,true)) (by kernel_rfl) ?_ ?_
   ·exact Ob.no (fun _ _ h=>h) (Chg.refl _) (fun _ _=>trivial)
   refine Obs.cons (some (27,true)) (by kernel_rfl) ?_ ?_
   ·exact Ob.no (fun _ _ h=>h) (Chg.refl _) (fun _ _=>trivial)
   refine Obs.cons (some (27,true)) (by kernel_rfl) ?_ ?_
   ·exact Ob.no (fun _ _ h=>h) (Chg.refl _) (fun _ _=>trivial)
   refine Obs.cons (some (27,true)) (by kernel_rfl) ?_ ?_
   ·exact Ob.no (fun _ _ h=>h) (Chg.refl _) (fun _ _=>trivial)
   refine Obs.cons (some (27,true)) (by kernel_rfl) ?_ ?_
   ·exact Ob.no (fun _ _ h=>h) (Chg.refl _) (fun _ _=>trivial)
   refine Obs.cons (some (27,true)) (by kernel_rfl) ?_ ?_
   ·exact Ob.no (fun _ _ h=>h) (Chg.refl _) (fun _ _=>trivial)
   refine Obs.cons (some (27,true)) (by kernel_rfl) ?_ ?_
   ·exact Ob.no (fun _ _ h=>h) (Chg.refl _) (fun _ _=>trivial)
   refine Obs.cons (some (27,true)) (by kernel_rfl) ?_ ?_
   ·exact Ob.no (fun _ _ h=>h) (Chg.refl _) (fun _ _=>trivial)
   refine Obs.cons (some (27,true)) (by kernel_rfl) ?_ ?_
   ·exact Ob.no (fun _ _ h=>h) (Chg.refl _) (fun _ _=>trivial)
   refine Obs.cons none (by kernel_rfl) ?_ ?_
   ·refine Ob.plain fun a w hR hk K k=>?_
    obtain⟨_,e27,rfl⟩:=hk 27 (by decide)
    obtain⟨_,e38,_⟩:=hk 38 (by decide)
    clear hk
    go_simp
    exact k _ _ R0 rfl
   refine Obs.cons none (by kernel_rfl) ?_ ?_
   ·refine Ob.plain fun a w hR hk K k=>?_
    obtain⟨_,e39,f39⟩:=hk 39 (by decide)
    clear hk
    go_simp
    exact k _ _ R0 f39
   refine Obs.cons (some (40,true)) (by kernel_rfl) ?_ ?_
   ·exact Ob.no (fun _ _ h=>h) (Chg.refl _) (fun _ _=>trivial)
   refine Obs.cons (some (40,true)) (by kernel_rfl) ?_ ?_
   ·exact Ob.no (fun _ _ h=>h) (Chg.refl _) (fun _ _=>trivial)
   refine Obs.cons (some (40,true)) (by kernel_rfl) ?_ ?_
   ·exact Ob.no (fun _ _ h=>h) (Chg.refl _) (fun _ _=>trivial)
   refine Obs.cons (some (40,true)) (by kernel_rfl) ?_ ?_
   ·exact Ob.no (fun _ _ h=>h) (Chg.refl _) (fun _ _=>trivial)
   refine Obs.cons (some (40,true)) (by kernel_rfl) ?_ ?_
   ·exact Ob.no (fun _ _ h=>h) (Chg.refl _) (fun _ _=>trivial)
   refine Obs.cons (some (40,true)) (by kernel_rfl) ?_ ?_
   ·exact Ob.no (fun _ _ h=>h) (Chg.refl _) (fun _ _=>trivial)
   refine Obs.cons (some (40,true)) (by kernel_rfl) ?_ ?_
   ·exact Ob.no (fun _ _ h=>h) (Chg.refl _) (fun _ _=>trivial)
   refine Obs.cons (some (40,true)) (by kernel_rfl) ?_ ?_
   ·exact Ob.no (fun _ _ h=>h) (Chg.refl _) (fun _ _=>trivial)
   refine Obs.cons (some (40,true)) (by kernel_rfl) ?_ ?_
   ·exact Ob.no (fun _ _ h=>h) (Chg.refl _) (fun _ _=>trivial)
   refine Obs.cons (some (40,true)) (by kernel_rfl) ?_ ?_
   ·exact Ob.no (fun _ _ h=>h) (Chg.refl _) (fun _ _=>trivial)
   refine Obs.cons (some (40,true)) (by kernel_rfl) ?_ ?_
   ·exact Ob.no (fun _ _ h=>h) (Chg.refl _) (fun _ _=>trivial)
   refine Obs.cons (some (40,true)) (by kernel_rfl) ?_ ?_
   ·exact Ob.no (fun _ _ h=>h) (Chg.refl _) (fun _ _=>trivial)
   refine Obs.cons (some (40,true)) (by kernel_rfl) ?_ ?_
   ·exact Ob.no (fun _ _ h=>h) (Chg.refl _) (fun _ _=>trivial)
   refine Obs.cons none (by kernel_rfl) ?_ ?_
   ·refine Ob.plain fun a w hR hk K k=>?_
    obtain⟨_,e40,rfl⟩:=hk 40 (by decide)
    obtain⟨_,e53,_⟩:=hk 53 (by decide)
    clear hk
    go_simp
    exact k _ _ R0 rfl
   refine Obs.cons none (by kernel_rfl) ?_ ?_
   ·refine Ob.plain fun a w hR hk K k=>?_
    obtain⟨_,e54,f54⟩:=hk 54 (by decide)
    clear hk
    go_simp
    exact k _ _ R0 f54
   exact Obs.nil
  case fin0=>
   intro vals w9 hc9 hv
   have h2:vals 2 = .bool false:=hv 2 (by decide)
   have HC9:=hid (HC.out.trans hc9 (fun _ _ h=>h))
   simp only[putAll,List.setIfInBounds_toArray,List.set_cons_zero,List.set_cons_succ,h2]
   clear hv h2 hc9
   go_wp2
   go_ret
   exact⟨by rw[decide_eq_false (fun e=>h0 e.1)];rfl,HC9.out⟩
end Go.Proofs.YtkfinhpfdcjoeaaGreat
