/- cred.Right: the program's contract. -/
import Derived.Test.YtkfinhpfdcjoeaaGreatNa7
import Derived.Test.YtkfinhpfdcjoeaaGreatNa6
namespace Go.Proofs.YtkfinhpfdcjoeaaGreat
open Go.RowKit
theorem retb {a b:Bool} (h:a=b):Ending.returned (.bool a) = .returned (.bool b):=by rw[h]
theorem cmpR_neg_iff (x y:RoleB):decide (cmpR x y<0)=ltR x y:=by
 unfold cmpR
 cases h:ltR x y with
 | true=>simp
 | false=>cases h2:ltR y x <;> simp
theorem cmpR_lt_yes {x y:RoleB} (h:ltR x y=true):cmpR x y = -1:=by rw[cmpR,if_pos h]
theorem cmpR_lt_no {x y:RoleB} (h:ltR x y=false):cmpR x y=0∨cmpR x y=1:=by
 rw[cmpR,if_neg (by rw[h];decide)]
 cases h2:ltR y x <;> simp
set_option maxRecDepth 100000 in
set_option maxHeartbeats 2000000 in
theorem pcright1 (h1 h2 who b1 b2 c1 c2 w2:List UInt8) (w:World) (hs:h1.length≤9223372036854775807∧h2.length≤9223372036854775807∧who.length≤9223372036854775807∧b1.length≤9223372036854775807∧b2.length≤9223372036854775807∧c1.length≤9223372036854775807∧c2.length≤9223372036854775807∧w2.length≤9223372036854775807) :
  Calls Tryz.prog 64 #[credV ⟨1,(h1,h2),who,(b1,b2),(c1,c2),w2⟩] w fun e w'=>e = .returned (.bool (isCred ⟨1,(h1,h2),who,(b1,b2),(c1,c2),w2⟩))∧Chg (fun _=>False) w w':=by
 obtain⟨s1,s2,s3,s4,s5,s6,s7,s8⟩:=hs
 have hA:=heap_alloc_new w (.cells (credBox ⟨1,(h1,h2),who,(b1,b2),(c1,c2),w2⟩) 34)
 have hcA:=alc w (.cells (credBox ⟨1,(h1,h2),who,(b1,b2),(c1,c2),w2⟩) 34)
 have hB2:((w.alloc (.cells (credBox ⟨1,(h1,h2),who,(b1,b2),(c1,c2),w2⟩) 34)).alloc (.cells (credBox ⟨1,(h1,h2),who,([],[]),([],[]),[]⟩) 34)).heap[(w.alloc (.cells (credBox ⟨1,(h1,h2),who,(b1,b2),(c1,c2),w2⟩) 34)).heap.size]? = some (.cells (credBox ⟨1,(h1,h2),who,([],[]),([],[]),[]⟩) 34 (0,0)):=heap_alloc_new (w.alloc (.cells (credBox ⟨1,(h1,h2),who,(b1,b2),(c1,c2),w2⟩) 34)) (.cells (credBox ⟨1,(h1,h2),who,([],[]),([],[]),[]⟩) 34)
 have hcB:Chg (fun _=>False) (w.alloc (.cells (credBox ⟨1,(h1,h2),who,(b1,b2),(c1,c2),w2⟩) 34)) ((w.alloc (.cells (credBox ⟨1,(h1,h2),who,(b1,b2),(c1,c2),w2⟩) 34)).alloc (.cells (credBox ⟨1,(h1,h2),who,([],[]),([],[]),[]⟩) 34)):=(R0.alloc _)
 have hA2:=bE hA hcB id
 have hcw2:=hcA.trans hcB (fun _ _ h=>h)
 have hsz:(w.alloc (.cells (credBox ⟨1,(h1,h2),who,(b1,b2),(c1,c2),w2⟩) 34)).heap.size=w.heap.size+1:=by simp
 rw[hsz]at hB2
 have HH:=hid (aI hA2 (aI hB2 hcw2))
 clear hA hcA hB2 hcB hA2 hcw2 hsz
 show Calls Tryz.prog 64 #[.agg #[.int .i64 1,.string ⟨h1.toArray⟩,.string ⟨h2.toArray⟩,.string ⟨who.toArray⟩,.string ⟨b1.toArray⟩,.string ⟨b2.toArray⟩,.string ⟨c1.toArray⟩,.string ⟨c2.toArray⟩,.string ⟨w2.toArray⟩]] w _
 cases x_who:isName who with
 | false=>
  have hres:Hid (isCred ⟨1,(h1,h2),who,(b1,b2),(c1,c2),w2⟩=false):=hid (by simp [isCred,x_who])
  go_enter Tryz.func64,Tryz.ntmps64
  go_wp2_with fail
  obtain⟨hA2,hB2,hcw2⟩:=HH.out
  clear HH
  refine(right_any who _ s3).mono ?_
  rintro e w'2 ⟨rfl,rfl⟩
  rw[x_who]
  have KK0:=hid (aI hA2 (aI hB2 hcw2))
  clear hA2 hB2 hcw2
  try obtain⟨hA2,hB2,hcw2⟩:=KK0.out
  try clear KK0
  have KK:=hid (aI hA2 (aI hB2 hcw2))
  clear hA2 hB2 hcw2
  go_wp2
  all_goals (go_ret;exact⟨by rw[hres.out];exact retb (by simp [*]),KK.out.2.2⟩)
 | true=>
  cases x_h:isRole (h1,h2) with
  | false=>
   have hres:Hid (isCred ⟨1,(h1,h2),who,(b1,b2),(c1,c2),w2⟩=false):=hid (by simp [isCred,x_who,x_h])
   go_enter Tryz.func64,Tryz.ntmps64
   go_wp2_with fail
   obtain⟨hA2,hB2,hcw2⟩:=HH.out
   clear HH
   refine(right_any who _ s3).mono ?_
   rintro e w'2 ⟨rfl,rfl⟩
   rw[x_who]
   have KK0:=hid (aI hA2 (aI hB2 hcw2))
   clear hA2 hB2 hcw2
   go_wp2_with fail
   try obtain⟨hA2,hB2,hcw2⟩:=KK0.out
   try clear KK0
   refine(pright (h1,h2) _ s1 s2).mono ?_
   rintro e w3 ⟨rfl,hc3⟩
   rw[x_h]
   have hA3:=bE hA2 hc3 id
   have hB3:=bE hB2 hc3 id
   have hcw3:=hcw2.trans hc3 (fun _ _ h=>h)
   clear hc3 hA2 hB2 hcw2
   obtain⟨a0,a1,a2,a3,a4,a5,a6,a7,a8⟩:=cred_at_blk hA3
   obtain⟨q0,q1,q2,q3,q4,q5,q6,q7,q8⟩:=cred_at_blk hB3
   simp only[Nat.zero_add]at a0 a1 a2 a3 a4 a5 a6 a7 a8 q0 q1 q2 q3 q4 q5 q6 q7 q8
   have KK:=hid (aI hA3 (aI hB3 hcw3))
   clear hA3 hB3 hcw3
   go_wp2
   all_goals (go_ret;exact⟨by rw[hres.out];exact retb (by simp [*]),KK.out.2.2⟩)
  | true=>
   have hres:Hid (isCred ⟨1,(h1,h2),who,(b1,b2),(c1,c2),w2⟩=((b1,b2)==noneR&&((c1,c2)==noneR&&w2==[]))):=hid (by simp [isCred,x_who,x_h])
   go_enter Tryz.func64,Tryz.ntmps64
   go_wp2_with fail
   obtain⟨hA2,hB2,hcw2⟩:=HH.out
   clear HH
   refine(right_any who _ s3).mono ?_
   rintro e w'2 ⟨rfl,rfl⟩
   rw[x_who]
   have KK0:=hid (aI hA2 (aI hB2 hcw2))
   clear hA2 hB2 hcw2
   go_wp2_with fail
   try obtain⟨hA2,hB2,hcw2⟩:=KK0.out
   try clear KK0
   refine(pright (h1,h2) _ s1 s2).mono ?_
   rintro e w3 ⟨rfl,hc3⟩
   rw[x_h]
   have hA3:=bE hA2 hc3 id
   have hB3:=bE hB2 hc3 id
   have hcw3:=hcw2.trans hc3 (fun _ _ h=>h)
   clear hc3 hA2 hB2 hcw2
   obtain⟨a0,a1,a2,a3,a4,a5,a6,a7,a8⟩:=cred_at_blk hA3
   obtain⟨q0,q1,q2,q3,q4,q5,q6,q7,q8⟩:=cred_at_blk hB3
   simp only[Nat.zero_add]at a0 a1 a2 a3 a4 a5 a6 a7 a8 q0 q1 q2 q3 q4 q5 q6 q7 q8
   have KK:=hid (aI hA3 (aI hB3 hcw3))
   clear hA3 hB3 hcw3
   go_wp2
   all_goals (go_ret;exact⟨by rw[hres.out];exact retb (by simp [noneR, *]),KK.out.2.2⟩)
set_option maxRecDepth 100000 in
set_option maxHeartbeats 2000000 in
theorem pcright2 (h1 h2 who b1 b2 c1 c2 w2:List UInt8) (w:World) (hs:h1.length≤9223372036854775807∧h2.length≤9223372036854775807∧who.length≤9223372036854775807∧b1.length≤9223372036854775807∧b2.length≤9223372036854775807∧c1.length≤9223372036854775807∧c2.length≤9223372036854775807∧w2.length≤9223372036854775807) :
  Calls Tryz.prog 64 #[credV ⟨2,(h1,h2),who,(b1,b2),(c1,c2),w2⟩] w fun e w'=>e = .returned (.bool (isCred ⟨2,(h1,h2),who,(b1,b2),(c1,c2),w2⟩))∧Chg (fun _=>False) w w':=by
 obtain⟨s1,s2,s3,s4,s5,s6,s7,s8⟩:=hs
 have hA:=heap_alloc_new w (.cells (credBox ⟨2,(h1,h2),who,(b1,b2),(c1,c2),w2⟩) 34)
 have hcA:=alc w (.cells (credBox ⟨2,(h1,h2),who,(b1,b2),(c1,c2),w2⟩) 34)
 have hB2:((w.alloc (.cells (credBox ⟨2,(h1,h2),who,(b1,b2),(c1,c2),w2⟩) 34)).alloc (.cells (credBox ⟨2,(h1,h2),[],(b1,b2),([],[]),[]⟩) 34)).heap[(w.alloc (.cells (credBox ⟨2,(h1,h2),who,(b1,b2),(c1,c2),w2⟩) 34)).heap.size]? = some (.cells (credBox ⟨2,(h1,h2),[],(b1,b2),([],[]),[]⟩) 34 (0,0)):=heap_alloc_new (w.alloc (.cells (credBox ⟨2,(h1,h2),who,(b1,b2),(c1,c2),w2⟩) 34)) (.cells (credBox ⟨2,(h1,h2),[],(b1,b2),([],[]),[]⟩) 34)
 have hcB:Chg (fun _=>False) (w.alloc (.cells (credBox ⟨2,(h1,h2),who,(b1,b2),(c1,c2),w2⟩) 34)) ((w.alloc (.cells (credBox ⟨2,(h1,h2),who,(b1,b2),(c1,c2),w2⟩) 34)).alloc (.cells (credBox ⟨2,(h1,h2),[],(b1,b2),([],[]),[]⟩) 34)):=(R0.alloc _)
 have hA2:=bE hA hcB id
 have hcw2:=hcA.trans hcB (fun _ _ h=>h)
 have hsz:(w.alloc (.cells (credBox ⟨2,(h1,h2),who,(b1,b2),(c1,c2),w2⟩) 34)).heap.size=w.heap.size+1:=by simp
 rw[hsz]at hB2
 have HH:=hid (aI hA2 (aI hB2 hcw2))
 clear hA hcA hB2 hcB hA2 hcw2 hsz
 show Calls Tryz.prog 64 #[.agg #[.int .i64 2,.string ⟨h1.toArray⟩,.string ⟨h2.toArray⟩,.string ⟨who.toArray⟩,.string ⟨b1.toArray⟩,.string ⟨b2.toArray⟩,.string ⟨c1.toArray⟩,.string ⟨c2.toArray⟩,.string ⟨w2.toArray⟩]] w _
 cases x_b:isRole (b1,b2) with
 | false=>
  have hres:Hid (isCred ⟨2,(h1,h2),who,(b1,b2),(c1,c2),w2⟩=false):=hid (by simp [isCred,x_b])
  go_enter Tryz.func64,Tryz.ntmps64
  go_wp2_with fail
  obtain⟨hA2,hB2,hcw2⟩:=HH.out
  clear HH
  try obtain⟨hA2,hB2,hcw2⟩:=KK0.out
  try clear KK0
  refine(pright (b1,b2) _ s4 s5).mono ?_
  rintro e w3 ⟨rfl,hc3⟩
  rw[x_b]
  have hA3:=bE hA2 hc3 id
  have hB3:=bE hB2 hc3 id
  have hcw3:=hcw2.trans hc3 (fun _ _ h=>h)
  clear hc3 hA2 hB2 hcw2
  obtain⟨a0,a1,a2,a3,a4,a5,a6,a7,a8⟩:=cred_at_blk hA3
  obtain⟨q0,q1,q2,q3,q4,q5,q6,q7,q8⟩:=cred_at_blk hB3
  simp only[Nat.zero_add]at a0 a1 a2 a3 a4 a5 a6 a7 a8 q0 q1 q2 q3 q4 q5 q6 q7 q8
  have KK:=hid (aI hA3 (aI hB3 hcw3))
  clear hA3 hB3 hcw3
  go_wp2
  all_goals (go_ret;exact⟨by rw[hres.out];exact retb (by simp [*]),KK.out.2.2⟩)
 | true=>
  cases x_h:isRole (h1,h2) with
  | false=>
   have hres:Hid (isCred ⟨2,(h1,h2),who,(b1,b2),(c1,c2),w2⟩=false):=hid (by simp [isCred,x_b,x_h])
   go_enter Tryz.func64,Tryz.ntmps64
   go_wp2_with fail
   obtain⟨hA2,hB2,hcw2⟩:=HH.out
   clear HH
   try obtain⟨hA2,hB2,hcw2⟩:=KK0.out
   try clear KK0
   refine(pright (b1,b2) _ s4 s5).mono ?_
   rintro e w3 ⟨rfl,hc3⟩
   rw[x_b]
   have hA3:=bE hA2 hc3 id
   have hB3:=bE hB2 hc3 id
   have hcw3:=hcw2.trans hc3 (fun _ _ h=>h)
   clear hc3 hA2 hB2 hcw2
   obtain⟨a0,a1,a2,a3,a4,a5,a6,a7,a8⟩:=cred_at_blk hA3
   obtain⟨q0,q1,q2,q3,q4,q5,q6,q7,q8⟩:=cred_at_blk hB3
   simp only[Nat.zero_add]at a0 a1 a2 a3 a4 a5 a6 a7 a8 q0 q1 q2 q3 q4 q5 q6 q7 q8
   have KK:=hid (aI hA3 (aI hB3 hcw3))
   clear hA3 hB3 hcw3
   go_wp2_with fail
   obtain⟨hA3,hB3,hcw3⟩:=KK.out
   clear KK a0 a1 a2 a3 a4 a5 a6 a7 a8 q0 q1 q2 q3 q4 q5 q6 q7 q8
   refine(pright (h1,h2) _ s1 s2).mono ?_
   rintro e w4 ⟨rfl,hc4⟩
   rw[x_h]
   have hA4:=bE hA3 hc4 id
   have hB4:=bE hB3 hc4 id
   have hcw4:=hcw3.trans hc4 (fun _ _ h=>h)
   clear hc4 hA3 hB3 hcw3
   obtain⟨a0,a1,a2,a3,a4,a5,a6,a7,a8⟩:=cred_at_blk hA4
   obtain⟨q0,q1,q2,q3,q4,q5,q6,q7,q8⟩:=cred_at_blk hB4
   simp only[Nat.zero_add]at a0 a1 a2 a3 a4 a5 a6 a7 a8 q0 q1 q2 q3 q4 q5 q6 q7 q8
   have KK:=hid (aI hA4 (aI hB4 hcw4))
   clear hA4 hB4 hcw4
   go_wp2
   all_goals (go_ret;exact⟨by rw[hres.out];exact retb (by simp [*]),KK.out.2.2⟩)
  | true=>
   have hres:Hid (isCred ⟨2,(h1,h2),who,(b1,b2),(c1,c2),w2⟩=(who==[]&&((c1,c2)==noneR&&w2==[]))):=hid (by simp [isCred,x_b,x_h])
   go_enter Tryz.func64,Tryz.ntmps64
   go_wp2_with fail
   obtain⟨hA2,hB2,hcw2⟩:=HH.out
   clear HH
   try obtain⟨hA2,hB2,hcw2⟩:=KK0.out
   try clear KK0
   refine(pright (b1,b2) _ s4 s5).mono ?_
   rintro e w3 ⟨rfl,hc3⟩
   rw[x_b]
   have hA3:=bE hA2 hc3 id
   have hB3:=bE hB2 hc3 id
   have hcw3:=hcw2.trans hc3 (fun _ _ h=>h)
   clear hc3 hA2 hB2 hcw2
   obtain⟨a0,a1,a2,a3,a4,a5,a6,a7,a8⟩:=cred_at_blk hA3
   obtain⟨q0,q1,q2,q3,q4,q5,q6,q7,q8⟩:=cred_at_blk hB3
   simp only[Nat.zero_add]at a0 a1 a2 a3 a4 a5 a6 a7 a8 q0 q1 q2 q3 q4 q5 q6 q7 q8
   have KK:=hid (aI hA3 (aI hB3 hcw3))
   clear hA3 hB3 hcw3
   go_wp2_with fail
   obtain⟨hA3,hB3,hcw3⟩:=KK.out
   clear KK a0 a1 a2 a3 a4 a5 a6 a7 a8 q0 q1 q2 q3 q4 q5 q6 q7 q8
   refine(pright (h1,h2) _ s1 s2).mono ?_
   rintro e w4 ⟨rfl,hc4⟩
   rw[x_h]
   have hA4:=bE hA3 hc4 id
   have hB4:=bE hB3 hc4 id
   have hcw4:=hcw3.trans hc4 (fun _ _ h=>h)
   clear hc4 hA3 hB3 hcw3
   obtain⟨a0,a1,a2,a3,a4,a5,a6,a7,a8⟩:=cred_at_blk hA4
   obtain⟨q0,q1,q2,q3,q4,q5,q6,q7,q8⟩:=cred_at_blk hB4
   simp only[Nat.zero_add]at a0 a1 a2 a3 a4 a5 a6 a7 a8 q0 q1 q2 q3 q4 q5 q6 q7 q8
   have KK:=hid (aI hA4 (aI hB4 hcw4))
   clear hA4 hB4 hcw4
   go_wp2
   all_goals (go_ret;exact⟨by rw[hres.out];exact retb (by simp [noneR, *]),KK.out.2.2⟩)
set_option maxRecDepth 100000 in
set_option maxHeartbeats 2000000 in
theorem pcright3 (h1 h2 who b1 b2 c1 c2 w2:List UInt8) (w:World) (hs:h1.length≤9223372036854775807∧h2.length≤9223372036854775807∧who.length≤9223372036854775807∧b1.length≤9223372036854775807∧b2.length≤9223372036854775807∧c1.length≤9223372036854775807∧c2.length≤9223372036854775807∧w2.length≤9223372036854775807) :
  Calls Tryz.prog 64 #[credV ⟨3,(h1,h2),who,(b1,b2),(c1,c2),w2⟩] w fun e w'=>e = .returned (.bool (isCred ⟨3,(h1,h2),who,(b1,b2),(c1,c2),w2⟩))∧Chg (fun _=>False) w w':=by
 obtain⟨s1,s2,s3,s4,s5,s6,s7,s8⟩:=hs
 have hA:=heap_alloc_new w (.cells (credBox ⟨3,(h1,h2),who,(b1,b2),(c1,c2),w2⟩) 34)
 have hcA:=alc w (.cells (credBox ⟨3,(h1,h2),who,(b1,b2),(c1,c2),w2⟩) 34)
 have hB2:((w.alloc (.cells (credBox ⟨3,(h1,h2),who,(b1,b2),(c1,c2),w2⟩) 34)).alloc (.cells (credBox ⟨3,(h1,h2),[],(b1,b2),([],[]),w2⟩) 34)).drew.heap[(w.alloc (.cells (credBox ⟨3,(h1,h2),who,(b1,b2),(c1,c2),w2⟩) 34)).heap.size]? = some (.cells (credBox ⟨3,(h1,h2),[],(b1,b2),([],[]),w2⟩) 34 (0,0)):=heap_alloc_new (w.alloc (.cells (credBox ⟨3,(h1,h2),who,(b1,b2),(c1,c2),w2⟩) 34)) (.cells (credBox ⟨3,(h1,h2),[],(b1,b2),([],[]),w2⟩) 34)
 have hcB:Chg (fun _=>False) (w.alloc (.cells (credBox ⟨3,(h1,h2),who,(b1,b2),(c1,c2),w2⟩) 34)) ((w.alloc (.cells (credBox ⟨3,(h1,h2),who,(b1,b2),(c1,c2),w2⟩) 34)).alloc (.cells (credBox ⟨3,(h1,h2),[],(b1,b2),([],[]),w2⟩) 34)).drew:=(R0.alloc _).drew
 have hA2:=bE hA hcB id
 have hcw2:=hcA.trans hcB (fun _ _ h=>h)
 have hsz:(w.alloc (.cells (credBox ⟨3,(h1,h2),who,(b1,b2),(c1,c2),w2⟩) 34)).heap.size=w.heap.size+1:=by simp
 rw[hsz]at hB2
 have HH:=hid (aI hA2 (aI hB2 hcw2))
 clear hA hcA hB2 hcB hA2 hcw2 hsz
 show Calls Tryz.prog 64 #[.agg #[.int .i64 3,.string ⟨h1.toArray⟩,.string ⟨h2.toArray⟩,.string ⟨who.toArray⟩,.string ⟨b1.toArray⟩,.string ⟨b2.toArray⟩,.string ⟨c1.toArray⟩,.string ⟨c2.toArray⟩,.string ⟨w2.toArray⟩]] w _
 cases x_b:isRole (b1,b2) with
 | false=>
  have hres:Hid (isCred ⟨3,(h1,h2),who,(b1,b2),(c1,c2),w2⟩=false):=hid (by simp [isCred,x_b])
  go_enter Tryz.func64,Tryz.ntmps64
  go_wp2_with fail
  go_region
  go_wp2_with fail
  obtain⟨hA2,hB2,hcw2⟩:=HH.out
  clear HH
  try obtain⟨hA2,hB2,hcw2⟩:=KK0.out
  try clear KK0
  refine(pright (b1,b2) _ s4 s5).mono ?_
  rintro e w3 ⟨rfl,hc3⟩
  rw[x_b]
  have hA3:=bE hA2 hc3 id
  have hB3:=bE hB2 hc3 id
  have hcw3:=hcw2.trans hc3 (fun _ _ h=>h)
  clear hc3 hA2 hB2 hcw2
  obtain⟨a0,a1,a2,a3,a4,a5,a6,a7,a8⟩:=cred_at_blk hA3
  obtain⟨q0,q1,q2,q3,q4,q5,q6,q7,q8⟩:=cred_at_blk hB3
  simp only[Nat.zero_add]at a0 a1 a2 a3 a4 a5 a6 a7 a8 q0 q1 q2 q3 q4 q5 q6 q7 q8
  have KK:=hid (aI hA3 (aI hB3 hcw3))
  clear hA3 hB3 hcw3
  go_wp2
  all_goals (go_ret;exact⟨by rw[hres.out];exact retb (by simp [*]),KK.out.2.2⟩)
 | true=>
  by_cases x_eq:h1=b1
  ·subst x_eq
   cases x_w2:isName w2 with
   | false=>
    have hres:Hid (isCred ⟨3,(h1,h2),who,(h1,b2),(c1,c2),w2⟩=false):=hid (by simp [isCred,x_b,x_w2])
    go_enter Tryz.func64,Tryz.ntmps64
    go_wp2_with fail
    go_region
    go_wp2_with fail
    obtain⟨hA2,hB2,hcw2⟩:=HH.out
    clear HH
    try obtain⟨hA2,hB2,hcw2⟩:=KK0.out
    try clear KK0
    refine(pright (h1,b2) _ s4 s5).mono ?_
    rintro e w3 ⟨rfl,hc3⟩
    rw[x_b]
    have hA3:=bE hA2 hc3 id
    have hB3:=bE hB2 hc3 id
    have hcw3:=hcw2.trans hc3 (fun _ _ h=>h)
    clear hc3 hA2 hB2 hcw2
    obtain⟨a0,a1,a2,a3,a4,a5,a6,a7,a8⟩:=cred_at_blk hA3
    obtain⟨q0,q1,q2,q3,q4,q5,q6,q7,q8⟩:=cred_at_blk hB3
    simp only[Nat.zero_add]at a0 a1 a2 a3 a4 a5 a6 a7 a8 q0 q1 q2 q3 q4 q5 q6 q7 q8
    have KK:=hid (aI hA3 (aI hB3 hcw3))
    clear hA3 hB3 hcw3
    go_wp2_with fail
    obtain⟨hA3,hB3,hcw3⟩:=KK.out
    clear KK a0 a1 a2 a3 a4 a5 a6 a7 a8 q0 q1 q2 q3 q4 q5 q6 q7 q8
    refine(right_any w2 _ s8).mono ?_
    rintro e w'3 ⟨rfl,rfl⟩
    rw[x_w2]
    obtain⟨a0,a1,a2,a3,a4,a5,a6,a7,a8⟩:=cred_at_blk hA3
    obtain⟨q0,q1,q2,q3,q4,q5,q6,q7,q8⟩:=cred_at_blk hB3
    simp only[Nat.zero_add]at a0 a1 a2 a3 a4 a5 a6 a7 a8 q0 q1 q2 q3 q4 q5 q6 q7 q8
    have KK:=hid (aI hA3 (aI hB3 hcw3))
    clear hA3 hB3 hcw3
    go_wp2
    all_goals (go_ret;exact⟨by rw[hres.out];exact retb (by simp [*]),KK.out.2.2⟩)
   | true=>
    cases x_h:isRole (h1,h2) with
    | false=>
     have hres:Hid (isCred ⟨3,(h1,h2),who,(h1,b2),(c1,c2),w2⟩=false):=hid (by simp [isCred,x_b,x_w2,x_h])
     go_enter Tryz.func64,Tryz.ntmps64
     go_wp2_with fail
     go_region
     go_wp2_with fail
     obtain⟨hA2,hB2,hcw2⟩:=HH.out
     clear HH
     try obtain⟨hA2,hB2,hcw2⟩:=KK0.out
     try clear KK0
     refine(pright (h1,b2) _ s4 s5).mono ?_
     rintro e w3 ⟨rfl,hc3⟩
     rw[x_b]
     have hA3:=bE hA2 hc3 id
     have hB3:=bE hB2 hc3 id
     have hcw3:=hcw2.trans hc3 (fun _ _ h=>h)
     clear hc3 hA2 hB2 hcw2
     obtain⟨a0,a1,a2,a3,a4,a5,a6,a7,a8⟩:=cred_at_blk hA3
     obtain⟨q0,q1,q2,q3,q4,q5,q6,q7,q8⟩:=cred_at_blk hB3
     simp only[Nat.zero_add]at a0 a1 a2 a3 a4 a5 a6 a7 a8 q0 q1 q2 q3 q4 q5 q6 q7 q8
     have KK:=hid (aI hA3 (aI hB3 hcw3))
     clear hA3 hB3 hcw3
     go_wp2_with fail
     obtain⟨hA3,hB3,hcw3⟩:=KK.out
     clear KK a0 a1 a2 a3 a4 a5 a6 a7 a8 q0 q1 q2 q3 q4 q5 q6 q7 q8
     refine(right_any w2 _ s8).mono ?_
     rintro e w'3 ⟨rfl,rfl⟩
     rw[x_w2]
     obtain⟨a0,a1,a2,a3,a4,a5,a6,a7,a8⟩:=cred_at_blk hA3
     obtain⟨q0,q1,q2,q3,q4,q5,q6,q7,q8⟩:=cred_at_blk hB3
     simp only[Nat.zero_add]at a0 a1 a2 a3 a4 a5 a6 a7 a8 q0 q1 q2 q3 q4 q5 q6 q7 q8
     have KK:=hid (aI hA3 (aI hB3 hcw3))
     clear hA3 hB3 hcw3
     go_wp2_with fail
     obtain⟨hA3,hB3,hcw3⟩:=KK.out
     clear KK a0 a1 a2 a3 a4 a5 a6 a7 a8 q0 q1 q2 q3 q4 q5 q6 q7 q8
     refine(pright (h1,h2) _ s1 s2).mono ?_
     rintro e w4 ⟨rfl,hc4⟩
     rw[x_h]
     have hA4:=bE hA3 hc4 id
     have hB4:=bE hB3 hc4 id
     have hcw4:=hcw3.trans hc4 (fun _ _ h=>h)
     clear hc4 hA3 hB3 hcw3
     obtain⟨a0,a1,a2,a3,a4,a5,a6,a7,a8⟩:=cred_at_blk hA4
     obtain⟨q0,q1,q2,q3,q4,q5,q6,q7,q8⟩:=cred_at_blk hB4
     simp only[Nat.zero_add]at a0 a1 a2 a3 a4 a5 a6 a7 a8 q0 q1 q2 q3 q4 q5 q6 q7 q8
     have KK:=hid (aI hA4 (aI hB4 hcw4))
     clear hA4 hB4 hcw4
     go_wp2
     all_goals (go_ret;exact⟨by rw[hres.out];exact retb (by simp [*]),KK.out.2.2⟩)
    | true=>
     have hres:Hid (isCred ⟨3,(h1,h2),who,(h1,b2),(c1,c2),w2⟩=(who==[]&&((c1,c2)==noneR))):=hid (by simp [isCred,x_b,x_w2,x_h])
     go_enter Tryz.func64,Tryz.ntmps64
     go_wp2_with fail
     go_region
     go_wp2_with fail
     obtain⟨hA2,hB2,hcw2⟩:=HH.out
     clear HH
     try obtain⟨hA2,hB2,hcw2⟩:=KK0.out
     try clear KK0
     refine(pright (h1,b2) _ s4 s5).mono ?_
     rintro e w3 ⟨rfl,hc3⟩
     rw[x_b]
     have hA3:=bE hA2 hc3 id
     have hB3:=bE hB2 hc3 id
     have hcw3:=hcw2.trans hc3 (fun _ _ h=>h)
     clear hc3 hA2 hB2 hcw2
     obtain⟨a0,a1,a2,a3,a4,a5,a6,a7,a8⟩:=cred_at_blk hA3
     obtain⟨q0,q1,q2,q3,q4,q5,q6,q7,q8⟩:=cred_at_blk hB3
     simp only[Nat.zero_add]at a0 a1 a2 a3 a4 a5 a6 a7 a8 q0 q1 q2 q3 q4 q5 q6 q7 q8
     have KK:=hid (aI hA3 (aI hB3 hcw3))
     clear hA3 hB3 hcw3
     go_wp2_with fail
     obtain⟨hA3,hB3,hcw3⟩:=KK.out
     clear KK a0 a1 a2 a3 a4 a5 a6 a7 a8 q0 q1 q2 q3 q4 q5 q6 q7 q8
     refine(right_any w2 _ s8).mono ?_
     rintro e w'3 ⟨rfl,rfl⟩
     rw[x_w2]
     obtain⟨a0,a1,a2,a3,a4,a5,a6,a7,a8⟩:=cred_at_blk hA3
     obtain⟨q0,q1,q2,q3,q4,q5,q6,q7,q8⟩:=cred_at_blk hB3
     simp only[Nat.zero_add]at a0 a1 a2 a3 a4 a5 a6 a7 a8 q0 q1 q2 q3 q4 q5 q6 q7 q8
     have KK:=hid (aI hA3 (aI hB3 hcw3))
     clear hA3 hB3 hcw3
     go_wp2_with fail
     obtain⟨hA3,hB3,hcw3⟩:=KK.out
     clear KK a0 a1 a2 a3 a4 a5 a6 a7 a8 q0 q1 q2 q3 q4 q5 q6 q7 q8
     refine(pright (h1,h2) _ s1 s2).mono ?_
     rintro e w4 ⟨rfl,hc4⟩
     rw[x_h]
     have hA4:=bE hA3 hc4 id
     have hB4:=bE hB3 hc4 id
     have hcw4:=hcw3.trans hc4 (fun _ _ h=>h)
     clear hc4 hA3 hB3 hcw3
     obtain⟨a0,a1,a2,a3,a4,a5,a6,a7,a8⟩:=cred_at_blk hA4
     obtain⟨q0,q1,q2,q3,q4,q5,q6,q7,q8⟩:=cred_at_blk hB4
     simp only[Nat.zero_add]at a0 a1 a2 a3 a4 a5 a6 a7 a8 q0 q1 q2 q3 q4 q5 q6 q7 q8
     have KK:=hid (aI hA4 (aI hB4 hcw4))
     clear hA4 hB4 hcw4
     go_wp2
     all_goals (go_ret;exact⟨by rw[hres.out];exact retb (by simp [noneR, *]),KK.out.2.2⟩)
  ·have x_eq:¬b1=h1:=fun e=>x_eq e.symm
   have hres:Hid (isCred ⟨3,(h1,h2),who,(b1,b2),(c1,c2),w2⟩=false):=hid (by simp [isCred,x_b,x_eq])
   go_enter Tryz.func64,Tryz.ntmps64
   go_wp2_with fail
   go_region
   go_wp2_with fail
   obtain⟨hA2,hB2,hcw2⟩:=HH.out
   clear HH
   try obtain⟨hA2,hB2,hcw2⟩:=KK0.out
   try clear KK0
   refine(pright (b1,b2) _ s4 s5).mono ?_
   rintro e w3 ⟨rfl,hc3⟩
   rw[x_b]
   have hA3:=bE hA2 hc3 id
   have hB3:=bE hB2 hc3 id
   have hcw3:=hcw2.trans hc3 (fun _ _ h=>h)
   clear hc3 hA2 hB2 hcw2
   obtain⟨a0,a1,a2,a3,a4,a5,a6,a7,a8⟩:=cred_at_blk hA3
   obtain⟨q0,q1,q2,q3,q4,q5,q6,q7,q8⟩:=cred_at_blk hB3
   simp only[Nat.zero_add]at a0 a1 a2 a3 a4 a5 a6 a7 a8 q0 q1 q2 q3 q4 q5 q6 q7 q8
   have KK:=hid (aI hA3 (aI hB3 hcw3))
   clear hA3 hB3 hcw3
   go_wp2
   all_goals (go_ret;exact⟨by rw[hres.out];exact retb (by simp [*]),KK.out.2.2⟩)
set_option maxRecDepth 100000 in
set_option maxHeartbeats 2000000 in
theorem pcright4 (h1 h2 who b1 b2 c1 c2 w2:List UInt8) (w:World) (hs:h1.length≤9223372036854775807∧h2.length≤9223372036854775807∧who.length≤9223372036854775807∧b1.length≤9223372036854775807∧b2.length≤9223372036854775807∧c1.length≤9223372036854775807∧c2.length≤9223372036854775807∧w2.length≤9223372036854775807) :
  Calls Tryz.prog 64 #[credV ⟨4,(h1,h2),who,(b1,b2),(c1,c2),w2⟩] w fun e w'=>e = .returned (.bool (isCred ⟨4,(h1,h2),who,(b1,b2),(c1,c2),w2⟩))∧Chg (fun _=>False) w w':=by
 obtain⟨s1,s2,s3,s4,s5,s6,s7,s8⟩:=hs
 have hA:=heap_alloc_new w (.cells (credBox ⟨4,(h1,h2),who,(b1,b2),(c1,c2),w2⟩) 34)
 have hcA:=alc w (.cells (credBox ⟨4,(h1,h2),who,(b1,b2),(c1,c2),w2⟩) 34)
 have hB2:((w.alloc (.cells (credBox ⟨4,(h1,h2),who,(b1,b2),(c1,c2),w2⟩) 34)).alloc (.cells (credBox ⟨4,(h1,h2),[],(b1,b2),(c1,c2),[]⟩) 34)).drew.heap[(w.alloc (.cells (credBox ⟨4,(h1,h2),who,(b1,b2),(c1,c2),w2⟩) 34)).heap.size]? = some (.cells (credBox ⟨4,(h1,h2),[],(b1,b2),(c1,c2),[]⟩) 34 (0,0)):=heap_alloc_new (w.alloc (.cells (credBox ⟨4,(h1,h2),who,(b1,b2),(c1,c2),w2⟩) 34)) (.cells (credBox ⟨4,(h1,h2),[],(b1,b2),(c1,c2),[]⟩) 34)
 have hcB:Chg (fun _=>False) (w.alloc (.cells (credBox ⟨4,(h1,h2),who,(b1,b2),(c1,c2),w2⟩) 34)) ((w.alloc (.cells (credBox ⟨4,(h1,h2),who,(b1,b2),(c1,c2),w2⟩) 34)).alloc (.cells (credBox ⟨4,(h1,h2),[],(b1,b2),(c1,c2),[]⟩) 34)).drew:=(R0.alloc _).drew
 have hA2:=bE hA hcB id
 have hcw2:=hcA.trans hcB (fun _ _ h=>h)
 have hsz:(w.alloc (.cells (credBox ⟨4,(h1,h2),who,(b1,b2),(c1,c2),w2⟩) 34)).heap.size=w.heap.size+1:=by simp
 rw[hsz]at hB2
 have HH:=hid (aI hA2 (aI hB2 hcw2))
 clear hA hcA hB2 hcB hA2 hcw2 hsz
 show Calls Tryz.prog 64 #[.agg #[.int .i64 4,.string ⟨h1.toArray⟩,.string ⟨h2.toArray⟩,.string ⟨who.toArray⟩,.string ⟨b1.toArray⟩,.string ⟨b2.toArray⟩,.string ⟨c1.toArray⟩,.string ⟨c2.toArray⟩,.string ⟨w2.toArray⟩]] w _
 cases x_b:isRole (b1,b2) with
 | false=>
  have hres:Hid (isCred ⟨4,(h1,h2),who,(b1,b2),(c1,c2),w2⟩=false):=hid (by simp [isCred,x_b])
  go_enter Tryz.func64,Tryz.ntmps64
  go_wp2_with fail
  go_region
  go_wp2_with fail
  obtain⟨hA2,hB2,hcw2⟩:=HH.out
  clear HH
  try obtain⟨hA2,hB2,hcw2⟩:=KK0.out
  try clear KK0
  refine(pright (b1,b2) _ s4 s5).mono ?_
  rintro e w3 ⟨rfl,hc3⟩
  rw[x_b]
  have hA3:=bE hA2 hc3 id
  have hB3:=bE hB2 hc3 id
  have hcw3:=hcw2.trans hc3 (fun _ _ h=>h)
  clear hc3 hA2 hB2 hcw2
  obtain⟨a0,a1,a2,a3,a4,a5,a6,a7,a8⟩:=cred_at_blk hA3
  obtain⟨q0,q1,q2,q3,q4,q5,q6,q7,q8⟩:=cred_at_blk hB3
  simp only[Nat.zero_add]at a0 a1 a2 a3 a4 a5 a6 a7 a8 q0 q1 q2 q3 q4 q5 q6 q7 q8
  have KK:=hid (aI hA3 (aI hB3 hcw3))
  clear hA3 hB3 hcw3
  go_wp2
  all_goals (go_ret;exact⟨by rw[hres.out];exact retb (by simp [*]),KK.out.2.2⟩)
 | true=>
  cases x_c:isRole (c1,c2) with
  | false=>
   have hres:Hid (isCred ⟨4,(h1,h2),who,(b1,b2),(c1,c2),w2⟩=false):=hid (by simp [isCred,x_b,x_c])
   go_enter Tryz.func64,Tryz.ntmps64
   go_wp2_with fail
   go_region
   go_wp2_with fail
   obtain⟨hA2,hB2,hcw2⟩:=HH.out
   clear HH
   try obtain⟨hA2,hB2,hcw2⟩:=KK0.out
   try clear KK0
   refine(pright (b1,b2) _ s4 s5).mono ?_
   rintro e w3 ⟨rfl,hc3⟩
   rw[x_b]
   have hA3:=bE hA2 hc3 id
   have hB3:=bE hB2 hc3 id
   have hcw3:=hcw2.trans hc3 (fun _ _ h=>h)
   clear hc3 hA2 hB2 hcw2
   obtain⟨a0,a1,a2,a3,a4,a5,a6,a7,a8⟩:=cred_at_blk hA3
   obtain⟨q0,q1,q2,q3,q4,q5,q6,q7,q8⟩:=cred_at_blk hB3
   simp only[Nat.zero_add]at a0 a1 a2 a3 a4 a5 a6 a7 a8 q0 q1 q2 q3 q4 q5 q6 q7 q8
   have KK:=hid (aI hA3 (aI hB3 hcw3))
   clear hA3 hB3 hcw3
   go_wp2_with fail
   obtain⟨hA3,hB3,hcw3⟩:=KK.out
   clear KK a0 a1 a2 a3 a4 a5 a6 a7 a8 q0 q1 q2 q3 q4 q5 q6 q7 q8
   refine(pright (c1,c2) _ s6 s7).mono ?_
   rintro e w4 ⟨rfl,hc4⟩
   rw[x_c]
   have hA4:=bE hA3 hc4 id
   have hB4:=bE hB3 hc4 id
   have hcw4:=hcw3.trans hc4 (fun _ _ h=>h)
   clear hc4 hA3 hB3 hcw3
   obtain⟨a0,a1,a2,a3,a4,a5,a6,a7,a8⟩:=cred_at_blk hA4
   obtain⟨q0,q1,q2,q3,q4,q5,q6,q7,q8⟩:=cred_at_blk hB4
   simp only[Nat.zero_add]at a0 a1 a2 a3 a4 a5 a6 a7 a8 q0 q1 q2 q3 q4 q5 q6 q7 q8
   have KK:=hid (aI hA4 (aI hB4 hcw4))
   clear hA4 hB4 hcw4
   go_wp2
   all_goals (go_ret;exact⟨by rw[hres.out];exact retb (by simp [*]),KK.out.2.2⟩)
  | true=>
   cases x_lt:ltR (b1,b2) (c1,c2) with
   | false=>
    have hres:Hid (isCred ⟨4,(h1,h2),who,(b1,b2),(c1,c2),w2⟩=false):=hid (by simp [isCred,x_b,x_c,x_lt])
    have hcr:=cmpR_lt_no x_lt
    have hcr:¬cmpR (b1,b2) (c1,c2)<0:=by omega
    go_enter Tryz.func64,Tryz.ntmps64
    go_wp2_with fail
    go_region
    go_wp2_with fail
    obtain⟨hA2,hB2,hcw2⟩:=HH.out
    clear HH
    try obtain⟨hA2,hB2,hcw2⟩:=KK0.out
    try clear KK0
    refine(pright (b1,b2) _ s4 s5).mono ?_
    rintro e w3 ⟨rfl,hc3⟩
    rw[x_b]
    have hA3:=bE hA2 hc3 id
    have hB3:=bE hB2 hc3 id
    have hcw3:=hcw2.trans hc3 (fun _ _ h=>h)
    clear hc3 hA2 hB2 hcw2
    obtain⟨a0,a1,a2,a3,a4,a5,a6,a7,a8⟩:=cred_at_blk hA3
    obtain⟨q0,q1,q2,q3,q4,q5,q6,q7,q8⟩:=cred_at_blk hB3
    simp only[Nat.zero_add]at a0 a1 a2 a3 a4 a5 a6 a7 a8 q0 q1 q2 q3 q4 q5 q6 q7 q8
    have KK:=hid (aI hA3 (aI hB3 hcw3))
    clear hA3 hB3 hcw3
    go_wp2_with fail
    obtain⟨hA3,hB3,hcw3⟩:=KK.out
    clear KK a0 a1 a2 a3 a4 a5 a6 a7 a8 q0 q1 q2 q3 q4 q5 q6 q7 q8
    refine(pright (c1,c2) _ s6 s7).mono ?_
    rintro e w4 ⟨rfl,hc4⟩
    rw[x_c]
    have hA4:=bE hA3 hc4 id
    have hB4:=bE hB3 hc4 id
    have hcw4:=hcw3.trans hc4 (fun _ _ h=>h)
    clear hc4 hA3 hB3 hcw3
    obtain⟨a0,a1,a2,a3,a4,a5,a6,a7,a8⟩:=cred_at_blk hA4
    obtain⟨q0,q1,q2,q3,q4,q5,q6,q7,q8⟩:=cred_at_blk hB4
    simp only[Nat.zero_add]at a0 a1 a2 a3 a4 a5 a6 a7 a8 q0 q1 q2 q3 q4 q5 q6 q7 q8
    have KK:=hid (aI hA4 (aI hB4 hcw4))
    clear hA4 hB4 hcw4
    go_wp2_with fail
    obtain⟨hA4,hB4,hcw4⟩:=KK.out
    clear KK a0 a1 a2 a3 a4 a5 a6 a7 a8 q0 q1 q2 q3 q4 q5 q6 q7 q8
    refine(pcompare (b1,b2) (c1,c2) _).mono ?_
    rintro e w5 ⟨rfl,hc5⟩
    have hA5:=bE hA4 hc5 id
    have hB5:=bE hB4 hc5 id
    have hcw5:=hcw4.trans hc5 (fun _ _ h=>h)
    clear hc5 hA4 hB4 hcw4
    obtain⟨a0,a1,a2,a3,a4,a5,a6,a7,a8⟩:=cred_at_blk hA5
    obtain⟨q0,q1,q2,q3,q4,q5,q6,q7,q8⟩:=cred_at_blk hB5
    simp only[Nat.zero_add]at a0 a1 a2 a3 a4 a5 a6 a7 a8 q0 q1 q2 q3 q4 q5 q6 q7 q8
    have KK:=hid (aI hA5 (aI hB5 hcw5))
    clear hA5 hB5 hcw5
    generalize cmpR (b1,b2) (c1,c2)=cr at *
    go_wp2
    all_goals (go_ret;exact⟨by rw[hres.out];exact retb (by simp [*]),KK.out.2.2⟩)
   | true=>
    cases x_h:isRole (h1,h2) with
    | false=>
     have hres:Hid (isCred ⟨4,(h1,h2),who,(b1,b2),(c1,c2),w2⟩=false):=hid (by simp [isCred,x_b,x_c,x_lt,x_h])
     go_enter Tryz.func64,Tryz.ntmps64
     go_wp2_with fail
     go_region
     go_wp2_with fail
     obtain⟨hA2,hB2,hcw2⟩:=HH.out
     clear HH
     try obtain⟨hA2,hB2,hcw2⟩:=KK0.out
     try clear KK0
     refine(pright (b1,b2) _ s4 s5).mono ?_
     rintro e w3 ⟨rfl,hc3⟩
     rw[x_b]
     have hA3:=bE hA2 hc3 id
     have hB3:=bE hB2 hc3 id
     have hcw3:=hcw2.trans hc3 (fun _ _ h=>h)
     clear hc3 hA2 hB2 hcw2
     obtain⟨a0,a1,a2,a3,a4,a5,a6,a7,a8⟩:=cred_at_blk hA3
     obtain⟨q0,q1,q2,q3,q4,q5,q6,q7,q8⟩:=cred_at_blk hB3
     simp only[Nat.zero_add]at a0 a1 a2 a3 a4 a5 a6 a7 a8 q0 q1 q2 q3 q4 q5 q6 q7 q8
     have KK:=hid (aI hA3 (aI hB3 hcw3))
     clear hA3 hB3 hcw3
     go_wp2_with fail
     obtain⟨hA3,hB3,hcw3⟩:=KK.out
     clear KK a0 a1 a2 a3 a4 a5 a6 a7 a8 q0 q1 q2 q3 q4 q5 q6 q7 q8
     refine(pright (c1,c2) _ s6 s7).mono ?_
     rintro e w4 ⟨rfl,hc4⟩
     rw[x_c]
     have hA4:=bE hA3 hc4 id
     have hB4:=bE hB3 hc4 id
     have hcw4:=hcw3.trans hc4 (fun _ _ h=>h)
     clear hc4 hA3 hB3 hcw3
     obtain⟨a0,a1,a2,a3,a4,a5,a6,a7,a8⟩:=cred_at_blk hA4
     obtain⟨q0,q1,q2,q3,q4,q5,q6,q7,q8⟩:=cred_at_blk hB4
     simp only[Nat.zero_add]at a0 a1 a2 a3 a4 a5 a6 a7 a8 q0 q1 q2 q3 q4 q5 q6 q7 q8
     have KK:=hid (aI hA4 (aI hB4 hcw4))
     clear hA4 hB4 hcw4
     go_wp2_with fail
     obtain⟨hA4,hB4,hcw4⟩:=KK.out
     clear KK a0 a1 a2 a3 a4 a5 a6 a7 a8 q0 q1 q2 q3 q4 q5 q6 q7 q8
     refine(pcompare (b1,b2) (c1,c2) _).mono ?_
     rintro e w5 ⟨rfl,hc5⟩
     have hA5:=bE hA4 hc5 id
     have hB5:=bE hB4 hc5 id
     have hcw5:=hcw4.trans hc5 (fun _ _ h=>h)
     clear hc5 hA4 hB4 hcw4
     obtain⟨a0,a1,a2,a3,a4,a5,a6,a7,a8⟩:=cred_at_blk hA5
     obtain⟨q0,q1,q2,q3,q4,q5,q6,q7,q8⟩:=cred_at_blk hB5
     simp only[Nat.zero_add]at a0 a1 a2 a3 a4 a5 a6 a7 a8 q0 q1 q2 q3 q4 q5 q6 q7 q8
     have KK:=hid (aI hA5 (aI hB5 hcw5))
     clear hA5 hB5 hcw5
     rw[cmpR_lt_yes x_lt]
     go_wp2_with fail
     obtain⟨hA5,hB5,hcw5⟩:=KK.out
     clear KK a0 a1 a2 a3 a4 a5 a6 a7 a8 q0 q1 q2 q3 q4 q5 q6 q7 q8
     refine(pright (h1,h2) _ s1 s2).mono ?_
     rintro e w6 ⟨rfl,hc6⟩
     rw[x_h]
     have hA6:=bE hA5 hc6 id
     have hB6:=bE hB5 hc6 id
     have hcw6:=hcw5.trans hc6 (fun _ _ h=>h)
     clear hc6 hA5 hB5 hcw5
     obtain⟨a0,a1,a2,a3,a4,a5,a6,a7,a8⟩:=cred_at_blk hA6
     obtain⟨q0,q1,q2,q3,q4,q5,q6,q7,q8⟩:=cred_at_blk hB6
     simp only[Nat.zero_add]at a0 a1 a2 a3 a4 a5 a6 a7 a8 q0 q1 q2 q3 q4 q5 q6 q7 q8
     have KK:=hid (aI hA6 (aI hB6 hcw6))
     clear hA6 hB6 hcw6
     go_wp2
     all_goals (go_ret;exact⟨by rw[hres.out];exact retb (by simp [*]),KK.out.2.2⟩)
    | true=>
     have hres:Hid (isCred ⟨4,(h1,h2),who,(b1,b2),(c1,c2),w2⟩=(who==[]&&w2==[])):=hid (by simp [isCred,x_b,x_c,x_lt,x_h])
     go_enter Tryz.func64,Tryz.ntmps64
     go_wp2_with fail
     go_region
     go_wp2_with fail
     obtain⟨hA2,hB2,hcw2⟩:=HH.out
     clear HH
     try obtain⟨hA2,hB2,hcw2⟩:=KK0.out
     try clear KK0
     refine(pright (b1,b2) _ s4 s5).mono ?_
     rintro e w3 ⟨rfl,hc3⟩
     rw[x_b]
     have hA3:=bE hA2 hc3 id
     have hB3:=bE hB2 hc3 id
     have hcw3:=hcw2.trans hc3 (fun _ _ h=>h)
     clear hc3 hA2 hB2 hcw2
     obtain⟨a0,a1,a2,a3,a4,a5,a6,a7,a8⟩:=cred_at_blk hA3
     obtain⟨q0,q1,q2,q3,q4,q5,q6,q7,q8⟩:=cred_at_blk hB3
     simp only[Nat.zero_add]at a0 a1 a2 a3 a4 a5 a6 a7 a8 q0 q1 q2 q3 q4 q5 q6 q7 q8
     have KK:=hid (aI hA3 (aI hB3 hcw3))
     clear hA3 hB3 hcw3
     go_wp2_with fail
     obtain⟨hA3,hB3,hcw3⟩:=KK.out
     clear KK a0 a1 a2 a3 a4 a5 a6 a7 a8 q0 q1 q2 q3 q4 q5 q6 q7 q8
     refine(pright (c1,c2) _ s6 s7).mono ?_
     rintro e w4 ⟨rfl,hc4⟩
     rw[x_c]
     have hA4:=bE hA3 hc4 id
     have hB4:=bE hB3 hc4 id
     have hcw4:=hcw3.trans hc4 (fun _ _ h=>h)
     clear hc4 hA3 hB3 hcw3
     obtain⟨a0,a1,a2,a3,a4,a5,a6,a7,a8⟩:=cred_at_blk hA4
     obtain⟨q0,q1,q2,q3,q4,q5,q6,q7,q8⟩:=cred_at_blk hB4
     simp only[Nat.zero_add]at a0 a1 a2 a3 a4 a5 a6 a7 a8 q0 q1 q2 q3 q4 q5 q6 q7 q8
     have KK:=hid (aI hA4 (aI hB4 hcw4))
     clear hA4 hB4 hcw4
     go_wp2_with fail
     obtain⟨hA4,hB4,hcw4⟩:=KK.out
     clear KK a0 a1 a2 a3 a4 a5 a6 a7 a8 q0 q1 q2 q3 q4 q5 q6 q7 q8
     refine(pcompare (b1,b2) (c1,c2) _).mono ?_
     rintro e w5 ⟨rfl,hc5⟩
     have hA5:=bE hA4 hc5 id
     have hB5:=bE hB4 hc5 id
     have hcw5:=hcw4.trans hc5 (fun _ _ h=>h)
     clear hc5 hA4 hB4 hcw4
     obtain⟨a0,a1,a2,a3,a4,a5,a6,a7,a8⟩:=cred_at_blk hA5
     obtain⟨q0,q1,q2,q3,q4,q5,q6,q7,q8⟩:=cred_at_blk hB5
     simp only[Nat.zero_add]at a0 a1 a2 a3 a4 a5 a6 a7 a8 q0 q1 q2 q3 q4 q5 q6 q7 q8
     have KK:=hid (aI hA5 (aI hB5 hcw5))
     clear hA5 hB5 hcw5
     rw[cmpR_lt_yes x_lt]
     go_wp2_with fail
     obtain⟨hA5,hB5,hcw5⟩:=KK.out
     clear KK a0 a1 a2 a3 a4 a5 a6 a7 a8 q0 q1 q2 q3 q4 q5 q6 q7 q8
     refine(pright (h1,h2) _ s1 s2).mono ?_
     rintro e w6 ⟨rfl,hc6⟩
     rw[x_h]
     have hA6:=bE hA5 hc6 id
     have hB6:=bE hB5 hc6 id
     have hcw6:=hcw5.trans hc6 (fun _ _ h=>h)
     clear hc6 hA5 hB5 hcw5
     obtain⟨a0,a1,a2,a3,a4,a5,a6,a7,a8⟩:=cred_at_blk hA6
     obtain⟨q0,q1,q2,q3,q4,q5,q6,q7,q8⟩:=cred_at_blk hB6
     simp only[Nat.zero_add]at a0 a1 a2 a3 a4 a5 a6 a7 a8 q0 q1 q2 q3 q4 q5 q6 q7 q8
     have KK:=hid (aI hA6 (aI hB6 hcw6))
     clear hA6 hB6 hcw6
     go_wp2
     all_goals (go_ret;exact⟨by rw[hres.out];exact retb (by simp [*]),KK.out.2.2⟩)
set_option maxRecDepth 100000 in
set_option maxHeartbeats 2000000 in
theorem pcrightk (k:Int) (h1 h2 who b1 b2 c1 c2 w2:List UInt8) (w:World) (hs:h1.length≤9223372036854775807∧h2.length≤9223372036854775807∧who.length≤9223372036854775807∧b1.length≤9223372036854775807∧b2.length≤9223372036854775807∧c1.length≤9223372036854775807∧c2.length≤9223372036854775807∧w2.length≤9223372036854775807) (hk:¬k=1∧¬k=2∧¬k=3∧¬k=4) :
  Calls Tryz.prog 64 #[credV ⟨k,(h1,h2),who,(b1,b2),(c1,c2),w2⟩] w fun e w'=>e = .returned (.bool (isCred ⟨k,(h1,h2),who,(b1,b2),(c1,c2),w2⟩))∧Chg (fun _=>False) w w':=by
 obtain⟨s1,s2,s3,s4,s5,s6,s7,s8⟩:=hs
 have hA:=heap_alloc_new w (.cells (credBox ⟨k,(h1,h2),who,(b1,b2),(c1,c2),w2⟩) 34)
 have hcA:=alc w (.cells (credBox ⟨k,(h1,h2),who,(b1,b2),(c1,c2),w2⟩) 34)
 have hB2:((w.alloc (.cells (credBox ⟨k,(h1,h2),who,(b1,b2),(c1,c2),w2⟩) 34)).alloc (.cells (credBox ⟨k,(h1,h2),[],([],[]),([],[]),[]⟩) 34)).heap[(w.alloc (.cells (credBox ⟨k,(h1,h2),who,(b1,b2),(c1,c2),w2⟩) 34)).heap.size]? = some (.cells (credBox ⟨k,(h1,h2),[],([],[]),([],[]),[]⟩) 34 (0,0)):=heap_alloc_new (w.alloc (.cells (credBox ⟨k,(h1,h2),who,(b1,b2),(c1,c2),w2⟩) 34)) (.cells (credBox ⟨k,(h1,h2),[],([],[]),([],[]),[]⟩) 34)
 have hcB:Chg (fun _=>False) (w.alloc (.cells (credBox ⟨k,(h1,h2),who,(b1,b2),(c1,c2),w2⟩) 34)) ((w.alloc (.cells (credBox ⟨k,(h1,h2),who,(b1,b2),(c1,c2),w2⟩) 34)).alloc (.cells (credBox ⟨k,(h1,h2),[],([],[]),([],[]),[]⟩) 34)):=(R0.alloc _)
 have hA2:=bE hA hcB id
 have hcw2:=hcA.trans hcB (fun _ _ h=>h)
 have hsz:(w.alloc (.cells (credBox ⟨k,(h1,h2),who,(b1,b2),(c1,c2),w2⟩) 34)).heap.size=w.heap.size+1:=by simp
 rw[hsz]at hB2
 have HH:=hid (aI hA2 (aI hB2 hcw2))
 clear hA hcA hB2 hcB hA2 hcw2 hsz
 show Calls Tryz.prog 64 #[.agg #[.int .i64 k,.string ⟨h1.toArray⟩,.string ⟨h2.toArray⟩,.string ⟨who.toArray⟩,.string ⟨b1.toArray⟩,.string ⟨b2.toArray⟩,.string ⟨c1.toArray⟩,.string ⟨c2.toArray⟩,.string ⟨w2.toArray⟩]] w _
 obtain⟨n1,n2,n3,n4⟩:=hk
 have hres:Hid (isCred ⟨k,(h1,h2),who,(b1,b2),(c1,c2),w2⟩=false):=hid (by simp [isCred,n1,n2,n3,n4])
 go_enter Tryz.func64,Tryz.ntmps64
 obtain⟨hA2,hB2,hcw2⟩:=HH.out
 clear HH
 try obtain⟨hA2,hB2,hcw2⟩:=KK0.out
 try clear KK0
 have KK:=hid (aI hA2 (aI hB2 hcw2))
 clear hA2 hB2 hcw2
 go_wp2
 all_goals (go_ret;exact⟨by rw[hres.out];exact retb (by simp [*]),KK.out.2.2⟩)
theorem pcright (c:CredB) (w:World) (hs:credShort c 9223372036854775807) :
  Calls Tryz.prog 64 #[credV c] w fun e w'=>e = .returned (.bool (isCred c))∧Chg (fun _=>False) w w':=by
 obtain⟨k,⟨h1,h2⟩,who,⟨b1,b2⟩,⟨c1,c2⟩,w2⟩:=c
 by_cases e1:k=1
 ·subst e1;exact pcright1 h1 h2 who b1 b2 c1 c2 w2 w hs
 ·by_cases e2:k=2
  ·subst e2;exact pcright2 h1 h2 who b1 b2 c1 c2 w2 w hs
  ·by_cases e3:k=3
   ·subst e3;exact pcright3 h1 h2 who b1 b2 c1 c2 w2 w hs
   ·by_cases e4:k=4
    ·subst e4;exact pcright4 h1 h2 who b1 b2 c1 c2 w2 w hs
    ·exact pcrightk k h1 h2 who b1 b2 c1 c2 w2 w hs ⟨e1,e2,e3,e4⟩
end Go.Proofs.YtkfinhpfdcjoeaaGreat
