import Derived.Test.YtlcgnbcgmljpaaaGreatM6
namespace Go.Proofs.YtlcgnbcgmljpaaaGreat
open Go.RowKit
set_option linter.unusedSimpArgs false
set_option linter.unusedVariables false
set_option maxRecDepth 20000 in
set_option maxHeartbeats 4000000 in
theorem an5 (ks:List ak) (k:ak) (nm:ByteArray) (eu:Int) (outs:List ByteArray) (code:List iw) (args:List (List iw))  (a1 a2 a3 a4 a5 a6 mv ov cv av:Value) (w:World) (hm:bf 7 160 ni 0 w mv ks) (h:F7 w k a1 a2 a3 a4 a5 a6) (h1:bf 1 16 uz 0 w ov outs) (h2:bf 3 32 tu 0 w cv code) (h3:bf 1 24 vw 0 w av args)
  (hin:∀j (hj:j<k.insts.length),0<=k.insts[j]∧k.insts[j]<ks.length) :
  Calls Tryz.prog 50 #[.agg #[mv],.agg #[.string k.name,a1,a2,a3,a4,a5,a6],.agg #[.int .i64 1,.string nm,.int .i64 eu,ov,cv,av]] w (Ans (.bool (ny ks k ⟨1,nm,eu,outs,code,args⟩)) w):=by
 have Xa:=hide (fun code v w' (hb:Below w.heap.size w w') hv=>Ik k code a1 a2 a3 a4 a5 a6 v w' (h.stays hb) hv)
 have P9:=hide (fun x w' (hb:Below w.heap.size w w')=>Gj k x a1 a2 a3 a4 a5 a6 w' (h.stays hb))
 have HVR:=hide (fun w' (hb:Below w.heap.size w w')=>G9 k a1 a2 a3 a4 a5 a6 w' (h.stays hb).ins (h.stays hb).outs (h.stays hb).ay h.sum)
 have Wp:=hide h.insts
 obtain⟨b1,c1,rfl⟩:=h.ins.shape
 obtain⟨b2,c2,rfl⟩:=h.outs.shape
 obtain⟨b3,c3,rfl⟩:=h.ay.shape
 obtain⟨b4,c4,rfl⟩:=h.aj.shape
 obtain⟨b5,c5,rfl⟩:=h.insts.shape
 obtain⟨b6,c6,rfl⟩:=h.body.shape
 obtain⟨bm,cm,rfl⟩:=hm.shape
 obtain⟨o1,p1,rfl⟩:=h1.shape
 obtain⟨o2,p2,rfl⟩:=h2.shape
 obtain⟨o3,p3,rfl⟩:=h3.shape
 have z1:=h1.uy
 have z2:=h2.uy
 have z3:=h3.uy
 have z4:=h.aj.uy
 have z5:=h.insts.uy
 have z6:=hm.uy
 have HO:=hide h1
 have HC:=hide h2
 have HAA:=hide h3
 have Xz:=hide hm
 clear h hm h1 h2 h3
 have hA:Below w.heap.size w (((w.alloc (.cells #[.slice bm ks.length cm] 28)).alloc (.cells #[.string k.name,.slice b1 k.ins.length c1,.slice b2 k.outs.length c2,.slice b3 k.ay.length c3,.slice b4 k.aj.length c4,.slice b5 k.insts.length c5,.slice b6 k.body.length c6] 43)).alloc (.cells #[.int .i64 1,.string nm,.int .i64 eu,.slice o1 outs.length p1,.slice o2 code.length p2,.slice o3 args.length p3] 60)):=(((Below.refl _ _).alloc (Nat.le_refl _) _).alloc (by simp) _).alloc (by simp only[World.size_alloc];omega) _
 have Oq:(((w.alloc (.cells #[.slice bm ks.length cm] 28)).alloc (.cells #[.string k.name,.slice b1 k.ins.length c1,.slice b2 k.outs.length c2,.slice b3 k.ay.length c3,.slice b4 k.aj.length c4,.slice b5 k.insts.length c5,.slice b6 k.body.length c6] 43)).alloc (.cells #[.int .i64 1,.string nm,.int .i64 eu,.slice o1 outs.length p1,.slice o2 code.length p2,.slice o3 args.length p3] 60)).heap.size=w.heap.size+3:=by simp
 have hB1:au (((w.alloc (.cells #[.slice bm ks.length cm] 28)).alloc (.cells #[.string k.name,.slice b1 k.ins.length c1,.slice b2 k.outs.length c2,.slice b3 k.ay.length c3,.slice b4 k.aj.length c4,.slice b5 k.insts.length c5,.slice b6 k.body.length c6] 43)).alloc (.cells #[.int .i64 1,.string nm,.int .i64 eu,.slice o1 outs.length p1,.slice o2 code.length p2,.slice o3 args.length p3] 60)) w.heap.size 28 #[.slice bm ks.length cm]:=(jl w #[.slice bm ks.length cm] 28).below (((Below.refl _ _).alloc (Nat.le_refl _) _).alloc (by simp) _) (by simp)
 have hB2:au (((w.alloc (.cells #[.slice bm ks.length cm] 28)).alloc (.cells #[.string k.name,.slice b1 k.ins.length c1,.slice b2 k.outs.length c2,.slice b3 k.ay.length c3,.slice b4 k.aj.length c4,.slice b5 k.insts.length c5,.slice b6 k.body.length c6] 43)).alloc (.cells #[.int .i64 1,.string nm,.int .i64 eu,.slice o1 outs.length p1,.slice o2 code.length p2,.slice o3 args.length p3] 60)) (w.heap.size+1) 43 #[.string k.name,.slice b1 k.ins.length c1,.slice b2 k.outs.length c2,.slice b3 k.ay.length c3,.slice b4 k.aj.length c4,.slice b5 k.insts.length c5,.slice b6 k.body.length c6]:=by
  have h0:=jl (w.alloc (.cells #[.slice bm ks.length cm] 28)) #[.string k.name,.slice b1 k.ins.length c1,.slice b2 k.outs.length c2,.slice b3 k.ay.length c3,.slice b4 k.aj.length c4,.slice b5 k.insts.length c5,.slice b6 k.body.length c6] 43
  rw[show (w.alloc (.cells #[.slice bm ks.length cm] 28)).heap.size=w.heap.size+1 from by simp] at h0
  exact h0.below ((Below.refl _ _).alloc (Nat.le_refl _) _) (by simp)
 have hB3:au (((w.alloc (.cells #[.slice bm ks.length cm] 28)).alloc (.cells #[.string k.name,.slice b1 k.ins.length c1,.slice b2 k.outs.length c2,.slice b3 k.ay.length c3,.slice b4 k.aj.length c4,.slice b5 k.insts.length c5,.slice b6 k.body.length c6] 43)).alloc (.cells #[.int .i64 1,.string nm,.int .i64 eu,.slice o1 outs.length p1,.slice o2 code.length p2,.slice o3 args.length p3] 60)) (w.heap.size+2) 60 #[.int .i64 1,.string nm,.int .i64 eu,.slice o1 outs.length p1,.slice o2 code.length p2,.slice o3 args.length p3]:=by
  have h0:=jl ((w.alloc (.cells #[.slice bm ks.length cm] 28)).alloc (.cells #[.string k.name,.slice b1 k.ins.length c1,.slice b2 k.outs.length c2,.slice b3 k.ay.length c3,.slice b4 k.aj.length c4,.slice b5 k.insts.length c5,.slice b6 k.body.length c6] 43)) #[.int .i64 1,.string nm,.int .i64 eu,.slice o1 outs.length p1,.slice o2 code.length p2,.slice o3 args.length p3] 60
  rw[show ((w.alloc (.cells #[.slice bm ks.length cm] 28)).alloc (.cells #[.string k.name,.slice b1 k.ins.length c1,.slice b2 k.outs.length c2,.slice b3 k.ay.length c3,.slice b4 k.aj.length c4,.slice b5 k.insts.length c5,.slice b6 k.body.length c6] 43)).heap.size=w.heap.size+2 from by simp] at h0
  exact h0
 obtain⟨BX,gq⟩:∃BX:World->Prop,∀w',BX w'↔Below (w.heap.size+3) (((w.alloc (.cells #[.slice bm ks.length cm] 28)).alloc (.cells #[.string k.name,.slice b1 k.ins.length c1,.slice b2 k.outs.length c2,.slice b3 k.ay.length c3,.slice b4 k.aj.length c4,.slice b5 k.insts.length c5,.slice b6 k.body.length c6] 43)).alloc (.cells #[.int .i64 1,.string nm,.int .i64 eu,.slice o1 outs.length p1,.slice o2 code.length p2,.slice o3 args.length p3] 60)) w':=⟨_,fun _=>Iff.rfl⟩
 have mg:Hid (∀w1,BX w1->Below w.heap.size w w1):=fun w1 h=>hA.trans (((gq w1).1 h).mono (by omega))
 have qp:Hid (∀w1 w2,BX w1->Below w1.heap.size w1 w2->BX w2):=fun w1 w2 h h2=>(gq w2).2 (((gq w1).1 h).trans (h2.mono (by have:=((gq w1).1 h).size;omega)))
 have yg:Hid (∀w1,BX w1->w1.cell? ⟨w.heap.size,0,none⟩=some (.slice bm ks.length cm)∧w1.cell? ⟨w.heap.size+1,0,none⟩=some (.string k.name)∧w1.cell? ⟨w.heap.size+1,1,none⟩=some (.slice b1 k.ins.length c1)∧w1.cell? ⟨w.heap.size+1,2,none⟩=some (.slice b2 k.outs.length c2)∧w1.cell? ⟨w.heap.size+1,3,none⟩=some (.slice b3 k.ay.length c3)∧w1.cell? ⟨w.heap.size+1,4,none⟩=some (.slice b4 k.aj.length c4)∧w1.cell? ⟨w.heap.size+1,5,none⟩=some (.slice b5 k.insts.length c5)∧w1.cell? ⟨w.heap.size+1,6,none⟩=some (.slice b6 k.body.length c6)∧w1.cell? ⟨w.heap.size+2,0,none⟩=some (.int .i64 1)∧w1.cell? ⟨w.heap.size+2,1,none⟩=some (.string nm)∧w1.cell? ⟨w.heap.size+2,2,none⟩=some (.int .i64 eu)∧w1.cell? ⟨w.heap.size+2,3,none⟩=some (.slice o1 outs.length p1)∧w1.cell? ⟨w.heap.size+2,4,none⟩=some (.slice o2 code.length p2)∧w1.cell? ⟨w.heap.size+2,5,none⟩=some (.slice o3 args.length p3)):=fun w1 h=>⟨(hB1.below ((gq w1).1 h) (by omega)).cell (i:=0) (v:=.slice bm ks.length cm) rfl,(hB2.below ((gq w1).1 h) (by omega)).cell (i:=0) (v:=.string k.name) rfl,(hB2.below ((gq w1).1 h) (by omega)).cell (i:=1) (v:=.slice b1 k.ins.length c1) rfl,(hB2.below ((gq w1).1 h) (by omega)).cell (i:=2) (v:=.slice b2 k.outs.length c2) rfl,(hB2.below ((gq w1).1 h) (by omega)).cell (i:=3) (v:=.slice b3 k.ay.length c3) rfl,(hB2.below ((gq w1).1 h) (by omega)).cell (i:=4) (v:=.slice b4 k.aj.length c4) rfl,(hB2.below ((gq w1).1 h) (by omega)).cell (i:=5) (v:=.slice b5 k.insts.length c5) rfl,(hB2.below ((gq w1).1 h) (by omega)).cell (i:=6) (v:=.slice b6 k.body.length c6) rfl,(hB3.below ((gq w1).1 h) (by omega)).cell (i:=0) (v:=.int .i64 1) rfl,(hB3.below ((gq w1).1 h) (by omega)).cell (i:=1) (v:=.string nm) rfl,(hB3.below ((gq w1).1 h) (by omega)).cell (i:=2) (v:=.int .i64 eu) rfl,(hB3.below ((gq w1).1 h) (by omega)).cell (i:=3) (v:=.slice o1 outs.length p1) rfl,(hB3.below ((gq w1).1 h) (by omega)).cell (i:=4) (v:=.slice o2 code.length p2) rfl,(hB3.below ((gq w1).1 h) (by omega)).cell (i:=5) (v:=.slice o3 args.length p3) rfl⟩
 have Ky:Hid (∀w1,BX w1->w.heap.size+3<=w1.heap.size):=fun w1 h=>by have:=((gq w1).1 h).size;omega
 have HX0:Hid (BX (((w.alloc (.cells #[.slice bm ks.length cm] 28)).alloc (.cells #[.string k.name,.slice b1 k.ins.length c1,.slice b2 k.outs.length c2,.slice b3 k.ay.length c3,.slice b4 k.aj.length c4,.slice b5 k.insts.length c5,.slice b6 k.body.length c6] 43)).alloc (.cells #[.int .i64 1,.string nm,.int .i64 eu,.slice o1 outs.length p1,.slice o2 code.length p2,.slice o3 args.length p3] 60))):=(gq _).2 (Below.refl _ _)
 have HXd:Hid (BX (((w.alloc (.cells #[.slice bm ks.length cm] 28)).alloc (.cells #[.string k.name,.slice b1 k.ins.length c1,.slice b2 k.outs.length c2,.slice b3 k.ay.length c3,.slice b4 k.aj.length c4,.slice b5 k.insts.length c5,.slice b6 k.body.length c6] 43)).alloc (.cells #[.int .i64 1,.string nm,.int .i64 eu,.slice o1 outs.length p1,.slice o2 code.length p2,.slice o3 args.length p3] 60)).drew):=(gq _).2 (Below.refl _ _).drew
 have HA:=hide hA
 clear hA Oq hB1 hB2 hB3 gq
 by_cases hq:eu=0
 case neg =>
  have d5:(eu != 0)=true:=by simp[hq]
  have HF:=hide (Zb ks k ⟨1,nm,eu,outs,code,args⟩ (by simp) (by simp) hq)
  generalize ny ks k ⟨1,nm,eu,outs,code,args⟩=R at *
  clear hq
  go_enter Tryz.func50,Tryz.ntmps50
  go_wp2
  go_ret
  exact⟨jf (uh HF).symm,uh HA⟩
 have d5:(eu != 0)=false:=by simp[hq]
 have aae:=hide hq
 clear hq
 by_cases hq:outs.length=0
 case neg =>
  have d6:((outs.length:Int) != 0)=true:=by rw[bne_iff_ne];omega
  have HF:=hide (Jm ks k ⟨1,nm,eu,outs,code,args⟩ (by simp) (Or.inl hq))
  generalize ny ks k ⟨1,nm,eu,outs,code,args⟩=R at *
  clear hq
  go_enter Tryz.func50,Tryz.ntmps50
  go_wp2
  go_ret
  exact⟨jf (uh HF).symm,uh HA⟩
 have d6:((outs.length:Int) != 0)=false:=by rw[bne_eq_false_iff_eq];omega
 have Nb:=hide hq
 clear hq
 by_cases hq:args.length=0
 case neg =>
  have d7:((args.length:Int) != 0)=true:=by rw[bne_iff_ne];omega
  have HF:=hide (Jm ks k ⟨1,nm,eu,outs,code,args⟩ (by simp) (Or.inr hq))
  generalize ny ks k ⟨1,nm,eu,outs,code,args⟩=R at *
  clear hq
  go_enter Tryz.func50,Tryz.ntmps50
  go_wp2
  go_ret
  exact⟨jf (uh HF).symm,uh HA⟩
 have d7:((args.length:Int) != 0)=false:=by rw[bne_eq_false_iff_eq];omega
 have Nc:=hide hq
 clear hq
 have HF:Hid (ny ks k ⟨1,nm,eu,outs,code,args⟩=(setB k nm&&Oe k code)):=(Na ks k ⟨1,nm,eu,outs,code,args⟩ (Or.inl rfl) (Or.inr (Or.inr (uh aae))) (Or.inr ⟨uh Nb,uh Nc⟩) (Or.inl rfl)).trans (by unfold F8;rw[if_pos rfl])
 generalize ny ks k ⟨1,nm,eu,outs,code,args⟩=R at *
 have qg:=hide (uh P9 nm _ (uh HA))
 have HC2:=hide (fun w' (hb:BX w')=>uh Xa code _ w' (uh mg _ hb) ((uh HC).stays og (uh mg _ hb)))
 generalize setB k nm=sb at *
 generalize Oe k code=mb at *
 cases sb
 ·rw[Bool.false_and] at HF
  go_enter Tryz.func50,Tryz.ntmps50
  go_wp2_with fail
  refine(uh qg).mono ?_
  rintro e w1 ⟨rfl,hb1⟩
  have HB:=hide (uh mg _ (uh qp _ _ (uh HX0) hb1))
  clear hb1
  go_wp2
  go_ret
  exact⟨jf (uh HF).symm,uh HB⟩
 ·rw[Bool.true_and] at HF
  go_enter Tryz.func50,Tryz.ntmps50
  go_wp2_with fail
  refine(uh qg).mono ?_
  rintro e w1 ⟨rfl,hb1⟩
  have an6:=uh qp _ _ (uh HX0) hb1
  have ado:=hide an6
  have Io:=hide (uh HC2 w1 an6)
  obtain⟨q0,q1,q2,q3,q4,q5,q6,q7,q8,q9,q10,q11,q12,q13⟩:=uh yg w1 an6
  clear hb1 an6
  go_wp2_with fail
  refine(uh Io).mono ?_
  rintro e w2 ⟨rfl,hb2⟩
  have HB:=hide (uh mg _ (uh qp _ _ (uh ado) hb2))
  clear hb2
  go_wp2
  go_ret
  exact⟨jf (uh HF).symm,uh HB⟩
set_option maxRecDepth 20000 in
set_option maxHeartbeats 4000000 in
theorem an7 (ks:List ak) (k:ak) (nm:ByteArray) (eu:Int) (outs:List ByteArray) (code:List iw) (args:List (List iw))  (a1 a2 a3 a4 a5 a6 mv ov cv av:Value) (w:World) (hm:bf 7 160 ni 0 w mv ks) (h:F7 w k a1 a2 a3 a4 a5 a6) (h1:bf 1 16 uz 0 w ov outs) (h2:bf 3 32 tu 0 w cv code) (h3:bf 1 24 vw 0 w av args)
  (hin:∀j (hj:j<k.insts.length),0<=k.insts[j]∧k.insts[j]<ks.length) :
  Calls Tryz.prog 50 #[.agg #[mv],.agg #[.string k.name,a1,a2,a3,a4,a5,a6],.agg #[.int .i64 2,.string nm,.int .i64 eu,ov,cv,av]] w (Ans (.bool (ny ks k ⟨2,nm,eu,outs,code,args⟩)) w):=by
 have Xa:=hide (fun code v w' (hb:Below w.heap.size w w') hv=>Ik k code a1 a2 a3 a4 a5 a6 v w' (h.stays hb) hv)
 have P9:=hide (fun x w' (hb:Below w.heap.size w w')=>Gj k x a1 a2 a3 a4 a5 a6 w' (h.stays hb))
 have HVR:=hide (fun w' (hb:Below w.heap.size w w')=>G9 k a1 a2 a3 a4 a5 a6 w' (h.stays hb).ins (h.stays hb).outs (h.stays hb).ay h.sum)
 have Wp:=hide h.insts
 obtain⟨b1,c1,rfl⟩:=h.ins.shape
 obtain⟨b2,c2,rfl⟩:=h.outs.shape
 obtain⟨b3,c3,rfl⟩:=h.ay.shape
 obtain⟨b4,c4,rfl⟩:=h.aj.shape
 obtain⟨b5,c5,rfl⟩:=h.insts.shape
 obtain⟨b6,c6,rfl⟩:=h.body.shape
 obtain⟨bm,cm,rfl⟩:=hm.shape
 obtain⟨o1,p1,rfl⟩:=h1.shape
 obtain⟨o2,p2,rfl⟩:=h2.shape
 obtain⟨o3,p3,rfl⟩:=h3.shape
 have z1:=h1.uy
 have z2:=h2.uy
 have z3:=h3.uy
 have z4:=h.aj.uy
 have z5:=h.insts.uy
 have z6:=hm.uy
 have HO:=hide h1
 have HC:=hide h2
 have HAA:=hide h3
 have Xz:=hide hm
 clear h hm h1 h2 h3
 have hA:Below w.heap.size w (((w.alloc (.cells #[.slice bm ks.length cm] 28)).alloc (.cells #[.string k.name,.slice b1 k.ins.length c1,.slice b2 k.outs.length c2,.slice b3 k.ay.length c3,.slice b4 k.aj.length c4,.slice b5 k.insts.length c5,.slice b6 k.body.length c6] 43)).alloc (.cells #[.int .i64 2,.string nm,.int .i64 eu,.slice o1 outs.length p1,.slice o2 code.length p2,.slice o3 args.length p3] 60)):=(((Below.refl _ _).alloc (Nat.le_refl _) _).alloc (by simp) _).alloc (by simp only[World.size_alloc];omega) _
 have Oq:(((w.alloc (.cells #[.slice bm ks.length cm] 28)).alloc (.cells #[.string k.name,.slice b1 k.ins.length c1,.slice b2 k.outs.length c2,.slice b3 k.ay.length c3,.slice b4 k.aj.length c4,.slice b5 k.insts.length c5,.slice b6 k.body.length c6] 43)).alloc (.cells #[.int .i64 2,.string nm,.int .i64 eu,.slice o1 outs.length p1,.slice o2 code.length p2,.slice o3 args.length p3] 60)).heap.size=w.heap.size+3:=by simp
 have hB1:au (((w.alloc (.cells #[.slice bm ks.length cm] 28)).alloc (.cells #[.string k.name,.slice b1 k.ins.length c1,.slice b2 k.outs.length c2,.slice b3 k.ay.length c3,.slice b4 k.aj.length c4,.slice b5 k.insts.length c5,.slice b6 k.body.length c6] 43)).alloc (.cells #[.int .i64 2,.string nm,.int .i64 eu,.slice o1 outs.length p1,.slice o2 code.length p2,.slice o3 args.length p3] 60)) w.heap.size 28 #[.slice bm ks.length cm]:=(jl w #[.slice bm ks.length cm] 28).below (((Below.refl _ _).alloc (Nat.le_refl _) _).alloc (by simp) _) (by simp)
 have hB2:au (((w.alloc (.cells #[.slice bm ks.length cm] 28)).alloc (.cells #[.string k.name,.slice b1 k.ins.length c1,.slice b2 k.outs.length c2,.slice b3 k.ay.length c3,.slice b4 k.aj.length c4,.slice b5 k.insts.length c5,.slice b6 k.body.length c6] 43)).alloc (.cells #[.int .i64 2,.string nm,.int .i64 eu,.slice o1 outs.length p1,.slice o2 code.length p2,.slice o3 args.length p3] 60)) (w.heap.size+1) 43 #[.string k.name,.slice b1 k.ins.length c1,.slice b2 k.outs.length c2,.slice b3 k.ay.length c3,.slice b4 k.aj.length c4,.slice b5 k.insts.length c5,.slice b6 k.body.length c6]:=by
  have h0:=jl (w.alloc (.cells #[.slice bm ks.length cm] 28)) #[.string k.name,.slice b1 k.ins.length c1,.slice b2 k.outs.length c2,.slice b3 k.ay.length c3,.slice b4 k.aj.length c4,.slice b5 k.insts.length c5,.slice b6 k.body.length c6] 43
  rw[show (w.alloc (.cells #[.slice bm ks.length cm] 28)).heap.size=w.heap.size+1 from by simp] at h0
  exact h0.below ((Below.refl _ _).alloc (Nat.le_refl _) _) (by simp)
 have hB3:au (((w.alloc (.cells #[.slice bm ks.length cm] 28)).alloc (.cells #[.string k.name,.slice b1 k.ins.length c1,.slice b2 k.outs.length c2,.slice b3 k.ay.length c3,.slice b4 k.aj.length c4,.slice b5 k.insts.length c5,.slice b6 k.body.length c6] 43)).alloc (.cells #[.int .i64 2,.string nm,.int .i64 eu,.slice o1 outs.length p1,.slice o2 code.length p2,.slice o3 args.length p3] 60)) (w.heap.size+2) 60 #[.int .i64 2,.string nm,.int .i64 eu,.slice o1 outs.length p1,.slice o2 code.length p2,.slice o3 args.length p3]:=by
  have h0:=jl ((w.alloc (.cells #[.slice bm ks.length cm] 28)).alloc (.cells #[.string k.name,.slice b1 k.ins.length c1,.slice b2 k.outs.length c2,.slice b3 k.ay.length c3,.slice b4 k.aj.length c4,.slice b5 k.insts.length c5,.slice b6 k.body.length c6] 43)) #[.int .i64 2,.string nm,.int .i64 eu,.slice o1 outs.length p1,.slice o2 code.length p2,.slice o3 args.length p3] 60
  rw[show ((w.alloc (.cells #[.slice bm ks.length cm] 28)).alloc (.cells #[.string k.name,.slice b1 k.ins.length c1,.slice b2 k.outs.length c2,.slice b3 k.ay.length c3,.slice b4 k.aj.length c4,.slice b5 k.insts.length c5,.slice b6 k.body.length c6] 43)).heap.size=w.heap.size+2 from by simp] at h0
  exact h0
 obtain⟨BX,gq⟩:∃BX:World->Prop,∀w',BX w'↔Below (w.heap.size+3) (((w.alloc (.cells #[.slice bm ks.length cm] 28)).alloc (.cells #[.string k.name,.slice b1 k.ins.length c1,.slice b2 k.outs.length c2,.slice b3 k.ay.length c3,.slice b4 k.aj.length c4,.slice b5 k.insts.length c5,.slice b6 k.body.length c6] 43)).alloc (.cells #[.int .i64 2,.string nm,.int .i64 eu,.slice o1 outs.length p1,.slice o2 code.length p2,.slice o3 args.length p3] 60)) w':=⟨_,fun _=>Iff.rfl⟩
 have mg:Hid (∀w1,BX w1->Below w.heap.size w w1):=fun w1 h=>hA.trans (((gq w1).1 h).mono (by omega))
 have qp:Hid (∀w1 w2,BX w1->Below w1.heap.size w1 w2->BX w2):=fun w1 w2 h h2=>(gq w2).2 (((gq w1).1 h).trans (h2.mono (by have:=((gq w1).1 h).size;omega)))
 have yg:Hid (∀w1,BX w1->w1.cell? ⟨w.heap.size,0,none⟩=some (.slice bm ks.length cm)∧w1.cell? ⟨w.heap.size+1,0,none⟩=some (.string k.name)∧w1.cell? ⟨w.heap.size+1,1,none⟩=some (.slice b1 k.ins.length c1)∧w1.cell? ⟨w.heap.size+1,2,none⟩=some (.slice b2 k.outs.length c2)∧w1.cell? ⟨w.heap.size+1,3,none⟩=some (.slice b3 k.ay.length c3)∧w1.cell? ⟨w.heap.size+1,4,none⟩=some (.slice b4 k.aj.length c4)∧w1.cell? ⟨w.heap.size+1,5,none⟩=some (.slice b5 k.insts.length c5)∧w1.cell? ⟨w.heap.size+1,6,none⟩=some (.slice b6 k.body.length c6)∧w1.cell? ⟨w.heap.size+2,0,none⟩=some (.int .i64 2)∧w1.cell? ⟨w.heap.size+2,1,none⟩=some (.string nm)∧w1.cell? ⟨w.heap.size+2,2,none⟩=some (.int .i64 eu)∧w1.cell? ⟨w.heap.size+2,3,none⟩=some (.slice o1 outs.length p1)∧w1.cell? ⟨w.heap.size+2,4,none⟩=some (.slice o2 code.length p2)∧w1.cell? ⟨w.heap.size+2,5,none⟩=some (.slice o3 args.length p3)):=fun w1 h=>⟨(hB1.below ((gq w1).1 h) (by omega)).cell (i:=0) (v:=.slice bm ks.length cm) rfl,(hB2.below ((gq w1).1 h) (by omega)).cell (i:=0) (v:=.string k.name) rfl,(hB2.below ((gq w1).1 h) (by omega)).cell (i:=1) (v:=.slice b1 k.ins.length c1) rfl,(hB2.below ((gq w1).1 h) (by omega)).cell (i:=2) (v:=.slice b2 k.outs.length c2) rfl,(hB2.below ((gq w1).1 h) (by omega)).cell (i:=3) (v:=.slice b3 k.ay.length c3) rfl,(hB2.below ((gq w1).1 h) (by omega)).cell (i:=4) (v:=.slice b4 k.aj.length c4) rfl,(hB2.below ((gq w1).1 h) (by omega)).cell (i:=5) (v:=.slice b5 k.insts.length c5) rfl,(hB2.below ((gq w1).1 h) (by omega)).cell (i:=6) (v:=.slice b6 k.body.length c6) rfl,(hB3.below ((gq w1).1 h) (by omega)).cell (i:=0) (v:=.int .i64 2) rfl,(hB3.below ((gq w1).1 h) (by omega)).cell (i:=1) (v:=.string nm) rfl,(hB3.below ((gq w1).1 h) (by omega)).cell (i:=2) (v:=.int .i64 eu) rfl,(hB3.below ((gq w1).1 h) (by omega)).cell (i:=3) (v:=.slice o1 outs.length p1) rfl,(hB3.below ((gq w1).1 h) (by omega)).cell (i:=4) (v:=.slice o2 code.length p2) rfl,(hB3.below ((gq w1).1 h) (by omega)).cell (i:=5) (v:=.slice o3 args.length p3) rfl⟩
 have Ky:Hid (∀w1,BX w1->w.heap.size+3<=w1.heap.size):=fun w1 h=>by have:=((gq w1).1 h).size;omega
 have HX0:Hid (BX (((w.alloc (.cells #[.slice bm ks.length cm] 28)).alloc (.cells #[.string k.name,.slice b1 k.ins.length c1,.slice b2 k.outs.length c2,.slice b3 k.ay.length c3,.slice b4 k.aj.length c4,.slice b5 k.insts.length c5,.slice b6 k.body.length c6] 43)).alloc (.cells #[.int .i64 2,.string nm,.int .i64 eu,.slice o1 outs.length p1,.slice o2 code.length p2,.slice o3 args.length p3] 60))):=(gq _).2 (Below.refl _ _)
 have HXd:Hid (BX (((w.alloc (.cells #[.slice bm ks.length cm] 28)).alloc (.cells #[.string k.name,.slice b1 k.ins.length c1,.slice b2 k.outs.length c2,.slice b3 k.ay.length c3,.slice b4 k.aj.length c4,.slice b5 k.insts.length c5,.slice b6 k.body.length c6] 43)).alloc (.cells #[.int .i64 2,.string nm,.int .i64 eu,.slice o1 outs.length p1,.slice o2 code.length p2,.slice o3 args.length p3] 60)).drew):=(gq _).2 (Below.refl _ _).drew
 have HA:=hide hA
 clear hA Oq hB1 hB2 hB3 gq
 by_cases hq:nm.size=0
 case neg =>
  have d4:=Gg nm hq
  have d4':=Cj nm hq
  have HF:=hide (Sj ks k ⟨2,nm,eu,outs,code,args⟩ (by simp) hq)
  generalize ny ks k ⟨2,nm,eu,outs,code,args⟩=R at *
  clear hq
  go_enter Tryz.func50,Tryz.ntmps50
  go_wp2
  go_ret
  exact⟨jf (uh HF).symm,uh HA⟩
 have d4:=Ea nm hq
 have d4':=Bg nm hq
 have Ot:=hide hq
 clear hq
 by_cases hq:outs.length=0
 case neg =>
  have d6:((outs.length:Int) != 0)=true:=by rw[bne_iff_ne];omega
  have HF:=hide (Jm ks k ⟨2,nm,eu,outs,code,args⟩ (by simp) (Or.inl hq))
  generalize ny ks k ⟨2,nm,eu,outs,code,args⟩=R at *
  clear hq
  go_enter Tryz.func50,Tryz.ntmps50
  go_wp2
  go_ret
  exact⟨jf (uh HF).symm,uh HA⟩
 have d6:((outs.length:Int) != 0)=false:=by rw[bne_eq_false_iff_eq];omega
 have Nb:=hide hq
 clear hq
 by_cases hq:args.length=0
 case neg =>
  have d7:((args.length:Int) != 0)=true:=by rw[bne_iff_ne];omega
  have HF:=hide (Jm ks k ⟨2,nm,eu,outs,code,args⟩ (by simp) (Or.inr hq))
  generalize ny ks k ⟨2,nm,eu,outs,code,args⟩=R at *
  clear hq
  go_enter Tryz.func50,Tryz.ntmps50
  go_wp2
  go_ret
  exact⟨jf (uh HF).symm,uh HA⟩
 have d7:((args.length:Int) != 0)=false:=by rw[bne_eq_false_iff_eq];omega
 have Nc:=hide hq
 clear hq
 have HF:Hid (ny ks k ⟨2,nm,eu,outs,code,args⟩=(decide (0<=eu∧eu<(k.aj.length:Int))&&Oe k code)):=(Na ks k ⟨2,nm,eu,outs,code,args⟩ (Or.inr (Or.inr (uh Ot))) (Or.inl rfl) (Or.inr ⟨uh Nb,uh Nc⟩) (Or.inr (Or.inl rfl))).trans (by unfold F8;rw[if_neg (by simp),if_pos rfl])
 generalize ny ks k ⟨2,nm,eu,outs,code,args⟩=R at *
 have qg:=hide (uh Xa code _ _ (uh HA) ((uh HC).stays og (uh HA)))
 generalize Oe k code=mb at *
 by_cases h0:0<=eu
 case neg =>
  have e1:decide (0<=eu)=false:=decide_eq_false h0
  have HR:Hid (R=false):=(uh HF).trans (by rw[decide_eq_false (fun h=>h0 h.1),Bool.false_and])
  clear HF
  go_enter Tryz.func50,Tryz.ntmps50
  go_wp2
  go_ret
  exact⟨jf (uh HR).symm,uh HA⟩
 have e1:decide (0<=eu)=true:=decide_eq_true h0
 by_cases h9:eu<(k.aj.length:Int)
 case neg =>
  have e2:decide (eu<(k.aj.length:Int))=false:=decide_eq_false h9
  have HR:Hid (R=false):=(uh HF).trans (by rw[decide_eq_false (fun h=>h9 h.2),Bool.false_and])
  clear HF
  go_enter Tryz.func50,Tryz.ntmps50
  go_wp2
  go_ret
  exact⟨jf (uh HR).symm,uh HA⟩
 have e2:decide (eu<(k.aj.length:Int))=true:=decide_eq_true h9
 have HR:Hid (R=mb):=(uh HF).trans (by rw[decide_eq_true ⟨h0,h9⟩,Bool.true_and])
 clear HF
 go_enter Tryz.func50,Tryz.ntmps50
 go_wp2_with fail
 refine(uh qg).mono ?_
 rintro e w1 ⟨rfl,hb1⟩
 have HB:=hide (uh mg _ (uh qp _ _ (uh HX0) hb1))
 clear hb1
 go_wp2
 go_ret
 exact⟨jf (uh HR).symm,uh HB⟩
set_option maxRecDepth 20000 in
set_option maxHeartbeats 4000000 in
theorem an8 (ks:List ak) (k:ak) (nm:ByteArray) (eu:Int) (outs:List ByteArray) (code:List iw) (args:List (List iw))  (a1 a2 a3 a4 a5 a6 mv ov cv av:Value) (w:World) (hm:bf 7 160 ni 0 w mv ks) (h:F7 w k a1 a2 a3 a4 a5 a6) (h1:bf 1 16 uz 0 w ov outs) (h2:bf 3 32 tu 0 w cv code) (h3:bf 1 24 vw 0 w av args)
  (hin:∀j (hj:j<k.insts.length),0<=k.insts[j]∧k.insts[j]<ks.length) :
  Calls Tryz.prog 50 #[.agg #[mv],.agg #[.string k.name,a1,a2,a3,a4,a5,a6],.agg #[.int .i64 4,.string nm,.int .i64 eu,ov,cv,av]] w (Ans (.bool (ny ks k ⟨4,nm,eu,outs,code,args⟩)) w):=by
 have Xa:=hide (fun code v w' (hb:Below w.heap.size w w') hv=>Ik k code a1 a2 a3 a4 a5 a6 v w' (h.stays hb) hv)
 have P9:=hide (fun x w' (hb:Below w.heap.size w w')=>Gj k x a1 a2 a3 a4 a5 a6 w' (h.stays hb))
 have HVR:=hide (fun w' (hb:Below w.heap.size w w')=>G9 k a1 a2 a3 a4 a5 a6 w' (h.stays hb).ins (h.stays hb).outs (h.stays hb).ay h.sum)
 have Wp:=hide h.insts
 obtain⟨b1,c1,rfl⟩:=h.ins.shape
 obtain⟨b2,c2,rfl⟩:=h.outs.shape
 obtain⟨b3,c3,rfl⟩:=h.ay.shape
 obtain⟨b4,c4,rfl⟩:=h.aj.shape
 obtain⟨b5,c5,rfl⟩:=h.insts.shape
 obtain⟨b6,c6,rfl⟩:=h.body.shape
 obtain⟨bm,cm,rfl⟩:=hm.shape
 obtain⟨o1,p1,rfl⟩:=h1.shape
 obtain⟨o2,p2,rfl⟩:=h2.shape
 obtain⟨o3,p3,rfl⟩:=h3.shape
 have z1:=h1.uy
 have z2:=h2.uy
 have z3:=h3.uy
 have z4:=h.aj.uy
 have z5:=h.insts.uy
 have z6:=hm.uy
 have HO:=hide h1
 have HC:=hide h2
 have HAA:=hide h3
 have Xz:=hide hm
 clear h hm h1 h2 h3
 have hA:Below w.heap.size w (((w.alloc (.cells #[.slice bm ks.length cm] 28)).alloc (.cells #[.string k.name,.slice b1 k.ins.length c1,.slice b2 k.outs.length c2,.slice b3 k.ay.length c3,.slice b4 k.aj.length c4,.slice b5 k.insts.length c5,.slice b6 k.body.length c6] 43)).alloc (.cells #[.int .i64 4,.string nm,.int .i64 eu,.slice o1 outs.length p1,.slice o2 code.length p2,.slice o3 args.length p3] 60)):=(((Below.refl _ _).alloc (Nat.le_refl _) _).alloc (by simp) _).alloc (by simp only[World.size_alloc];omega) _
 have Oq:(((w.alloc (.cells #[.slice bm ks.length cm] 28)).alloc (.cells #[.string k.name,.slice b1 k.ins.length c1,.slice b2 k.outs.length c2,.slice b3 k.ay.length c3,.slice b4 k.aj.length c4,.slice b5 k.insts.length c5,.slice b6 k.body.length c6] 43)).alloc (.cells #[.int .i64 4,.string nm,.int .i64 eu,.slice o1 outs.length p1,.slice o2 code.length p2,.slice o3 args.length p3] 60)).heap.size=w.heap.size+3:=by simp
 have hB1:au (((w.alloc (.cells #[.slice bm ks.length cm] 28)).alloc (.cells #[.string k.name,.slice b1 k.ins.length c1,.slice b2 k.outs.length c2,.slice b3 k.ay.length c3,.slice b4 k.aj.length c4,.slice b5 k.insts.length c5,.slice b6 k.body.length c6] 43)).alloc (.cells #[.int .i64 4,.string nm,.int .i64 eu,.slice o1 outs.length p1,.slice o2 code.length p2,.slice o3 args.length p3] 60)) w.heap.size 28 #[.slice bm ks.length cm]:=(jl w #[.slice bm ks.length cm] 28).below (((Below.refl _ _).alloc (Nat.le_refl _) _).alloc (by simp) _) (by simp)
 have hB2:au (((w.alloc (.cells #[.slice bm ks.length cm] 28)).alloc (.cells #[.string k.name,.slice b1 k.ins.length c1,.slice b2 k.outs.length c2,.slice b3 k.ay.length c3,.slice b4 k.aj.length c4,.slice b5 k.insts.length c5,.slice b6 k.body.length c6] 43)).alloc (.cells #[.int .i64 4,.string nm,.int .i64 eu,.slice o1 outs.length p1,.slice o2 code.length p2,.slice o3 args.length p3] 60)) (w.heap.size+1) 43 #[.string k.name,.slice b1 k.ins.length c1,.slice b2 k.outs.length c2,.slice b3 k.ay.length c3,.slice b4 k.aj.length c4,.slice b5 k.insts.length c5,.slice b6 k.body.length c6]:=by
  have h0:=jl (w.alloc (.cells #[.slice bm ks.length cm] 28)) #[.string k.name,.slice b1 k.ins.length c1,.slice b2 k.outs.length c2,.slice b3 k.ay.length c3,.slice b4 k.aj.length c4,.slice b5 k.insts.length c5,.slice b6 k.body.length c6] 43
  rw[show (w.alloc (.cells #[.slice bm ks.length cm] 28)).heap.size=w.heap.size+1 from by simp] at h0
  exact h0.below ((Below.refl _ _).alloc (Nat.le_refl _) _) (by simp)
 have hB3:au (((w.alloc (.cells #[.slice bm ks.length cm] 28)).alloc (.cells #[.string k.name,.slice b1 k.ins.length c1,.slice b2 k.outs.length c2,.slice b3 k.ay.length c3,.slice b4 k.aj.length c4,.slice b5 k.insts.length c5,.slice b6 k.body.length c6] 43)).alloc (.cells #[.int .i64 4,.string nm,.int .i64 eu,.slice o1 outs.length p1,.slice o2 code.length p2,.slice o3 args.length p3] 60)) (w.heap.size+2) 60 #[.int .i64 4,.string nm,.int .i64 eu,.slice o1 outs.length p1,.slice o2 code.length p2,.slice o3 args.length p3]:=by
  have h0:=jl ((w.alloc (.cells #[.slice bm ks.length cm] 28)).alloc (.cells #[.string k.name,.slice b1 k.ins.length c1,.slice b2 k.outs.length c2,.slice b3 k.ay.length c3,.slice b4 k.aj.length c4,.slice b5 k.insts.length c5,.slice b6 k.body.length c6] 43)) #[.int .i64 4,.string nm,.int .i64 eu,.slice o1 outs.length p1,.slice o2 code.length p2,.slice o3 args.length p3] 60
  rw[show ((w.alloc (.cells #[.slice bm ks.length cm] 28)).alloc (.cells #[.string k.name,.slice b1 k.ins.length c1,.slice b2 k.outs.length c2,.slice b3 k.ay.length c3,.slice b4 k.aj.length c4,.slice b5 k.insts.length c5,.slice b6 k.body.length c6] 43)).heap.size=w.heap.size+2 from by simp] at h0
  exact h0
 obtain⟨BX,gq⟩:∃BX:World->Prop,∀w',BX w'↔Below (w.heap.size+3) (((w.alloc (.cells #[.slice bm ks.length cm] 28)).alloc (.cells #[.string k.name,.slice b1 k.ins.length c1,.slice b2 k.outs.length c2,.slice b3 k.ay.length c3,.slice b4 k.aj.length c4,.slice b5 k.insts.length c5,.slice b6 k.body.length c6] 43)).alloc (.cells #[.int .i64 4,.string nm,.int .i64 eu,.slice o1 outs.length p1,.slice o2 code.length p2,.slice o3 args.length p3] 60)) w':=⟨_,fun _=>Iff.rfl⟩
 have mg:Hid (∀w1,BX w1->Below w.heap.size w w1):=fun w1 h=>hA.trans (((gq w1).1 h).mono (by omega))
 have qp:Hid (∀w1 w2,BX w1->Below w1.heap.size w1 w2->BX w2):=fun w1 w2 h h2=>(gq w2).2 (((gq w1).1 h).trans (h2.mono (by have:=((gq w1).1 h).size;omega)))
 have yg:Hid (∀w1,BX w1->w1.cell? ⟨w.heap.size,0,none⟩=some (.slice bm ks.length cm)∧w1.cell? ⟨w.heap.size+1,0,none⟩=some (.string k.name)∧w1.cell? ⟨w.heap.size+1,1,none⟩=some (.slice b1 k.ins.length c1)∧w1.cell? ⟨w.heap.size+1,2,none⟩=some (.slice b2 k.outs.length c2)∧w1.cell? ⟨w.heap.size+1,3,none⟩=some (.slice b3 k.ay.length c3)∧w1.cell? ⟨w.heap.size+1,4,none⟩=some (.slice b4 k.aj.length c4)∧w1.cell? ⟨w.heap.size+1,5,none⟩=some (.slice b5 k.insts.length c5)∧w1.cell? ⟨w.heap.size+1,6,none⟩=some (.slice b6 k.body.length c6)∧w1.cell? ⟨w.heap.size+2,0,none⟩=some (.int .i64 4)∧w1.cell? ⟨w.heap.size+2,1,none⟩=some (.string nm)∧w1.cell? ⟨w.heap.size+2,2,none⟩=some (.int .i64 eu)∧w1.cell? ⟨w.heap.size+2,3,none⟩=some (.slice o1 outs.length p1)∧w1.cell? ⟨w.heap.size+2,4,none⟩=some (.slice o2 code.length p2)∧w1.cell? ⟨w.heap.size+2,5,none⟩=some (.slice o3 args.length p3)):=fun w1 h=>⟨(hB1.below ((gq w1).1 h) (by omega)).cell (i:=0) (v:=.slice bm ks.length cm) rfl,(hB2.below ((gq w1).1 h) (by omega)).cell (i:=0) (v:=.string k.name) rfl,(hB2.below ((gq w1).1 h) (by omega)).cell (i:=1) (v:=.slice b1 k.ins.length c1) rfl,(hB2.below ((gq w1).1 h) (by omega)).cell (i:=2) (v:=.slice b2 k.outs.length c2) rfl,(hB2.below ((gq w1).1 h) (by omega)).cell (i:=3) (v:=.slice b3 k.ay.length c3) rfl,(hB2.below ((gq w1).1 h) (by omega)).cell (i:=4) (v:=.slice b4 k.aj.length c4) rfl,(hB2.below ((gq w1).1 h) (by omega)).cell (i:=5) (v:=.slice b5 k.insts.length c5) rfl,(hB2.below ((gq w1).1 h) (by omega)).cell (i:=6) (v:=.slice b6 k.body.length c6) rfl,(hB3.below ((gq w1).1 h) (by omega)).cell (i:=0) (v:=.int .i64 4) rfl,(hB3.below ((gq w1).1 h) (by omega)).cell (i:=1) (v:=.string nm) rfl,(hB3.below ((gq w1).1 h) (by omega)).cell (i:=2) (v:=.int .i64 eu) rfl,(hB3.below ((gq w1).1 h) (by omega)).cell (i:=3) (v:=.slice o1 outs.length p1) rfl,(hB3.below ((gq w1).1 h) (by omega)).cell (i:=4) (v:=.slice o2 code.length p2) rfl,(hB3.below ((gq w1).1 h) (by omega)).cell (i:=5) (v:=.slice o3 args.length p3) rfl⟩
 have Ky:Hid (∀w1,BX w1->w.heap.size+3<=w1.heap.size):=fun w1 h=>by have:=((gq w1).1 h).size;omega
 have HX0:Hid (BX (((w.alloc (.cells #[.slice bm ks.length cm] 28)).alloc (.cells #[.string k.name,.slice b1 k.ins.length c1,.slice b2 k.outs.length c2,.slice b3 k.ay.length c3,.slice b4 k.aj.length c4,.slice b5 k.insts.length c5,.slice b6 k.body.length c6] 43)).alloc (.cells #[.int .i64 4,.string nm,.int .i64 eu,.slice o1 outs.length p1,.slice o2 code.length p2,.slice o3 args.length p3] 60))):=(gq _).2 (Below.refl _ _)
 have HXd:Hid (BX (((w.alloc (.cells #[.slice bm ks.length cm] 28)).alloc (.cells #[.string k.name,.slice b1 k.ins.length c1,.slice b2 k.outs.length c2,.slice b3 k.ay.length c3,.slice b4 k.aj.length c4,.slice b5 k.insts.length c5,.slice b6 k.body.length c6] 43)).alloc (.cells #[.int .i64 4,.string nm,.int .i64 eu,.slice o1 outs.length p1,.slice o2 code.length p2,.slice o3 args.length p3] 60)).drew):=(gq _).2 (Below.refl _ _).drew
 have HA:=hide hA
 clear hA Oq hB1 hB2 hB3 gq
 by_cases hq:eu=0
 case neg =>
  have d5:(eu != 0)=true:=by simp[hq]
  have HF:=hide (Zb ks k ⟨4,nm,eu,outs,code,args⟩ (by simp) (by simp) hq)
  generalize ny ks k ⟨4,nm,eu,outs,code,args⟩=R at *
  clear hq
  go_enter Tryz.func50,Tryz.ntmps50
  go_wp2
  go_ret
  exact⟨jf (uh HF).symm,uh HA⟩
 have d5:(eu != 0)=false:=by simp[hq]
 have aae:=hide hq
 clear hq
 by_cases hq:outs.length=0
 case neg =>
  have d6:((outs.length:Int) != 0)=true:=by rw[bne_iff_ne];omega
  have HF:=hide (Jm ks k ⟨4,nm,eu,outs,code,args⟩ (by simp) (Or.inl hq))
  generalize ny ks k ⟨4,nm,eu,outs,code,args⟩=R at *
  clear hq
  go_enter Tryz.func50,Tryz.ntmps50
  go_wp2
  go_ret
  exact⟨jf (uh HF).symm,uh HA⟩
 have d6:((outs.length:Int) != 0)=false:=by rw[bne_eq_false_iff_eq];omega
 have Nb:=hide hq
 clear hq
 by_cases hq:args.length=0
 case neg =>
  have d7:((args.length:Int) != 0)=true:=by rw[bne_iff_ne];omega
  have HF:=hide (Jm ks k ⟨4,nm,eu,outs,code,args⟩ (by simp) (Or.inr hq))
  generalize ny ks k ⟨4,nm,eu,outs,code,args⟩=R at *
  clear hq
  go_enter Tryz.func50,Tryz.ntmps50
  go_wp2
  go_ret
  exact⟨jf (uh HF).symm,uh HA⟩
 have d7:((args.length:Int) != 0)=false:=by rw[bne_eq_false_iff_eq];omega
 have Nc:=hide hq
 clear hq
 by_cases hq:code.length=0
 case neg =>
  have d8:((code.length:Int) != 0)=true:=by rw[bne_iff_ne];omega
  have HF:=hide (Sl ks k ⟨4,nm,eu,outs,code,args⟩ (by simp) (by simp) hq)
  generalize ny ks k ⟨4,nm,eu,outs,code,args⟩=R at *
  clear hq
  go_enter Tryz.func50,Tryz.ntmps50
  go_wp2
  go_ret
  exact⟨jf (uh HF).symm,uh HA⟩
 have d8:((code.length:Int) != 0)=false:=by rw[bne_eq_false_iff_eq];omega
 have Ou:=hide hq
 clear hq
 have HF:Hid (ny ks k ⟨4,nm,eu,outs,code,args⟩=inB (varsOf k) nm):=(Na ks k ⟨4,nm,eu,outs,code,args⟩ (Or.inr (Or.inl rfl)) (Or.inr (Or.inr (uh aae))) (Or.inr ⟨uh Nb,uh Nc⟩) (Or.inr (Or.inr (uh Ou)))).trans (by unfold F8;rw[if_neg (by simp),if_neg (by simp),if_pos rfl])
 generalize ny ks k ⟨4,nm,eu,outs,code,args⟩=R at *
 have HVd:Hid (Calls Tryz.prog 47 #[.agg #[.string k.name,.slice b1 k.ins.length c1,.slice b2 k.outs.length c2,.slice b3 k.ay.length c3,.slice b4 k.aj.length c4,.slice b5 k.insts.length c5,.slice b6 k.body.length c6]] (((w.alloc (.cells #[.slice bm ks.length cm] 28)).alloc (.cells #[.string k.name,.slice b1 k.ins.length c1,.slice b2 k.outs.length c2,.slice b3 k.ay.length c3,.slice b4 k.aj.length c4,.slice b5 k.insts.length c5,.slice b6 k.body.length c6] 43)).alloc (.cells #[.int .i64 4,.string nm,.int .i64 eu,.slice o1 outs.length p1,.slice o2 code.length p2,.slice o3 args.length p3] 60)).drew fun e w''=>∃a c,e=.returned (.slice a (varsOf k).length c)∧BX w''∧Hid (Calls Tryz.prog 76 #[.slice a (varsOf k).length c,.string nm] w'' fun e w4=>e=.returned (.bool (inB (varsOf k) nm))∧BX w4∧w4.cell? ⟨w.heap.size+2,1,none⟩=some (.string nm)∧w4.cell? ⟨w.heap.size+1,0,none⟩=some (.string k.name)∧w4.cell? ⟨w.heap.size+1,1,none⟩=some (.slice b1 k.ins.length c1)∧w4.cell? ⟨w.heap.size+1,2,none⟩=some (.slice b2 k.outs.length c2)∧w4.cell? ⟨w.heap.size+1,3,none⟩=some (.slice b3 k.ay.length c3)∧w4.cell? ⟨w.heap.size+1,4,none⟩=some (.slice b4 k.aj.length c4)∧w4.cell? ⟨w.heap.size+1,5,none⟩=some (.slice b5 k.insts.length c5)∧w4.cell? ⟨w.heap.size+1,6,none⟩=some (.slice b6 k.body.length c6))∧w''.cell? ⟨w.heap.size+2,1,none⟩=some (.string nm)∧w''.cell? ⟨w.heap.size+1,0,none⟩=some (.string k.name)∧w''.cell? ⟨w.heap.size+1,1,none⟩=some (.slice b1 k.ins.length c1)∧w''.cell? ⟨w.heap.size+1,2,none⟩=some (.slice b2 k.outs.length c2)∧w''.cell? ⟨w.heap.size+1,3,none⟩=some (.slice b3 k.ay.length c3)∧w''.cell? ⟨w.heap.size+1,4,none⟩=some (.slice b4 k.aj.length c4)∧w''.cell? ⟨w.heap.size+1,5,none⟩=some (.slice b5 k.insts.length c5)∧w''.cell? ⟨w.heap.size+1,6,none⟩=some (.slice b6 k.body.length c6)):=by
  refine(uh HVR _ (uh mg _ (uh HXd))).mono ?_
  rintro e w'' ⟨vv,rfl,X6,hb1⟩
  have hx8:=uh qp _ _ (uh HXd) hb1
  obtain⟨a,c,rfl⟩:=X6.shape
  obtain⟨q0,q1,q2,q3,q4,q5,q6,q7,q8,q9,q10,q11,q12,q13⟩:=uh yg w'' hx8
  refine⟨a,c,rfl,hx8,?_,q9,q1,q2,q3,q4,q5,q6,q7⟩
  show Calls Tryz.prog 76 _ w'' _
  refine(Za (varsOf k) _ nm w'' X6).mono ?_
  rintro e w4 ⟨rfl,rfl⟩
  exact⟨rfl,hx8,q9,q1,q2,q3,q4,q5,q6,q7⟩
 generalize inB (varsOf k) nm=ib at *
 generalize (varsOf k).length=vl2 at *
 have hd0:=uh yg _ (uh HX0)
 go_enter Tryz.func50,Tryz.ntmps50
 go_wp2_with fail
 obtain⟨q0,q1,q2,q3,q4,q5,q6,q7,q8,q9,q10,q11,q12,q13⟩:=hd0
 generalize (((w.alloc (.cells #[.slice bm ks.length cm] 28)).alloc (.cells #[.string k.name,.slice b1 k.ins.length c1,.slice b2 k.outs.length c2,.slice b3 k.ay.length c3,.slice b4 k.aj.length c4,.slice b5 k.insts.length c5,.slice b6 k.body.length c6] 43)).alloc (.cells #[.int .i64 4,.string nm,.int .i64 eu,.slice o1 outs.length p1,.slice o2 code.length p2,.slice o3 args.length p3] 60))=wS at *
 go_region_held3 (fun w'=>w'.cell? ⟨w.heap.size+2,1,none⟩=some (.string nm)∧w'.cell? ⟨w.heap.size+1,0,none⟩=some (.string k.name)∧w'.cell? ⟨w.heap.size+1,1,none⟩=some (.slice b1 k.ins.length c1)∧w'.cell? ⟨w.heap.size+1,2,none⟩=some (.slice b2 k.outs.length c2)∧w'.cell? ⟨w.heap.size+1,3,none⟩=some (.slice b3 k.ay.length c3)∧w'.cell? ⟨w.heap.size+1,4,none⟩=some (.slice b4 k.aj.length c4)∧w'.cell? ⟨w.heap.size+1,5,none⟩=some (.slice b5 k.insts.length c5)∧w'.cell? ⟨w.heap.size+1,6,none⟩=some (.slice b6 k.body.length c6)) (go_keep) (first|(go_at_call 47;refine(uh HVd).mono ?_;rintro e w5 ⟨a5,c5',rfl,hB5,HI5,t1,t2,t3,t4,t5,t6,t7,t8⟩;clear HVd)|(go_at_call 76;refine(uh HI5).mono ?_;rintro e w6 ⟨rfl,Va,y1,y2,y3,y4,y5,y6,y7,y8⟩;clear HI5))
 have Oa:=hide (uh mg _ Va)
 go_wp2
 go_ret
 exact⟨jf (uh HF).symm,uh Oa⟩
end Go.Proofs.YtlcgnbcgmljpaaaGreat
