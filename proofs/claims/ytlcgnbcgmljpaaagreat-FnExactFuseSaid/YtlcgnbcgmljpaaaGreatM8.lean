import Derived.Test.YtlcgnbcgmljpaaaGreatM7
import Derived.BigRegion
namespace Go.Proofs.YtlcgnbcgmljpaaaGreat
open Go.RowKit
set_option linter.unusedSimpArgs false
set_option linter.unusedVariables false
theorem ajf (ks:List ak) (k:ak) (s:dh) (h:s.at_<0∨(k.insts.length:Int)<=s.at_):Qx ks k s=false:=by unfold Qx;rw[if_pos h]
theorem auc (ks:List ak) (k:ak) (s:dh) (j gi:Nat) (hj:j<k.insts.length) (ha:s.at_=(j:Int)) (hgi:k.insts[j]=(gi:Int)) (hg:gi<ks.length) :
  Qx ks k s=(decide (s.outs.length=ks[gi].outs.length∧s.args.length=ks[gi].ins.length)&&(List.range s.outs.length).all (fun i=>!J6 k s.outs i)&&s.args.all (Oe k)):=by
 have e:(k.insts.getD s.at_.toNat 0).toNat=gi:=by
  rw[ha,Int.toNat_natCast,List.getD_eq_getElem?_getD,List.getElem?_eq_getElem hj,Option.getD_some,hgi,Int.toNat_natCast]
 unfold Qx
 rw[if_neg (by rw[ha];omega),e,List.getElem?_eq_getElem hg]
theorem aqk (k:ak) (outs:List ByteArray) (i:Nat) (hi:i<outs.length):J6 k outs i=(!setB k outs[i]||decide (iy outs outs[i]<(i:Int))):=by
 unfold J6
 rw[List.getElem?_eq_getElem hi]
theorem adl {n:Nat} {p:Nat->Bool} (i:Nat) (hi:i<n) (h:p i=true):(List.range n).all (fun j=>!p j)=false:=by
 rw[List.all_eq_false]
 exact⟨i,List.mem_range.2 hi,by simp[h]⟩
theorem agt {n:Nat} {p:Nat->Bool} (h:∀j,j<n->p j=false):(List.range n).all (fun j=>!p j)=true:=by
 rw[List.all_eq_true]
 intro x hx
 rw[h x (List.mem_range.1 hx)]
 rfl
set_option maxRecDepth 20000 in
set_option maxHeartbeats 4000000 in
theorem an9 (ks:List ak) (k:ak) (nm:ByteArray) (eu:Int) (outs:List ByteArray) (code:List iw) (args:List (List iw))  (a1 a2 a3 a4 a5 a6 mv ov cv av:Value) (w:World) (hm:bf 7 160 ni 0 w mv ks) (h:F7 w k a1 a2 a3 a4 a5 a6) (h1:bf 1 16 uz 0 w ov outs) (h2:bf 3 32 tu 0 w cv code) (h3:bf 1 24 vw 0 w av args)
  (hin:∀j (hj:j<k.insts.length),0<=k.insts[j]∧k.insts[j]<ks.length) :
  Calls Tryz.prog 50 #[.agg #[mv],.agg #[.string k.name,a1,a2,a3,a4,a5,a6],.agg #[.int .i64 3,.string nm,.int .i64 eu,ov,cv,av]] w (Ans (.bool (ny ks k ⟨3,nm,eu,outs,code,args⟩)) w):=by
 have Xa:=hide (fun code v w' (hb:Below w.heap.size w w') hv=>Ik k code a1 a2 a3 a4 a5 a6 v w' (h.stays hb) hv)
 have P9:=hide (fun x w' (hb:Below w.heap.size w w')=>Gj k x a1 a2 a3 a4 a5 a6 w' (h.stays hb))
 have HVR:=hide (fun w' (hb:Below w.heap.size w w')=>G9 k a1 a2 a3 a4 a5 a6 w' (h.stays hb).ins (h.stays hb).outs (h.stays hb).ay h.sum)
 have Wp:=hide h.insts
 obtain⟨b1,c1,rfl⟩:=h.ins.shape
 obtain⟨b2,c2,rfl⟩:=h.outs.shape
 obtain⟨b3,c3,rfl⟩:=h.ay.shape
 obtain⟨b4,c4,rfl⟩:=h.aj.shape
 obtain⟨b5,c5,rfl⟩:=h.insts.shape
 obtain⟨b6,c6,rfl⟩:=h.body.shape
 obtain⟨bm,cm,rfl⟩:=hm.shape
 obtain⟨o1,p1,rfl⟩:=h1.shape
 obtain⟨o2,p2,rfl⟩:=h2.shape
 obtain⟨o3,p3,rfl⟩:=h3.shape
 have z1:=h1.uy
 have z2:=h2.uy
 have z3:=h3.uy
 have z4:=h.aj.uy
 have z5:=h.insts.uy
 have z6:=hm.uy
 have HO:=hide h1
 have HC:=hide h2
 have HAA:=hide h3
 have Xz:=hide hm
 clear h hm h1 h2 h3
 have hA:Below w.heap.size w (((w.alloc (.cells #[.slice bm ks.length cm] 28)).alloc (.cells #[.string k.name,.slice b1 k.ins.length c1,.slice b2 k.outs.length c2,.slice b3 k.ay.length c3,.slice b4 k.aj.length c4,.slice b5 k.insts.length c5,.slice b6 k.body.length c6] 43)).alloc (.cells #[.int .i64 3,.string nm,.int .i64 eu,.slice o1 outs.length p1,.slice o2 code.length p2,.slice o3 args.length p3] 60)):=(((Below.refl _ _).alloc (Nat.le_refl _) _).alloc (by simp) _).alloc (by simp only[World.size_alloc];omega) _
 have Oq:(((w.alloc (.cells #[.slice bm ks.length cm] 28)).alloc (.cells #[.string k.name,.slice b1 k.ins.length c1,.slice b2 k.outs.length c2,.slice b3 k.ay.length c3,.slice b4 k.aj.length c4,.slice b5 k.insts.length c5,.slice b6 k.body.length c6] 43)).alloc (.cells #[.int .i64 3,.string nm,.int .i64 eu,.slice o1 outs.length p1,.slice o2 code.length p2,.slice o3 args.length p3] 60)).heap.size=w.heap.size+3:=by simp
 have hB1:au (((w.alloc (.cells #[.slice bm ks.length cm] 28)).alloc (.cells #[.string k.name,.slice b1 k.ins.length c1,.slice b2 k.outs.length c2,.slice b3 k.ay.length c3,.slice b4 k.aj.length c4,.slice b5 k.insts.length c5,.slice b6 k.body.length c6] 43)).alloc (.cells #[.int .i64 3,.string nm,.int .i64 eu,.slice o1 outs.length p1,.slice o2 code.length p2,.slice o3 args.length p3] 60)) w.heap.size 28 #[.slice bm ks.length cm]:=(jl w #[.slice bm ks.length cm] 28).below (((Below.refl _ _).alloc (Nat.le_refl _) _).alloc (by simp) _) (by simp)
 have hB2:au (((w.alloc (.cells #[.slice bm ks.length cm] 28)).alloc (.cells #[.string k.name,.slice b1 k.ins.length c1,.slice b2 k.outs.length c2,.slice b3 k.ay.length c3,.slice b4 k.aj.length c4,.slice b5 k.insts.length c5,.slice b6 k.body.length c6] 43)).alloc (.cells #[.int .i64 3,.string nm,.int .i64 eu,.slice o1 outs.length p1,.slice o2 code.length p2,.slice o3 args.length p3] 60)) (w.heap.size+1) 43 #[.string k.name,.slice b1 k.ins.length c1,.slice b2 k.outs.length c2,.slice b3 k.ay.length c3,.slice b4 k.aj.length c4,.slice b5 k.insts.length c5,.slice b6 k.body.length c6]:=by
  have h0:=jl (w.alloc (.cells #[.slice bm ks.length cm] 28)) #[.string k.name,.slice b1 k.ins.length c1,.slice b2 k.outs.length c2,.slice b3 k.ay.length c3,.slice b4 k.aj.length c4,.slice b5 k.insts.length c5,.slice b6 k.body.length c6] 43
  rw[show (w.alloc (.cells #[.slice bm ks.length cm] 28)).heap.size=w.heap.size+1 from by simp] at h0
  exact h0.below ((Below.refl _ _).alloc (Nat.le_refl _) _) (by simp)
 have hB3:au (((w.alloc (.cells #[.slice bm ks.length cm] 28)).alloc (.cells #[.string k.name,.slice b1 k.ins.length c1,.slice b2 k.outs.length c2,.slice b3 k.ay.length c3,.slice b4 k.aj.length c4,.slice b5 k.insts.length c5,.slice b6 k.body.length c6] 43)).alloc (.cells #[.int .i64 3,.string nm,.int .i64 eu,.slice o1 outs.length p1,.slice o2 code.length p2,.slice o3 args.length p3] 60)) (w.heap.size+2) 60 #[.int .i64 3,.string nm,.int .i64 eu,.slice o1 outs.length p1,.slice o2 code.length p2,.slice o3 args.length p3]:=by
  have h0:=jl ((w.alloc (.cells #[.slice bm ks.length cm] 28)).alloc (.cells #[.string k.name,.slice b1 k.ins.length c1,.slice b2 k.outs.length c2,.slice b3 k.ay.length c3,.slice b4 k.aj.length c4,.slice b5 k.insts.length c5,.slice b6 k.body.length c6] 43)) #[.int .i64 3,.string nm,.int .i64 eu,.slice o1 outs.length p1,.slice o2 code.length p2,.slice o3 args.length p3] 60
  rw[show ((w.alloc (.cells #[.slice bm ks.length cm] 28)).alloc (.cells #[.string k.name,.slice b1 k.ins.length c1,.slice b2 k.outs.length c2,.slice b3 k.ay.length c3,.slice b4 k.aj.length c4,.slice b5 k.insts.length c5,.slice b6 k.body.length c6] 43)).heap.size=w.heap.size+2 from by simp] at h0
  exact h0
 obtain⟨BX,gq⟩:∃BX:World->Prop,∀w',BX w'↔Below (w.heap.size+3) (((w.alloc (.cells #[.slice bm ks.length cm] 28)).alloc (.cells #[.string k.name,.slice b1 k.ins.length c1,.slice b2 k.outs.length c2,.slice b3 k.ay.length c3,.slice b4 k.aj.length c4,.slice b5 k.insts.length c5,.slice b6 k.body.length c6] 43)).alloc (.cells #[.int .i64 3,.string nm,.int .i64 eu,.slice o1 outs.length p1,.slice o2 code.length p2,.slice o3 args.length p3] 60)) w':=⟨_,fun _=>Iff.rfl⟩
 have mg:Hid (∀w1,BX w1->Below w.heap.size w w1):=fun w1 h=>hA.trans (((gq w1).1 h).mono (by omega))
 have qp:Hid (∀w1 w2,BX w1->Below w1.heap.size w1 w2->BX w2):=fun w1 w2 h h2=>(gq w2).2 (((gq w1).1 h).trans (h2.mono (by have:=((gq w1).1 h).size;omega)))
 have yg:Hid (∀w1,BX w1->w1.cell? ⟨w.heap.size,0,none⟩=some (.slice bm ks.length cm)∧w1.cell? ⟨w.heap.size+1,0,none⟩=some (.string k.name)∧w1.cell? ⟨w.heap.size+1,1,none⟩=some (.slice b1 k.ins.length c1)∧w1.cell? ⟨w.heap.size+1,2,none⟩=some (.slice b2 k.outs.length c2)∧w1.cell? ⟨w.heap.size+1,3,none⟩=some (.slice b3 k.ay.length c3)∧w1.cell? ⟨w.heap.size+1,4,none⟩=some (.slice b4 k.aj.length c4)∧w1.cell? ⟨w.heap.size+1,5,none⟩=some (.slice b5 k.insts.length c5)∧w1.cell? ⟨w.heap.size+1,6,none⟩=some (.slice b6 k.body.length c6)∧w1.cell? ⟨w.heap.size+2,0,none⟩=some (.int .i64 3)∧w1.cell? ⟨w.heap.size+2,1,none⟩=some (.string nm)∧w1.cell? ⟨w.heap.size+2,2,none⟩=some (.int .i64 eu)∧w1.cell? ⟨w.heap.size+2,3,none⟩=some (.slice o1 outs.length p1)∧w1.cell? ⟨w.heap.size+2,4,none⟩=some (.slice o2 code.length p2)∧w1.cell? ⟨w.heap.size+2,5,none⟩=some (.slice o3 args.length p3)):=fun w1 h=>⟨(hB1.below ((gq w1).1 h) (by omega)).cell (i:=0) (v:=.slice bm ks.length cm) rfl,(hB2.below ((gq w1).1 h) (by omega)).cell (i:=0) (v:=.string k.name) rfl,(hB2.below ((gq w1).1 h) (by omega)).cell (i:=1) (v:=.slice b1 k.ins.length c1) rfl,(hB2.below ((gq w1).1 h) (by omega)).cell (i:=2) (v:=.slice b2 k.outs.length c2) rfl,(hB2.below ((gq w1).1 h) (by omega)).cell (i:=3) (v:=.slice b3 k.ay.length c3) rfl,(hB2.below ((gq w1).1 h) (by omega)).cell (i:=4) (v:=.slice b4 k.aj.length c4) rfl,(hB2.below ((gq w1).1 h) (by omega)).cell (i:=5) (v:=.slice b5 k.insts.length c5) rfl,(hB2.below ((gq w1).1 h) (by omega)).cell (i:=6) (v:=.slice b6 k.body.length c6) rfl,(hB3.below ((gq w1).1 h) (by omega)).cell (i:=0) (v:=.int .i64 3) rfl,(hB3.below ((gq w1).1 h) (by omega)).cell (i:=1) (v:=.string nm) rfl,(hB3.below ((gq w1).1 h) (by omega)).cell (i:=2) (v:=.int .i64 eu) rfl,(hB3.below ((gq w1).1 h) (by omega)).cell (i:=3) (v:=.slice o1 outs.length p1) rfl,(hB3.below ((gq w1).1 h) (by omega)).cell (i:=4) (v:=.slice o2 code.length p2) rfl,(hB3.below ((gq w1).1 h) (by omega)).cell (i:=5) (v:=.slice o3 args.length p3) rfl⟩
 have Ky:Hid (∀w1,BX w1->w.heap.size+3<=w1.heap.size):=fun w1 h=>by have:=((gq w1).1 h).size;omega
 have HX0:Hid (BX (((w.alloc (.cells #[.slice bm ks.length cm] 28)).alloc (.cells #[.string k.name,.slice b1 k.ins.length c1,.slice b2 k.outs.length c2,.slice b3 k.ay.length c3,.slice b4 k.aj.length c4,.slice b5 k.insts.length c5,.slice b6 k.body.length c6] 43)).alloc (.cells #[.int .i64 3,.string nm,.int .i64 eu,.slice o1 outs.length p1,.slice o2 code.length p2,.slice o3 args.length p3] 60))):=(gq _).2 (Below.refl _ _)
 have HXd:Hid (BX (((w.alloc (.cells #[.slice bm ks.length cm] 28)).alloc (.cells #[.string k.name,.slice b1 k.ins.length c1,.slice b2 k.outs.length c2,.slice b3 k.ay.length c3,.slice b4 k.aj.length c4,.slice b5 k.insts.length c5,.slice b6 k.body.length c6] 43)).alloc (.cells #[.int .i64 3,.string nm,.int .i64 eu,.slice o1 outs.length p1,.slice o2 code.length p2,.slice o3 args.length p3] 60)).drew):=(gq _).2 (Below.refl _ _).drew
 have HA:=hide hA
 clear hA Oq hB1 hB2 hB3 gq
 by_cases hq:nm.size=0
 case neg =>
  have d4:=Gg nm hq
  have d4':=Cj nm hq
  have HF:=hide (Sj ks k ⟨3,nm,eu,outs,code,args⟩ (by simp) hq)
  generalize ny ks k ⟨3,nm,eu,outs,code,args⟩=R at *
  clear hq
  go_enter Tryz.func50,Tryz.ntmps50
  go_wp2
  go_ret
  exact⟨jf (uh HF).symm,uh HA⟩
 have d4:=Ea nm hq
 have d4':=Bg nm hq
 have Ot:=hide hq
 clear hq
 by_cases hq:code.length=0
 case neg =>
  have d8:((code.length:Int) != 0)=true:=by rw[bne_iff_ne];omega
  have HF:=hide (Sl ks k ⟨3,nm,eu,outs,code,args⟩ (by simp) (by simp) hq)
  generalize ny ks k ⟨3,nm,eu,outs,code,args⟩=R at *
  clear hq
  go_enter Tryz.func50,Tryz.ntmps50
  go_wp2
  go_ret
  exact⟨jf (uh HF).symm,uh HA⟩
 have d8:((code.length:Int) != 0)=false:=by rw[bne_eq_false_iff_eq];omega
 have Ou:=hide hq
 clear hq
 have HF:Hid (ny ks k ⟨3,nm,eu,outs,code,args⟩=Qx ks k ⟨3,nm,eu,outs,code,args⟩):=(Na ks k ⟨3,nm,eu,outs,code,args⟩ (Or.inr (Or.inr (uh Ot))) (Or.inr (Or.inl rfl)) (Or.inl rfl) (Or.inr (Or.inr (uh Ou)))).trans (by unfold F8;rw[if_neg (by simp),if_neg (by simp),if_neg (by simp),if_neg (by simp),if_pos rfl])
 generalize ny ks k ⟨3,nm,eu,outs,code,args⟩=R at *
 by_cases h0:eu<0
 ·have e1:decide (eu<0)=true:=decide_eq_true h0
  have HR:Hid (R=false):=(uh HF).trans (ajf _ _ _ (Or.inl h0))
  clear HF
  go_enter Tryz.func50,Tryz.ntmps50
  go_wp2
  go_ret
  exact⟨jf (uh HR).symm,uh HA⟩
 have e1:decide (eu<0)=false:=decide_eq_false h0
 by_cases h9:(k.insts.length:Int)<=eu
 ·have e2:decide ((k.insts.length:Int)<=eu)=true:=decide_eq_true h9
  have HR:Hid (R=false):=(uh HF).trans (ajf _ _ _ (Or.inr h9))
  clear HF
  go_enter Tryz.func50,Tryz.ntmps50
  go_wp2
  go_ret
  exact⟨jf (uh HR).symm,uh HA⟩
 have e2:decide ((k.insts.length:Int)<=eu)=false:=decide_eq_false h9
 obtain⟨j,rfl⟩:=Int.eq_ofNat_of_zero_le (show 0<=eu by omega)
 have hj:j<k.insts.length:=by omega
 obtain⟨gi,hgi⟩:=Int.eq_ofNat_of_zero_le (hin j hj).1
 have hg:gi<ks.length:=by have:=(hin j hj).2;omega
 have HR:=hide ((uh HF).trans (auc ks k ⟨3,nm,(j:Int),outs,code,args⟩ j gi hj rfl hgi hg))
 clear HF
 have Vf:Hid (∃ib io,b5=some ⟨ib,io,none⟩∧ib<w.heap.size∧∀w1,BX w1->w1.cell? ⟨ib,io+j,none⟩=some (.int .i64 (gi:Int))):=by
  obtain⟨ai,ci,hvi,_,_,hxi⟩:=uh Wp
  simp only[Value.slice.injEq] at hvi
  obtain⟨rfl,_,rfl⟩:=hvi
  obtain⟨ib,io,ics,rfl,_,hib,_,hic,⟨rfl,_⟩⟩:=hxi j hj
  refine⟨ib,io,rfl,hib,fun w1 h1=>?_⟩
  rw[(uh mg _ h1).cell (p:=⟨ib,_,none⟩) hib,←hgi]
  have h0:=hic 0 (by simp)
  rw[Nat.mul_one,Nat.add_zero] at h0
  exact h0
 have HCG:Hid (∃gb go gn v1 v2 v3 v4 v5 v6,bm=some ⟨gb,go,none⟩∧gb<w.heap.size∧(∃d1 e1,v1=.slice d1 ks[gi].ins.length e1)∧(∃d1 e1,v2=.slice d1 ks[gi].outs.length e1)∧(∃d1 n e1,v3=.slice d1 n e1)∧(∃d1 n e1,v4=.slice d1 n e1)∧(∃d1 n e1,v5=.slice d1 n e1)∧(∃d1 n e1,v6=.slice d1 n e1)∧ks[gi].ins.length<=140737488355328∧ks[gi].outs.length<=140737488355328∧∀w1,BX w1->w1.cell? ⟨gb,go+gi*7,none⟩=some (.string gn)∧w1.cell? ⟨gb,go+gi*7+1,none⟩=some v1∧w1.cell? ⟨gb,go+gi*7+2,none⟩=some v2∧w1.cell? ⟨gb,go+gi*7+3,none⟩=some v3∧w1.cell? ⟨gb,go+gi*7+4,none⟩=some v4∧w1.cell? ⟨gb,go+gi*7+5,none⟩=some v5∧w1.cell? ⟨gb,go+gi*7+6,none⟩=some v6):=by
  obtain⟨ag,cg,hvg,_,_,hxg⟩:=uh Xz
  simp only[Value.slice.injEq] at hvg
  obtain⟨rfl,_,rfl⟩:=hvg
  obtain⟨gb,go,gcs,rfl,_,hgb,hgl,hgc,⟨v1,v2,v3,v4,v5,v6,rfl,_,t1,t2,t3,t4,t5,t6⟩⟩:=hxg gi hg
  refine⟨gb,go,ks[gi].name,v1,v2,v3,v4,v5,v6,rfl,hgb,t1.shape,t2.shape,(by obtain⟨d,e,h⟩:=t3.shape;exact⟨d,_,e,h⟩),(by obtain⟨d,e,h⟩:=t4.shape;exact⟨d,_,e,h⟩),(by obtain⟨d,e,h⟩:=t5.shape;exact⟨d,_,e,h⟩),(by obtain⟨d,e,h⟩:=t6.shape;exact⟨d,_,e,h⟩),t1.uy,t2.uy,fun w1 h1=>?_⟩
  have hB:=uh mg _ h1
  have hc:∀i (hi:i<7),w1.cell? ⟨gb,go+gi*7+i,none⟩=some (([.string ks[gi].name,v1,v2,v3,v4,v5,v6]:List Value)[i]):=fun i hi=>by
   rw[hB.cell (p:=⟨gb,_,none⟩) hgb]
   exact hgc i hi
  exact⟨hc 0 (by omega),hc 1 (by omega),hc 2 (by omega),hc 3 (by omega),hc 4 (by omega),hc 5 (by omega),hc 6 (by omega)⟩
 have hgI:(gi:Int)<(ks.length:Int):=by omega
 have hjI:(j:Int)<(k.insts.length:Int):=by omega
 generalize ks[gi].ins.length=Un at *
 generalize ks[gi].outs.length=Uo at *
 clear h0 h9 Wp Xz hin hgi
 go_enter Tryz.func50,Tryz.ntmps50
 go_wp2_with fail
 have hz3:(((w.alloc (.cells #[.slice bm ks.length cm] 28)).alloc (.cells #[.string k.name,.slice b1 k.ins.length c1,.slice b2 k.outs.length c2,.slice b3 k.ay.length c3,.slice b4 k.aj.length c4,.slice b5 k.insts.length c5,.slice b6 k.body.length c6] 43)).alloc (.cells #[.int .i64 3,.string nm,.int .i64 (j:Int),.slice o1 outs.length p1,.slice o2 code.length p2,.slice o3 args.length p3] 60)).heap.size=w.heap.size+3:=by simp
 generalize (((w.alloc (.cells #[.slice bm ks.length cm] 28)).alloc (.cells #[.string k.name,.slice b1 k.ins.length c1,.slice b2 k.outs.length c2,.slice b3 k.ay.length c3,.slice b4 k.aj.length c4,.slice b5 k.insts.length c5,.slice b6 k.body.length c6] 43)).alloc (.cells #[.int .i64 3,.string nm,.int .i64 (j:Int),.slice o1 outs.length p1,.slice o2 code.length p2,.slice o3 args.length p3] 60))=wS at *
 obtain⟨q0,q1,q2,q3,q4,q5,q6,q7,q8,q9,q10,q11,q12,q13⟩:=uh yg _ (uh HX0)
 obtain⟨ib,io,rfl,hib,hic⟩:=uh Vf
 obtain⟨gb,go,gn,v1,v2,v3,v4,v5,v6,rfl,hgb,⟨d1,e1',rfl⟩,⟨d2,e2',rfl⟩,⟨d3,m3,e3,rfl⟩,⟨d4,m4,e4,rfl⟩,⟨d5,m5,e5,rfl⟩,⟨d6,m6,e6,rfl⟩,x1,x2,hgc⟩:=uh HCG
 clear Vf HCG
 have r0:=hic _ (uh HX0)
 obtain⟨g0,g1,g2,g3,g4,g5,g6⟩:=hgc _ (uh HX0)
 have az7:ib<wS.heap.size:=by omega
 have abt:gb<wS.heap.size:=by omega
 clear hic hgc
 have n1:wS.heap.size≠ib:=by omega
 have n2:wS.heap.size≠gb:=by omega
 have n3:wS.heap.size≠w.heap.size:=by omega
 have n4:wS.heap.size≠w.heap.size+1:=by omega
 have n5:wS.heap.size≠w.heap.size+2:=by omega
 have HZ3:=hide hz3
 have hzb:Below wS.heap.size wS (wS.alloc (.cells #[.string ⟨#[]⟩,.slice none 0 0,.slice none 0 0,.slice none 0 0,.slice none 0 0,.slice none 0 0,.slice none 0 0] 43)):=(Below.refl _ _).alloc (Nat.le_refl _) _
 have s0:=(hzb.cell (p:=⟨gb,_,none⟩) abt).trans g0
 have s1:=(hzb.cell (p:=⟨gb,_,none⟩) abt).trans g1
 have s2:=(hzb.cell (p:=⟨gb,_,none⟩) abt).trans g2
 have s3:=(hzb.cell (p:=⟨gb,_,none⟩) abt).trans g3
 have s4:=(hzb.cell (p:=⟨gb,_,none⟩) abt).trans g4
 have s5:=(hzb.cell (p:=⟨gb,_,none⟩) abt).trans g5
 have s6:=(hzb.cell (p:=⟨gb,_,none⟩) abt).trans g6
 have s7:=(hzb.cell (p:=⟨ib,_,none⟩) az7).trans r0
 have s8:=(hzb.cell (p:=⟨w.heap.size,_,none⟩) (show w.heap.size<wS.heap.size by omega)).trans q0
 have s9:=(hzb.cell (p:=⟨w.heap.size+1,_,none⟩) (show w.heap.size+1<wS.heap.size by omega)).trans q6
 have s10:=(hzb.cell (p:=⟨w.heap.size+2,_,none⟩) (show w.heap.size+2<wS.heap.size by omega)).trans q10
 have s11:(wS.alloc (.cells #[.string ⟨#[]⟩,.slice none 0 0,.slice none 0 0,.slice none 0 0,.slice none 0 0,.slice none 0 0,.slice none 0 0] 43)).cell? ⟨w.heap.size+1+1,2,none⟩=some (.int .i64 (j:Int)):=s10
 have a4n:wS.cell? ⟨w.heap.size+1+1,2,none⟩=some (.int .i64 (j:Int)):=q10
 clear hz3 az7 abt hzb
 go_region
 clear s0 s1 s2 s3 s4 s5 s6 s7 s8 s9 s10 s11 a4n g0 g1 g2 g3 g4 g5 g6 r0 n1 n2 n3 n4 n5 q0 q1 q2 q3 q4 q5 q6 q7 q8 q9 q10 q11 q12 q13
 have hbG:=uh qp _ _ (uh HX0) ((Below.refl _ wS).alloc (Nat.le_refl _) (.cells #[.string gn,.slice d1 Un e1',.slice d2 Uo e2',.slice d3 m3 e3,.slice d4 m4 e4,.slice d5 m5 e5,.slice d6 m6 e6] 43)).drew
 have hGb:au (wS.alloc (.cells #[.string gn,.slice d1 Un e1',.slice d2 Uo e2',.slice d3 m3 e3,.slice d4 m4 e4,.slice d5 m5 e5,.slice d6 m6 e6] 43)).drew wS.heap.size 43 #[.string gn,.slice d1 Un e1',.slice d2 Uo e2',.slice d3 m3 e3,.slice d4 m4 e4,.slice d5 m5 e5,.slice d6 m6 e6]:=jl wS #[.string gn,.slice d1 Un e1',.slice d2 Uo e2',.slice d3 m3 e3,.slice d4 m4 e4,.slice d5 m5 e5,.slice d6 m6 e6] 43
 have u1:=hGb.cell (i:=1) (v:=.slice d1 Un e1') rfl
 have u2:=hGb.cell (i:=2) (v:=.slice d2 Uo e2') rfl
 generalize (wS.alloc (.cells #[.string gn,.slice d1 Un e1',.slice d2 Uo e2',.slice d3 m3 e3,.slice d4 m4 e4,.slice d5 m5 e5,.slice d6 m6 e6] 43)).drew=wG at *
 generalize wS.heap.size=gB at *
 clear HZ3 hGb HX0 HXd HA
 obtain⟨q0,q1,q2,q3,q4,q5,q6,q7,q8,q9,q10,q11,q12,q13⟩:=uh yg _ hbG
 have HBG:=hide hbG
 have Bj:=hide (uh mg _ hbG)
 clear hbG
 by_cases ho:outs.length=Uo
 case neg =>
  have c1':((outs.length:Int) != (Uo:Int))=true:=by rw[bne_iff_ne];omega
  have HF:Hid (R=false):=(uh HR).trans (by simp[ho])
  clear HR ho
  go_wp2
  go_ret
  exact⟨jf (uh HF).symm,uh Bj⟩
 have c1':((outs.length:Int) != (Uo:Int))=false:=by rw[bne_eq_false_iff_eq];omega
 by_cases ha:args.length=Un
 case neg =>
  have c2':((args.length:Int) != (Un:Int))=true:=by rw[bne_iff_ne];omega
  have HF:Hid (R=false):=(uh HR).trans (by simp[ha])
  clear HR ho ha
  go_wp2
  go_ret
  exact⟨jf (uh HF).symm,uh Bj⟩
 have c2':((args.length:Int) != (Un:Int))=false:=by rw[bne_eq_false_iff_eq];omega
 have HR2:Hid (R=((List.range outs.length).all (fun i=>!J6 k outs i)&&args.all (Oe k))):=(uh HR).trans (by rw[decide_eq_true ⟨ho,ha⟩,Bool.true_and])
 clear HR ho ha
 have HPL:=hide (fun x w' (hb:BX w')=>Zq outs _ x w' ((uh HO).stays lu (uh mg _ hb)))
 have az8:=hide (fun x w' (hb:BX w')=>uh P9 x w' (uh mg _ hb))
 have a4o:=hide (fun code v w' (hb:BX w') hv=>uh Xa code v w' (uh mg _ hb) hv)
 have Yj:Hid (∀i (hi:i<outs.length),∃b o,o1=some ⟨b,o,none⟩∧∀w',BX w'->w'.cell? ⟨b,o+i,none⟩=some (.string outs[i])):=fun i hi=>by
  obtain⟨a9,c9,yx,_,_,Em⟩:=uh HO
  simp only[Value.slice.injEq] at yx
  obtain⟨rfl,_,rfl⟩:=yx
  obtain⟨b,o,cs,rfl,_,hb,_,hc,⟨rfl,_⟩⟩:=Em i hi
  refine⟨b,o,rfl,fun w' h'=>?_⟩
  rw[(uh mg _ h').cell (p:=⟨b,_,none⟩) hb]
  have h0:=hc 0 (by simp)
  rw[Nat.mul_one,Nat.add_zero] at h0
  exact h0
 have HAX:Hid (∀i (hi:i<args.length),∃b o av cv,o3=some ⟨b,o,none⟩∧∀w',BX w'->w'.cell? ⟨b,o+i,none⟩=some (.slice av args[i].length cv)∧bf 3 32 tu 0 w' (.slice av args[i].length cv) args[i]):=fun i hi=>by
  obtain⟨a9,c9,yx,_,_,Em⟩:=uh HAA
  simp only[Value.slice.injEq] at yx
  obtain⟨rfl,_,rfl⟩:=yx
  obtain⟨b,o,cs,rfl,_,hb,_,hc,⟨v,rfl,hv⟩⟩:=Em i hi
  obtain⟨av,cv,rfl⟩:=hv.shape
  refine⟨b,o,av,cv,rfl,fun w' h'=>⟨?_,hv.stays og (uh mg _ h')⟩⟩
  rw[(uh mg _ h').cell (p:=⟨b,_,none⟩) hb]
  have h0:=hc 0 (by simp)
  rw[Nat.mul_one,Nat.add_zero] at h0
  exact h0
 clear HO HAA HC P9 Xa HVR Ot Ou
 go_wp2
 go_loopg [155] outs.length (fun g iv wr=>∃(i:Nat),i<=outs.length∧g=outs.length-i∧iv=.int .i64 i∧(∀j,j<i->J6 k outs j=false)∧BX wr)
 case atStart=>exact⟨0,Nat.zero_le _,by omega,rfl,fun j hj=>absurd hj (Nat.not_lt_zero _),uh HBG⟩
 case round =>
  obtain⟨i,hi,hg,rfl,hno,hbx⟩:=hrel
  rename World=>wr
  have HG:=hide hg
  have uw:=hide hno
  have Fa:=hide hbx
  clear hg hno
  obtain⟨r0,r1,r2,r3,r4,r5,r6,r7,r8,r9,r10,r11,r12,r13⟩:=uh yg _ hbx
  clear hbx
  by_cases hlt:i<outs.length
  ·obtain⟨b,o,rfl,hcx⟩:=uh Yj i hlt
   have x0:=hcx _ (uh Fa)
   have Wv:=hide (aqk k outs i hlt)
   have HN:Hid (J6 k outs i=true->R=false):=fun h=>(uh HR2).trans (by rw[adl i hlt h,Bool.false_and])
   have HY:Hid (J6 k outs i=false->∀j,j<i+1->J6 k outs j=false):=fun h j hji=>by
    by_cases e:j=i
    ·subst e;exact h
    ·exact uh uw j (by omega)
   have qg:=hide (uh az8 outs[i] _ (uh Fa))
   have HC2:=hide (fun w' hb=>uh HPL outs[i] w' hb)
   have hlt':(i:Int)<(outs.length:Int):=by omega
   have hpb:=O6 outs outs[i]
   clear hcx
   generalize iy outs outs[i]=pl at *
   generalize J6 k outs i=ob at *
   generalize setB k outs[i]=sb at *
   generalize outs[i]=x at *
   cases sb
   ·have HF:=hide (uh HN ((uh Wv).trans rfl))
    clear HN HY Wv HC2
    go_wp2_with fail
    refine(uh qg).mono ?_
    rintro e w5 ⟨rfl,hb5⟩
    have HB:=hide (uh mg _ (uh qp _ _ (uh Fa) hb5))
    clear hb5
    go_wp2
    go_ret
    exact⟨jf (uh HF).symm,uh HB⟩
   by_cases hp:pl<(i:Int)
   ·have f1:decide (pl<(i:Int))=true:=decide_eq_true hp
    have HF:=hide (uh HN ((uh Wv).trans (by rw[f1];rfl)))
    clear HN HY Wv
    go_wp2_with fail
    refine(uh qg).mono ?_
    rintro e w5 ⟨rfl,hb5⟩
    have hx5:=uh qp _ _ (uh Fa) hb5
    have Io:=hide (uh HC2 _ hx5)
    have HB:=hide (uh mg _ hx5)
    obtain⟨y0,y1,y2,y3,y4,y5,y6,y7,y8,y9,y10,y11,y12,y13⟩:=uh yg _ hx5
    clear hb5 hx5
    go_wp2_with fail
    refine(uh Io).mono ?_
    rintro e w6 ⟨rfl,h9⟩
    obtain rfl:=h9.symm
    go_wp2
    go_ret
    exact⟨jf (uh HF).symm,uh HB⟩
   ·have f1:decide (pl<(i:Int))=false:=decide_eq_false hp
    have Dp:=hide (uh HY ((uh Wv).trans (by rw[f1];rfl)))
    clear HN HY Wv
    go_wp2_with fail
    refine(uh qg).mono ?_
    rintro e w5 ⟨rfl,hb5⟩
    have hx5:=uh qp _ _ (uh Fa) hb5
    have Io:=hide (uh HC2 _ hx5)
    have HB:=hide hx5
    obtain⟨y0,y1,y2,y3,y4,y5,y6,y7,y8,y9,y10,y11,y12,y13⟩:=uh yg _ hx5
    clear hb5 hx5
    go_wp2_with fail
    refine(uh Io).mono ?_
    rintro e w6 ⟨rfl,h9⟩
    obtain rfl:=h9.symm
    go_wp2
    go_roundg (outs.length-(i+1))
    case measure=>have:=uh HG;omega
    case rel=>exact⟨i+1,by omega,rfl,by go_num,uh Dp,uh HB⟩
  ·have e:i=outs.length:=by omega
   subst e
   have HR3:Hid (R=args.all (Oe k)):=(uh HR2).trans (by rw[agt (uh uw),Bool.true_and])
   clear HR2 uw HG HPL az8 Yj
   go_wp2
   go_loopg [176] args.length (fun g iv wr=>∃(i:Nat),i<=args.length∧g=args.length-i∧iv=.int .i64 i∧(∀j (hj:j<args.length),j<i->Oe k args[j]=true)∧BX wr)
   case atStart=>exact⟨0,Nat.zero_le _,by omega,rfl,fun j _ hj=>absurd hj (Nat.not_lt_zero _),uh Fa⟩
   case round =>
    obtain⟨i,hi,hg,rfl,hno,hbx⟩:=hrel
    rename World=>wq
    have HG:=hide hg
    have uw:=hide hno
    have Du:=hide hbx
    clear hg hno
    obtain⟨z0,z1,z2,z3,z4,z5,z6,z7,z8,z9,z10,z11,z12,z13⟩:=uh yg _ hbx
    clear hbx
    by_cases hlt:i<args.length
    ·obtain⟨b,o,av,cv,rfl,hcx⟩:=uh HAX i hlt
     obtain⟨x0,hsl⟩:=hcx _ (uh Du)
     have HN:Hid (Oe k args[i]=false->R=false):=fun h=>(uh HR3).trans (Ul i hlt h)
     have HY:Hid (Oe k args[i]=true->∀j (hj:j<args.length),j<i+1->Oe k args[j]=true):=fun h j hj hji=>by
      by_cases e:j=i
      ·subst e;exact h
      ·exact uh uw j hj (by omega)
     have qg:=hide (uh a4o args[i] _ _ (uh Du) hsl)
     have hlt':(i:Int)<(args.length:Int):=by omega
     clear hcx hsl
     generalize Oe k args[i]=mb at *
     generalize args[i].length=al at *
     cases mb
     ·have HF:=hide (uh HN rfl)
      clear HN HY
      go_wp2_with fail
      refine(uh qg).mono ?_
      rintro e w5 ⟨rfl,hb5⟩
      have HB:=hide (uh mg _ (uh qp _ _ (uh Du) hb5))
      clear hb5
      go_wp2
      go_ret
      exact⟨jf (uh HF).symm,uh HB⟩
     ·have Dp:=hide (uh HY rfl)
      clear HN HY
      go_wp2_with fail
      refine(uh qg).mono ?_
      rintro e w5 ⟨rfl,hb5⟩
      have HB:=hide (uh qp _ _ (uh Du) hb5)
      clear hb5
      go_wp2
      go_roundg (args.length-(i+1))
      case measure=>have:=uh HG;omega
      case rel=>exact⟨i+1,by omega,rfl,by go_num,uh Dp,uh HB⟩
    ·have e:i=args.length:=by omega
     subst e
     have HF:Hid (R=true):=(uh HR3).trans (Qa (fun j hj=>uh uw j hj hj))
     have HB:=hide (uh mg _ (uh Du))
     go_wp2
     go_ret
     exact⟨jf (uh HF).symm,uh HB⟩
end Go.Proofs.YtlcgnbcgmljpaaaGreat
