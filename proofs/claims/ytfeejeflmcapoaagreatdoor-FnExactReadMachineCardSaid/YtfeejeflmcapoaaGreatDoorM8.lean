import Derived.Test.YtfeejeflmcapoaaGreatDoorM7
import Derived.BigRegion
set_option linter.unusedSimpArgs false
set_option linter.unusedVariables false
set_option maxHeartbeats 4000000
set_option maxRecDepth 20000
namespace Go.Proofs.YtfeejeflmcapoaaGreatDoor
open Go.RowKit
theorem anw (ks:List dw) (k:dw) (s:lu) (h:s.at_<0\/(k.ay.length:Int)<=s.at_):V7 ks k s=false:=by unfold V7;rw[gy h]
theorem ay7 (ks:List dw) (k:dw) (s:lu) (j gi:Nat) (hj:j<k.ay.length) (ha:s.at_=(j:Int)) (hgi:k.ay[j]=(gi:Int)) (hg:gi<ks.length) :
  V7 ks k s=(decide (s.au.length=ks[gi].au.length/\s.args.length=ks[gi].ins.length)&&(List.range s.au.length).all (fun i=>!Tc k s.au i)&&s.args.all (S9 k)):=by
 have e:(k.ay.getD s.at_.toNat 0).toNat=gi:=by
  rw[ha,Ed,yw,jy hj,Kw,hgi,Ed]
 unfold V7;rw[bf (by rw[ha];omega),e,jy hg]
theorem avt (k:dw) (au:List dh) (i:Nat) (hi:i<au.length):Tc k au i=(!setB k au[i]||decide (je au au[i]<(i:Int))):=by
 unfold Tc;rw[jy hi]
theorem ahz {n:Nat} {p:Nat->Bool} (i:Nat) (hi:i<n) (h:p i=true):(List.range n).all (fun j=>!p j)=false:=by
 rw[List.all_eq_false];exact⟨i,uz.2 hi,by simp[h]⟩
theorem alu {n:Nat} {p:Nat->Bool} (h:∀j,j<n->p j=false):(List.range n).all (fun j=>!p j)=true:=by
 rw[yc];intro x hx;rw[h x (uz.1 hx)];rfl
theorem as5 (ks:List dw) (k:dw) (nm:dh) (jl:Int) (au:List dh) (code:List l9) (args:List (List l9))  (a1 a2 a3 a4 a5 a6 mv ov cv av:Value) (w:cu) (hm:jc 7 160 C9 0 w mv ks) (h:Ot w k a1 a2 a3 a4 a5 a6) (h1:jc 1 16 xk 0 w ov au) (h2:jc 3 32 Gg 0 w cv code) (h3:jc 1 24 Ih 0 w av args)
  (hin:∀j (hj:j<k.ay.length),0<=k.ay[j]/\k.ay[j]<ks.length) :
  Calls Tryz.prog 83 #[.agg #[mv],.agg #[.string k.name,a1,a2,a3,a4,a5,a6],.agg #[.int .i64 3,.string nm,.int .i64 jl,ov,cv,av]] w (Ans (.bool (yg ks k ⟨3,nm,jl,au,code,args⟩)) w):=by
 have Vo:=ak (fun code v w' (hb:Below w.heap.size w w') hv=>Rk k code a1 a2 a3 a4 a5 a6 v w' (h.stays hb) hv);have HSE:=ak (fun x w' (hb:Below w.heap.size w w')=>O4 k x a1 a2 a3 a4 a5 a6 w' (h.stays hb));have HVR:=ak (fun w' (hb:Below w.heap.size w w')=>Py k a1 a2 a3 a4 a5 a6 w' (h.stays hb).ins (h.stays hb).au (h.stays hb).iw h.sum);have Xf:=ak h.ay;obtain⟨b1,c1,rfl⟩:=h.ins.shape;obtain⟨b2,c2,rfl⟩:=h.au.shape;obtain⟨b3,c3,rfl⟩:=h.iw.shape;obtain⟨b4,c4,rfl⟩:=h.gq.shape;obtain⟨b5,c5,rfl⟩:=h.ay.shape;obtain⟨b6,c6,rfl⟩:=h.body.shape;obtain⟨bm,cm,rfl⟩:=hm.shape;obtain⟨o1,p1,rfl⟩:=h1.shape;obtain⟨o2,p2,rfl⟩:=h2.shape;obtain⟨o3,p3,rfl⟩:=h3.shape;have z1:=h1.Bh;have z2:=h2.Bh;have z3:=h3.Bh;have z4:=h.gq.Bh;have z5:=h.ay.Bh;have z6:=hm.Bh;have HO:=ak h1;have HC:=ak h2;have HAA:=ak h3;have HMM:=ak hm;clear h hm h1 h2 h3;have hA:Below w.heap.size w (((w.alloc (.cells #[.slice bm ks.length cm] 24)).alloc (.cells #[.string k.name,.slice b1 k.ins.length c1,.slice b2 k.au.length c2,.slice b3 k.iw.length c3,.slice b4 k.gq.length c4,.slice b5 k.ay.length c5,.slice b6 k.body.length c6] 50)).alloc (.cells #[.int .i64 3,.string nm,.int .i64 jl,.slice o1 au.length p1,.slice o2 code.length p2,.slice o3 args.length p3] 60)):=(((iq _ _).alloc (gu _) _).alloc (by simp) _).alloc (by simp only[Dy];omega) _;have Xe:(((w.alloc (.cells #[.slice bm ks.length cm] 24)).alloc (.cells #[.string k.name,.slice b1 k.ins.length c1,.slice b2 k.au.length c2,.slice b3 k.iw.length c3,.slice b4 k.gq.length c4,.slice b5 k.ay.length c5,.slice b6 k.body.length c6] 50)).alloc (.cells #[.int .i64 3,.string nm,.int .i64 jl,.slice o1 au.length p1,.slice o2 code.length p2,.slice o3 args.length p3] 60)).heap.size=w.heap.size+3:=by simp
 have hB1:jd (((w.alloc (.cells #[.slice bm ks.length cm] 24)).alloc (.cells #[.string k.name,.slice b1 k.ins.length c1,.slice b2 k.au.length c2,.slice b3 k.iw.length c3,.slice b4 k.gq.length c4,.slice b5 k.ay.length c5,.slice b6 k.body.length c6] 50)).alloc (.cells #[.int .i64 3,.string nm,.int .i64 jl,.slice o1 au.length p1,.slice o2 code.length p2,.slice o3 args.length p3] 60)) w.heap.size 24 #[.slice bm ks.length cm]:=(oh w #[.slice bm ks.length cm] 24).below (((iq _ _).alloc (gu _) _).alloc (by simp) _) (by simp)
 have hB2:jd (((w.alloc (.cells #[.slice bm ks.length cm] 24)).alloc (.cells #[.string k.name,.slice b1 k.ins.length c1,.slice b2 k.au.length c2,.slice b3 k.iw.length c3,.slice b4 k.gq.length c4,.slice b5 k.ay.length c5,.slice b6 k.body.length c6] 50)).alloc (.cells #[.int .i64 3,.string nm,.int .i64 jl,.slice o1 au.length p1,.slice o2 code.length p2,.slice o3 args.length p3] 60)) (w.heap.size+1) 50 #[.string k.name,.slice b1 k.ins.length c1,.slice b2 k.au.length c2,.slice b3 k.iw.length c3,.slice b4 k.gq.length c4,.slice b5 k.ay.length c5,.slice b6 k.body.length c6]:=by
  have h0:=oh (w.alloc (.cells #[.slice bm ks.length cm] 24)) #[.string k.name,.slice b1 k.ins.length c1,.slice b2 k.au.length c2,.slice b3 k.iw.length c3,.slice b4 k.gq.length c4,.slice b5 k.ay.length c5,.slice b6 k.body.length c6] 50;rw[show (w.alloc (.cells #[.slice bm ks.length cm] 24)).heap.size=w.heap.size+1 from by simp] at h0;exact h0.below ((iq _ _).alloc (gu _) _) (by simp)
 have hB3:jd (((w.alloc (.cells #[.slice bm ks.length cm] 24)).alloc (.cells #[.string k.name,.slice b1 k.ins.length c1,.slice b2 k.au.length c2,.slice b3 k.iw.length c3,.slice b4 k.gq.length c4,.slice b5 k.ay.length c5,.slice b6 k.body.length c6] 50)).alloc (.cells #[.int .i64 3,.string nm,.int .i64 jl,.slice o1 au.length p1,.slice o2 code.length p2,.slice o3 args.length p3] 60)) (w.heap.size+2) 60 #[.int .i64 3,.string nm,.int .i64 jl,.slice o1 au.length p1,.slice o2 code.length p2,.slice o3 args.length p3]:=by
  have h0:=oh ((w.alloc (.cells #[.slice bm ks.length cm] 24)).alloc (.cells #[.string k.name,.slice b1 k.ins.length c1,.slice b2 k.au.length c2,.slice b3 k.iw.length c3,.slice b4 k.gq.length c4,.slice b5 k.ay.length c5,.slice b6 k.body.length c6] 50)) #[.int .i64 3,.string nm,.int .i64 jl,.slice o1 au.length p1,.slice o2 code.length p2,.slice o3 args.length p3] 60;rw[show ((w.alloc (.cells #[.slice bm ks.length cm] 24)).alloc (.cells #[.string k.name,.slice b1 k.ins.length c1,.slice b2 k.au.length c2,.slice b3 k.iw.length c3,.slice b4 k.gq.length c4,.slice b5 k.ay.length c5,.slice b6 k.body.length c6] 50)).heap.size=w.heap.size+2 from by simp] at h0;exact h0
 obtain⟨BX,mg⟩:∃BX:cu->Prop,∀w',BX w'↔Below (w.heap.size+3) (((w.alloc (.cells #[.slice bm ks.length cm] 24)).alloc (.cells #[.string k.name,.slice b1 k.ins.length c1,.slice b2 k.au.length c2,.slice b3 k.iw.length c3,.slice b4 k.gq.length c4,.slice b5 k.ay.length c5,.slice b6 k.body.length c6] 50)).alloc (.cells #[.int .i64 3,.string nm,.int .i64 jl,.slice o1 au.length p1,.slice o2 code.length p2,.slice o3 args.length p3] 60)) w':=⟨_,fun _=>Iff.rfl⟩;have Ag:Hid (∀w1,BX w1->Below w.heap.size w w1):=fun w1 h=>hA.trans (((mg w1).1 h).mono (by omega))
 have F8:Hid (∀w1 w2,BX w1->Below w1.heap.size w1 w2->BX w2):=fun w1 w2 h h2=>(mg w2).2 (((mg w1).1 h).trans (h2.mono (by have:=((mg w1).1 h).size;omega)))
 have Jo:Hid (∀w1,BX w1->w1.cell? ⟨w.heap.size,0,none⟩=some (.slice bm ks.length cm)/\w1.cell? ⟨w.heap.size+1,0,none⟩=some (.string k.name)/\w1.cell? ⟨w.heap.size+1,1,none⟩=some (.slice b1 k.ins.length c1)/\w1.cell? ⟨w.heap.size+1,2,none⟩=some (.slice b2 k.au.length c2)/\w1.cell? ⟨w.heap.size+1,3,none⟩=some (.slice b3 k.iw.length c3)/\w1.cell? ⟨w.heap.size+1,4,none⟩=some (.slice b4 k.gq.length c4)/\w1.cell? ⟨w.heap.size+1,5,none⟩=some (.slice b5 k.ay.length c5)/\w1.cell? ⟨w.heap.size+1,6,none⟩=some (.slice b6 k.body.length c6)/\w1.cell? ⟨w.heap.size+2,0,none⟩=some (.int .i64 3)/\w1.cell? ⟨w.heap.size+2,1,none⟩=some (.string nm)/\w1.cell? ⟨w.heap.size+2,2,none⟩=some (.int .i64 jl)/\w1.cell? ⟨w.heap.size+2,3,none⟩=some (.slice o1 au.length p1)/\w1.cell? ⟨w.heap.size+2,4,none⟩=some (.slice o2 code.length p2)/\w1.cell? ⟨w.heap.size+2,5,none⟩=some (.slice o3 args.length p3)):=fun w1 h=>⟨(hB1.below ((mg w1).1 h) (by omega)).cell (i:=0) (v:=.slice bm ks.length cm) rfl,(hB2.below ((mg w1).1 h) (by omega)).cell (i:=0) (v:=.string k.name) rfl,(hB2.below ((mg w1).1 h) (by omega)).cell (i:=1) (v:=.slice b1 k.ins.length c1) rfl,(hB2.below ((mg w1).1 h) (by omega)).cell (i:=2) (v:=.slice b2 k.au.length c2) rfl,(hB2.below ((mg w1).1 h) (by omega)).cell (i:=3) (v:=.slice b3 k.iw.length c3) rfl,(hB2.below ((mg w1).1 h) (by omega)).cell (i:=4) (v:=.slice b4 k.gq.length c4) rfl,(hB2.below ((mg w1).1 h) (by omega)).cell (i:=5) (v:=.slice b5 k.ay.length c5) rfl,(hB2.below ((mg w1).1 h) (by omega)).cell (i:=6) (v:=.slice b6 k.body.length c6) rfl,(hB3.below ((mg w1).1 h) (by omega)).cell (i:=0) (v:=.int .i64 3) rfl,(hB3.below ((mg w1).1 h) (by omega)).cell (i:=1) (v:=.string nm) rfl,(hB3.below ((mg w1).1 h) (by omega)).cell (i:=2) (v:=.int .i64 jl) rfl,(hB3.below ((mg w1).1 h) (by omega)).cell (i:=3) (v:=.slice o1 au.length p1) rfl,(hB3.below ((mg w1).1 h) (by omega)).cell (i:=4) (v:=.slice o2 code.length p2) rfl,(hB3.below ((mg w1).1 h) (by omega)).cell (i:=5) (v:=.slice o3 args.length p3) rfl⟩
 have HX5:Hid (∀w1,BX w1->w.heap.size+3<=w1.heap.size):=fun w1 h=>by have:=((mg w1).1 h).size;omega
 have HX0:Hid (BX (((w.alloc (.cells #[.slice bm ks.length cm] 24)).alloc (.cells #[.string k.name,.slice b1 k.ins.length c1,.slice b2 k.au.length c2,.slice b3 k.iw.length c3,.slice b4 k.gq.length c4,.slice b5 k.ay.length c5,.slice b6 k.body.length c6] 50)).alloc (.cells #[.int .i64 3,.string nm,.int .i64 jl,.slice o1 au.length p1,.slice o2 code.length p2,.slice o3 args.length p3] 60))):=(mg _).2 (iq _ _);have HXd:Hid (BX (((w.alloc (.cells #[.slice bm ks.length cm] 24)).alloc (.cells #[.string k.name,.slice b1 k.ins.length c1,.slice b2 k.au.length c2,.slice b3 k.iw.length c3,.slice b4 k.gq.length c4,.slice b5 k.ay.length c5,.slice b6 k.body.length c6] 50)).alloc (.cells #[.int .i64 3,.string nm,.int .i64 jl,.slice o1 au.length p1,.slice o2 code.length p2,.slice o3 args.length p3] 60)).drew):=(mg _).2 (iq _ _).drew;have HA:=ak hA;clear hA Xe hB1 hB2 hB3 mg
 by_cases hq:nm.size=0
 case neg =>
  have d4:=O1 nm hq;have d4':=J5 nm hq;have HF:=ak (Zr ks k ⟨3,nm,jl,au,code,args⟩ (by simp) hq);generalize yg ks k ⟨3,nm,jl,au,code,args⟩=R at *;clear hq;go_enter Tryz.func83,Tryz.ntmps83;go_wp2;go_ret;exact⟨qm (uh HF).symm,uh HA⟩
 have d4:=Na nm hq;have d4':=I9 nm hq;have Xi:=ak hq;clear hq
 by_cases hq:code.length=0
 case neg =>
  have d8:((code.length:Int) != 0)=true:=by rw[bne_iff_ne];omega
  have HF:=ak (Zt ks k ⟨3,nm,jl,au,code,args⟩ (by simp) (by simp) hq);generalize yg ks k ⟨3,nm,jl,au,code,args⟩=R at *;clear hq;go_enter Tryz.func83,Tryz.ntmps83;go_wp2;go_ret;exact⟨qm (uh HF).symm,uh HA⟩
 have d8:((code.length:Int) != 0)=false:=by rw[Ji];omega
 have Xj:=ak hq;clear hq;have HF:Hid (yg ks k ⟨3,nm,jl,au,code,args⟩=V7 ks k ⟨3,nm,jl,au,code,args⟩):=(Vm ks k ⟨3,nm,jl,au,code,args⟩ (Or.inr (Or.inr (uh Xi))) (Or.inr (Or.inl rfl)) (Or.inl rfl) (Or.inr (Or.inr (uh Xj)))).trans (by unfold Ox;rw[bf (by simp),bf (by simp),bf (by simp),bf (by simp),gy rfl]);generalize yg ks k ⟨3,nm,jl,au,code,args⟩=R at *
 by_cases h0:jl<0
 ·have e1:decide (jl<0)=true:=jf h0
  have HR:Hid (R=false):=(uh HF).trans (anw _ _ _ (Or.inl h0));clear HF;go_enter Tryz.func83,Tryz.ntmps83;go_wp2;go_ret;exact⟨qm (uh HR).symm,uh HA⟩
 have e1:decide (jl<0)=false:=iy h0
 by_cases h9:(k.ay.length:Int)<=jl
 ·have e2:decide ((k.ay.length:Int)<=jl)=true:=jf h9
  have HR:Hid (R=false):=(uh HF).trans (anw _ _ _ (Or.inr h9));clear HF;go_enter Tryz.func83,Tryz.ntmps83;go_wp2;go_ret;exact⟨qm (uh HR).symm,uh HA⟩
 have e2:decide ((k.ay.length:Int)<=jl)=false:=iy h9;obtain⟨j,rfl⟩:=Ht (show 0<=jl by omega);have hj:j<k.ay.length:=by omega
 obtain⟨gi,hgi⟩:=Ht (hin j hj).1;have hg:gi<ks.length:=by have:=(hin j hj).2;omega
 have HR:=ak ((uh HF).trans (ay7 ks k ⟨3,nm,(j:Int),au,code,args⟩ j gi hj rfl hgi hg));clear HF
 have HCI:Hid (∃ib io,b5=some ⟨ib,io,none⟩/\ib<w.heap.size/\∀w1,BX w1->w1.cell? ⟨ib,io+j,none⟩=some (.int .i64 (gi:Int))):=by
  obtain⟨ai,ci,hvi,_,_,hxi⟩:=uh Xf;simp only[qw] at hvi;obtain⟨rfl,_,rfl⟩:=hvi;obtain⟨ib,io,ics,rfl,_,hib,_,hic,⟨rfl,_⟩⟩:=hxi j hj;refine⟨ib,io,rfl,hib,fun w1 h1=>?_⟩;rw[(uh Ag _ h1).cell (p:=⟨ib,_,none⟩) hib,←hgi];have h0:=hic 0 (by simp);rw[jr,ji] at h0;exact h0
 have HCG:Hid (∃gb go gn v1 v2 v3 v4 v5 v6,bm=some ⟨gb,go,none⟩/\gb<w.heap.size/\(∃d1 e1,v1=.slice d1 ks[gi].ins.length e1)/\(∃d1 e1,v2=.slice d1 ks[gi].au.length e1)/\(∃d1 n e1,v3=.slice d1 n e1)/\(∃d1 n e1,v4=.slice d1 n e1)/\(∃d1 n e1,v5=.slice d1 n e1)/\(∃d1 n e1,v6=.slice d1 n e1)/\ks[gi].ins.length<=140737488355328/\ks[gi].au.length<=140737488355328/\∀w1,BX w1->w1.cell? ⟨gb,go+gi*7,none⟩=some (.string gn)/\w1.cell? ⟨gb,go+gi*7+1,none⟩=some v1/\w1.cell? ⟨gb,go+gi*7+2,none⟩=some v2/\w1.cell? ⟨gb,go+gi*7+3,none⟩=some v3/\w1.cell? ⟨gb,go+gi*7+4,none⟩=some v4/\w1.cell? ⟨gb,go+gi*7+5,none⟩=some v5/\w1.cell? ⟨gb,go+gi*7+6,none⟩=some v6):=by
  obtain⟨ag,cg,hvg,_,_,hxg⟩:=uh HMM;simp only[qw] at hvg;obtain⟨rfl,_,rfl⟩:=hvg;obtain⟨gb,go,gcs,rfl,_,hgb,hgl,hgc,⟨v1,v2,v3,v4,v5,v6,rfl,_,t1,t2,t3,t4,t5,t6⟩⟩:=hxg gi hg;refine⟨gb,go,ks[gi].name,v1,v2,v3,v4,v5,v6,rfl,hgb,t1.shape,t2.shape,(by obtain⟨d,e,h⟩:=t3.shape;exact⟨d,_,e,h⟩),(by obtain⟨d,e,h⟩:=t4.shape;exact⟨d,_,e,h⟩),(by obtain⟨d,e,h⟩:=t5.shape;exact⟨d,_,e,h⟩),(by obtain⟨d,e,h⟩:=t6.shape;exact⟨d,_,e,h⟩),t1.Bh,t2.Bh,fun w1 h1=>?_⟩;have hB:=uh Ag _ h1
  have hc:∀i (hi:i<7),w1.cell? ⟨gb,go+gi*7+i,none⟩=some (([.string ks[gi].name,v1,v2,v3,v4,v5,v6]:List Value)[i]):=fun i hi=>by
   rw[hB.cell (p:=⟨gb,_,none⟩) hgb];exact hgc i hi
  exact⟨hc 0 (by omega),hc 1 (by omega),hc 2 (by omega),hc 3 (by omega),hc 4 (by omega),hc 5 (by omega),hc 6 (by omega)⟩
 have hgI:(gi:Int)<(ks.length:Int):=by omega
 have hjI:(j:Int)<(k.ay.length:Int):=by omega
 generalize ks[gi].ins.length=gil at *;generalize ks[gi].au.length=gol at *;clear h0 h9 Xf HMM hin hgi;go_enter Tryz.func83,Tryz.ntmps83;go_wp2_with fail;have hz3:(((w.alloc (.cells #[.slice bm ks.length cm] 24)).alloc (.cells #[.string k.name,.slice b1 k.ins.length c1,.slice b2 k.au.length c2,.slice b3 k.iw.length c3,.slice b4 k.gq.length c4,.slice b5 k.ay.length c5,.slice b6 k.body.length c6] 50)).alloc (.cells #[.int .i64 3,.string nm,.int .i64 (j:Int),.slice o1 au.length p1,.slice o2 code.length p2,.slice o3 args.length p3] 60)).heap.size=w.heap.size+3:=by simp
 generalize (((w.alloc (.cells #[.slice bm ks.length cm] 24)).alloc (.cells #[.string k.name,.slice b1 k.ins.length c1,.slice b2 k.au.length c2,.slice b3 k.iw.length c3,.slice b4 k.gq.length c4,.slice b5 k.ay.length c5,.slice b6 k.body.length c6] 50)).alloc (.cells #[.int .i64 3,.string nm,.int .i64 (j:Int),.slice o1 au.length p1,.slice o2 code.length p2,.slice o3 args.length p3] 60))=wS at *;obtain⟨q0,q1,q2,q3,q4,q5,q6,q7,q8,q9,q10,q11,q12,q13⟩:=uh Jo _ (uh HX0);obtain⟨ib,io,rfl,hib,hic⟩:=uh HCI;obtain⟨gb,go,gn,v1,v2,v3,v4,v5,v6,rfl,hgb,⟨d1,e1',rfl⟩,⟨d2,e2',rfl⟩,⟨d3,m3,e3,rfl⟩,⟨d4,m4,e4,rfl⟩,⟨d5,m5,e5,rfl⟩,⟨d6,m6,e6,rfl⟩,x1,x2,hgc⟩:=uh HCG;clear HCI HCG;have r0:=hic _ (uh HX0);obtain⟨g0,g1,g2,g3,g4,g5,g6⟩:=hgc _ (uh HX0);have a7a:ib<wS.heap.size:=by omega
 have aft:gb<wS.heap.size:=by omega
 clear hic hgc;have n1:wS.heap.size≠ib:=by omega
 have n2:wS.heap.size≠gb:=by omega
 have n3:wS.heap.size≠w.heap.size:=by omega
 have n4:wS.heap.size≠w.heap.size+1:=by omega
 have n5:wS.heap.size≠w.heap.size+2:=by omega
 have HZ3:=ak hz3;have hzb:Below wS.heap.size wS (wS.alloc (.cells #[.string ⟨#[]⟩,.slice none 0 0,.slice none 0 0,.slice none 0 0,.slice none 0 0,.slice none 0 0,.slice none 0 0] 50)):=(iq _ _).alloc (gu _) _;have s0:=(hzb.cell (p:=⟨gb,_,none⟩) aft).trans g0;have s1:=(hzb.cell (p:=⟨gb,_,none⟩) aft).trans g1;have s2:=(hzb.cell (p:=⟨gb,_,none⟩) aft).trans g2;have s3:=(hzb.cell (p:=⟨gb,_,none⟩) aft).trans g3;have s4:=(hzb.cell (p:=⟨gb,_,none⟩) aft).trans g4;have s5:=(hzb.cell (p:=⟨gb,_,none⟩) aft).trans g5;have s6:=(hzb.cell (p:=⟨gb,_,none⟩) aft).trans g6;have s7:=(hzb.cell (p:=⟨ib,_,none⟩) a7a).trans r0;have s8:=(hzb.cell (p:=⟨w.heap.size,_,none⟩) (show w.heap.size<wS.heap.size by omega)).trans q0;have s9:=(hzb.cell (p:=⟨w.heap.size+1,_,none⟩) (show w.heap.size+1<wS.heap.size by omega)).trans q6;have s10:=(hzb.cell (p:=⟨w.heap.size+2,_,none⟩) (show w.heap.size+2<wS.heap.size by omega)).trans q10;have s11:(wS.alloc (.cells #[.string ⟨#[]⟩,.slice none 0 0,.slice none 0 0,.slice none 0 0,.slice none 0 0,.slice none 0 0,.slice none 0 0] 50)).cell? ⟨w.heap.size+1+1,2,none⟩=some (.int .i64 (j:Int)):=s10;have bcn:wS.cell? ⟨w.heap.size+1+1,2,none⟩=some (.int .i64 (j:Int)):=q10;clear hz3 a7a aft hzb;go_region;clear s0 s1 s2 s3 s4 s5 s6 s7 s8 s9 s10 s11 bcn g0 g1 g2 g3 g4 g5 g6 r0 n1 n2 n3 n4 n5 q0 q1 q2 q3 q4 q5 q6 q7 q8 q9 q10 q11 q12 q13;have hbG:=uh F8 _ _ (uh HX0) ((iq _ wS).alloc (gu _) (.cells #[.string gn,.slice d1 gil e1',.slice d2 gol e2',.slice d3 m3 e3,.slice d4 m4 e4,.slice d5 m5 e5,.slice d6 m6 e6] 50)).drew;have hGb:jd (wS.alloc (.cells #[.string gn,.slice d1 gil e1',.slice d2 gol e2',.slice d3 m3 e3,.slice d4 m4 e4,.slice d5 m5 e5,.slice d6 m6 e6] 50)).drew wS.heap.size 50 #[.string gn,.slice d1 gil e1',.slice d2 gol e2',.slice d3 m3 e3,.slice d4 m4 e4,.slice d5 m5 e5,.slice d6 m6 e6]:=oh wS #[.string gn,.slice d1 gil e1',.slice d2 gol e2',.slice d3 m3 e3,.slice d4 m4 e4,.slice d5 m5 e5,.slice d6 m6 e6] 50;have u1:=hGb.cell (i:=1) (v:=.slice d1 gil e1') rfl;have u2:=hGb.cell (i:=2) (v:=.slice d2 gol e2') rfl;generalize (wS.alloc (.cells #[.string gn,.slice d1 gil e1',.slice d2 gol e2',.slice d3 m3 e3,.slice d4 m4 e4,.slice d5 m5 e5,.slice d6 m6 e6] 50)).drew=wG at *;generalize wS.heap.size=gB at *;clear HZ3 hGb HX0 HXd HA;obtain⟨q0,q1,q2,q3,q4,q5,q6,q7,q8,q9,q10,q11,q12,q13⟩:=uh Jo _ hbG;have HBG:=ak hbG;have Bc:=ak (uh Ag _ hbG);clear hbG
 by_cases ho:au.length=gol
 case neg =>
  have c1':((au.length:Int) != (gol:Int))=true:=by rw[bne_iff_ne];omega
  have HF:Hid (R=false):=(uh HR).trans (by simp[ho]);clear HR ho;go_wp2;go_ret;exact⟨qm (uh HF).symm,uh Bc⟩
 have c1':((au.length:Int) != (gol:Int))=false:=by rw[Ji];omega
 by_cases ha:args.length=gil
 case neg =>
  have c2':((args.length:Int) != (gil:Int))=true:=by rw[bne_iff_ne];omega
  have HF:Hid (R=false):=(uh HR).trans (by simp[ha]);clear HR ho ha;go_wp2;go_ret;exact⟨qm (uh HF).symm,uh Bc⟩
 have c2':((args.length:Int) != (gil:Int))=false:=by rw[Ji];omega
 have HR2:Hid (R=((List.range au.length).all (fun i=>!Tc k au i)&&args.all (S9 k))):=(uh HR).trans (by rw[jf ⟨ho,ha⟩,Ak]);clear HR ho ha;have Fa:=ak (fun x w' (hb:BX w')=>D6 au _ x w' ((uh HO).stays zk (uh Ag _ hb)));have a7b:=ak (fun x w' (hb:BX w')=>uh HSE x w' (uh Ag _ hb));have bcp:=ak (fun code v w' (hb:BX w') hv=>uh Vo code v w' (uh Ag _ hb) hv)
 have HOX:Hid (∀i (hi:i<au.length),∃b o,o1=some ⟨b,o,none⟩/\∀w',BX w'->w'.cell? ⟨b,o+i,none⟩=some (.string au[i])):=fun i hi=>by
  obtain⟨a9,c9,Ja,_,_,Fh⟩:=uh HO;simp only[qw] at Ja;obtain⟨rfl,_,rfl⟩:=Ja;obtain⟨b,o,cs,rfl,_,hb,_,hc,⟨rfl,_⟩⟩:=Fh i hi;refine⟨b,o,rfl,fun w' h'=>?_⟩;rw[(uh Ag _ h').cell (p:=⟨b,_,none⟩) hb];have h0:=hc 0 (by simp);rw[jr,ji] at h0;exact h0
 have HAX:Hid (∀i (hi:i<args.length),∃b o av cv,o3=some ⟨b,o,none⟩/\∀w',BX w'->w'.cell? ⟨b,o+i,none⟩=some (.slice av args[i].length cv)/\jc 3 32 Gg 0 w' (.slice av args[i].length cv) args[i]):=fun i hi=>by
  obtain⟨a9,c9,Ja,_,_,Fh⟩:=uh HAA;simp only[qw] at Ja;obtain⟨rfl,_,rfl⟩:=Ja;obtain⟨b,o,cs,rfl,_,hb,_,hc,⟨v,rfl,hv⟩⟩:=Fh i hi;obtain⟨av,cv,rfl⟩:=hv.shape;refine⟨b,o,av,cv,rfl,fun w' h'=>⟨?_,hv.stays Ad (uh Ag _ h')⟩⟩;rw[(uh Ag _ h').cell (p:=⟨b,_,none⟩) hb];have h0:=hc 0 (by simp);rw[jr,ji] at h0;exact h0
 clear HO HAA HC HSE Vo HVR Xi Xj;go_wp2
 go_loopg [155] au.length (fun g iv wr=>∃(i:Nat),i<=au.length/\g=au.length-i/\iv=.int .i64 i/\(∀j,j<i->Tc k au j=false)/\BX wr)
 case atStart=>exact⟨0,jg _,by omega,rfl,fun j hj=>absurd hj (yu _),uh HBG⟩
 case round =>
  obtain⟨i,hi,hg,rfl,hno,hbx⟩:=hrel;rename cu=>wr;have HG:=ak hg;have Bo:=ak hno;have D5:=ak hbx;clear hg hno;obtain⟨r0,r1,r2,r3,r4,r5,r6,r7,r8,r9,r10,r11,r12,r13⟩:=uh Jo _ hbx;clear hbx
  by_cases hlt:i<au.length
  ·obtain⟨b,o,rfl,hcx⟩:=uh HOX i hlt
   have x0:=hcx _ (uh D5);have HOB:=ak (avt k au i hlt);have HN:Hid (Tc k au i=true->R=false):=fun h=>(uh HR2).trans (by rw[ahz i hlt h,Aw])
   have HY:Hid (Tc k au i=false->∀j,j<i+1->Tc k au j=false):=fun h j hji=>by
    by_cases e:j=i
    ·subst e;exact h
    ·exact uh Bo j (by omega)
   have Ap:=ak (uh a7b au[i] _ (uh D5));have HC2:=ak (fun w' hb=>uh Fa au[i] w' hb);have hlt':(i:Int)<(au.length:Int):=by omega
   have hpb:=Xw au au[i];clear hcx;generalize je au au[i]=pl at *;generalize Tc k au i=ob at *;generalize setB k au[i]=sb at *;generalize au[i]=x at *
   cases sb
   ·have HF:=ak (uh HN ((uh HOB).trans rfl))
    clear HN HY HOB HC2;go_wp2_with fail;refine(uh Ap).mono ?_;rintro e w5 ⟨rfl,hb5⟩;have HB:=ak (uh Ag _ (uh F8 _ _ (uh D5) hb5));clear hb5;go_wp2;go_ret;exact⟨qm (uh HF).symm,uh HB⟩
   by_cases hp:pl<(i:Int)
   ·have f1:decide (pl<(i:Int))=true:=jf hp
    have HF:=ak (uh HN ((uh HOB).trans (by rw[f1];rfl)));clear HN HY HOB;go_wp2_with fail;refine(uh Ap).mono ?_;rintro e w5 ⟨rfl,hb5⟩;have hx5:=uh F8 _ _ (uh D5) hb5;have Vh:=ak (uh HC2 _ hx5);have HB:=ak (uh Ag _ hx5);obtain⟨y0,y1,y2,y3,y4,y5,y6,y7,y8,y9,y10,y11,y12,y13⟩:=uh Jo _ hx5;clear hb5 hx5;go_wp2_with fail;refine(uh Vh).mono ?_;rintro e w6 ⟨rfl,h9⟩;obtain rfl:=h9.symm;go_wp2;go_ret;exact⟨qm (uh HF).symm,uh HB⟩
   ·have f1:decide (pl<(i:Int))=false:=iy hp
    have Lr:=ak (uh HY ((uh HOB).trans (by rw[f1];rfl)));clear HN HY HOB;go_wp2_with fail;refine(uh Ap).mono ?_;rintro e w5 ⟨rfl,hb5⟩;have hx5:=uh F8 _ _ (uh D5) hb5;have Vh:=ak (uh HC2 _ hx5);have HB:=ak hx5;obtain⟨y0,y1,y2,y3,y4,y5,y6,y7,y8,y9,y10,y11,y12,y13⟩:=uh Jo _ hx5;clear hb5 hx5;go_wp2_with fail;refine(uh Vh).mono ?_;rintro e w6 ⟨rfl,h9⟩;obtain rfl:=h9.symm;go_wp2
    go_roundg (au.length-(i+1))
    case measure=>have:=uh HG;omega
    case rel=>exact⟨i+1,by omega,rfl,by go_num,uh Lr,uh HB⟩
  ·have e:i=au.length:=by omega
   subst e;have HR3:Hid (R=args.all (S9 k)):=(uh HR2).trans (by rw[alu (uh Bo),Ak]);clear HR2 Bo HG Fa a7b HOX;go_wp2
   go_loopg [176] args.length (fun g iv wr=>∃(i:Nat),i<=args.length/\g=args.length-i/\iv=.int .i64 i/\(∀j (hj:j<args.length),j<i->S9 k args[j]=true)/\BX wr)
   case atStart=>exact⟨0,jg _,by omega,rfl,fun j _ hj=>absurd hj (yu _),uh D5⟩
   case round =>
    obtain⟨i,hi,hg,rfl,hno,hbx⟩:=hrel;rename cu=>wq;have HG:=ak hg;have Bo:=ak hno;have Qz:=ak hbx;clear hg hno;obtain⟨z0,z1,z2,z3,z4,z5,z6,z7,z8,z9,z10,z11,z12,z13⟩:=uh Jo _ hbx;clear hbx
    by_cases hlt:i<args.length
    ·obtain⟨b,o,av,cv,rfl,hcx⟩:=uh HAX i hlt
     obtain⟨x0,hsl⟩:=hcx _ (uh Qz);have HN:Hid (S9 k args[i]=false->R=false):=fun h=>(uh HR3).trans (aar i hlt h)
     have HY:Hid (S9 k args[i]=true->∀j (hj:j<args.length),j<i+1->S9 k args[j]=true):=fun h j hj hji=>by
      by_cases e:j=i
      ·subst e;exact h
      ·exact uh Bo j hj (by omega)
     have Ap:=ak (uh bcp args[i] _ _ (uh Qz) hsl);have hlt':(i:Int)<(args.length:Int):=by omega
     clear hcx hsl;generalize S9 k args[i]=mb at *;generalize args[i].length=al at *
     cases mb
     ·have HF:=ak (uh HN rfl)
      clear HN HY;go_wp2_with fail;refine(uh Ap).mono ?_;rintro e w5 ⟨rfl,hb5⟩;have HB:=ak (uh Ag _ (uh F8 _ _ (uh Qz) hb5));clear hb5;go_wp2;go_ret;exact⟨qm (uh HF).symm,uh HB⟩
     ·have Lr:=ak (uh HY rfl)
      clear HN HY;go_wp2_with fail;refine(uh Ap).mono ?_;rintro e w5 ⟨rfl,hb5⟩;have HB:=ak (uh F8 _ _ (uh Qz) hb5);clear hb5;go_wp2
      go_roundg (args.length-(i+1))
      case measure=>have:=uh HG;omega
      case rel=>exact⟨i+1,by omega,rfl,by go_num,uh Lr,uh HB⟩
    ·have e:i=args.length:=by omega
     subst e;have HF:Hid (R=true):=(uh HR3).trans (Yd (fun j hj=>uh Bo j hj hj));have HB:=ak (uh Ag _ (uh Qz));go_wp2;go_ret;exact⟨qm (uh HF).symm,uh HB⟩
end Go.Proofs.YtfeejeflmcapoaaGreatDoor
