import Derived.Test.YtfeejeflmcapoaaGreatDoorRG2
import Derived.Test.YtfeejeflmcapoaaGreatDoorRS3
set_option linter.unusedSimpArgs false
set_option linter.unusedVariables false
set_option maxHeartbeats 4000000
set_option maxRecDepth 20000
namespace Go.Proofs.YtfeejeflmcapoaaGreatDoor
open Go.RowKit
def Wn (s:lu) (x:dh):Bool:=(s.kind==1&&(s.name.toList==x.toList))||(s.kind==3&&inB s.au x)
def Tc (k:dw) (au:List dh) (i:Nat):Bool:=match au[i]? with|some x=>!setB k x||decide (je au x<(i:Int))|none=>false
def V7 (ks:List dw) (k:dw) (s:lu):Bool :=
 if s.at_<0\/(k.ay.length:Int)<=s.at_ then false
 else match ks[(k.ay.getD s.at_.toNat 0).toNat]? with
  | none=>false
  | some g=>decide (s.au.length=g.au.length/\s.args.length=g.ins.length)&&(List.range s.au.length).all (fun i=>!Tc k s.au i)&&s.args.all (S9 k)
def yg (ks:List dw) (k:dw) (s:lu):Bool :=
 if ¬(s.kind=1\/s.kind=4)/\s.name.size≠0 then false
 else if s.kind≠2/\s.kind≠3/\s.at_≠0 then false
 else if s.kind≠3/\(s.au.length≠0\/s.args.length≠0) then false
 else if s.kind≠1/\s.kind≠2/\s.code.length≠0 then false
 else if s.kind=1 then setB k s.name&&S9 k s.code
 else if s.kind=2 then decide (0<=s.at_/\s.at_<(k.gq.length:Int))&&S9 k s.code
 else if s.kind=4 then inB (varsOf k) s.name
 else if s.kind=5\/s.kind=6 then true
 else if s.kind=3 then V7 ks k s
 else false
theorem Zr (ks:List dw) (k:dw) (s:lu) (h:¬(s.kind=1\/s.kind=4)) (h2:s.name.size≠0):yg ks k s=false:=by unfold yg;rw[gy ⟨h,h2⟩]
theorem adp (ks:List dw) (k:dw) (s:lu) (h:s.kind≠2) (h1:s.kind≠3) (h2:s.at_≠0):yg ks k s=false:=by
 unfold yg
 split
 ·rfl
 ·rw[gy ⟨h,h1,h2⟩]
theorem Td (ks:List dw) (k:dw) (s:lu) (h:s.kind≠3) (h2:s.au.length≠0\/s.args.length≠0):yg ks k s=false:=by
 unfold yg
 split
 ·rfl
 split
 ·rfl
 ·rw[gy ⟨h,h2⟩]
theorem Zt (ks:List dw) (k:dw) (s:lu) (h:s.kind≠1) (h1:s.kind≠2) (h2:s.code.length≠0):yg ks k s=false:=by
 unfold yg
 split
 ·rfl
 split
 ·rfl
 split
 ·rfl
 ·rw[gy ⟨h,h1,h2⟩]
def Ox (ks:List dw) (k:dw) (s:lu):Bool :=
 if s.kind=1 then setB k s.name&&S9 k s.code
 else if s.kind=2 then decide (0<=s.at_/\s.at_<(k.gq.length:Int))&&S9 k s.code
 else if s.kind=4 then inB (varsOf k) s.name
 else if s.kind=5\/s.kind=6 then true
 else if s.kind=3 then V7 ks k s
 else false
theorem Vm (ks:List dw) (k:dw) (s:lu) (h1:s.kind=1\/s.kind=4\/s.name.size=0) (h2:s.kind=2\/s.kind=3\/s.at_=0) (h3:s.kind=3\/(s.au.length=0/\s.args.length=0)) (h4:s.kind=1\/s.kind=2\/s.code.length=0):yg ks k s=Ox ks k s:=by
 unfold yg Ox;rw[bf (by omega),bf (by omega),bf (by omega),bf (by omega)]
theorem ap5 (s:lu) (x:dh) (o c a:Value) (w:cu) (h1:jc 1 16 xk 0 w o s.au) (hc:∃b n q,c=.slice b n q) (ha:∃b n q,a=.slice b n q) :
  Calls Tryz.prog 86 #[.agg #[.int .i64 s.kind,.string s.name,.int .i64 s.at_,o,c,a],.string x] w (Ans (.bool (Wn s x)) w):=by
 obtain⟨b1,c1,rfl⟩:=h1.shape;obtain⟨b2,n2,c2,rfl⟩:=hc;obtain⟨b3,n3,c3,rfl⟩:=ha;have hA:Below w.heap.size w (w.alloc (.cells #[.int .i64 s.kind,.string s.name,.int .i64 s.at_,.slice b1 s.au.length c1,.slice b2 n2 c2,.slice b3 n3 c3] 60)):=(iq _ _).alloc (gu _) _;have HI:=ak (adi s.au _ x _ (h1.stays zk hA));have HA:=ak hA;have HW:Hid (Wn s x=((s.kind==1&&(s.name.toList==x.toList))||(s.kind==3&&inB s.au x))):=rfl;generalize Wn s x=R at *;clear hA h1;generalize inB s.au x=ib at *;generalize s.au.length=no at *;generalize s.kind=kd at *;generalize s.at_=at' at *;generalize s.name=nm at *
 by_cases h1:kd=1
 ·have y1:(kd==1)=true:=by simp[h1]
  have y3:(kd==3)=false:=by simp[h1]
  rw[y1,y3,Ak,Aw,Bool.or_false] at HW;clear h1
  cases hq:(nm.toList==x.toList)
  ·rw[hq] at HW
   go_enter Tryz.func86,Tryz.ntmps86;go_wp2;go_ret;exact⟨qm (uh HW).symm,uh HA⟩
  ·rw[hq] at HW
   go_enter Tryz.func86,Tryz.ntmps86;go_wp2;go_ret;exact⟨qm (uh HW).symm,uh HA⟩
 have y1:(kd==1)=false:=by simp[h1]
 rw[y1,Aw,Bool.false_or] at HW;clear h1
 by_cases h3:kd=3
 ·have y3:(kd==3)=true:=by simp[h3]
  rw[y3,Ak] at HW;clear h3;go_enter Tryz.func86,Tryz.ntmps86;go_wp2_with fail;refine(uh HI).mono ?_;rintro e w1 ⟨rfl,h9⟩;obtain rfl:=h9.symm;go_wp2;go_ret;exact⟨qm (uh HW).symm,uh HA⟩
 ·have y3:(kd==3)=false:=by simp[h3]
  rw[y3,Aw] at HW;clear h3;go_enter Tryz.func86,Tryz.ntmps86;go_wp2;go_ret;exact⟨qm (uh HW).symm,uh HA⟩
theorem asy (ks:List dw) (k:dw) (nm:dh) (jl:Int) (au:List dh) (code:List l9) (args:List (List l9))  (a1 a2 a3 a4 a5 a6 mv ov cv av:Value) (w:cu) (hm:jc 7 160 C9 0 w mv ks) (h:Ot w k a1 a2 a3 a4 a5 a6) (h1:jc 1 16 xk 0 w ov au) (h2:jc 3 32 Gg 0 w cv code) (h3:jc 1 24 Ih 0 w av args)
  (hin:∀j (hj:j<k.ay.length),0<=k.ay[j]/\k.ay[j]<ks.length) :
  Calls Tryz.prog 83 #[.agg #[mv],.agg #[.string k.name,a1,a2,a3,a4,a5,a6],.agg #[.int .i64 5,.string nm,.int .i64 jl,ov,cv,av]] w (Ans (.bool (yg ks k ⟨5,nm,jl,au,code,args⟩)) w):=by
 have Vo:=ak (fun code v w' (hb:Below w.heap.size w w') hv=>Rk k code a1 a2 a3 a4 a5 a6 v w' (h.stays hb) hv);have HSE:=ak (fun x w' (hb:Below w.heap.size w w')=>O4 k x a1 a2 a3 a4 a5 a6 w' (h.stays hb));have HVR:=ak (fun w' (hb:Below w.heap.size w w')=>Py k a1 a2 a3 a4 a5 a6 w' (h.stays hb).ins (h.stays hb).au (h.stays hb).iw h.sum);have Xf:=ak h.ay;obtain⟨b1,c1,rfl⟩:=h.ins.shape;obtain⟨b2,c2,rfl⟩:=h.au.shape;obtain⟨b3,c3,rfl⟩:=h.iw.shape;obtain⟨b4,c4,rfl⟩:=h.gq.shape;obtain⟨b5,c5,rfl⟩:=h.ay.shape;obtain⟨b6,c6,rfl⟩:=h.body.shape;obtain⟨bm,cm,rfl⟩:=hm.shape;obtain⟨o1,p1,rfl⟩:=h1.shape;obtain⟨o2,p2,rfl⟩:=h2.shape;obtain⟨o3,p3,rfl⟩:=h3.shape;have z1:=h1.Bh;have z2:=h2.Bh;have z3:=h3.Bh;have z4:=h.gq.Bh;have z5:=h.ay.Bh;have z6:=hm.Bh;have HO:=ak h1;have HC:=ak h2;have HAA:=ak h3;have HMM:=ak hm;clear h hm h1 h2 h3;have hA:Below w.heap.size w (((w.alloc (.cells #[.slice bm ks.length cm] 24)).alloc (.cells #[.string k.name,.slice b1 k.ins.length c1,.slice b2 k.au.length c2,.slice b3 k.iw.length c3,.slice b4 k.gq.length c4,.slice b5 k.ay.length c5,.slice b6 k.body.length c6] 50)).alloc (.cells #[.int .i64 5,.string nm,.int .i64 jl,.slice o1 au.length p1,.slice o2 code.length p2,.slice o3 args.length p3] 60)):=(((iq _ _).alloc (gu _) _).alloc (by simp) _).alloc (by simp only[Dy];omega) _;have Xe:(((w.alloc (.cells #[.slice bm ks.length cm] 24)).alloc (.cells #[.string k.name,.slice b1 k.ins.length c1,.slice b2 k.au.length c2,.slice b3 k.iw.length c3,.slice b4 k.gq.length c4,.slice b5 k.ay.length c5,.slice b6 k.body.length c6] 50)).alloc (.cells #[.int .i64 5,.string nm,.int .i64 jl,.slice o1 au.length p1,.slice o2 code.length p2,.slice o3 args.length p3] 60)).heap.size=w.heap.size+3:=by simp
 have hB1:jd (((w.alloc (.cells #[.slice bm ks.length cm] 24)).alloc (.cells #[.string k.name,.slice b1 k.ins.length c1,.slice b2 k.au.length c2,.slice b3 k.iw.length c3,.slice b4 k.gq.length c4,.slice b5 k.ay.length c5,.slice b6 k.body.length c6] 50)).alloc (.cells #[.int .i64 5,.string nm,.int .i64 jl,.slice o1 au.length p1,.slice o2 code.length p2,.slice o3 args.length p3] 60)) w.heap.size 24 #[.slice bm ks.length cm]:=(oh w #[.slice bm ks.length cm] 24).below (((iq _ _).alloc (gu _) _).alloc (by simp) _) (by simp)
 have hB2:jd (((w.alloc (.cells #[.slice bm ks.length cm] 24)).alloc (.cells #[.string k.name,.slice b1 k.ins.length c1,.slice b2 k.au.length c2,.slice b3 k.iw.length c3,.slice b4 k.gq.length c4,.slice b5 k.ay.length c5,.slice b6 k.body.length c6] 50)).alloc (.cells #[.int .i64 5,.string nm,.int .i64 jl,.slice o1 au.length p1,.slice o2 code.length p2,.slice o3 args.length p3] 60)) (w.heap.size+1) 50 #[.string k.name,.slice b1 k.ins.length c1,.slice b2 k.au.length c2,.slice b3 k.iw.length c3,.slice b4 k.gq.length c4,.slice b5 k.ay.length c5,.slice b6 k.body.length c6]:=by
  have h0:=oh (w.alloc (.cells #[.slice bm ks.length cm] 24)) #[.string k.name,.slice b1 k.ins.length c1,.slice b2 k.au.length c2,.slice b3 k.iw.length c3,.slice b4 k.gq.length c4,.slice b5 k.ay.length c5,.slice b6 k.body.length c6] 50;rw[show (w.alloc (.cells #[.slice bm ks.length cm] 24)).heap.size=w.heap.size+1 from by simp] at h0;exact h0.below ((iq _ _).alloc (gu _) _) (by simp)
 have hB3:jd (((w.alloc (.cells #[.slice bm ks.length cm] 24)).alloc (.cells #[.string k.name,.slice b1 k.ins.length c1,.slice b2 k.au.length c2,.slice b3 k.iw.length c3,.slice b4 k.gq.length c4,.slice b5 k.ay.length c5,.slice b6 k.body.length c6] 50)).alloc (.cells #[.int .i64 5,.string nm,.int .i64 jl,.slice o1 au.length p1,.slice o2 code.length p2,.slice o3 args.length p3] 60)) (w.heap.size+2) 60 #[.int .i64 5,.string nm,.int .i64 jl,.slice o1 au.length p1,.slice o2 code.length p2,.slice o3 args.length p3]:=by
  have h0:=oh ((w.alloc (.cells #[.slice bm ks.length cm] 24)).alloc (.cells #[.string k.name,.slice b1 k.ins.length c1,.slice b2 k.au.length c2,.slice b3 k.iw.length c3,.slice b4 k.gq.length c4,.slice b5 k.ay.length c5,.slice b6 k.body.length c6] 50)) #[.int .i64 5,.string nm,.int .i64 jl,.slice o1 au.length p1,.slice o2 code.length p2,.slice o3 args.length p3] 60;rw[show ((w.alloc (.cells #[.slice bm ks.length cm] 24)).alloc (.cells #[.string k.name,.slice b1 k.ins.length c1,.slice b2 k.au.length c2,.slice b3 k.iw.length c3,.slice b4 k.gq.length c4,.slice b5 k.ay.length c5,.slice b6 k.body.length c6] 50)).heap.size=w.heap.size+2 from by simp] at h0;exact h0
 obtain⟨BX,mg⟩:∃BX:cu->Prop,∀w',BX w'↔Below (w.heap.size+3) (((w.alloc (.cells #[.slice bm ks.length cm] 24)).alloc (.cells #[.string k.name,.slice b1 k.ins.length c1,.slice b2 k.au.length c2,.slice b3 k.iw.length c3,.slice b4 k.gq.length c4,.slice b5 k.ay.length c5,.slice b6 k.body.length c6] 50)).alloc (.cells #[.int .i64 5,.string nm,.int .i64 jl,.slice o1 au.length p1,.slice o2 code.length p2,.slice o3 args.length p3] 60)) w':=⟨_,fun _=>Iff.rfl⟩;have Ag:Hid (∀w1,BX w1->Below w.heap.size w w1):=fun w1 h=>hA.trans (((mg w1).1 h).mono (by omega))
 have F8:Hid (∀w1 w2,BX w1->Below w1.heap.size w1 w2->BX w2):=fun w1 w2 h h2=>(mg w2).2 (((mg w1).1 h).trans (h2.mono (by have:=((mg w1).1 h).size;omega)))
 have Jo:Hid (∀w1,BX w1->w1.cell? ⟨w.heap.size,0,none⟩=some (.slice bm ks.length cm)/\w1.cell? ⟨w.heap.size+1,0,none⟩=some (.string k.name)/\w1.cell? ⟨w.heap.size+1,1,none⟩=some (.slice b1 k.ins.length c1)/\w1.cell? ⟨w.heap.size+1,2,none⟩=some (.slice b2 k.au.length c2)/\w1.cell? ⟨w.heap.size+1,3,none⟩=some (.slice b3 k.iw.length c3)/\w1.cell? ⟨w.heap.size+1,4,none⟩=some (.slice b4 k.gq.length c4)/\w1.cell? ⟨w.heap.size+1,5,none⟩=some (.slice b5 k.ay.length c5)/\w1.cell? ⟨w.heap.size+1,6,none⟩=some (.slice b6 k.body.length c6)/\w1.cell? ⟨w.heap.size+2,0,none⟩=some (.int .i64 5)/\w1.cell? ⟨w.heap.size+2,1,none⟩=some (.string nm)/\w1.cell? ⟨w.heap.size+2,2,none⟩=some (.int .i64 jl)/\w1.cell? ⟨w.heap.size+2,3,none⟩=some (.slice o1 au.length p1)/\w1.cell? ⟨w.heap.size+2,4,none⟩=some (.slice o2 code.length p2)/\w1.cell? ⟨w.heap.size+2,5,none⟩=some (.slice o3 args.length p3)):=fun w1 h=>⟨(hB1.below ((mg w1).1 h) (by omega)).cell (i:=0) (v:=.slice bm ks.length cm) rfl,(hB2.below ((mg w1).1 h) (by omega)).cell (i:=0) (v:=.string k.name) rfl,(hB2.below ((mg w1).1 h) (by omega)).cell (i:=1) (v:=.slice b1 k.ins.length c1) rfl,(hB2.below ((mg w1).1 h) (by omega)).cell (i:=2) (v:=.slice b2 k.au.length c2) rfl,(hB2.below ((mg w1).1 h) (by omega)).cell (i:=3) (v:=.slice b3 k.iw.length c3) rfl,(hB2.below ((mg w1).1 h) (by omega)).cell (i:=4) (v:=.slice b4 k.gq.length c4) rfl,(hB2.below ((mg w1).1 h) (by omega)).cell (i:=5) (v:=.slice b5 k.ay.length c5) rfl,(hB2.below ((mg w1).1 h) (by omega)).cell (i:=6) (v:=.slice b6 k.body.length c6) rfl,(hB3.below ((mg w1).1 h) (by omega)).cell (i:=0) (v:=.int .i64 5) rfl,(hB3.below ((mg w1).1 h) (by omega)).cell (i:=1) (v:=.string nm) rfl,(hB3.below ((mg w1).1 h) (by omega)).cell (i:=2) (v:=.int .i64 jl) rfl,(hB3.below ((mg w1).1 h) (by omega)).cell (i:=3) (v:=.slice o1 au.length p1) rfl,(hB3.below ((mg w1).1 h) (by omega)).cell (i:=4) (v:=.slice o2 code.length p2) rfl,(hB3.below ((mg w1).1 h) (by omega)).cell (i:=5) (v:=.slice o3 args.length p3) rfl⟩
 have HX5:Hid (∀w1,BX w1->w.heap.size+3<=w1.heap.size):=fun w1 h=>by have:=((mg w1).1 h).size;omega
 have HX0:Hid (BX (((w.alloc (.cells #[.slice bm ks.length cm] 24)).alloc (.cells #[.string k.name,.slice b1 k.ins.length c1,.slice b2 k.au.length c2,.slice b3 k.iw.length c3,.slice b4 k.gq.length c4,.slice b5 k.ay.length c5,.slice b6 k.body.length c6] 50)).alloc (.cells #[.int .i64 5,.string nm,.int .i64 jl,.slice o1 au.length p1,.slice o2 code.length p2,.slice o3 args.length p3] 60))):=(mg _).2 (iq _ _);have HXd:Hid (BX (((w.alloc (.cells #[.slice bm ks.length cm] 24)).alloc (.cells #[.string k.name,.slice b1 k.ins.length c1,.slice b2 k.au.length c2,.slice b3 k.iw.length c3,.slice b4 k.gq.length c4,.slice b5 k.ay.length c5,.slice b6 k.body.length c6] 50)).alloc (.cells #[.int .i64 5,.string nm,.int .i64 jl,.slice o1 au.length p1,.slice o2 code.length p2,.slice o3 args.length p3] 60)).drew):=(mg _).2 (iq _ _).drew;have HA:=ak hA;clear hA Xe hB1 hB2 hB3 mg
 by_cases hq:nm.size=0
 case neg =>
  have d4:=O1 nm hq;have d4':=J5 nm hq;have HF:=ak (Zr ks k ⟨5,nm,jl,au,code,args⟩ (by simp) hq);generalize yg ks k ⟨5,nm,jl,au,code,args⟩=R at *;clear hq;go_enter Tryz.func83,Tryz.ntmps83;go_wp2;go_ret;exact⟨qm (uh HF).symm,uh HA⟩
 have d4:=Na nm hq;have d4':=I9 nm hq;have Xi:=ak hq;clear hq
 by_cases hq:jl=0
 case neg =>
  have d5:(jl != 0)=true:=by simp[hq]
  have HF:=ak (adp ks k ⟨5,nm,jl,au,code,args⟩ (by simp) (by simp) hq);generalize yg ks k ⟨5,nm,jl,au,code,args⟩=R at *;clear hq;go_enter Tryz.func83,Tryz.ntmps83;go_wp2;go_ret;exact⟨qm (uh HF).symm,uh HA⟩
 have d5:(jl != 0)=false:=by simp[hq]
 have aeo:=ak hq;clear hq
 by_cases hq:au.length=0
 case neg =>
  have d6:((au.length:Int) != 0)=true:=by rw[bne_iff_ne];omega
  have HF:=ak (Td ks k ⟨5,nm,jl,au,code,args⟩ (by simp) (Or.inl hq));generalize yg ks k ⟨5,nm,jl,au,code,args⟩=R at *;clear hq;go_enter Tryz.func83,Tryz.ntmps83;go_wp2;go_ret;exact⟨qm (uh HF).symm,uh HA⟩
 have d6:((au.length:Int) != 0)=false:=by rw[Ji];omega
 have Vp:=ak hq;clear hq
 by_cases hq:args.length=0
 case neg =>
  have d7:((args.length:Int) != 0)=true:=by rw[bne_iff_ne];omega
  have HF:=ak (Td ks k ⟨5,nm,jl,au,code,args⟩ (by simp) (Or.inr hq));generalize yg ks k ⟨5,nm,jl,au,code,args⟩=R at *;clear hq;go_enter Tryz.func83,Tryz.ntmps83;go_wp2;go_ret;exact⟨qm (uh HF).symm,uh HA⟩
 have d7:((args.length:Int) != 0)=false:=by rw[Ji];omega
 have Vq:=ak hq;clear hq
 by_cases hq:code.length=0
 case neg =>
  have d8:((code.length:Int) != 0)=true:=by rw[bne_iff_ne];omega
  have HF:=ak (Zt ks k ⟨5,nm,jl,au,code,args⟩ (by simp) (by simp) hq);generalize yg ks k ⟨5,nm,jl,au,code,args⟩=R at *;clear hq;go_enter Tryz.func83,Tryz.ntmps83;go_wp2;go_ret;exact⟨qm (uh HF).symm,uh HA⟩
 have d8:((code.length:Int) != 0)=false:=by rw[Ji];omega
 have Xj:=ak hq;clear hq;have HF:Hid (yg ks k ⟨5,nm,jl,au,code,args⟩=true):=(Vm ks k ⟨5,nm,jl,au,code,args⟩ (Or.inr (Or.inr (uh Xi))) (Or.inr (Or.inr (uh aeo))) (Or.inr ⟨uh Vp,uh Vq⟩) (Or.inr (Or.inr (uh Xj)))).trans (by unfold Ox;simp);generalize yg ks k ⟨5,nm,jl,au,code,args⟩=R at *;go_enter Tryz.func83,Tryz.ntmps83;go_wp2;go_ret;exact⟨qm (uh HF).symm,uh HA⟩
theorem asz (ks:List dw) (k:dw) (nm:dh) (jl:Int) (au:List dh) (code:List l9) (args:List (List l9))  (a1 a2 a3 a4 a5 a6 mv ov cv av:Value) (w:cu) (hm:jc 7 160 C9 0 w mv ks) (h:Ot w k a1 a2 a3 a4 a5 a6) (h1:jc 1 16 xk 0 w ov au) (h2:jc 3 32 Gg 0 w cv code) (h3:jc 1 24 Ih 0 w av args)
  (hin:∀j (hj:j<k.ay.length),0<=k.ay[j]/\k.ay[j]<ks.length) :
  Calls Tryz.prog 83 #[.agg #[mv],.agg #[.string k.name,a1,a2,a3,a4,a5,a6],.agg #[.int .i64 6,.string nm,.int .i64 jl,ov,cv,av]] w (Ans (.bool (yg ks k ⟨6,nm,jl,au,code,args⟩)) w):=by
 have Vo:=ak (fun code v w' (hb:Below w.heap.size w w') hv=>Rk k code a1 a2 a3 a4 a5 a6 v w' (h.stays hb) hv);have HSE:=ak (fun x w' (hb:Below w.heap.size w w')=>O4 k x a1 a2 a3 a4 a5 a6 w' (h.stays hb));have HVR:=ak (fun w' (hb:Below w.heap.size w w')=>Py k a1 a2 a3 a4 a5 a6 w' (h.stays hb).ins (h.stays hb).au (h.stays hb).iw h.sum);have Xf:=ak h.ay;obtain⟨b1,c1,rfl⟩:=h.ins.shape;obtain⟨b2,c2,rfl⟩:=h.au.shape;obtain⟨b3,c3,rfl⟩:=h.iw.shape;obtain⟨b4,c4,rfl⟩:=h.gq.shape;obtain⟨b5,c5,rfl⟩:=h.ay.shape;obtain⟨b6,c6,rfl⟩:=h.body.shape;obtain⟨bm,cm,rfl⟩:=hm.shape;obtain⟨o1,p1,rfl⟩:=h1.shape;obtain⟨o2,p2,rfl⟩:=h2.shape;obtain⟨o3,p3,rfl⟩:=h3.shape;have z1:=h1.Bh;have z2:=h2.Bh;have z3:=h3.Bh;have z4:=h.gq.Bh;have z5:=h.ay.Bh;have z6:=hm.Bh;have HO:=ak h1;have HC:=ak h2;have HAA:=ak h3;have HMM:=ak hm;clear h hm h1 h2 h3;have hA:Below w.heap.size w (((w.alloc (.cells #[.slice bm ks.length cm] 24)).alloc (.cells #[.string k.name,.slice b1 k.ins.length c1,.slice b2 k.au.length c2,.slice b3 k.iw.length c3,.slice b4 k.gq.length c4,.slice b5 k.ay.length c5,.slice b6 k.body.length c6] 50)).alloc (.cells #[.int .i64 6,.string nm,.int .i64 jl,.slice o1 au.length p1,.slice o2 code.length p2,.slice o3 args.length p3] 60)):=(((iq _ _).alloc (gu _) _).alloc (by simp) _).alloc (by simp only[Dy];omega) _;have Xe:(((w.alloc (.cells #[.slice bm ks.length cm] 24)).alloc (.cells #[.string k.name,.slice b1 k.ins.length c1,.slice b2 k.au.length c2,.slice b3 k.iw.length c3,.slice b4 k.gq.length c4,.slice b5 k.ay.length c5,.slice b6 k.body.length c6] 50)).alloc (.cells #[.int .i64 6,.string nm,.int .i64 jl,.slice o1 au.length p1,.slice o2 code.length p2,.slice o3 args.length p3] 60)).heap.size=w.heap.size+3:=by simp
 have hB1:jd (((w.alloc (.cells #[.slice bm ks.length cm] 24)).alloc (.cells #[.string k.name,.slice b1 k.ins.length c1,.slice b2 k.au.length c2,.slice b3 k.iw.length c3,.slice b4 k.gq.length c4,.slice b5 k.ay.length c5,.slice b6 k.body.length c6] 50)).alloc (.cells #[.int .i64 6,.string nm,.int .i64 jl,.slice o1 au.length p1,.slice o2 code.length p2,.slice o3 args.length p3] 60)) w.heap.size 24 #[.slice bm ks.length cm]:=(oh w #[.slice bm ks.length cm] 24).below (((iq _ _).alloc (gu _) _).alloc (by simp) _) (by simp)
 have hB2:jd (((w.alloc (.cells #[.slice bm ks.length cm] 24)).alloc (.cells #[.string k.name,.slice b1 k.ins.length c1,.slice b2 k.au.length c2,.slice b3 k.iw.length c3,.slice b4 k.gq.length c4,.slice b5 k.ay.length c5,.slice b6 k.body.length c6] 50)).alloc (.cells #[.int .i64 6,.string nm,.int .i64 jl,.slice o1 au.length p1,.slice o2 code.length p2,.slice o3 args.length p3] 60)) (w.heap.size+1) 50 #[.string k.name,.slice b1 k.ins.length c1,.slice b2 k.au.length c2,.slice b3 k.iw.length c3,.slice b4 k.gq.length c4,.slice b5 k.ay.length c5,.slice b6 k.body.length c6]:=by
  have h0:=oh (w.alloc (.cells #[.slice bm ks.length cm] 24)) #[.string k.name,.slice b1 k.ins.length c1,.slice b2 k.au.length c2,.slice b3 k.iw.length c3,.slice b4 k.gq.length c4,.slice b5 k.ay.length c5,.slice b6 k.body.length c6] 50;rw[show (w.alloc (.cells #[.slice bm ks.length cm] 24)).heap.size=w.heap.size+1 from by simp] at h0;exact h0.below ((iq _ _).alloc (gu _) _) (by simp)
 have hB3:jd (((w.alloc (.cells #[.slice bm ks.length cm] 24)).alloc (.cells #[.string k.name,.slice b1 k.ins.length c1,.slice b2 k.au.length c2,.slice b3 k.iw.length c3,.slice b4 k.gq.length c4,.slice b5 k.ay.length c5,.slice b6 k.body.length c6] 50)).alloc (.cells #[.int .i64 6,.string nm,.int .i64 jl,.slice o1 au.length p1,.slice o2 code.length p2,.slice o3 args.length p3] 60)) (w.heap.size+2) 60 #[.int .i64 6,.string nm,.int .i64 jl,.slice o1 au.length p1,.slice o2 code.length p2,.slice o3 args.length p3]:=by
  have h0:=oh ((w.alloc (.cells #[.slice bm ks.length cm] 24)).alloc (.cells #[.string k.name,.slice b1 k.ins.length c1,.slice b2 k.au.length c2,.slice b3 k.iw.length c3,.slice b4 k.gq.length c4,.slice b5 k.ay.length c5,.slice b6 k.body.length c6] 50)) #[.int .i64 6,.string nm,.int .i64 jl,.slice o1 au.length p1,.slice o2 code.length p2,.slice o3 args.length p3] 60;rw[show ((w.alloc (.cells #[.slice bm ks.length cm] 24)).alloc (.cells #[.string k.name,.slice b1 k.ins.length c1,.slice b2 k.au.length c2,.slice b3 k.iw.length c3,.slice b4 k.gq.length c4,.slice b5 k.ay.length c5,.slice b6 k.body.length c6] 50)).heap.size=w.heap.size+2 from by simp] at h0;exact h0
 obtain⟨BX,mg⟩:∃BX:cu->Prop,∀w',BX w'↔Below (w.heap.size+3) (((w.alloc (.cells #[.slice bm ks.length cm] 24)).alloc (.cells #[.string k.name,.slice b1 k.ins.length c1,.slice b2 k.au.length c2,.slice b3 k.iw.length c3,.slice b4 k.gq.length c4,.slice b5 k.ay.length c5,.slice b6 k.body.length c6] 50)).alloc (.cells #[.int .i64 6,.string nm,.int .i64 jl,.slice o1 au.length p1,.slice o2 code.length p2,.slice o3 args.length p3] 60)) w':=⟨_,fun _=>Iff.rfl⟩;have Ag:Hid (∀w1,BX w1->Below w.heap.size w w1):=fun w1 h=>hA.trans (((mg w1).1 h).mono (by omega))
 have F8:Hid (∀w1 w2,BX w1->Below w1.heap.size w1 w2->BX w2):=fun w1 w2 h h2=>(mg w2).2 (((mg w1).1 h).trans (h2.mono (by have:=((mg w1).1 h).size;omega)))
 have Jo:Hid (∀w1,BX w1->w1.cell? ⟨w.heap.size,0,none⟩=some (.slice bm ks.length cm)/\w1.cell? ⟨w.heap.size+1,0,none⟩=some (.string k.name)/\w1.cell? ⟨w.heap.size+1,1,none⟩=some (.slice b1 k.ins.length c1)/\w1.cell? ⟨w.heap.size+1,2,none⟩=some (.slice b2 k.au.length c2)/\w1.cell? ⟨w.heap.size+1,3,none⟩=some (.slice b3 k.iw.length c3)/\w1.cell? ⟨w.heap.size+1,4,none⟩=some (.slice b4 k.gq.length c4)/\w1.cell? ⟨w.heap.size+1,5,none⟩=some (.slice b5 k.ay.length c5)/\w1.cell? ⟨w.heap.size+1,6,none⟩=some (.slice b6 k.body.length c6)/\w1.cell? ⟨w.heap.size+2,0,none⟩=some (.int .i64 6)/\w1.cell? ⟨w.heap.size+2,1,none⟩=some (.string nm)/\w1.cell? ⟨w.heap.size+2,2,none⟩=some (.int .i64 jl)/\w1.cell? ⟨w.heap.size+2,3,none⟩=some (.slice o1 au.length p1)/\w1.cell? ⟨w.heap.size+2,4,none⟩=some (.slice o2 code.length p2)/\w1.cell? ⟨w.heap.size+2,5,none⟩=some (.slice o3 args.length p3)):=fun w1 h=>⟨(hB1.below ((mg w1).1 h) (by omega)).cell (i:=0) (v:=.slice bm ks.length cm) rfl,(hB2.below ((mg w1).1 h) (by omega)).cell (i:=0) (v:=.string k.name) rfl,(hB2.below ((mg w1).1 h) (by omega)).cell (i:=1) (v:=.slice b1 k.ins.length c1) rfl,(hB2.below ((mg w1).1 h) (by omega)).cell (i:=2) (v:=.slice b2 k.au.length c2) rfl,(hB2.below ((mg w1).1 h) (by omega)).cell (i:=3) (v:=.slice b3 k.iw.length c3) rfl,(hB2.below ((mg w1).1 h) (by omega)).cell (i:=4) (v:=.slice b4 k.gq.length c4) rfl,(hB2.below ((mg w1).1 h) (by omega)).cell (i:=5) (v:=.slice b5 k.ay.length c5) rfl,(hB2.below ((mg w1).1 h) (by omega)).cell (i:=6) (v:=.slice b6 k.body.length c6) rfl,(hB3.below ((mg w1).1 h) (by omega)).cell (i:=0) (v:=.int .i64 6) rfl,(hB3.below ((mg w1).1 h) (by omega)).cell (i:=1) (v:=.string nm) rfl,(hB3.below ((mg w1).1 h) (by omega)).cell (i:=2) (v:=.int .i64 jl) rfl,(hB3.below ((mg w1).1 h) (by omega)).cell (i:=3) (v:=.slice o1 au.length p1) rfl,(hB3.below ((mg w1).1 h) (by omega)).cell (i:=4) (v:=.slice o2 code.length p2) rfl,(hB3.below ((mg w1).1 h) (by omega)).cell (i:=5) (v:=.slice o3 args.length p3) rfl⟩
 have HX5:Hid (∀w1,BX w1->w.heap.size+3<=w1.heap.size):=fun w1 h=>by have:=((mg w1).1 h).size;omega
 have HX0:Hid (BX (((w.alloc (.cells #[.slice bm ks.length cm] 24)).alloc (.cells #[.string k.name,.slice b1 k.ins.length c1,.slice b2 k.au.length c2,.slice b3 k.iw.length c3,.slice b4 k.gq.length c4,.slice b5 k.ay.length c5,.slice b6 k.body.length c6] 50)).alloc (.cells #[.int .i64 6,.string nm,.int .i64 jl,.slice o1 au.length p1,.slice o2 code.length p2,.slice o3 args.length p3] 60))):=(mg _).2 (iq _ _);have HXd:Hid (BX (((w.alloc (.cells #[.slice bm ks.length cm] 24)).alloc (.cells #[.string k.name,.slice b1 k.ins.length c1,.slice b2 k.au.length c2,.slice b3 k.iw.length c3,.slice b4 k.gq.length c4,.slice b5 k.ay.length c5,.slice b6 k.body.length c6] 50)).alloc (.cells #[.int .i64 6,.string nm,.int .i64 jl,.slice o1 au.length p1,.slice o2 code.length p2,.slice o3 args.length p3] 60)).drew):=(mg _).2 (iq _ _).drew;have HA:=ak hA;clear hA Xe hB1 hB2 hB3 mg
 by_cases hq:nm.size=0
 case neg =>
  have d4:=O1 nm hq;have d4':=J5 nm hq;have HF:=ak (Zr ks k ⟨6,nm,jl,au,code,args⟩ (by simp) hq);generalize yg ks k ⟨6,nm,jl,au,code,args⟩=R at *;clear hq;go_enter Tryz.func83,Tryz.ntmps83;go_wp2;go_ret;exact⟨qm (uh HF).symm,uh HA⟩
 have d4:=Na nm hq;have d4':=I9 nm hq;have Xi:=ak hq;clear hq
 by_cases hq:jl=0
 case neg =>
  have d5:(jl != 0)=true:=by simp[hq]
  have HF:=ak (adp ks k ⟨6,nm,jl,au,code,args⟩ (by simp) (by simp) hq);generalize yg ks k ⟨6,nm,jl,au,code,args⟩=R at *;clear hq;go_enter Tryz.func83,Tryz.ntmps83;go_wp2;go_ret;exact⟨qm (uh HF).symm,uh HA⟩
 have d5:(jl != 0)=false:=by simp[hq]
 have aeo:=ak hq;clear hq
 by_cases hq:au.length=0
 case neg =>
  have d6:((au.length:Int) != 0)=true:=by rw[bne_iff_ne];omega
  have HF:=ak (Td ks k ⟨6,nm,jl,au,code,args⟩ (by simp) (Or.inl hq));generalize yg ks k ⟨6,nm,jl,au,code,args⟩=R at *;clear hq;go_enter Tryz.func83,Tryz.ntmps83;go_wp2;go_ret;exact⟨qm (uh HF).symm,uh HA⟩
 have d6:((au.length:Int) != 0)=false:=by rw[Ji];omega
 have Vp:=ak hq;clear hq
 by_cases hq:args.length=0
 case neg =>
  have d7:((args.length:Int) != 0)=true:=by rw[bne_iff_ne];omega
  have HF:=ak (Td ks k ⟨6,nm,jl,au,code,args⟩ (by simp) (Or.inr hq));generalize yg ks k ⟨6,nm,jl,au,code,args⟩=R at *;clear hq;go_enter Tryz.func83,Tryz.ntmps83;go_wp2;go_ret;exact⟨qm (uh HF).symm,uh HA⟩
 have d7:((args.length:Int) != 0)=false:=by rw[Ji];omega
 have Vq:=ak hq;clear hq
 by_cases hq:code.length=0
 case neg =>
  have d8:((code.length:Int) != 0)=true:=by rw[bne_iff_ne];omega
  have HF:=ak (Zt ks k ⟨6,nm,jl,au,code,args⟩ (by simp) (by simp) hq);generalize yg ks k ⟨6,nm,jl,au,code,args⟩=R at *;clear hq;go_enter Tryz.func83,Tryz.ntmps83;go_wp2;go_ret;exact⟨qm (uh HF).symm,uh HA⟩
 have d8:((code.length:Int) != 0)=false:=by rw[Ji];omega
 have Xj:=ak hq;clear hq;have HF:Hid (yg ks k ⟨6,nm,jl,au,code,args⟩=true):=(Vm ks k ⟨6,nm,jl,au,code,args⟩ (Or.inr (Or.inr (uh Xi))) (Or.inr (Or.inr (uh aeo))) (Or.inr ⟨uh Vp,uh Vq⟩) (Or.inr (Or.inr (uh Xj)))).trans (by unfold Ox;simp);generalize yg ks k ⟨6,nm,jl,au,code,args⟩=R at *;go_enter Tryz.func83,Tryz.ntmps83;go_wp2;go_ret;exact⟨qm (uh HF).symm,uh HA⟩
theorem ams (ks:List dw) (k:dw) (nm:dh) (jl:Int) (au:List dh) (code:List l9) (args:List (List l9)) (kd:Int) (hkd:kd≠1/\kd≠2/\kd≠3/\kd≠4/\kd≠5/\kd≠6) (a1 a2 a3 a4 a5 a6 mv ov cv av:Value) (w:cu) (hm:jc 7 160 C9 0 w mv ks) (h:Ot w k a1 a2 a3 a4 a5 a6) (h1:jc 1 16 xk 0 w ov au) (h2:jc 3 32 Gg 0 w cv code) (h3:jc 1 24 Ih 0 w av args)
  (hin:∀j (hj:j<k.ay.length),0<=k.ay[j]/\k.ay[j]<ks.length) :
  Calls Tryz.prog 83 #[.agg #[mv],.agg #[.string k.name,a1,a2,a3,a4,a5,a6],.agg #[.int .i64 kd,.string nm,.int .i64 jl,ov,cv,av]] w (Ans (.bool (yg ks k ⟨kd,nm,jl,au,code,args⟩)) w):=by
 have Vo:=ak (fun code v w' (hb:Below w.heap.size w w') hv=>Rk k code a1 a2 a3 a4 a5 a6 v w' (h.stays hb) hv);have HSE:=ak (fun x w' (hb:Below w.heap.size w w')=>O4 k x a1 a2 a3 a4 a5 a6 w' (h.stays hb));have HVR:=ak (fun w' (hb:Below w.heap.size w w')=>Py k a1 a2 a3 a4 a5 a6 w' (h.stays hb).ins (h.stays hb).au (h.stays hb).iw h.sum);have Xf:=ak h.ay;obtain⟨b1,c1,rfl⟩:=h.ins.shape;obtain⟨b2,c2,rfl⟩:=h.au.shape;obtain⟨b3,c3,rfl⟩:=h.iw.shape;obtain⟨b4,c4,rfl⟩:=h.gq.shape;obtain⟨b5,c5,rfl⟩:=h.ay.shape;obtain⟨b6,c6,rfl⟩:=h.body.shape;obtain⟨bm,cm,rfl⟩:=hm.shape;obtain⟨o1,p1,rfl⟩:=h1.shape;obtain⟨o2,p2,rfl⟩:=h2.shape;obtain⟨o3,p3,rfl⟩:=h3.shape;have z1:=h1.Bh;have z2:=h2.Bh;have z3:=h3.Bh;have z4:=h.gq.Bh;have z5:=h.ay.Bh;have z6:=hm.Bh;have HO:=ak h1;have HC:=ak h2;have HAA:=ak h3;have HMM:=ak hm;clear h hm h1 h2 h3;have hA:Below w.heap.size w (((w.alloc (.cells #[.slice bm ks.length cm] 24)).alloc (.cells #[.string k.name,.slice b1 k.ins.length c1,.slice b2 k.au.length c2,.slice b3 k.iw.length c3,.slice b4 k.gq.length c4,.slice b5 k.ay.length c5,.slice b6 k.body.length c6] 50)).alloc (.cells #[.int .i64 kd,.string nm,.int .i64 jl,.slice o1 au.length p1,.slice o2 code.length p2,.slice o3 args.length p3] 60)):=(((iq _ _).alloc (gu _) _).alloc (by simp) _).alloc (by simp only[Dy];omega) _;have Xe:(((w.alloc (.cells #[.slice bm ks.length cm] 24)).alloc (.cells #[.string k.name,.slice b1 k.ins.length c1,.slice b2 k.au.length c2,.slice b3 k.iw.length c3,.slice b4 k.gq.length c4,.slice b5 k.ay.length c5,.slice b6 k.body.length c6] 50)).alloc (.cells #[.int .i64 kd,.string nm,.int .i64 jl,.slice o1 au.length p1,.slice o2 code.length p2,.slice o3 args.length p3] 60)).heap.size=w.heap.size+3:=by simp
 have hB1:jd (((w.alloc (.cells #[.slice bm ks.length cm] 24)).alloc (.cells #[.string k.name,.slice b1 k.ins.length c1,.slice b2 k.au.length c2,.slice b3 k.iw.length c3,.slice b4 k.gq.length c4,.slice b5 k.ay.length c5,.slice b6 k.body.length c6] 50)).alloc (.cells #[.int .i64 kd,.string nm,.int .i64 jl,.slice o1 au.length p1,.slice o2 code.length p2,.slice o3 args.length p3] 60)) w.heap.size 24 #[.slice bm ks.length cm]:=(oh w #[.slice bm ks.length cm] 24).below (((iq _ _).alloc (gu _) _).alloc (by simp) _) (by simp)
 have hB2:jd (((w.alloc (.cells #[.slice bm ks.length cm] 24)).alloc (.cells #[.string k.name,.slice b1 k.ins.length c1,.slice b2 k.au.length c2,.slice b3 k.iw.length c3,.slice b4 k.gq.length c4,.slice b5 k.ay.length c5,.slice b6 k.body.length c6] 50)).alloc (.cells #[.int .i64 kd,.string nm,.int .i64 jl,.slice o1 au.length p1,.slice o2 code.length p2,.slice o3 args.length p3] 60)) (w.heap.size+1) 50 #[.string k.name,.slice b1 k.ins.length c1,.slice b2 k.au.length c2,.slice b3 k.iw.length c3,.slice b4 k.gq.length c4,.slice b5 k.ay.length c5,.slice b6 k.body.length c6]:=by
  have h0:=oh (w.alloc (.cells #[.slice bm ks.length cm] 24)) #[.string k.name,.slice b1 k.ins.length c1,.slice b2 k.au.length c2,.slice b3 k.iw.length c3,.slice b4 k.gq.length c4,.slice b5 k.ay.length c5,.slice b6 k.body.length c6] 50;rw[show (w.alloc (.cells #[.slice bm ks.length cm] 24)).heap.size=w.heap.size+1 from by simp] at h0;exact h0.below ((iq _ _).alloc (gu _) _) (by simp)
 have hB3:jd (((w.alloc (.cells #[.slice bm ks.length cm] 24)).alloc (.cells #[.string k.name,.slice b1 k.ins.length c1,.slice b2 k.au.length c2,.slice b3 k.iw.length c3,.slice b4 k.gq.length c4,.slice b5 k.ay.length c5,.slice b6 k.body.length c6] 50)).alloc (.cells #[.int .i64 kd,.string nm,.int .i64 jl,.slice o1 au.length p1,.slice o2 code.length p2,.slice o3 args.length p3] 60)) (w.heap.size+2) 60 #[.int .i64 kd,.string nm,.int .i64 jl,.slice o1 au.length p1,.slice o2 code.length p2,.slice o3 args.length p3]:=by
  have h0:=oh ((w.alloc (.cells #[.slice bm ks.length cm] 24)).alloc (.cells #[.string k.name,.slice b1 k.ins.length c1,.slice b2 k.au.length c2,.slice b3 k.iw.length c3,.slice b4 k.gq.length c4,.slice b5 k.ay.length c5,.slice b6 k.body.length c6] 50)) #[.int .i64 kd,.string nm,.int .i64 jl,.slice o1 au.length p1,.slice o2 code.length p2,.slice o3 args.length p3] 60;rw[show ((w.alloc (.cells #[.slice bm ks.length cm] 24)).alloc (.cells #[.string k.name,.slice b1 k.ins.length c1,.slice b2 k.au.length c2,.slice b3 k.iw.length c3,.slice b4 k.gq.length c4,.slice b5 k.ay.length c5,.slice b6 k.body.length c6] 50)).heap.size=w.heap.size+2 from by simp] at h0;exact h0
 obtain⟨BX,mg⟩:∃BX:cu->Prop,∀w',BX w'↔Below (w.heap.size+3) (((w.alloc (.cells #[.slice bm ks.length cm] 24)).alloc (.cells #[.string k.name,.slice b1 k.ins.length c1,.slice b2 k.au.length c2,.slice b3 k.iw.length c3,.slice b4 k.gq.length c4,.slice b5 k.ay.length c5,.slice b6 k.body.length c6] 50)).alloc (.cells #[.int .i64 kd,.string nm,.int .i64 jl,.slice o1 au.length p1,.slice o2 code.length p2,.slice o3 args.length p3] 60)) w':=⟨_,fun _=>Iff.rfl⟩;have Ag:Hid (∀w1,BX w1->Below w.heap.size w w1):=fun w1 h=>hA.trans (((mg w1).1 h).mono (by omega))
 have F8:Hid (∀w1 w2,BX w1->Below w1.heap.size w1 w2->BX w2):=fun w1 w2 h h2=>(mg w2).2 (((mg w1).1 h).trans (h2.mono (by have:=((mg w1).1 h).size;omega)))
 have Jo:Hid (∀w1,BX w1->w1.cell? ⟨w.heap.size,0,none⟩=some (.slice bm ks.length cm)/\w1.cell? ⟨w.heap.size+1,0,none⟩=some (.string k.name)/\w1.cell? ⟨w.heap.size+1,1,none⟩=some (.slice b1 k.ins.length c1)/\w1.cell? ⟨w.heap.size+1,2,none⟩=some (.slice b2 k.au.length c2)/\w1.cell? ⟨w.heap.size+1,3,none⟩=some (.slice b3 k.iw.length c3)/\w1.cell? ⟨w.heap.size+1,4,none⟩=some (.slice b4 k.gq.length c4)/\w1.cell? ⟨w.heap.size+1,5,none⟩=some (.slice b5 k.ay.length c5)/\w1.cell? ⟨w.heap.size+1,6,none⟩=some (.slice b6 k.body.length c6)/\w1.cell? ⟨w.heap.size+2,0,none⟩=some (.int .i64 kd)/\w1.cell? ⟨w.heap.size+2,1,none⟩=some (.string nm)/\w1.cell? ⟨w.heap.size+2,2,none⟩=some (.int .i64 jl)/\w1.cell? ⟨w.heap.size+2,3,none⟩=some (.slice o1 au.length p1)/\w1.cell? ⟨w.heap.size+2,4,none⟩=some (.slice o2 code.length p2)/\w1.cell? ⟨w.heap.size+2,5,none⟩=some (.slice o3 args.length p3)):=fun w1 h=>⟨(hB1.below ((mg w1).1 h) (by omega)).cell (i:=0) (v:=.slice bm ks.length cm) rfl,(hB2.below ((mg w1).1 h) (by omega)).cell (i:=0) (v:=.string k.name) rfl,(hB2.below ((mg w1).1 h) (by omega)).cell (i:=1) (v:=.slice b1 k.ins.length c1) rfl,(hB2.below ((mg w1).1 h) (by omega)).cell (i:=2) (v:=.slice b2 k.au.length c2) rfl,(hB2.below ((mg w1).1 h) (by omega)).cell (i:=3) (v:=.slice b3 k.iw.length c3) rfl,(hB2.below ((mg w1).1 h) (by omega)).cell (i:=4) (v:=.slice b4 k.gq.length c4) rfl,(hB2.below ((mg w1).1 h) (by omega)).cell (i:=5) (v:=.slice b5 k.ay.length c5) rfl,(hB2.below ((mg w1).1 h) (by omega)).cell (i:=6) (v:=.slice b6 k.body.length c6) rfl,(hB3.below ((mg w1).1 h) (by omega)).cell (i:=0) (v:=.int .i64 kd) rfl,(hB3.below ((mg w1).1 h) (by omega)).cell (i:=1) (v:=.string nm) rfl,(hB3.below ((mg w1).1 h) (by omega)).cell (i:=2) (v:=.int .i64 jl) rfl,(hB3.below ((mg w1).1 h) (by omega)).cell (i:=3) (v:=.slice o1 au.length p1) rfl,(hB3.below ((mg w1).1 h) (by omega)).cell (i:=4) (v:=.slice o2 code.length p2) rfl,(hB3.below ((mg w1).1 h) (by omega)).cell (i:=5) (v:=.slice o3 args.length p3) rfl⟩
 have HX5:Hid (∀w1,BX w1->w.heap.size+3<=w1.heap.size):=fun w1 h=>by have:=((mg w1).1 h).size;omega
 have HX0:Hid (BX (((w.alloc (.cells #[.slice bm ks.length cm] 24)).alloc (.cells #[.string k.name,.slice b1 k.ins.length c1,.slice b2 k.au.length c2,.slice b3 k.iw.length c3,.slice b4 k.gq.length c4,.slice b5 k.ay.length c5,.slice b6 k.body.length c6] 50)).alloc (.cells #[.int .i64 kd,.string nm,.int .i64 jl,.slice o1 au.length p1,.slice o2 code.length p2,.slice o3 args.length p3] 60))):=(mg _).2 (iq _ _);have HXd:Hid (BX (((w.alloc (.cells #[.slice bm ks.length cm] 24)).alloc (.cells #[.string k.name,.slice b1 k.ins.length c1,.slice b2 k.au.length c2,.slice b3 k.iw.length c3,.slice b4 k.gq.length c4,.slice b5 k.ay.length c5,.slice b6 k.body.length c6] 50)).alloc (.cells #[.int .i64 kd,.string nm,.int .i64 jl,.slice o1 au.length p1,.slice o2 code.length p2,.slice o3 args.length p3] 60)).drew):=(mg _).2 (iq _ _).drew;have HA:=ak hA;clear hA Xe hB1 hB2 hB3 mg;have y1:(kd==1)=false:=by rw[su];omega
 have yy1:(kd != 1)=true:=by simp;omega
 have y2:(kd==2)=false:=by rw[su];omega
 have yy2:(kd != 2)=true:=by simp;omega
 have y3:(kd==3)=false:=by rw[su];omega
 have yy3:(kd != 3)=true:=by simp;omega
 have y4:(kd==4)=false:=by rw[su];omega
 have yy4:(kd != 4)=true:=by simp;omega
 have y5:(kd==5)=false:=by rw[su];omega
 have yy5:(kd != 5)=true:=by simp;omega
 have y6:(kd==6)=false:=by rw[su];omega
 have yy6:(kd != 6)=true:=by simp;omega
 by_cases hq:nm.size=0
 case neg =>
  have d4:=O1 nm hq;have d4':=J5 nm hq;have HF:=ak (Zr ks k ⟨kd,nm,jl,au,code,args⟩ (by simp only;omega) hq);generalize yg ks k ⟨kd,nm,jl,au,code,args⟩=R at *;clear hq;go_enter Tryz.func83,Tryz.ntmps83;go_wp2;go_ret;exact⟨qm (uh HF).symm,uh HA⟩
 have d4:=Na nm hq;have d4':=I9 nm hq;have Xi:=ak hq;clear hq
 by_cases hq:jl=0
 case neg =>
  have d5:(jl != 0)=true:=by simp[hq]
  have HF:=ak (adp ks k ⟨kd,nm,jl,au,code,args⟩ (by simp only;omega) (by simp only;omega) hq);generalize yg ks k ⟨kd,nm,jl,au,code,args⟩=R at *;clear hq;go_enter Tryz.func83,Tryz.ntmps83;go_wp2;go_ret;exact⟨qm (uh HF).symm,uh HA⟩
 have d5:(jl != 0)=false:=by simp[hq]
 have aeo:=ak hq;clear hq
 by_cases hq:au.length=0
 case neg =>
  have d6:((au.length:Int) != 0)=true:=by rw[bne_iff_ne];omega
  have HF:=ak (Td ks k ⟨kd,nm,jl,au,code,args⟩ (by simp only;omega) (Or.inl hq));generalize yg ks k ⟨kd,nm,jl,au,code,args⟩=R at *;clear hq;go_enter Tryz.func83,Tryz.ntmps83;go_wp2;go_ret;exact⟨qm (uh HF).symm,uh HA⟩
 have d6:((au.length:Int) != 0)=false:=by rw[Ji];omega
 have Vp:=ak hq;clear hq
 by_cases hq:args.length=0
 case neg =>
  have d7:((args.length:Int) != 0)=true:=by rw[bne_iff_ne];omega
  have HF:=ak (Td ks k ⟨kd,nm,jl,au,code,args⟩ (by simp only;omega) (Or.inr hq));generalize yg ks k ⟨kd,nm,jl,au,code,args⟩=R at *;clear hq;go_enter Tryz.func83,Tryz.ntmps83;go_wp2;go_ret;exact⟨qm (uh HF).symm,uh HA⟩
 have d7:((args.length:Int) != 0)=false:=by rw[Ji];omega
 have Vq:=ak hq;clear hq
 by_cases hq:code.length=0
 case neg =>
  have d8:((code.length:Int) != 0)=true:=by rw[bne_iff_ne];omega
  have HF:=ak (Zt ks k ⟨kd,nm,jl,au,code,args⟩ (by simp only;omega) (by simp only;omega) hq);generalize yg ks k ⟨kd,nm,jl,au,code,args⟩=R at *;clear hq;go_enter Tryz.func83,Tryz.ntmps83;go_wp2;go_ret;exact⟨qm (uh HF).symm,uh HA⟩
 have d8:((code.length:Int) != 0)=false:=by rw[Ji];omega
 have Xj:=ak hq;clear hq;have HF:Hid (yg ks k ⟨kd,nm,jl,au,code,args⟩=false):=(Vm ks k ⟨kd,nm,jl,au,code,args⟩ (Or.inr (Or.inr (uh Xi))) (Or.inr (Or.inr (uh aeo))) (Or.inr ⟨uh Vp,uh Vq⟩) (Or.inr (Or.inr (uh Xj)))).trans (by unfold Ox;simp only;rw[bf (by omega),bf (by omega),bf (by omega),bf (by omega),bf (by omega)]);generalize yg ks k ⟨kd,nm,jl,au,code,args⟩=R at *;clear hkd;go_enter Tryz.func83,Tryz.ntmps83;go_wp2;go_ret;exact⟨qm (uh HF).symm,uh HA⟩
end Go.Proofs.YtfeejeflmcapoaaGreatDoor
