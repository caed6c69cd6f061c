import Derived.Test.YtfeejeflmcapoaaGreatDoorRG2
import Derived.Test.YtfeejeflmcapoaaGreatDoorRS3
set_option linter.unusedSimpArgs false
set_option linter.unusedVariables false
set_option maxHeartbeats 4000000
namespace Go.Proofs.YtfeejeflmcapoaaGreatDoor
open Go.RowKit
def Wv (s:lu) (x:dh):Bool:=(s.kind == 1&&(s.name.toList == x.toList))||(s.kind == 3&&inB s.ak x)
def Tq (k:dw) (ak:List dh) (i:Nat):Bool:=match ak[i]? with|some x=>!setB k x||decide (jd ak x<(i:Int))|none=>false
def Wi (ks:List dw) (k:dw) (s:lu):Bool :=
 if s.at_<0∨(k.au.length:Int)<=s.at_ then false
 else match ks[(k.au.getD s.at_.toNat 0).toNat]? with
  | none=>false
  | some g=>decide (s.ak.length=g.ak.length∧s.args.length=g.ins.length)&&(List.range s.ak.length).all (fun i=>!Tq k s.ak i)&&s.args.all (Tn k)
def x9 (ks:List dw) (k:dw) (s:lu):Bool :=
 if ¬(s.kind=1∨s.kind=4)∧s.name.size≠0 then false
 else if s.kind≠2∧s.kind≠3∧s.at_≠0 then false
 else if s.kind≠3∧(s.ak.length≠0∨s.args.length≠0) then false
 else if s.kind≠1∧s.kind≠2∧s.code.length≠0 then false
 else if s.kind=1 then setB k s.name&&Tn k s.code
 else if s.kind=2 then decide (0<=s.at_∧s.at_<(k.eu.length:Int))&&Tn k s.code
 else if s.kind=4 then inB (varsOf k) s.name
 else if s.kind=5∨s.kind=6 then true
 else if s.kind=3 then Wi ks k s
 else false
theorem Zw (ks:List dw) (k:dw) (s:lu) (h:¬(s.kind=1∨s.kind=4)) (h2:s.name.size≠0):x9 ks k s=false:=by unfold x9;rw[gu ⟨h,h2⟩]
theorem adr (ks:List dw) (k:dw) (s:lu) (h:s.kind≠2) (h1:s.kind≠3) (h2:s.at_≠0):x9 ks k s=false:=by
 unfold x9
 split
 ·rfl
 ·rw[gu ⟨h,h1,h2⟩]
theorem Tt (ks:List dw) (k:dw) (s:lu) (h:s.kind≠3) (h2:s.ak.length≠0∨s.args.length≠0):x9 ks k s=false:=by
 unfold x9
 split
 ·rfl
 split
 ·rfl
 ·rw[gu ⟨h,h2⟩]
theorem Zx (ks:List dw) (k:dw) (s:lu) (h:s.kind≠1) (h1:s.kind≠2) (h2:s.code.length≠0):x9 ks k s=false:=by
 unfold x9
 split
 ·rfl
 split
 ·rfl
 split
 ·rfl
 ·rw[gu ⟨h,h1,h2⟩]
def O5 (ks:List dw) (k:dw) (s:lu):Bool :=
 if s.kind=1 then setB k s.name&&Tn k s.code
 else if s.kind=2 then decide (0<=s.at_∧s.at_<(k.eu.length:Int))&&Tn k s.code
 else if s.kind=4 then inB (varsOf k) s.name
 else if s.kind=5∨s.kind=6 then true
 else if s.kind=3 then Wi ks k s
 else false
theorem Vr (ks:List dw) (k:dw) (s:lu) (h1:s.kind=1∨s.kind=4∨s.name.size=0) (h2:s.kind=2∨s.kind=3∨s.at_=0) (h3:s.kind=3∨(s.ak.length=0∧s.args.length=0)) (h4:s.kind=1∨s.kind=2∨s.code.length=0):x9 ks k s=O5 ks k s:=by
 unfold x9 O5;rw[ay (by omega),ay (by omega),ay (by omega),ay (by omega)]
theorem ap6 (s:lu) (x:dh) (o c a:Value) (w:bf) (h1:iy 1 16 wz 0 w o s.ak) (hc:∃b n q,c=.slice b n q) (ha:∃b n q,a=.slice b n q) :
  Calls Tryz.prog 86 #[.agg #[.int .i64 s.kind,.string s.name,.int .i64 s.at_,o,c,a],.string x] w (Ans (.bool (Wv s x)) w):=by
 obtain⟨b1,c1,rfl⟩:=h1.shape;obtain⟨b2,n2,c2,rfl⟩:=hc;obtain⟨b3,n3,c3,rfl⟩:=ha;have hA:Below w.heap.size w (w.alloc (.cells #[.int .i64 s.kind,.string s.name,.int .i64 s.at_,.slice b1 s.ak.length c1,.slice b2 n2 c2,.slice b3 n3 c3] 60)):=(gy _ _).alloc (gq _) _;have HI:=hide (adl s.ak _ x _ (h1.stays zo hA));have HA:=hide hA;have HW:Hid (Wv s x=((s.kind == 1&&(s.name.toList == x.toList))||(s.kind == 3&&inB s.ak x))):=rfl;generalize Wv s x=R at *;clear hA h1;generalize inB s.ak x=ib at *;generalize s.ak.length=no at *;generalize s.kind=kd at *;generalize s.at_=at' at *;generalize s.name=nm at *
 by_cases h1:kd=1
 ·have y1:(kd == 1)=true:=by simp[h1]
  have y3:(kd == 3)=false:=by simp[h1]
  rw[y1,y3,Ar,Bc,Bool.or_false] at HW;clear h1
  cases hq:(nm.toList == x.toList)
  ·rw[hq] at HW
   go_enter Tryz.func86,Tryz.ntmps86;go_wp2;go_ret;exact⟨qo (uh HW).symm,uh HA⟩
  ·rw[hq] at HW
   go_enter Tryz.func86,Tryz.ntmps86;go_wp2;go_ret;exact⟨qo (uh HW).symm,uh HA⟩
 have y1:(kd == 1)=false:=by simp[h1]
 rw[y1,Bc,Bool.false_or] at HW;clear h1
 by_cases h3:kd=3
 ·have y3:(kd == 3)=true:=by simp[h3]
  rw[y3,Ar] at HW;clear h3;go_enter Tryz.func86,Tryz.ntmps86;go_wp2_with fail;refine(uh HI).mono ?_;rintro e w1 ⟨rfl,h9⟩;obtain rfl:=h9.symm;go_wp2;go_ret;exact⟨qo (uh HW).symm,uh HA⟩
 ·have y3:(kd == 3)=false:=by simp[h3]
  rw[y3,Bc] at HW;clear h3;go_enter Tryz.func86,Tryz.ntmps86;go_wp2;go_ret;exact⟨qo (uh HW).symm,uh HA⟩
set_option maxRecDepth 20000 in
theorem as1 (ks:List dw) (k:dw) (nm:dh) (ji:Int) (ak:List dh) (code:List ku) (args:List (List ku))  (a1 a2 a3 a4 a5 a6 mv ov cv av:Value) (w:bf) (hm:iy 7 160 Dl 0 w mv ks) (h:Oz w k a1 a2 a3 a4 a5 a6) (h1:iy 1 16 wz 0 w ov ak) (h2:iy 3 32 Gp 0 w cv code) (h3:iy 1 24 Io 0 w av args)
  (hin:∀j (hj:j<k.au.length),0<=k.au[j]∧k.au[j]<ks.length) :
  Calls Tryz.prog 83 #[.agg #[mv],.agg #[.string k.name,a1,a2,a3,a4,a5,a6],.agg #[.int .i64 5,.string nm,.int .i64 ji,ov,cv,av]] w (Ans (.bool (x9 ks k ⟨5,nm,ji,ak,code,args⟩)) w):=by
 have Vs:=hide (fun code v w' (hb:Below w.heap.size w w') hv=>Rw k code a1 a2 a3 a4 a5 a6 v w' (h.stays hb) hv);have HSE:=hide (fun x w' (hb:Below w.heap.size w w')=>O9 k x a1 a2 a3 a4 a5 a6 w' (h.stays hb));have HVR:=hide (fun w' (hb:Below w.heap.size w w')=>Qa k a1 a2 a3 a4 a5 a6 w' (h.stays hb).ins (h.stays hb).ak (h.stays hb).iq h.sum);have Xj:=hide h.au;obtain⟨b1,c1,rfl⟩:=h.ins.shape;obtain⟨b2,c2,rfl⟩:=h.ak.shape;obtain⟨b3,c3,rfl⟩:=h.iq.shape;obtain⟨b4,c4,rfl⟩:=h.eu.shape;obtain⟨b5,c5,rfl⟩:=h.au.shape;obtain⟨b6,c6,rfl⟩:=h.body.shape;obtain⟨bm,cm,rfl⟩:=hm.shape;obtain⟨o1,p1,rfl⟩:=h1.shape;obtain⟨o2,p2,rfl⟩:=h2.shape;obtain⟨o3,p3,rfl⟩:=h3.shape;have z1:=h1.Bz;have z2:=h2.Bz;have z3:=h3.Bz;have z4:=h.eu.Bz;have z5:=h.au.Bz;have z6:=hm.Bz;have HO:=hide h1;have HC:=hide h2;have HAA:=hide h3;have HMM:=hide hm;clear h hm h1 h2 h3;have hA:Below w.heap.size w (((w.alloc (.cells #[.slice bm ks.length cm] 24)).alloc (.cells #[.string k.name,.slice b1 k.ins.length c1,.slice b2 k.ak.length c2,.slice b3 k.iq.length c3,.slice b4 k.eu.length c4,.slice b5 k.au.length c5,.slice b6 k.body.length c6] 50)).alloc (.cells #[.int .i64 5,.string nm,.int .i64 ji,.slice o1 ak.length p1,.slice o2 code.length p2,.slice o3 args.length p3] 60)):=(((gy _ _).alloc (gq _) _).alloc (by simp) _).alloc (by simp only[Ed];omega) _;have Xi:(((w.alloc (.cells #[.slice bm ks.length cm] 24)).alloc (.cells #[.string k.name,.slice b1 k.ins.length c1,.slice b2 k.ak.length c2,.slice b3 k.iq.length c3,.slice b4 k.eu.length c4,.slice b5 k.au.length c5,.slice b6 k.body.length c6] 50)).alloc (.cells #[.int .i64 5,.string nm,.int .i64 ji,.slice o1 ak.length p1,.slice o2 code.length p2,.slice o3 args.length p3] 60)).heap.size=w.heap.size+3:=by simp
 have hB1:jc (((w.alloc (.cells #[.slice bm ks.length cm] 24)).alloc (.cells #[.string k.name,.slice b1 k.ins.length c1,.slice b2 k.ak.length c2,.slice b3 k.iq.length c3,.slice b4 k.eu.length c4,.slice b5 k.au.length c5,.slice b6 k.body.length c6] 50)).alloc (.cells #[.int .i64 5,.string nm,.int .i64 ji,.slice o1 ak.length p1,.slice o2 code.length p2,.slice o3 args.length p3] 60)) w.heap.size 24 #[.slice bm ks.length cm]:=(og w #[.slice bm ks.length cm] 24).below (((gy _ _).alloc (gq _) _).alloc (by simp) _) (by simp)
 have hB2:jc (((w.alloc (.cells #[.slice bm ks.length cm] 24)).alloc (.cells #[.string k.name,.slice b1 k.ins.length c1,.slice b2 k.ak.length c2,.slice b3 k.iq.length c3,.slice b4 k.eu.length c4,.slice b5 k.au.length c5,.slice b6 k.body.length c6] 50)).alloc (.cells #[.int .i64 5,.string nm,.int .i64 ji,.slice o1 ak.length p1,.slice o2 code.length p2,.slice o3 args.length p3] 60)) (w.heap.size+1) 50 #[.string k.name,.slice b1 k.ins.length c1,.slice b2 k.ak.length c2,.slice b3 k.iq.length c3,.slice b4 k.eu.length c4,.slice b5 k.au.length c5,.slice b6 k.body.length c6]:=by
  have h0:=og (w.alloc (.cells #[.slice bm ks.length cm] 24)) #[.string k.name,.slice b1 k.ins.length c1,.slice b2 k.ak.length c2,.slice b3 k.iq.length c3,.slice b4 k.eu.length c4,.slice b5 k.au.length c5,.slice b6 k.body.length c6] 50;rw[show (w.alloc (.cells #[.slice bm ks.length cm] 24)).heap.size=w.heap.size+1 from by simp] at h0;exact h0.below ((gy _ _).alloc (gq _) _) (by simp)
 have hB3:jc (((w.alloc (.cells #[.slice bm ks.length cm] 24)).alloc (.cells #[.string k.name,.slice b1 k.ins.length c1,.slice b2 k.ak.length c2,.slice b3 k.iq.length c3,.slice b4 k.eu.length c4,.slice b5 k.au.length c5,.slice b6 k.body.length c6] 50)).alloc (.cells #[.int .i64 5,.string nm,.int .i64 ji,.slice o1 ak.length p1,.slice o2 code.length p2,.slice o3 args.length p3] 60)) (w.heap.size+2) 60 #[.int .i64 5,.string nm,.int .i64 ji,.slice o1 ak.length p1,.slice o2 code.length p2,.slice o3 args.length p3]:=by
  have h0:=og ((w.alloc (.cells #[.slice bm ks.length cm] 24)).alloc (.cells #[.string k.name,.slice b1 k.ins.length c1,.slice b2 k.ak.length c2,.slice b3 k.iq.length c3,.slice b4 k.eu.length c4,.slice b5 k.au.length c5,.slice b6 k.body.length c6] 50)) #[.int .i64 5,.string nm,.int .i64 ji,.slice o1 ak.length p1,.slice o2 code.length p2,.slice o3 args.length p3] 60;rw[show ((w.alloc (.cells #[.slice bm ks.length cm] 24)).alloc (.cells #[.string k.name,.slice b1 k.ins.length c1,.slice b2 k.ak.length c2,.slice b3 k.iq.length c3,.slice b4 k.eu.length c4,.slice b5 k.au.length c5,.slice b6 k.body.length c6] 50)).heap.size=w.heap.size+2 from by simp] at h0;exact h0
 obtain⟨BX,l9⟩:∃BX:bf->Prop,∀w',BX w'↔Below (w.heap.size+3) (((w.alloc (.cells #[.slice bm ks.length cm] 24)).alloc (.cells #[.string k.name,.slice b1 k.ins.length c1,.slice b2 k.ak.length c2,.slice b3 k.iq.length c3,.slice b4 k.eu.length c4,.slice b5 k.au.length c5,.slice b6 k.body.length c6] 50)).alloc (.cells #[.int .i64 5,.string nm,.int .i64 ji,.slice o1 ak.length p1,.slice o2 code.length p2,.slice o3 args.length p3] 60)) w':=⟨_,fun _=>Iff.rfl⟩;have Ak:Hid (∀w1,BX w1->Below w.heap.size w w1):=fun w1 h=>hA.trans (((l9 w1).1 h).mono (by omega))
 have Gl:Hid (∀w1 w2,BX w1->Below w1.heap.size w1 w2->BX w2):=fun w1 w2 h h2=>(l9 w2).2 (((l9 w1).1 h).trans (h2.mono (by have:=((l9 w1).1 h).size;omega)))
 have Js:Hid (∀w1,BX w1->w1.cell? ⟨w.heap.size,0,none⟩=some (.slice bm ks.length cm)∧w1.cell? ⟨w.heap.size+1,0,none⟩=some (.string k.name)∧w1.cell? ⟨w.heap.size+1,1,none⟩=some (.slice b1 k.ins.length c1)∧w1.cell? ⟨w.heap.size+1,2,none⟩=some (.slice b2 k.ak.length c2)∧w1.cell? ⟨w.heap.size+1,3,none⟩=some (.slice b3 k.iq.length c3)∧w1.cell? ⟨w.heap.size+1,4,none⟩=some (.slice b4 k.eu.length c4)∧w1.cell? ⟨w.heap.size+1,5,none⟩=some (.slice b5 k.au.length c5)∧w1.cell? ⟨w.heap.size+1,6,none⟩=some (.slice b6 k.body.length c6)∧w1.cell? ⟨w.heap.size+2,0,none⟩=some (.int .i64 5)∧w1.cell? ⟨w.heap.size+2,1,none⟩=some (.string nm)∧w1.cell? ⟨w.heap.size+2,2,none⟩=some (.int .i64 ji)∧w1.cell? ⟨w.heap.size+2,3,none⟩=some (.slice o1 ak.length p1)∧w1.cell? ⟨w.heap.size+2,4,none⟩=some (.slice o2 code.length p2)∧w1.cell? ⟨w.heap.size+2,5,none⟩=some (.slice o3 args.length p3)):=fun w1 h=>⟨(hB1.below ((l9 w1).1 h) (by omega)).cell (i:=0) (v:=.slice bm ks.length cm) rfl,(hB2.below ((l9 w1).1 h) (by omega)).cell (i:=0) (v:=.string k.name) rfl,(hB2.below ((l9 w1).1 h) (by omega)).cell (i:=1) (v:=.slice b1 k.ins.length c1) rfl,(hB2.below ((l9 w1).1 h) (by omega)).cell (i:=2) (v:=.slice b2 k.ak.length c2) rfl,(hB2.below ((l9 w1).1 h) (by omega)).cell (i:=3) (v:=.slice b3 k.iq.length c3) rfl,(hB2.below ((l9 w1).1 h) (by omega)).cell (i:=4) (v:=.slice b4 k.eu.length c4) rfl,(hB2.below ((l9 w1).1 h) (by omega)).cell (i:=5) (v:=.slice b5 k.au.length c5) rfl,(hB2.below ((l9 w1).1 h) (by omega)).cell (i:=6) (v:=.slice b6 k.body.length c6) rfl,(hB3.below ((l9 w1).1 h) (by omega)).cell (i:=0) (v:=.int .i64 5) rfl,(hB3.below ((l9 w1).1 h) (by omega)).cell (i:=1) (v:=.string nm) rfl,(hB3.below ((l9 w1).1 h) (by omega)).cell (i:=2) (v:=.int .i64 ji) rfl,(hB3.below ((l9 w1).1 h) (by omega)).cell (i:=3) (v:=.slice o1 ak.length p1) rfl,(hB3.below ((l9 w1).1 h) (by omega)).cell (i:=4) (v:=.slice o2 code.length p2) rfl,(hB3.below ((l9 w1).1 h) (by omega)).cell (i:=5) (v:=.slice o3 args.length p3) rfl⟩
 have HX5:Hid (∀w1,BX w1->w.heap.size+3<=w1.heap.size):=fun w1 h=>by have:=((l9 w1).1 h).size;omega
 have HX0:Hid (BX (((w.alloc (.cells #[.slice bm ks.length cm] 24)).alloc (.cells #[.string k.name,.slice b1 k.ins.length c1,.slice b2 k.ak.length c2,.slice b3 k.iq.length c3,.slice b4 k.eu.length c4,.slice b5 k.au.length c5,.slice b6 k.body.length c6] 50)).alloc (.cells #[.int .i64 5,.string nm,.int .i64 ji,.slice o1 ak.length p1,.slice o2 code.length p2,.slice o3 args.length p3] 60))):=(l9 _).2 (gy _ _);have HXd:Hid (BX (((w.alloc (.cells #[.slice bm ks.length cm] 24)).alloc (.cells #[.string k.name,.slice b1 k.ins.length c1,.slice b2 k.ak.length c2,.slice b3 k.iq.length c3,.slice b4 k.eu.length c4,.slice b5 k.au.length c5,.slice b6 k.body.length c6] 50)).alloc (.cells #[.int .i64 5,.string nm,.int .i64 ji,.slice o1 ak.length p1,.slice o2 code.length p2,.slice o3 args.length p3] 60)).drew):=(l9 _).2 (gy _ _).drew;have HA:=hide hA;clear hA Xi hB1 hB2 hB3 l9
 by_cases hq:nm.size=0
 case neg =>
  have d4:=O8 nm hq;have d4':=J8 nm hq;have HF:=hide (Zw ks k ⟨5,nm,ji,ak,code,args⟩ (by simp) hq);generalize x9 ks k ⟨5,nm,ji,ak,code,args⟩=R at *;clear hq;go_enter Tryz.func83,Tryz.ntmps83;go_wp2;go_ret;exact⟨qo (uh HF).symm,uh HA⟩
 have d4:=Nc nm hq;have d4':=Ja nm hq;have Xm:=hide hq;clear hq
 by_cases hq:ji=0
 case neg =>
  have d5:(ji != 0)=true:=by simp[hq]
  have HF:=hide (adr ks k ⟨5,nm,ji,ak,code,args⟩ (by simp) (by simp) hq);generalize x9 ks k ⟨5,nm,ji,ak,code,args⟩=R at *;clear hq;go_enter Tryz.func83,Tryz.ntmps83;go_wp2;go_ret;exact⟨qo (uh HF).symm,uh HA⟩
 have d5:(ji != 0)=false:=by simp[hq]
 have aer:=hide hq;clear hq
 by_cases hq:ak.length=0
 case neg =>
  have d6:((ak.length:Int) != 0)=true:=by rw[bne_iff_ne];omega
  have HF:=hide (Tt ks k ⟨5,nm,ji,ak,code,args⟩ (by simp) (Or.inl hq));generalize x9 ks k ⟨5,nm,ji,ak,code,args⟩=R at *;clear hq;go_enter Tryz.func83,Tryz.ntmps83;go_wp2;go_ret;exact⟨qo (uh HF).symm,uh HA⟩
 have d6:((ak.length:Int) != 0)=false:=by rw[Jm];omega
 have Vt:=hide hq;clear hq
 by_cases hq:args.length=0
 case neg =>
  have d7:((args.length:Int) != 0)=true:=by rw[bne_iff_ne];omega
  have HF:=hide (Tt ks k ⟨5,nm,ji,ak,code,args⟩ (by simp) (Or.inr hq));generalize x9 ks k ⟨5,nm,ji,ak,code,args⟩=R at *;clear hq;go_enter Tryz.func83,Tryz.ntmps83;go_wp2;go_ret;exact⟨qo (uh HF).symm,uh HA⟩
 have d7:((args.length:Int) != 0)=false:=by rw[Jm];omega
 have Vu:=hide hq;clear hq
 by_cases hq:code.length=0
 case neg =>
  have d8:((code.length:Int) != 0)=true:=by rw[bne_iff_ne];omega
  have HF:=hide (Zx ks k ⟨5,nm,ji,ak,code,args⟩ (by simp) (by simp) hq);generalize x9 ks k ⟨5,nm,ji,ak,code,args⟩=R at *;clear hq;go_enter Tryz.func83,Tryz.ntmps83;go_wp2;go_ret;exact⟨qo (uh HF).symm,uh HA⟩
 have d8:((code.length:Int) != 0)=false:=by rw[Jm];omega
 have Xn:=hide hq;clear hq;have HF:Hid (x9 ks k ⟨5,nm,ji,ak,code,args⟩=true):=(Vr ks k ⟨5,nm,ji,ak,code,args⟩ (Or.inr (Or.inr (uh Xm))) (Or.inr (Or.inr (uh aer))) (Or.inr ⟨uh Vt,uh Vu⟩) (Or.inr (Or.inr (uh Xn)))).trans (by unfold O5;simp);generalize x9 ks k ⟨5,nm,ji,ak,code,args⟩=R at *;go_enter Tryz.func83,Tryz.ntmps83;go_wp2;go_ret;exact⟨qo (uh HF).symm,uh HA⟩
set_option maxRecDepth 20000 in
theorem as2 (ks:List dw) (k:dw) (nm:dh) (ji:Int) (ak:List dh) (code:List ku) (args:List (List ku))  (a1 a2 a3 a4 a5 a6 mv ov cv av:Value) (w:bf) (hm:iy 7 160 Dl 0 w mv ks) (h:Oz w k a1 a2 a3 a4 a5 a6) (h1:iy 1 16 wz 0 w ov ak) (h2:iy 3 32 Gp 0 w cv code) (h3:iy 1 24 Io 0 w av args)
  (hin:∀j (hj:j<k.au.length),0<=k.au[j]∧k.au[j]<ks.length) :
  Calls Tryz.prog 83 #[.agg #[mv],.agg #[.string k.name,a1,a2,a3,a4,a5,a6],.agg #[.int .i64 6,.string nm,.int .i64 ji,ov,cv,av]] w (Ans (.bool (x9 ks k ⟨6,nm,ji,ak,code,args⟩)) w):=by
 have Vs:=hide (fun code v w' (hb:Below w.heap.size w w') hv=>Rw k code a1 a2 a3 a4 a5 a6 v w' (h.stays hb) hv);have HSE:=hide (fun x w' (hb:Below w.heap.size w w')=>O9 k x a1 a2 a3 a4 a5 a6 w' (h.stays hb));have HVR:=hide (fun w' (hb:Below w.heap.size w w')=>Qa k a1 a2 a3 a4 a5 a6 w' (h.stays hb).ins (h.stays hb).ak (h.stays hb).iq h.sum);have Xj:=hide h.au;obtain⟨b1,c1,rfl⟩:=h.ins.shape;obtain⟨b2,c2,rfl⟩:=h.ak.shape;obtain⟨b3,c3,rfl⟩:=h.iq.shape;obtain⟨b4,c4,rfl⟩:=h.eu.shape;obtain⟨b5,c5,rfl⟩:=h.au.shape;obtain⟨b6,c6,rfl⟩:=h.body.shape;obtain⟨bm,cm,rfl⟩:=hm.shape;obtain⟨o1,p1,rfl⟩:=h1.shape;obtain⟨o2,p2,rfl⟩:=h2.shape;obtain⟨o3,p3,rfl⟩:=h3.shape;have z1:=h1.Bz;have z2:=h2.Bz;have z3:=h3.Bz;have z4:=h.eu.Bz;have z5:=h.au.Bz;have z6:=hm.Bz;have HO:=hide h1;have HC:=hide h2;have HAA:=hide h3;have HMM:=hide hm;clear h hm h1 h2 h3;have hA:Below w.heap.size w (((w.alloc (.cells #[.slice bm ks.length cm] 24)).alloc (.cells #[.string k.name,.slice b1 k.ins.length c1,.slice b2 k.ak.length c2,.slice b3 k.iq.length c3,.slice b4 k.eu.length c4,.slice b5 k.au.length c5,.slice b6 k.body.length c6] 50)).alloc (.cells #[.int .i64 6,.string nm,.int .i64 ji,.slice o1 ak.length p1,.slice o2 code.length p2,.slice o3 args.length p3] 60)):=(((gy _ _).alloc (gq _) _).alloc (by simp) _).alloc (by simp only[Ed];omega) _;have Xi:(((w.alloc (.cells #[.slice bm ks.length cm] 24)).alloc (.cells #[.string k.name,.slice b1 k.ins.length c1,.slice b2 k.ak.length c2,.slice b3 k.iq.length c3,.slice b4 k.eu.length c4,.slice b5 k.au.length c5,.slice b6 k.body.length c6] 50)).alloc (.cells #[.int .i64 6,.string nm,.int .i64 ji,.slice o1 ak.length p1,.slice o2 code.length p2,.slice o3 args.length p3] 60)).heap.size=w.heap.size+3:=by simp
 have hB1:jc (((w.alloc (.cells #[.slice bm ks.length cm] 24)).alloc (.cells #[.string k.name,.slice b1 k.ins.length c1,.slice b2 k.ak.length c2,.slice b3 k.iq.length c3,.slice b4 k.eu.length c4,.slice b5 k.au.length c5,.slice b6 k.body.length c6] 50)).alloc (.cells #[.int .i64 6,.string nm,.int .i64 ji,.slice o1 ak.length p1,.slice o2 code.length p2,.slice o3 args.length p3] 60)) w.heap.size 24 #[.slice bm ks.length cm]:=(og w #[.slice bm ks.length cm] 24).below (((gy _ _).alloc (gq _) _).alloc (by simp) _) (by simp)
 have hB2:jc (((w.alloc (.cells #[.slice bm ks.length cm] 24)).alloc (.cells #[.string k.name,.slice b1 k.ins.length c1,.slice b2 k.ak.length c2,.slice b3 k.iq.length c3,.slice b4 k.eu.length c4,.slice b5 k.au.length c5,.slice b6 k.body.length c6] 50)).alloc (.cells #[.int .i64 6,.string nm,.int .i64 ji,.slice o1 ak.length p1,.slice o2 code.length p2,.slice o3 args.length p3] 60)) (w.heap.size+1) 50 #[.string k.name,.slice b1 k.ins.length c1,.slice b2 k.ak.length c2,.slice b3 k.iq.length c3,.slice b4 k.eu.length c4,.slice b5 k.au.length c5,.slice b6 k.body.length c6]:=by
  have h0:=og (w.alloc (.cells #[.slice bm ks.length cm] 24)) #[.string k.name,.slice b1 k.ins.length c1,.slice b2 k.ak.length c2,.slice b3 k.iq.length c3,.slice b4 k.eu.length c4,.slice b5 k.au.length c5,.slice b6 k.body.length c6] 50;rw[show (w.alloc (.cells #[.slice bm ks.length cm] 24)).heap.size=w.heap.size+1 from by simp] at h0;exact h0.below ((gy _ _).alloc (gq _) _) (by simp)
 have hB3:jc (((w.alloc (.cells #[.slice bm ks.length cm] 24)).alloc (.cells #[.string k.name,.slice b1 k.ins.length c1,.slice b2 k.ak.length c2,.slice b3 k.iq.length c3,.slice b4 k.eu.length c4,.slice b5 k.au.length c5,.slice b6 k.body.length c6] 50)).alloc (.cells #[.int .i64 6,.string nm,.int .i64 ji,.slice o1 ak.length p1,.slice o2 code.length p2,.slice o3 args.length p3] 60)) (w.heap.size+2) 60 #[.int .i64 6,.string nm,.int .i64 ji,.slice o1 ak.length p1,.slice o2 code.length p2,.slice o3 args.length p3]:=by
  have h0:=og ((w.alloc (.cells #[.slice bm ks.length cm] 24)).alloc (.cells #[.string k.name,.slice b1 k.ins.length c1,.slice b2 k.ak.length c2,.slice b3 k.iq.length c3,.slice b4 k.eu.length c4,.slice b5 k.au.length c5,.slice b6 k.body.length c6] 50)) #[.int .i64 6,.string nm,.int .i64 ji,.slice o1 ak.length p1,.slice o2 code.length p2,.slice o3 args.length p3] 60;rw[show ((w.alloc (.cells #[.slice bm ks.length cm] 24)).alloc (.cells #[.string k.name,.slice b1 k.ins.length c1,.slice b2 k.ak.length c2,.slice b3 k.iq.length c3,.slice b4 k.eu.length c4,.slice b5 k.au.length c5,.slice b6 k.body.length c6] 50)).heap.size=w.heap.size+2 from by simp] at h0;exact h0
 obtain⟨BX,l9⟩:∃BX:bf->Prop,∀w',BX w'↔Below (w.heap.size+3) (((w.alloc (.cells #[.slice bm ks.length cm] 24)).alloc (.cells #[.string k.name,.slice b1 k.ins.length c1,.slice b2 k.ak.length c2,.slice b3 k.iq.length c3,.slice b4 k.eu.length c4,.slice b5 k.au.length c5,.slice b6 k.body.length c6] 50)).alloc (.cells #[.int .i64 6,.string nm,.int .i64 ji,.slice o1 ak.length p1,.slice o2 code.length p2,.slice o3 args.length p3] 60)) w':=⟨_,fun _=>Iff.rfl⟩;have Ak:Hid (∀w1,BX w1->Below w.heap.size w w1):=fun w1 h=>hA.trans (((l9 w1).1 h).mono (by omega))
 have Gl:Hid (∀w1 w2,BX w1->Below w1.heap.size w1 w2->BX w2):=fun w1 w2 h h2=>(l9 w2).2 (((l9 w1).1 h).trans (h2.mono (by have:=((l9 w1).1 h).size;omega)))
 have Js:Hid (∀w1,BX w1->w1.cell? ⟨w.heap.size,0,none⟩=some (.slice bm ks.length cm)∧w1.cell? ⟨w.heap.size+1,0,none⟩=some (.string k.name)∧w1.cell? ⟨w.heap.size+1,1,none⟩=some (.slice b1 k.ins.length c1)∧w1.cell? ⟨w.heap.size+1,2,none⟩=some (.slice b2 k.ak.length c2)∧w1.cell? ⟨w.heap.size+1,3,none⟩=some (.slice b3 k.iq.length c3)∧w1.cell? ⟨w.heap.size+1,4,none⟩=some (.slice b4 k.eu.length c4)∧w1.cell? ⟨w.heap.size+1,5,none⟩=some (.slice b5 k.au.length c5)∧w1.cell? ⟨w.heap.size+1,6,none⟩=some (.slice b6 k.body.length c6)∧w1.cell? ⟨w.heap.size+2,0,none⟩=some (.int .i64 6)∧w1.cell? ⟨w.heap.size+2,1,none⟩=some (.string nm)∧w1.cell? ⟨w.heap.size+2,2,none⟩=some (.int .i64 ji)∧w1.cell? ⟨w.heap.size+2,3,none⟩=some (.slice o1 ak.length p1)∧w1.cell? ⟨w.heap.size+2,4,none⟩=some (.slice o2 code.length p2)∧w1.cell? ⟨w.heap.size+2,5,none⟩=some (.slice o3 args.length p3)):=fun w1 h=>⟨(hB1.below ((l9 w1).1 h) (by omega)).cell (i:=0) (v:=.slice bm ks.length cm) rfl,(hB2.below ((l9 w1).1 h) (by omega)).cell (i:=0) (v:=.string k.name) rfl,(hB2.below ((l9 w1).1 h) (by omega)).cell (i:=1) (v:=.slice b1 k.ins.length c1) rfl,(hB2.below ((l9 w1).1 h) (by omega)).cell (i:=2) (v:=.slice b2 k.ak.length c2) rfl,(hB2.below ((l9 w1).1 h) (by omega)).cell (i:=3) (v:=.slice b3 k.iq.length c3) rfl,(hB2.below ((l9 w1).1 h) (by omega)).cell (i:=4) (v:=.slice b4 k.eu.length c4) rfl,(hB2.below ((l9 w1).1 h) (by omega)).cell (i:=5) (v:=.slice b5 k.au.length c5) rfl,(hB2.below ((l9 w1).1 h) (by omega)).cell (i:=6) (v:=.slice b6 k.body.length c6) rfl,(hB3.below ((l9 w1).1 h) (by omega)).cell (i:=0) (v:=.int .i64 6) rfl,(hB3.below ((l9 w1).1 h) (by omega)).cell (i:=1) (v:=.string nm) rfl,(hB3.below ((l9 w1).1 h) (by omega)).cell (i:=2) (v:=.int .i64 ji) rfl,(hB3.below ((l9 w1).1 h) (by omega)).cell (i:=3) (v:=.slice o1 ak.length p1) rfl,(hB3.below ((l9 w1).1 h) (by omega)).cell (i:=4) (v:=.slice o2 code.length p2) rfl,(hB3.below ((l9 w1).1 h) (by omega)).cell (i:=5) (v:=.slice o3 args.length p3) rfl⟩
 have HX5:Hid (∀w1,BX w1->w.heap.size+3<=w1.heap.size):=fun w1 h=>by have:=((l9 w1).1 h).size;omega
 have HX0:Hid (BX (((w.alloc (.cells #[.slice bm ks.length cm] 24)).alloc (.cells #[.string k.name,.slice b1 k.ins.length c1,.slice b2 k.ak.length c2,.slice b3 k.iq.length c3,.slice b4 k.eu.length c4,.slice b5 k.au.length c5,.slice b6 k.body.length c6] 50)).alloc (.cells #[.int .i64 6,.string nm,.int .i64 ji,.slice o1 ak.length p1,.slice o2 code.length p2,.slice o3 args.length p3] 60))):=(l9 _).2 (gy _ _);have HXd:Hid (BX (((w.alloc (.cells #[.slice bm ks.length cm] 24)).alloc (.cells #[.string k.name,.slice b1 k.ins.length c1,.slice b2 k.ak.length c2,.slice b3 k.iq.length c3,.slice b4 k.eu.length c4,.slice b5 k.au.length c5,.slice b6 k.body.length c6] 50)).alloc (.cells #[.int .i64 6,.string nm,.int .i64 ji,.slice o1 ak.length p1,.slice o2 code.length p2,.slice o3 args.length p3] 60)).drew):=(l9 _).2 (gy _ _).drew;have HA:=hide hA;clear hA Xi hB1 hB2 hB3 l9
 by_cases hq:nm.size=0
 case neg =>
  have d4:=O8 nm hq;have d4':=J8 nm hq;have HF:=hide (Zw ks k ⟨6,nm,ji,ak,code,args⟩ (by simp) hq);generalize x9 ks k ⟨6,nm,ji,ak,code,args⟩=R at *;clear hq;go_enter Tryz.func83,Tryz.ntmps83;go_wp2;go_ret;exact⟨qo (uh HF).symm,uh HA⟩
 have d4:=Nc nm hq;have d4':=Ja nm hq;have Xm:=hide hq;clear hq
 by_cases hq:ji=0
 case neg =>
  have d5:(ji != 0)=true:=by simp[hq]
  have HF:=hide (adr ks k ⟨6,nm,ji,ak,code,args⟩ (by simp) (by simp) hq);generalize x9 ks k ⟨6,nm,ji,ak,code,args⟩=R at *;clear hq;go_enter Tryz.func83,Tryz.ntmps83;go_wp2;go_ret;exact⟨qo (uh HF).symm,uh HA⟩
 have d5:(ji != 0)=false:=by simp[hq]
 have aer:=hide hq;clear hq
 by_cases hq:ak.length=0
 case neg =>
  have d6:((ak.length:Int) != 0)=true:=by rw[bne_iff_ne];omega
  have HF:=hide (Tt ks k ⟨6,nm,ji,ak,code,args⟩ (by simp) (Or.inl hq));generalize x9 ks k ⟨6,nm,ji,ak,code,args⟩=R at *;clear hq;go_enter Tryz.func83,Tryz.ntmps83;go_wp2;go_ret;exact⟨qo (uh HF).symm,uh HA⟩
 have d6:((ak.length:Int) != 0)=false:=by rw[Jm];omega
 have Vt:=hide hq;clear hq
 by_cases hq:args.length=0
 case neg =>
  have d7:((args.length:Int) != 0)=true:=by rw[bne_iff_ne];omega
  have HF:=hide (Tt ks k ⟨6,nm,ji,ak,code,args⟩ (by simp) (Or.inr hq));generalize x9 ks k ⟨6,nm,ji,ak,code,args⟩=R at *;clear hq;go_enter Tryz.func83,Tryz.ntmps83;go_wp2;go_ret;exact⟨qo (uh HF).symm,uh HA⟩
 have d7:((args.length:Int) != 0)=false:=by rw[Jm];omega
 have Vu:=hide hq;clear hq
 by_cases hq:code.length=0
 case neg =>
  have d8:((code.length:Int) != 0)=true:=by rw[bne_iff_ne];omega
  have HF:=hide (Zx ks k ⟨6,nm,ji,ak,code,args⟩ (by simp) (by simp) hq);generalize x9 ks k ⟨6,nm,ji,ak,code,args⟩=R at *;clear hq;go_enter Tryz.func83,Tryz.ntmps83;go_wp2;go_ret;exact⟨qo (uh HF).symm,uh HA⟩
 have d8:((code.length:Int) != 0)=false:=by rw[Jm];omega
 have Xn:=hide hq;clear hq;have HF:Hid (x9 ks k ⟨6,nm,ji,ak,code,args⟩=true):=(Vr ks k ⟨6,nm,ji,ak,code,args⟩ (Or.inr (Or.inr (uh Xm))) (Or.inr (Or.inr (uh aer))) (Or.inr ⟨uh Vt,uh Vu⟩) (Or.inr (Or.inr (uh Xn)))).trans (by unfold O5;simp);generalize x9 ks k ⟨6,nm,ji,ak,code,args⟩=R at *;go_enter Tryz.func83,Tryz.ntmps83;go_wp2;go_ret;exact⟨qo (uh HF).symm,uh HA⟩
set_option maxRecDepth 20000 in
theorem amu (ks:List dw) (k:dw) (nm:dh) (ji:Int) (ak:List dh) (code:List ku) (args:List (List ku)) (kd:Int) (hkd:kd≠1∧kd≠2∧kd≠3∧kd≠4∧kd≠5∧kd≠6) (a1 a2 a3 a4 a5 a6 mv ov cv av:Value) (w:bf) (hm:iy 7 160 Dl 0 w mv ks) (h:Oz w k a1 a2 a3 a4 a5 a6) (h1:iy 1 16 wz 0 w ov ak) (h2:iy 3 32 Gp 0 w cv code) (h3:iy 1 24 Io 0 w av args)
  (hin:∀j (hj:j<k.au.length),0<=k.au[j]∧k.au[j]<ks.length) :
  Calls Tryz.prog 83 #[.agg #[mv],.agg #[.string k.name,a1,a2,a3,a4,a5,a6],.agg #[.int .i64 kd,.string nm,.int .i64 ji,ov,cv,av]] w (Ans (.bool (x9 ks k ⟨kd,nm,ji,ak,code,args⟩)) w):=by
 have Vs:=hide (fun code v w' (hb:Below w.heap.size w w') hv=>Rw k code a1 a2 a3 a4 a5 a6 v w' (h.stays hb) hv);have HSE:=hide (fun x w' (hb:Below w.heap.size w w')=>O9 k x a1 a2 a3 a4 a5 a6 w' (h.stays hb));have HVR:=hide (fun w' (hb:Below w.heap.size w w')=>Qa k a1 a2 a3 a4 a5 a6 w' (h.stays hb).ins (h.stays hb).ak (h.stays hb).iq h.sum);have Xj:=hide h.au;obtain⟨b1,c1,rfl⟩:=h.ins.shape;obtain⟨b2,c2,rfl⟩:=h.ak.shape;obtain⟨b3,c3,rfl⟩:=h.iq.shape;obtain⟨b4,c4,rfl⟩:=h.eu.shape;obtain⟨b5,c5,rfl⟩:=h.au.shape;obtain⟨b6,c6,rfl⟩:=h.body.shape;obtain⟨bm,cm,rfl⟩:=hm.shape;obtain⟨o1,p1,rfl⟩:=h1.shape;obtain⟨o2,p2,rfl⟩:=h2.shape;obtain⟨o3,p3,rfl⟩:=h3.shape;have z1:=h1.Bz;have z2:=h2.Bz;have z3:=h3.Bz;have z4:=h.eu.Bz;have z5:=h.au.Bz;have z6:=hm.Bz;have HO:=hide h1;have HC:=hide h2;have HAA:=hide h3;have HMM:=hide hm;clear h hm h1 h2 h3;have hA:Below w.heap.size w (((w.alloc (.cells #[.slice bm ks.length cm] 24)).alloc (.cells #[.string k.name,.slice b1 k.ins.length c1,.slice b2 k.ak.length c2,.slice b3 k.iq.length c3,.slice b4 k.eu.length c4,.slice b5 k.au.length c5,.slice b6 k.body.length c6] 50)).alloc (.cells #[.int .i64 kd,.string nm,.int .i64 ji,.slice o1 ak.length p1,.slice o2 code.length p2,.slice o3 args.length p3] 60)):=(((gy _ _).alloc (gq _) _).alloc (by simp) _).alloc (by simp only[Ed];omega) _;have Xi:(((w.alloc (.cells #[.slice bm ks.length cm] 24)).alloc (.cells #[.string k.name,.slice b1 k.ins.length c1,.slice b2 k.ak.length c2,.slice b3 k.iq.length c3,.slice b4 k.eu.length c4,.slice b5 k.au.length c5,.slice b6 k.body.length c6] 50)).alloc (.cells #[.int .i64 kd,.string nm,.int .i64 ji,.slice o1 ak.length p1,.slice o2 code.length p2,.slice o3 args.length p3] 60)).heap.size=w.heap.size+3:=by simp
 have hB1:jc (((w.alloc (.cells #[.slice bm ks.length cm] 24)).alloc (.cells #[.string k.name,.slice b1 k.ins.length c1,.slice b2 k.ak.length c2,.slice b3 k.iq.length c3,.slice b4 k.eu.length c4,.slice b5 k.au.length c5,.slice b6 k.body.length c6] 50)).alloc (.cells #[.int .i64 kd,.string nm,.int .i64 ji,.slice o1 ak.length p1,.slice o2 code.length p2,.slice o3 args.length p3] 60)) w.heap.size 24 #[.slice bm ks.length cm]:=(og w #[.slice bm ks.length cm] 24).below (((gy _ _).alloc (gq _) _).alloc (by simp) _) (by simp)
 have hB2:jc (((w.alloc (.cells #[.slice bm ks.length cm] 24)).alloc (.cells #[.string k.name,.slice b1 k.ins.length c1,.slice b2 k.ak.length c2,.slice b3 k.iq.length c3,.slice b4 k.eu.length c4,.slice b5 k.au.length c5,.slice b6 k.body.length c6] 50)).alloc (.cells #[.int .i64 kd,.string nm,.int .i64 ji,.slice o1 ak.length p1,.slice o2 code.length p2,.slice o3 args.length p3] 60)) (w.heap.size+1) 50 #[.string k.name,.slice b1 k.ins.length c1,.slice b2 k.ak.length c2,.slice b3 k.iq.length c3,.slice b4 k.eu.length c4,.slice b5 k.au.length c5,.slice b6 k.body.length c6]:=by
  have h0:=og (w.alloc (.cells #[.slice bm ks.length cm] 24)) #[.string k.name,.slice b1 k.ins.length c1,.slice b2 k.ak.length c2,.slice b3 k.iq.length c3,.slice b4 k.eu.length c4,.slice b5 k.au.length c5,.slice b6 k.body.length c6] 50;rw[show (w.alloc (.cells #[.slice bm ks.length cm] 24)).heap.size=w.heap.size+1 from by simp] at h0;exact h0.below ((gy _ _).alloc (gq _) _) (by simp)
 have hB3:jc (((w.alloc (.cells #[.slice bm ks.length cm] 24)).alloc (.cells #[.string k.name,.slice b1 k.ins.length c1,.slice b2 k.ak.length c2,.slice b3 k.iq.length c3,.slice b4 k.eu.length c4,.slice b5 k.au.length c5,.slice b6 k.body.length c6] 50)).alloc (.cells #[.int .i64 kd,.string nm,.int .i64 ji,.slice o1 ak.length p1,.slice o2 code.length p2,.slice o3 args.length p3] 60)) (w.heap.size+2) 60 #[.int .i64 kd,.string nm,.int .i64 ji,.slice o1 ak.length p1,.slice o2 code.length p2,.slice o3 args.length p3]:=by
  have h0:=og ((w.alloc (.cells #[.slice bm ks.length cm] 24)).alloc (.cells #[.string k.name,.slice b1 k.ins.length c1,.slice b2 k.ak.length c2,.slice b3 k.iq.length c3,.slice b4 k.eu.length c4,.slice b5 k.au.length c5,.slice b6 k.body.length c6] 50)) #[.int .i64 kd,.string nm,.int .i64 ji,.slice o1 ak.length p1,.slice o2 code.length p2,.slice o3 args.length p3] 60;rw[show ((w.alloc (.cells #[.slice bm ks.length cm] 24)).alloc (.cells #[.string k.name,.slice b1 k.ins.length c1,.slice b2 k.ak.length c2,.slice b3 k.iq.length c3,.slice b4 k.eu.length c4,.slice b5 k.au.length c5,.slice b6 k.body.length c6] 50)).heap.size=w.heap.size+2 from by simp] at h0;exact h0
 obtain⟨BX,l9⟩:∃BX:bf->Prop,∀w',BX w'↔Below (w.heap.size+3) (((w.alloc (.cells #[.slice bm ks.length cm] 24)).alloc (.cells #[.string k.name,.slice b1 k.ins.length c1,.slice b2 k.ak.length c2,.slice b3 k.iq.length c3,.slice b4 k.eu.length c4,.slice b5 k.au.length c5,.slice b6 k.body.length c6] 50)).alloc (.cells #[.int .i64 kd,.string nm,.int .i64 ji,.slice o1 ak.length p1,.slice o2 code.length p2,.slice o3 args.length p3] 60)) w':=⟨_,fun _=>Iff.rfl⟩;have Ak:Hid (∀w1,BX w1->Below w.heap.size w w1):=fun w1 h=>hA.trans (((l9 w1).1 h).mono (by omega))
 have Gl:Hid (∀w1 w2,BX w1->Below w1.heap.size w1 w2->BX w2):=fun w1 w2 h h2=>(l9 w2).2 (((l9 w1).1 h).trans (h2.mono (by have:=((l9 w1).1 h).size;omega)))
 have Js:Hid (∀w1,BX w1->w1.cell? ⟨w.heap.size,0,none⟩=some (.slice bm ks.length cm)∧w1.cell? ⟨w.heap.size+1,0,none⟩=some (.string k.name)∧w1.cell? ⟨w.heap.size+1,1,none⟩=some (.slice b1 k.ins.length c1)∧w1.cell? ⟨w.heap.size+1,2,none⟩=some (.slice b2 k.ak.length c2)∧w1.cell? ⟨w.heap.size+1,3,none⟩=some (.slice b3 k.iq.length c3)∧w1.cell? ⟨w.heap.size+1,4,none⟩=some (.slice b4 k.eu.length c4)∧w1.cell? ⟨w.heap.size+1,5,none⟩=some (.slice b5 k.au.length c5)∧w1.cell? ⟨w.heap.size+1,6,none⟩=some (.slice b6 k.body.length c6)∧w1.cell? ⟨w.heap.size+2,0,none⟩=some (.int .i64 kd)∧w1.cell? ⟨w.heap.size+2,1,none⟩=some (.string nm)∧w1.cell? ⟨w.heap.size+2,2,none⟩=some (.int .i64 ji)∧w1.cell? ⟨w.heap.size+2,3,none⟩=some (.slice o1 ak.length p1)∧w1.cell? ⟨w.heap.size+2,4,none⟩=some (.slice o2 code.length p2)∧w1.cell? ⟨w.heap.size+2,5,none⟩=some (.slice o3 args.length p3)):=fun w1 h=>⟨(hB1.below ((l9 w1).1 h) (by omega)).cell (i:=0) (v:=.slice bm ks.length cm) rfl,(hB2.below ((l9 w1).1 h) (by omega)).cell (i:=0) (v:=.string k.name) rfl,(hB2.below ((l9 w1).1 h) (by omega)).cell (i:=1) (v:=.slice b1 k.ins.length c1) rfl,(hB2.below ((l9 w1).1 h) (by omega)).cell (i:=2) (v:=.slice b2 k.ak.length c2) rfl,(hB2.below ((l9 w1).1 h) (by omega)).cell (i:=3) (v:=.slice b3 k.iq.length c3) rfl,(hB2.below ((l9 w1).1 h) (by omega)).cell (i:=4) (v:=.slice b4 k.eu.length c4) rfl,(hB2.below ((l9 w1).1 h) (by omega)).cell (i:=5) (v:=.slice b5 k.au.length c5) rfl,(hB2.below ((l9 w1).1 h) (by omega)).cell (i:=6) (v:=.slice b6 k.body.length c6) rfl,(hB3.below ((l9 w1).1 h) (by omega)).cell (i:=0) (v:=.int .i64 kd) rfl,(hB3.below ((l9 w1).1 h) (by omega)).cell (i:=1) (v:=.string nm) rfl,(hB3.below ((l9 w1).1 h) (by omega)).cell (i:=2) (v:=.int .i64 ji) rfl,(hB3.below ((l9 w1).1 h) (by omega)).cell (i:=3) (v:=.slice o1 ak.length p1) rfl,(hB3.below ((l9 w1).1 h) (by omega)).cell (i:=4) (v:=.slice o2 code.length p2) rfl,(hB3.below ((l9 w1).1 h) (by omega)).cell (i:=5) (v:=.slice o3 args.length p3) rfl⟩
 have HX5:Hid (∀w1,BX w1->w.heap.size+3<=w1.heap.size):=fun w1 h=>by have:=((l9 w1).1 h).size;omega
 have HX0:Hid (BX (((w.alloc (.cells #[.slice bm ks.length cm] 24)).alloc (.cells #[.string k.name,.slice b1 k.ins.length c1,.slice b2 k.ak.length c2,.slice b3 k.iq.length c3,.slice b4 k.eu.length c4,.slice b5 k.au.length c5,.slice b6 k.body.length c6] 50)).alloc (.cells #[.int .i64 kd,.string nm,.int .i64 ji,.slice o1 ak.length p1,.slice o2 code.length p2,.slice o3 args.length p3] 60))):=(l9 _).2 (gy _ _);have HXd:Hid (BX (((w.alloc (.cells #[.slice bm ks.length cm] 24)).alloc (.cells #[.string k.name,.slice b1 k.ins.length c1,.slice b2 k.ak.length c2,.slice b3 k.iq.length c3,.slice b4 k.eu.length c4,.slice b5 k.au.length c5,.slice b6 k.body.length c6] 50)).alloc (.cells #[.int .i64 kd,.string nm,.int .i64 ji,.slice o1 ak.length p1,.slice o2 code.length p2,.slice o3 args.length p3] 60)).drew):=(l9 _).2 (gy _ _).drew;have HA:=hide hA;clear hA Xi hB1 hB2 hB3 l9;have y1:(kd == 1)=false:=by rw[su];omega
 have yy1:(kd != 1)=true:=by simp;omega
 have y2:(kd == 2)=false:=by rw[su];omega
 have yy2:(kd != 2)=true:=by simp;omega
 have y3:(kd == 3)=false:=by rw[su];omega
 have yy3:(kd != 3)=true:=by simp;omega
 have y4:(kd == 4)=false:=by rw[su];omega
 have yy4:(kd != 4)=true:=by simp;omega
 have y5:(kd == 5)=false:=by rw[su];omega
 have yy5:(kd != 5)=true:=by simp;omega
 have y6:(kd == 6)=false:=by rw[su];omega
 have yy6:(kd != 6)=true:=by simp;omega
 by_cases hq:nm.size=0
 case neg =>
  have d4:=O8 nm hq;have d4':=J8 nm hq;have HF:=hide (Zw ks k ⟨kd,nm,ji,ak,code,args⟩ (by simp only;omega) hq);generalize x9 ks k ⟨kd,nm,ji,ak,code,args⟩=R at *;clear hq;go_enter Tryz.func83,Tryz.ntmps83;go_wp2;go_ret;exact⟨qo (uh HF).symm,uh HA⟩
 have d4:=Nc nm hq;have d4':=Ja nm hq;have Xm:=hide hq;clear hq
 by_cases hq:ji=0
 case neg =>
  have d5:(ji != 0)=true:=by simp[hq]
  have HF:=hide (adr ks k ⟨kd,nm,ji,ak,code,args⟩ (by simp only;omega) (by simp only;omega) hq);generalize x9 ks k ⟨kd,nm,ji,ak,code,args⟩=R at *;clear hq;go_enter Tryz.func83,Tryz.ntmps83;go_wp2;go_ret;exact⟨qo (uh HF).symm,uh HA⟩
 have d5:(ji != 0)=false:=by simp[hq]
 have aer:=hide hq;clear hq
 by_cases hq:ak.length=0
 case neg =>
  have d6:((ak.length:Int) != 0)=true:=by rw[bne_iff_ne];omega
  have HF:=hide (Tt ks k ⟨kd,nm,ji,ak,code,args⟩ (by simp only;omega) (Or.inl hq));generalize x9 ks k ⟨kd,nm,ji,ak,code,args⟩=R at *;clear hq;go_enter Tryz.func83,Tryz.ntmps83;go_wp2;go_ret;exact⟨qo (uh HF).symm,uh HA⟩
 have d6:((ak.length:Int) != 0)=false:=by rw[Jm];omega
 have Vt:=hide hq;clear hq
 by_cases hq:args.length=0
 case neg =>
  have d7:((args.length:Int) != 0)=true:=by rw[bne_iff_ne];omega
  have HF:=hide (Tt ks k ⟨kd,nm,ji,ak,code,args⟩ (by simp only;omega) (Or.inr hq));generalize x9 ks k ⟨kd,nm,ji,ak,code,args⟩=R at *;clear hq;go_enter Tryz.func83,Tryz.ntmps83;go_wp2;go_ret;exact⟨qo (uh HF).symm,uh HA⟩
 have d7:((args.length:Int) != 0)=false:=by rw[Jm];omega
 have Vu:=hide hq;clear hq
 by_cases hq:code.length=0
 case neg =>
  have d8:((code.length:Int) != 0)=true:=by rw[bne_iff_ne];omega
  have HF:=hide (Zx ks k ⟨kd,nm,ji,ak,code,args⟩ (by simp only;omega) (by simp only;omega) hq);generalize x9 ks k ⟨kd,nm,ji,ak,code,args⟩=R at *;clear hq;go_enter Tryz.func83,Tryz.ntmps83;go_wp2;go_ret;exact⟨qo (uh HF).symm,uh HA⟩
 have d8:((code.length:Int) != 0)=false:=by rw[Jm];omega
 have Xn:=hide hq;clear hq;have HF:Hid (x9 ks k ⟨kd,nm,ji,ak,code,args⟩=false):=(Vr ks k ⟨kd,nm,ji,ak,code,args⟩ (Or.inr (Or.inr (uh Xm))) (Or.inr (Or.inr (uh aer))) (Or.inr ⟨uh Vt,uh Vu⟩) (Or.inr (Or.inr (uh Xn)))).trans (by unfold O5;simp only;rw[ay (by omega),ay (by omega),ay (by omega),ay (by omega),ay (by omega)]);generalize x9 ks k ⟨kd,nm,ji,ak,code,args⟩=R at *;clear hkd;go_enter Tryz.func83,Tryz.ntmps83;go_wp2;go_ret;exact⟨qo (uh HF).symm,uh HA⟩
end Go.Proofs.YtfeejeflmcapoaaGreatDoor
