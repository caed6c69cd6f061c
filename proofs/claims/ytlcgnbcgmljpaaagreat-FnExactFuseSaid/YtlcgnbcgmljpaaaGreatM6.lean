import Derived.Test.YtlcgnbcgmljpaaaGreatM2
import Derived.Test.YtlcgnbcgmljpaaaGreatM4
namespace Go.Proofs.YtlcgnbcgmljpaaaGreat
open Go.RowKit
set_option linter.unusedSimpArgs false
set_option linter.unusedVariables false
def Oc (s:dh) (x:ByteArray):Bool:=(s.kind == 1&&(s.name.toList == x.toList))||(s.kind == 3&&inB s.outs x)
def J6 (k:ak) (outs:List ByteArray) (i:Nat):Bool:=match outs[i]? with|some x=>!setB k x||decide (iy outs x<(i:Int))|none=>false
def Qx (ks:List ak) (k:ak) (s:dh):Bool :=
 if s.at_<0∨(k.insts.length:Int)<=s.at_ then false
 else match ks[(k.insts.getD s.at_.toNat 0).toNat]? with
  | none=>false
  | some g=>decide (s.outs.length=g.outs.length∧s.args.length=g.ins.length)&&(List.range s.outs.length).all (fun i=>!J6 k s.outs i)&&s.args.all (Oe k)
def ny (ks:List ak) (k:ak) (s:dh):Bool :=
 if ¬(s.kind=1∨s.kind=4)∧s.name.size≠0 then false
 else if s.kind≠2∧s.kind≠3∧s.at_≠0 then false
 else if s.kind≠3∧(s.outs.length≠0∨s.args.length≠0) then false
 else if s.kind≠1∧s.kind≠2∧s.code.length≠0 then false
 else if s.kind=1 then setB k s.name&&Oe k s.code
 else if s.kind=2 then decide (0<=s.at_∧s.at_<(k.aj.length:Int))&&Oe k s.code
 else if s.kind=4 then inB (varsOf k) s.name
 else if s.kind=5∨s.kind=6 then true
 else if s.kind=3 then Qx ks k s
 else false
theorem Sj (ks:List ak) (k:ak) (s:dh) (h:¬(s.kind=1∨s.kind=4)) (h2:s.name.size≠0):ny ks k s=false:=by unfold ny;rw[if_pos ⟨h,h2⟩]
theorem Zb (ks:List ak) (k:ak) (s:dh) (h:s.kind≠2) (h1:s.kind≠3) (h2:s.at_≠0):ny ks k s=false:=by
 unfold ny
 split
 ·rfl
 ·rw[if_pos ⟨h,h1,h2⟩]
theorem Jm (ks:List ak) (k:ak) (s:dh) (h:s.kind≠3) (h2:s.outs.length≠0∨s.args.length≠0):ny ks k s=false:=by
 unfold ny
 split
 ·rfl
 split
 ·rfl
 ·rw[if_pos ⟨h,h2⟩]
theorem Sl (ks:List ak) (k:ak) (s:dh) (h:s.kind≠1) (h1:s.kind≠2) (h2:s.code.length≠0):ny ks k s=false:=by
 unfold ny
 split
 ·rfl
 split
 ·rfl
 split
 ·rfl
 ·rw[if_pos ⟨h,h1,h2⟩]
def F8 (ks:List ak) (k:ak) (s:dh):Bool :=
 if s.kind=1 then setB k s.name&&Oe k s.code
 else if s.kind=2 then decide (0<=s.at_∧s.at_<(k.aj.length:Int))&&Oe k s.code
 else if s.kind=4 then inB (varsOf k) s.name
 else if s.kind=5∨s.kind=6 then true
 else if s.kind=3 then Qx ks k s
 else false
theorem Na (ks:List ak) (k:ak) (s:dh) (h1:s.kind=1∨s.kind=4∨s.name.size=0) (h2:s.kind=2∨s.kind=3∨s.at_=0) (h3:s.kind=3∨(s.outs.length=0∧s.args.length=0)) (h4:s.kind=1∨s.kind=2∨s.code.length=0):ny ks k s=F8 ks k s:=by
 unfold ny F8
 rw[if_neg (by omega),if_neg (by omega),if_neg (by omega),if_neg (by omega)]
set_option maxHeartbeats 1000000 in
theorem akz (s:dh) (x:ByteArray) (o c a:Value) (w:World) (h1:bf 1 16 uz 0 w o s.outs) (hc:∃b n q,c=.slice b n q) (ha:∃b n q,a=.slice b n q) :
  Calls Tryz.prog 52 #[.agg #[.int .i64 s.kind,.string s.name,.int .i64 s.at_,o,c,a],.string x] w (Ans (.bool (Oc s x)) w):=by
 obtain⟨b1,c1,rfl⟩:=h1.shape
 obtain⟨b2,n2,c2,rfl⟩:=hc
 obtain⟨b3,n3,c3,rfl⟩:=ha
 have hA:Below w.heap.size w (w.alloc (.cells #[.int .i64 s.kind,.string s.name,.int .i64 s.at_,.slice b1 s.outs.length c1,.slice b2 n2 c2,.slice b3 n3 c3] 60)):=(Below.refl _ _).alloc (Nat.le_refl _) _
 have HI:=hide (Za s.outs _ x _ (h1.stays lu hA))
 have HA:=hide hA
 have HW:Hid (Oc s x=((s.kind == 1&&(s.name.toList == x.toList))||(s.kind == 3&&inB s.outs x))):=rfl
 generalize Oc s x=R at *
 clear hA h1
 generalize inB s.outs x=ib at *
 generalize s.outs.length=no at *
 generalize s.kind=kd at *
 generalize s.at_=at' at *
 generalize s.name=nm at *
 by_cases h1:kd=1
 ·have y1:(kd == 1)=true:=by simp[h1]
  have y3:(kd == 3)=false:=by simp[h1]
  rw[y1,y3,Bool.true_and,Bool.false_and,Bool.or_false] at HW
  clear h1
  cases hq:(nm.toList == x.toList)
  ·rw[hq] at HW
   go_enter Tryz.func52,Tryz.ntmps52
   go_wp2
   go_ret
   exact⟨jf (uh HW).symm,uh HA⟩
  ·rw[hq] at HW
   go_enter Tryz.func52,Tryz.ntmps52
   go_wp2
   go_ret
   exact⟨jf (uh HW).symm,uh HA⟩
 have y1:(kd == 1)=false:=by simp[h1]
 rw[y1,Bool.false_and,Bool.false_or] at HW
 clear h1
 by_cases h3:kd=3
 ·have y3:(kd == 3)=true:=by simp[h3]
  rw[y3,Bool.true_and] at HW
  clear h3
  go_enter Tryz.func52,Tryz.ntmps52
  go_wp2_with fail
  refine(uh HI).mono ?_
  rintro e w1 ⟨rfl,h9⟩
  obtain rfl:=h9.symm
  go_wp2
  go_ret
  exact⟨jf (uh HW).symm,uh HA⟩
 ·have y3:(kd == 3)=false:=by simp[h3]
  rw[y3,Bool.false_and] at HW
  clear h3
  go_enter Tryz.func52,Tryz.ntmps52
  go_wp2
  go_ret
  exact⟨jf (uh HW).symm,uh HA⟩
set_option maxRecDepth 20000 in
set_option maxHeartbeats 4000000 in
theorem an3 (ks:List ak) (k:ak) (nm:ByteArray) (eu:Int) (outs:List ByteArray) (code:List iw) (args:List (List iw))  (a1 a2 a3 a4 a5 a6 mv ov cv av:Value) (w:World) (hm:bf 7 160 ni 0 w mv ks) (h:F7 w k a1 a2 a3 a4 a5 a6) (h1:bf 1 16 uz 0 w ov outs) (h2:bf 3 32 tu 0 w cv code) (h3:bf 1 24 vw 0 w av args)
  (hin:∀j (hj:j<k.insts.length),0<=k.insts[j]∧k.insts[j]<ks.length) :
  Calls Tryz.prog 50 #[.agg #[mv],.agg #[.string k.name,a1,a2,a3,a4,a5,a6],.agg #[.int .i64 5,.string nm,.int .i64 eu,ov,cv,av]] w (Ans (.bool (ny ks k ⟨5,nm,eu,outs,code,args⟩)) w):=by
 have Xa:=hide (fun code v w' (hb:Below w.heap.size w w') hv=>Ik k code a1 a2 a3 a4 a5 a6 v w' (h.stays hb) hv)
 have P9:=hide (fun x w' (hb:Below w.heap.size w w')=>Gj k x a1 a2 a3 a4 a5 a6 w' (h.stays hb))
 have HVR:=hide (fun w' (hb:Below w.heap.size w w')=>G9 k a1 a2 a3 a4 a5 a6 w' (h.stays hb).ins (h.stays hb).outs (h.stays hb).ay h.sum)
 have Wp:=hide h.insts
 obtain⟨b1,c1,rfl⟩:=h.ins.shape
 obtain⟨b2,c2,rfl⟩:=h.outs.shape
 obtain⟨b3,c3,rfl⟩:=h.ay.shape
 obtain⟨b4,c4,rfl⟩:=h.aj.shape
 obtain⟨b5,c5,rfl⟩:=h.insts.shape
 obtain⟨b6,c6,rfl⟩:=h.body.shape
 obtain⟨bm,cm,rfl⟩:=hm.shape
 obtain⟨o1,p1,rfl⟩:=h1.shape
 obtain⟨o2,p2,rfl⟩:=h2.shape
 obtain⟨o3,p3,rfl⟩:=h3.shape
 have z1:=h1.uy
 have z2:=h2.uy
 have z3:=h3.uy
 have z4:=h.aj.uy
 have z5:=h.insts.uy
 have z6:=hm.uy
 have HO:=hide h1
 have HC:=hide h2
 have HAA:=hide h3
 have Xz:=hide hm
 clear h hm h1 h2 h3
 have hA:Below w.heap.size w (((w.alloc (.cells #[.slice bm ks.length cm] 28)).alloc (.cells #[.string k.name,.slice b1 k.ins.length c1,.slice b2 k.outs.length c2,.slice b3 k.ay.length c3,.slice b4 k.aj.length c4,.slice b5 k.insts.length c5,.slice b6 k.body.length c6] 43)).alloc (.cells #[.int .i64 5,.string nm,.int .i64 eu,.slice o1 outs.length p1,.slice o2 code.length p2,.slice o3 args.length p3] 60)):=(((Below.refl _ _).alloc (Nat.le_refl _) _).alloc (by simp) _).alloc (by simp only[World.size_alloc];omega) _
 have Oq:(((w.alloc (.cells #[.slice bm ks.length cm] 28)).alloc (.cells #[.string k.name,.slice b1 k.ins.length c1,.slice b2 k.outs.length c2,.slice b3 k.ay.length c3,.slice b4 k.aj.length c4,.slice b5 k.insts.length c5,.slice b6 k.body.length c6] 43)).alloc (.cells #[.int .i64 5,.string nm,.int .i64 eu,.slice o1 outs.length p1,.slice o2 code.length p2,.slice o3 args.length p3] 60)).heap.size=w.heap.size+3:=by simp
 have hB1:au (((w.alloc (.cells #[.slice bm ks.length cm] 28)).alloc (.cells #[.string k.name,.slice b1 k.ins.length c1,.slice b2 k.outs.length c2,.slice b3 k.ay.length c3,.slice b4 k.aj.length c4,.slice b5 k.insts.length c5,.slice b6 k.body.length c6] 43)).alloc (.cells #[.int .i64 5,.string nm,.int .i64 eu,.slice o1 outs.length p1,.slice o2 code.length p2,.slice o3 args.length p3] 60)) w.heap.size 28 #[.slice bm ks.length cm]:=(jl w #[.slice bm ks.length cm] 28).below (((Below.refl _ _).alloc (Nat.le_refl _) _).alloc (by simp) _) (by simp)
 have hB2:au (((w.alloc (.cells #[.slice bm ks.length cm] 28)).alloc (.cells #[.string k.name,.slice b1 k.ins.length c1,.slice b2 k.outs.length c2,.slice b3 k.ay.length c3,.slice b4 k.aj.length c4,.slice b5 k.insts.length c5,.slice b6 k.body.length c6] 43)).alloc (.cells #[.int .i64 5,.string nm,.int .i64 eu,.slice o1 outs.length p1,.slice o2 code.length p2,.slice o3 args.length p3] 60)) (w.heap.size+1) 43 #[.string k.name,.slice b1 k.ins.length c1,.slice b2 k.outs.length c2,.slice b3 k.ay.length c3,.slice b4 k.aj.length c4,.slice b5 k.insts.length c5,.slice b6 k.body.length c6]:=by
  have h0:=jl (w.alloc (.cells #[.slice bm ks.length cm] 28)) #[.string k.name,.slice b1 k.ins.length c1,.slice b2 k.outs.length c2,.slice b3 k.ay.length c3,.slice b4 k.aj.length c4,.slice b5 k.insts.length c5,.slice b6 k.body.length c6] 43
  rw[show (w.alloc (.cells #[.slice bm ks.length cm] 28)).heap.size=w.heap.size+1 from by simp] at h0
  exact h0.below ((Below.refl _ _).alloc (Nat.le_refl _) _) (by simp)
 have hB3:au (((w.alloc (.cells #[.slice bm ks.length cm] 28)).alloc (.cells #[.string k.name,.slice b1 k.ins.length c1,.slice b2 k.outs.length c2,.slice b3 k.ay.length c3,.slice b4 k.aj.length c4,.slice b5 k.insts.length c5,.slice b6 k.body.length c6] 43)).alloc (.cells #[.int .i64 5,.string nm,.int .i64 eu,.slice o1 outs.length p1,.slice o2 code.length p2,.slice o3 args.length p3] 60)) (w.heap.size+2) 60 #[.int .i64 5,.string nm,.int .i64 eu,.slice o1 outs.length p1,.slice o2 code.length p2,.slice o3 args.length p3]:=by
  have h0:=jl ((w.alloc (.cells #[.slice bm ks.length cm] 28)).alloc (.cells #[.string k.name,.slice b1 k.ins.length c1,.slice b2 k.outs.length c2,.slice b3 k.ay.length c3,.slice b4 k.aj.length c4,.slice b5 k.insts.length c5,.slice b6 k.body.length c6] 43)) #[.int .i64 5,.string nm,.int .i64 eu,.slice o1 outs.length p1,.slice o2 code.length p2,.slice o3 args.length p3] 60
  rw[show ((w.alloc (.cells #[.slice bm ks.length cm] 28)).alloc (.cells #[.string k.name,.slice b1 k.ins.length c1,.slice b2 k.outs.length c2,.slice b3 k.ay.length c3,.slice b4 k.aj.length c4,.slice b5 k.insts.length c5,.slice b6 k.body.length c6] 43)).heap.size=w.heap.size+2 from by simp] at h0
  exact h0
 obtain⟨BX,gq⟩:∃BX:World->Prop,∀w',BX w'↔Below (w.heap.size+3) (((w.alloc (.cells #[.slice bm ks.length cm] 28)).alloc (.cells #[.string k.name,.slice b1 k.ins.length c1,.slice b2 k.outs.length c2,.slice b3 k.ay.length c3,.slice b4 k.aj.length c4,.slice b5 k.insts.length c5,.slice b6 k.body.length c6] 43)).alloc (.cells #[.int .i64 5,.string nm,.int .i64 eu,.slice o1 outs.length p1,.slice o2 code.length p2,.slice o3 args.length p3] 60)) w':=⟨_,fun _=>Iff.rfl⟩
 have mg:Hid (∀w1,BX w1->Below w.heap.size w w1):=fun w1 h=>hA.trans (((gq w1).1 h).mono (by omega))
 have qp:Hid (∀w1 w2,BX w1->Below w1.heap.size w1 w2->BX w2):=fun w1 w2 h h2=>(gq w2).2 (((gq w1).1 h).trans (h2.mono (by have:=((gq w1).1 h).size;omega)))
 have yg:Hid (∀w1,BX w1->w1.cell? ⟨w.heap.size,0,none⟩=some (.slice bm ks.length cm)∧w1.cell? ⟨w.heap.size+1,0,none⟩=some (.string k.name)∧w1.cell? ⟨w.heap.size+1,1,none⟩=some (.slice b1 k.ins.length c1)∧w1.cell? ⟨w.heap.size+1,2,none⟩=some (.slice b2 k.outs.length c2)∧w1.cell? ⟨w.heap.size+1,3,none⟩=some (.slice b3 k.ay.length c3)∧w1.cell? ⟨w.heap.size+1,4,none⟩=some (.slice b4 k.aj.length c4)∧w1.cell? ⟨w.heap.size+1,5,none⟩=some (.slice b5 k.insts.length c5)∧w1.cell? ⟨w.heap.size+1,6,none⟩=some (.slice b6 k.body.length c6)∧w1.cell? ⟨w.heap.size+2,0,none⟩=some (.int .i64 5)∧w1.cell? ⟨w.heap.size+2,1,none⟩=some (.string nm)∧w1.cell? ⟨w.heap.size+2,2,none⟩=some (.int .i64 eu)∧w1.cell? ⟨w.heap.size+2,3,none⟩=some (.slice o1 outs.length p1)∧w1.cell? ⟨w.heap.size+2,4,none⟩=some (.slice o2 code.length p2)∧w1.cell? ⟨w.heap.size+2,5,none⟩=some (.slice o3 args.length p3)):=fun w1 h=>⟨(hB1.below ((gq w1).1 h) (by omega)).cell (i:=0) (v:=.slice bm ks.length cm) rfl,(hB2.below ((gq w1).1 h) (by omega)).cell (i:=0) (v:=.string k.name) rfl,(hB2.below ((gq w1).1 h) (by omega)).cell (i:=1) (v:=.slice b1 k.ins.length c1) rfl,(hB2.below ((gq w1).1 h) (by omega)).cell (i:=2) (v:=.slice b2 k.outs.length c2) rfl,(hB2.below ((gq w1).1 h) (by omega)).cell (i:=3) (v:=.slice b3 k.ay.length c3) rfl,(hB2.below ((gq w1).1 h) (by omega)).cell (i:=4) (v:=.slice b4 k.aj.length c4) rfl,(hB2.below ((gq w1).1 h) (by omega)).cell (i:=5) (v:=.slice b5 k.insts.length c5) rfl,(hB2.below ((gq w1).1 h) (by omega)).cell (i:=6) (v:=.slice b6 k.body.length c6) rfl,(hB3.below ((gq w1).1 h) (by omega)).cell (i:=0) (v:=.int .i64 5) rfl,(hB3.below ((gq w1).1 h) (by omega)).cell (i:=1) (v:=.string nm) rfl,(hB3.below ((gq w1).1 h) (by omega)).cell (i:=2) (v:=.int .i64 eu) rfl,(hB3.below ((gq w1).1 h) (by omega)).cell (i:=3) (v:=.slice o1 outs.length p1) rfl,(hB3.below ((gq w1).1 h) (by omega)).cell (i:=4) (v:=.slice o2 code.length p2) rfl,(hB3.below ((gq w1).1 h) (by omega)).cell (i:=5) (v:=.slice o3 args.length p3) rfl⟩
 have Ky:Hid (∀w1,BX w1->w.heap.size+3<=w1.heap.size):=fun w1 h=>by have:=((gq w1).1 h).size;omega
 have HX0:Hid (BX (((w.alloc (.cells #[.slice bm ks.length cm] 28)).alloc (.cells #[.string k.name,.slice b1 k.ins.length c1,.slice b2 k.outs.length c2,.slice b3 k.ay.length c3,.slice b4 k.aj.length c4,.slice b5 k.insts.length c5,.slice b6 k.body.length c6] 43)).alloc (.cells #[.int .i64 5,.string nm,.int .i64 eu,.slice o1 outs.length p1,.slice o2 code.length p2,.slice o3 args.length p3] 60))):=(gq _).2 (Below.refl _ _)
 have HXd:Hid (BX (((w.alloc (.cells #[.slice bm ks.length cm] 28)).alloc (.cells #[.string k.name,.slice b1 k.ins.length c1,.slice b2 k.outs.length c2,.slice b3 k.ay.length c3,.slice b4 k.aj.length c4,.slice b5 k.insts.length c5,.slice b6 k.body.length c6] 43)).alloc (.cells #[.int .i64 5,.string nm,.int .i64 eu,.slice o1 outs.length p1,.slice o2 code.length p2,.slice o3 args.length p3] 60)).drew):=(gq _).2 (Below.refl _ _).drew
 have HA:=hide hA
 clear hA Oq hB1 hB2 hB3 gq
 by_cases hq:nm.size=0
 case neg =>
  have d4:=Gg nm hq
  have d4':=Cj nm hq
  have HF:=hide (Sj ks k ⟨5,nm,eu,outs,code,args⟩ (by simp) hq)
  generalize ny ks k ⟨5,nm,eu,outs,code,args⟩=R at *
  clear hq
  go_enter Tryz.func50,Tryz.ntmps50
  go_wp2
  go_ret
  exact⟨jf (uh HF).symm,uh HA⟩
 have d4:=Ea nm hq
 have d4':=Bg nm hq
 have Ot:=hide hq
 clear hq
 by_cases hq:eu=0
 case neg =>
  have d5:(eu != 0)=true:=by simp[hq]
  have HF:=hide (Zb ks k ⟨5,nm,eu,outs,code,args⟩ (by simp) (by simp) hq)
  generalize ny ks k ⟨5,nm,eu,outs,code,args⟩=R at *
  clear hq
  go_enter Tryz.func50,Tryz.ntmps50
  go_wp2
  go_ret
  exact⟨jf (uh HF).symm,uh HA⟩
 have d5:(eu != 0)=false:=by simp[hq]
 have aae:=hide hq
 clear hq
 by_cases hq:outs.length=0
 case neg =>
  have d6:((outs.length:Int) != 0)=true:=by rw[bne_iff_ne];omega
  have HF:=hide (Jm ks k ⟨5,nm,eu,outs,code,args⟩ (by simp) (Or.inl hq))
  generalize ny ks k ⟨5,nm,eu,outs,code,args⟩=R at *
  clear hq
  go_enter Tryz.func50,Tryz.ntmps50
  go_wp2
  go_ret
  exact⟨jf (uh HF).symm,uh HA⟩
 have d6:((outs.length:Int) != 0)=false:=by rw[bne_eq_false_iff_eq];omega
 have Nb:=hide hq
 clear hq
 by_cases hq:args.length=0
 case neg =>
  have d7:((args.length:Int) != 0)=true:=by rw[bne_iff_ne];omega
  have HF:=hide (Jm ks k ⟨5,nm,eu,outs,code,args⟩ (by simp) (Or.inr hq))
  generalize ny ks k ⟨5,nm,eu,outs,code,args⟩=R at *
  clear hq
  go_enter Tryz.func50,Tryz.ntmps50
  go_wp2
  go_ret
  exact⟨jf (uh HF).symm,uh HA⟩
 have d7:((args.length:Int) != 0)=false:=by rw[bne_eq_false_iff_eq];omega
 have Nc:=hide hq
 clear hq
 by_cases hq:code.length=0
 case neg =>
  have d8:((code.length:Int) != 0)=true:=by rw[bne_iff_ne];omega
  have HF:=hide (Sl ks k ⟨5,nm,eu,outs,code,args⟩ (by simp) (by simp) hq)
  generalize ny ks k ⟨5,nm,eu,outs,code,args⟩=R at *
  clear hq
  go_enter Tryz.func50,Tryz.ntmps50
  go_wp2
  go_ret
  exact⟨jf (uh HF).symm,uh HA⟩
 have d8:((code.length:Int) != 0)=false:=by rw[bne_eq_false_iff_eq];omega
 have Ou:=hide hq
 clear hq
 have HF:Hid (ny ks k ⟨5,nm,eu,outs,code,args⟩=true):=(Na ks k ⟨5,nm,eu,outs,code,args⟩ (Or.inr (Or.inr (uh Ot))) (Or.inr (Or.inr (uh aae))) (Or.inr ⟨uh Nb,uh Nc⟩) (Or.inr (Or.inr (uh Ou)))).trans (by unfold F8;simp)
 generalize ny ks k ⟨5,nm,eu,outs,code,args⟩=R at *
 go_enter Tryz.func50,Tryz.ntmps50
 go_wp2
 go_ret
 exact⟨jf (uh HF).symm,uh HA⟩
set_option maxRecDepth 20000 in
set_option maxHeartbeats 4000000 in
theorem an4 (ks:List ak) (k:ak) (nm:ByteArray) (eu:Int) (outs:List ByteArray) (code:List iw) (args:List (List iw))  (a1 a2 a3 a4 a5 a6 mv ov cv av:Value) (w:World) (hm:bf 7 160 ni 0 w mv ks) (h:F7 w k a1 a2 a3 a4 a5 a6) (h1:bf 1 16 uz 0 w ov outs) (h2:bf 3 32 tu 0 w cv code) (h3:bf 1 24 vw 0 w av args)
  (hin:∀j (hj:j<k.insts.length),0<=k.insts[j]∧k.insts[j]<ks.length) :
  Calls Tryz.prog 50 #[.agg #[mv],.agg #[.string k.name,a1,a2,a3,a4,a5,a6],.agg #[.int .i64 6,.string nm,.int .i64 eu,ov,cv,av]] w (Ans (.bool (ny ks k ⟨6,nm,eu,outs,code,args⟩)) w):=by
 have Xa:=hide (fun code v w' (hb:Below w.heap.size w w') hv=>Ik k code a1 a2 a3 a4 a5 a6 v w' (h.stays hb) hv)
 have P9:=hide (fun x w' (hb:Below w.heap.size w w')=>Gj k x a1 a2 a3 a4 a5 a6 w' (h.stays hb))
 have HVR:=hide (fun w' (hb:Below w.heap.size w w')=>G9 k a1 a2 a3 a4 a5 a6 w' (h.stays hb).ins (h.stays hb).outs (h.stays hb).ay h.sum)
 have Wp:=hide h.insts
 obtain⟨b1,c1,rfl⟩:=h.ins.shape
 obtain⟨b2,c2,rfl⟩:=h.outs.shape
 obtain⟨b3,c3,rfl⟩:=h.ay.shape
 obtain⟨b4,c4,rfl⟩:=h.aj.shape
 obtain⟨b5,c5,rfl⟩:=h.insts.shape
 obtain⟨b6,c6,rfl⟩:=h.body.shape
 obtain⟨bm,cm,rfl⟩:=hm.shape
 obtain⟨o1,p1,rfl⟩:=h1.shape
 obtain⟨o2,p2,rfl⟩:=h2.shape
 obtain⟨o3,p3,rfl⟩:=h3.shape
 have z1:=h1.uy
 have z2:=h2.uy
 have z3:=h3.uy
 have z4:=h.aj.uy
 have z5:=h.insts.uy
 have z6:=hm.uy
 have HO:=hide h1
 have HC:=hide h2
 have HAA:=hide h3
 have Xz:=hide hm
 clear h hm h1 h2 h3
 have hA:Below w.heap.size w (((w.alloc (.cells #[.slice bm ks.length cm] 28)).alloc (.cells #[.string k.name,.slice b1 k.ins.length c1,.slice b2 k.outs.length c2,.slice b3 k.ay.length c3,.slice b4 k.aj.length c4,.slice b5 k.insts.length c5,.slice b6 k.body.length c6] 43)).alloc (.cells #[.int .i64 6,.string nm,.int .i64 eu,.slice o1 outs.length p1,.slice o2 code.length p2,.slice o3 args.length p3] 60)):=(((Below.refl _ _).alloc (Nat.le_refl _) _).alloc (by simp) _).alloc (by simp only[World.size_alloc];omega) _
 have Oq:(((w.alloc (.cells #[.slice bm ks.length cm] 28)).alloc (.cells #[.string k.name,.slice b1 k.ins.length c1,.slice b2 k.outs.length c2,.slice b3 k.ay.length c3,.slice b4 k.aj.length c4,.slice b5 k.insts.length c5,.slice b6 k.body.length c6] 43)).alloc (.cells #[.int .i64 6,.string nm,.int .i64 eu,.slice o1 outs.length p1,.slice o2 code.length p2,.slice o3 args.length p3] 60)).heap.size=w.heap.size+3:=by simp
 have hB1:au (((w.alloc (.cells #[.slice bm ks.length cm] 28)).alloc (.cells #[.string k.name,.slice b1 k.ins.length c1,.slice b2 k.outs.length c2,.slice b3 k.ay.length c3,.slice b4 k.aj.length c4,.slice b5 k.insts.length c5,.slice b6 k.body.length c6] 43)).alloc (.cells #[.int .i64 6,.string nm,.int .i64 eu,.slice o1 outs.length p1,.slice o2 code.length p2,.slice o3 args.length p3] 60)) w.heap.size 28 #[.slice bm ks.length cm]:=(jl w #[.slice bm ks.length cm] 28).below (((Below.refl _ _).alloc (Nat.le_refl _) _).alloc (by simp) _) (by simp)
 have hB2:au (((w.alloc (.cells #[.slice bm ks.length cm] 28)).alloc (.cells #[.string k.name,.slice b1 k.ins.length c1,.slice b2 k.outs.length c2,.slice b3 k.ay.length c3,.slice b4 k.aj.length c4,.slice b5 k.insts.length c5,.slice b6 k.body.length c6] 43)).alloc (.cells #[.int .i64 6,.string nm,.int .i64 eu,.slice o1 outs.length p1,.slice o2 code.length p2,.slice o3 args.length p3] 60)) (w.heap.size+1) 43 #[.string k.name,.slice b1 k.ins.length c1,.slice b2 k.outs.length c2,.slice b3 k.ay.length c3,.slice b4 k.aj.length c4,.slice b5 k.insts.length c5,.slice b6 k.body.length c6]:=by
  have h0:=jl (w.alloc (.cells #[.slice bm ks.length cm] 28)) #[.string k.name,.slice b1 k.ins.length c1,.slice b2 k.outs.length c2,.slice b3 k.ay.length c3,.slice b4 k.aj.length c4,.slice b5 k.insts.length c5,.slice b6 k.body.length c6] 43
  rw[show (w.alloc (.cells #[.slice bm ks.length cm] 28)).heap.size=w.heap.size+1 from by simp] at h0
  exact h0.below ((Below.refl _ _).alloc (Nat.le_refl _) _) (by simp)
 have hB3:au (((w.alloc (.cells #[.slice bm ks.length cm] 28)).alloc (.cells #[.string k.name,.slice b1 k.ins.length c1,.slice b2 k.outs.length c2,.slice b3 k.ay.length c3,.slice b4 k.aj.length c4,.slice b5 k.insts.length c5,.slice b6 k.body.length c6] 43)).alloc (.cells #[.int .i64 6,.string nm,.int .i64 eu,.slice o1 outs.length p1,.slice o2 code.length p2,.slice o3 args.length p3] 60)) (w.heap.size+2) 60 #[.int .i64 6,.string nm,.int .i64 eu,.slice o1 outs.length p1,.slice o2 code.length p2,.slice o3 args.length p3]:=by
  have h0:=jl ((w.alloc (.cells #[.slice bm ks.length cm] 28)).alloc (.cells #[.string k.name,.slice b1 k.ins.length c1,.slice b2 k.outs.length c2,.slice b3 k.ay.length c3,.slice b4 k.aj.length c4,.slice b5 k.insts.length c5,.slice b6 k.body.length c6] 43)) #[.int .i64 6,.string nm,.int .i64 eu,.slice o1 outs.length p1,.slice o2 code.length p2,.slice o3 args.length p3] 60
  rw[show ((w.alloc (.cells #[.slice bm ks.length cm] 28)).alloc (.cells #[.string k.name,.slice b1 k.ins.length c1,.slice b2 k.outs.length c2,.slice b3 k.ay.length c3,.slice b4 k.aj.length c4,.slice b5 k.insts.length c5,.slice b6 k.body.length c6] 43)).heap.size=w.heap.size+2 from by simp] at h0
  exact h0
 obtain⟨BX,gq⟩:∃BX:World->Prop,∀w',BX w'↔Below (w.heap.size+3) (((w.alloc (.cells #[.slice bm ks.length cm] 28)).alloc (.cells #[.string k.name,.slice b1 k.ins.length c1,.slice b2 k.outs.length c2,.slice b3 k.ay.length c3,.slice b4 k.aj.length c4,.slice b5 k.insts.length c5,.slice b6 k.body.length c6] 43)).alloc (.cells #[.int .i64 6,.string nm,.int .i64 eu,.slice o1 outs.length p1,.slice o2 code.length p2,.slice o3 args.length p3] 60)) w':=⟨_,fun _=>Iff.rfl⟩
 have mg:Hid (∀w1,BX w1->Below w.heap.size w w1):=fun w1 h=>hA.trans (((gq w1).1 h).mono (by omega))
 have qp:Hid (∀w1 w2,BX w1->Below w1.heap.size w1 w2->BX w2):=fun w1 w2 h h2=>(gq w2).2 (((gq w1).1 h).trans (h2.mono (by have:=((gq w1).1 h).size;omega)))
 have yg:Hid (∀w1,BX w1->w1.cell? ⟨w.heap.size,0,none⟩=some (.slice bm ks.length cm)∧w1.cell? ⟨w.heap.size+1,0,none⟩=some (.string k.name)∧w1.cell? ⟨w.heap.size+1,1,none⟩=some (.slice b1 k.ins.length c1)∧w1.cell? ⟨w.heap.size+1,2,none⟩=some (.slice b2 k.outs.length c2)∧w1.cell? ⟨w.heap.size+1,3,none⟩=some (.slice b3 k.ay.length c3)∧w1.cell? ⟨w.heap.size+1,4,none⟩=some (.slice b4 k.aj.length c4)∧w1.cell? ⟨w.heap.size+1,5,none⟩=some (.slice b5 k.insts.length c5)∧w1.cell? ⟨w.heap.size+1,6,none⟩=some (.slice b6 k.body.length c6)∧w1.cell? ⟨w.heap.size+2,0,none⟩=some (.int .i64 6)∧w1.cell? ⟨w.heap.size+2,1,none⟩=some (.string nm)∧w1.cell? ⟨w.heap.size+2,2,none⟩=some (.int .i64 eu)∧w1.cell? ⟨w.heap.size+2,3,none⟩=some (.slice o1 outs.length p1)∧w1.cell? ⟨w.heap.size+2,4,none⟩=some (.slice o2 code.length p2)∧w1.cell? ⟨w.heap.size+2,5,none⟩=some (.slice o3 args.length p3)):=fun w1 h=>⟨(hB1.below ((gq w1).1 h) (by omega)).cell (i:=0) (v:=.slice bm ks.length cm) rfl,(hB2.below ((gq w1).1 h) (by omega)).cell (i:=0) (v:=.string k.name) rfl,(hB2.below ((gq w1).1 h) (by omega)).cell (i:=1) (v:=.slice b1 k.ins.length c1) rfl,(hB2.below ((gq w1).1 h) (by omega)).cell (i:=2) (v:=.slice b2 k.outs.length c2) rfl,(hB2.below ((gq w1).1 h) (by omega)).cell (i:=3) (v:=.slice b3 k.ay.length c3) rfl,(hB2.below ((gq w1).1 h) (by omega)).cell (i:=4) (v:=.slice b4 k.aj.length c4) rfl,(hB2.below ((gq w1).1 h) (by omega)).cell (i:=5) (v:=.slice b5 k.insts.length c5) rfl,(hB2.below ((gq w1).1 h) (by omega)).cell (i:=6) (v:=.slice b6 k.body.length c6) rfl,(hB3.below ((gq w1).1 h) (by omega)).cell (i:=0) (v:=.int .i64 6) rfl,(hB3.below ((gq w1).1 h) (by omega)).cell (i:=1) (v:=.string nm) rfl,(hB3.below ((gq w1).1 h) (by omega)).cell (i:=2) (v:=.int .i64 eu) rfl,(hB3.below ((gq w1).1 h) (by omega)).cell (i:=3) (v:=.slice o1 outs.length p1) rfl,(hB3.below ((gq w1).1 h) (by omega)).cell (i:=4) (v:=.slice o2 code.length p2) rfl,(hB3.below ((gq w1).1 h) (by omega)).cell (i:=5) (v:=.slice o3 args.length p3) rfl⟩
 have Ky:Hid (∀w1,BX w1->w.heap.size+3<=w1.heap.size):=fun w1 h=>by have:=((gq w1).1 h).size;omega
 have HX0:Hid (BX (((w.alloc (.cells #[.slice bm ks.length cm] 28)).alloc (.cells #[.string k.name,.slice b1 k.ins.length c1,.slice b2 k.outs.length c2,.slice b3 k.ay.length c3,.slice b4 k.aj.length c4,.slice b5 k.insts.length c5,.slice b6 k.body.length c6] 43)).alloc (.cells #[.int .i64 6,.string nm,.int .i64 eu,.slice o1 outs.length p1,.slice o2 code.length p2,.slice o3 args.length p3] 60))):=(gq _).2 (Below.refl _ _)
 have HXd:Hid (BX (((w.alloc (.cells #[.slice bm ks.length cm] 28)).alloc (.cells #[.string k.name,.slice b1 k.ins.length c1,.slice b2 k.outs.length c2,.slice b3 k.ay.length c3,.slice b4 k.aj.length c4,.slice b5 k.insts.length c5,.slice b6 k.body.length c6] 43)).alloc (.cells #[.int .i64 6,.string nm,.int .i64 eu,.slice o1 outs.length p1,.slice o2 code.length p2,.slice o3 args.length p3] 60)).drew):=(gq _).2 (Below.refl _ _).drew
 have HA:=hide hA
 clear hA Oq hB1 hB2 hB3 gq
 by_cases hq:nm.size=0
 case neg =>
  have d4:=Gg nm hq
  have d4':=Cj nm hq
  have HF:=hide (Sj ks k ⟨6,nm,eu,outs,code,args⟩ (by simp) hq)
  generalize ny ks k ⟨6,nm,eu,outs,code,args⟩=R at *
  clear hq
  go_enter Tryz.func50,Tryz.ntmps50
  go_wp2
  go_ret
  exact⟨jf (uh HF).symm,uh HA⟩
 have d4:=Ea nm hq
 have d4':=Bg nm hq
 have Ot:=hide hq
 clear hq
 by_cases hq:eu=0
 case neg =>
  have d5:(eu != 0)=true:=by simp[hq]
  have HF:=hide (Zb ks k ⟨6,nm,eu,outs,code,args⟩ (by simp) (by simp) hq)
  generalize ny ks k ⟨6,nm,eu,outs,code,args⟩=R at *
  clear hq
  go_enter Tryz.func50,Tryz.ntmps50
  go_wp2
  go_ret
  exact⟨jf (uh HF).symm,uh HA⟩
 have d5:(eu != 0)=false:=by simp[hq]
 have aae:=hide hq
 clear hq
 by_cases hq:outs.length=0
 case neg =>
  have d6:((outs.length:Int) != 0)=true:=by rw[bne_iff_ne];omega
  have HF:=hide (Jm ks k ⟨6,nm,eu,outs,code,args⟩ (by simp) (Or.inl hq))
  generalize ny ks k ⟨6,nm,eu,outs,code,args⟩=R at *
  clear hq
  go_enter Tryz.func50,Tryz.ntmps50
  go_wp2
  go_ret
  exact⟨jf (uh HF).symm,uh HA⟩
 have d6:((outs.length:Int) != 0)=false:=by rw[bne_eq_false_iff_eq];omega
 have Nb:=hide hq
 clear hq
 by_cases hq:args.length=0
 case neg =>
  have d7:((args.length:Int) != 0)=true:=by rw[bne_iff_ne];omega
  have HF:=hide (Jm ks k ⟨6,nm,eu,outs,code,args⟩ (by simp) (Or.inr hq))
  generalize ny ks k ⟨6,nm,eu,outs,code,args⟩=R at *
  clear hq
  go_enter Tryz.func50,Tryz.ntmps50
  go_wp2
  go_ret
  exact⟨jf (uh HF).symm,uh HA⟩
 have d7:((args.length:Int) != 0)=false:=by rw[bne_eq_false_iff_eq];omega
 have Nc:=hide hq
 clear hq
 by_cases hq:code.length=0
 case neg =>
  have d8:((code.length:Int) != 0)=true:=by rw[bne_iff_ne];omega
  have HF:=hide (Sl ks k ⟨6,nm,eu,outs,code,args⟩ (by simp) (by simp) hq)
  generalize ny ks k ⟨6,nm,eu,outs,code,args⟩=R at *
  clear hq
  go_enter Tryz.func50,Tryz.ntmps50
  go_wp2
  go_ret
  exact⟨jf (uh HF).symm,uh HA⟩
 have d8:((code.length:Int) != 0)=false:=by rw[bne_eq_false_iff_eq];omega
 have Ou:=hide hq
 clear hq
 have HF:Hid (ny ks k ⟨6,nm,eu,outs,code,args⟩=true):=(Na ks k ⟨6,nm,eu,outs,code,args⟩ (Or.inr (Or.inr (uh Ot))) (Or.inr (Or.inr (uh aae))) (Or.inr ⟨uh Nb,uh Nc⟩) (Or.inr (Or.inr (uh Ou)))).trans (by unfold F8;simp)
 generalize ny ks k ⟨6,nm,eu,outs,code,args⟩=R at *
 go_enter Tryz.func50,Tryz.ntmps50
 go_wp2
 go_ret
 exact⟨jf (uh HF).symm,uh HA⟩
set_option maxRecDepth 20000 in
set_option maxHeartbeats 4000000 in
theorem ahj (ks:List ak) (k:ak) (nm:ByteArray) (eu:Int) (outs:List ByteArray) (code:List iw) (args:List (List iw)) (kd:Int) (hkd:kd≠1∧kd≠2∧kd≠3∧kd≠4∧kd≠5∧kd≠6) (a1 a2 a3 a4 a5 a6 mv ov cv av:Value) (w:World) (hm:bf 7 160 ni 0 w mv ks) (h:F7 w k a1 a2 a3 a4 a5 a6) (h1:bf 1 16 uz 0 w ov outs) (h2:bf 3 32 tu 0 w cv code) (h3:bf 1 24 vw 0 w av args)
  (hin:∀j (hj:j<k.insts.length),0<=k.insts[j]∧k.insts[j]<ks.length) :
  Calls Tryz.prog 50 #[.agg #[mv],.agg #[.string k.name,a1,a2,a3,a4,a5,a6],.agg #[.int .i64 kd,.string nm,.int .i64 eu,ov,cv,av]] w (Ans (.bool (ny ks k ⟨kd,nm,eu,outs,code,args⟩)) w):=by
 have Xa:=hide (fun code v w' (hb:Below w.heap.size w w') hv=>Ik k code a1 a2 a3 a4 a5 a6 v w' (h.stays hb) hv)
 have P9:=hide (fun x w' (hb:Below w.heap.size w w')=>Gj k x a1 a2 a3 a4 a5 a6 w' (h.stays hb))
 have HVR:=hide (fun w' (hb:Below w.heap.size w w')=>G9 k a1 a2 a3 a4 a5 a6 w' (h.stays hb).ins (h.stays hb).outs (h.stays hb).ay h.sum)
 have Wp:=hide h.insts
 obtain⟨b1,c1,rfl⟩:=h.ins.shape
 obtain⟨b2,c2,rfl⟩:=h.outs.shape
 obtain⟨b3,c3,rfl⟩:=h.ay.shape
 obtain⟨b4,c4,rfl⟩:=h.aj.shape
 obtain⟨b5,c5,rfl⟩:=h.insts.shape
 obtain⟨b6,c6,rfl⟩:=h.body.shape
 obtain⟨bm,cm,rfl⟩:=hm.shape
 obtain⟨o1,p1,rfl⟩:=h1.shape
 obtain⟨o2,p2,rfl⟩:=h2.shape
 obtain⟨o3,p3,rfl⟩:=h3.shape
 have z1:=h1.uy
 have z2:=h2.uy
 have z3:=h3.uy
 have z4:=h.aj.uy
 have z5:=h.insts.uy
 have z6:=hm.uy
 have HO:=hide h1
 have HC:=hide h2
 have HAA:=hide h3
 have Xz:=hide hm
 clear h hm h1 h2 h3
 have hA:Below w.heap.size w (((w.alloc (.cells #[.slice bm ks.length cm] 28)).alloc (.cells #[.string k.name,.slice b1 k.ins.length c1,.slice b2 k.outs.length c2,.slice b3 k.ay.length c3,.slice b4 k.aj.length c4,.slice b5 k.insts.length c5,.slice b6 k.body.length c6] 43)).alloc (.cells #[.int .i64 kd,.string nm,.int .i64 eu,.slice o1 outs.length p1,.slice o2 code.length p2,.slice o3 args.length p3] 60)):=(((Below.refl _ _).alloc (Nat.le_refl _) _).alloc (by simp) _).alloc (by simp only[World.size_alloc];omega) _
 have Oq:(((w.alloc (.cells #[.slice bm ks.length cm] 28)).alloc (.cells #[.string k.name,.slice b1 k.ins.length c1,.slice b2 k.outs.length c2,.slice b3 k.ay.length c3,.slice b4 k.aj.length c4,.slice b5 k.insts.length c5,.slice b6 k.body.length c6] 43)).alloc (.cells #[.int .i64 kd,.string nm,.int .i64 eu,.slice o1 outs.length p1,.slice o2 code.length p2,.slice o3 args.length p3] 60)).heap.size=w.heap.size+3:=by simp
 have hB1:au (((w.alloc (.cells #[.slice bm ks.length cm] 28)).alloc (.cells #[.string k.name,.slice b1 k.ins.length c1,.slice b2 k.outs.length c2,.slice b3 k.ay.length c3,.slice b4 k.aj.length c4,.slice b5 k.insts.length c5,.slice b6 k.body.length c6] 43)).alloc (.cells #[.int .i64 kd,.string nm,.int .i64 eu,.slice o1 outs.length p1,.slice o2 code.length p2,.slice o3 args.length p3] 60)) w.heap.size 28 #[.slice bm ks.length cm]:=(jl w #[.slice bm ks.length cm] 28).below (((Below.refl _ _).alloc (Nat.le_refl _) _).alloc (by simp) _) (by simp)
 have hB2:au (((w.alloc (.cells #[.slice bm ks.length cm] 28)).alloc (.cells #[.string k.name,.slice b1 k.ins.length c1,.slice b2 k.outs.length c2,.slice b3 k.ay.length c3,.slice b4 k.aj.length c4,.slice b5 k.insts.length c5,.slice b6 k.body.length c6] 43)).alloc (.cells #[.int .i64 kd,.string nm,.int .i64 eu,.slice o1 outs.length p1,.slice o2 code.length p2,.slice o3 args.length p3] 60)) (w.heap.size+1) 43 #[.string k.name,.slice b1 k.ins.length c1,.slice b2 k.outs.length c2,.slice b3 k.ay.length c3,.slice b4 k.aj.length c4,.slice b5 k.insts.length c5,.slice b6 k.body.length c6]:=by
  have h0:=jl (w.alloc (.cells #[.slice bm ks.length cm] 28)) #[.string k.name,.slice b1 k.ins.length c1,.slice b2 k.outs.length c2,.slice b3 k.ay.length c3,.slice b4 k.aj.length c4,.slice b5 k.insts.length c5,.slice b6 k.body.length c6] 43
  rw[show (w.alloc (.cells #[.slice bm ks.length cm] 28)).heap.size=w.heap.size+1 from by simp] at h0
  exact h0.below ((Below.refl _ _).alloc (Nat.le_refl _) _) (by simp)
 have hB3:au (((w.alloc (.cells #[.slice bm ks.length cm] 28)).alloc (.cells #[.string k.name,.slice b1 k.ins.length c1,.slice b2 k.outs.length c2,.slice b3 k.ay.length c3,.slice b4 k.aj.length c4,.slice b5 k.insts.length c5,.slice b6 k.body.length c6] 43)).alloc (.cells #[.int .i64 kd,.string nm,.int .i64 eu,.slice o1 outs.length p1,.slice o2 code.length p2,.slice o3 args.length p3] 60)) (w.heap.size+2) 60 #[.int .i64 kd,.string nm,.int .i64 eu,.slice o1 outs.length p1,.slice o2 code.length p2,.slice o3 args.length p3]:=by
  have h0:=jl ((w.alloc (.cells #[.slice bm ks.length cm] 28)).alloc (.cells #[.string k.name,.slice b1 k.ins.length c1,.slice b2 k.outs.length c2,.slice b3 k.ay.length c3,.slice b4 k.aj.length c4,.slice b5 k.insts.length c5,.slice b6 k.body.length c6] 43)) #[.int .i64 kd,.string nm,.int .i64 eu,.slice o1 outs.length p1,.slice o2 code.length p2,.slice o3 args.length p3] 60
  rw[show ((w.alloc (.cells #[.slice bm ks.length cm] 28)).alloc (.cells #[.string k.name,.slice b1 k.ins.length c1,.slice b2 k.outs.length c2,.slice b3 k.ay.length c3,.slice b4 k.aj.length c4,.slice b5 k.insts.length c5,.slice b6 k.body.length c6] 43)).heap.size=w.heap.size+2 from by simp] at h0
  exact h0
 obtain⟨BX,gq⟩:∃BX:World->Prop,∀w',BX w'↔Below (w.heap.size+3) (((w.alloc (.cells #[.slice bm ks.length cm] 28)).alloc (.cells #[.string k.name,.slice b1 k.ins.length c1,.slice b2 k.outs.length c2,.slice b3 k.ay.length c3,.slice b4 k.aj.length c4,.slice b5 k.insts.length c5,.slice b6 k.body.length c6] 43)).alloc (.cells #[.int .i64 kd,.string nm,.int .i64 eu,.slice o1 outs.length p1,.slice o2 code.length p2,.slice o3 args.length p3] 60)) w':=⟨_,fun _=>Iff.rfl⟩
 have mg:Hid (∀w1,BX w1->Below w.heap.size w w1):=fun w1 h=>hA.trans (((gq w1).1 h).mono (by omega))
 have qp:Hid (∀w1 w2,BX w1->Below w1.heap.size w1 w2->BX w2):=fun w1 w2 h h2=>(gq w2).2 (((gq w1).1 h).trans (h2.mono (by have:=((gq w1).1 h).size;omega)))
 have yg:Hid (∀w1,BX w1->w1.cell? ⟨w.heap.size,0,none⟩=some (.slice bm ks.length cm)∧w1.cell? ⟨w.heap.size+1,0,none⟩=some (.string k.name)∧w1.cell? ⟨w.heap.size+1,1,none⟩=some (.slice b1 k.ins.length c1)∧w1.cell? ⟨w.heap.size+1,2,none⟩=some (.slice b2 k.outs.length c2)∧w1.cell? ⟨w.heap.size+1,3,none⟩=some (.slice b3 k.ay.length c3)∧w1.cell? ⟨w.heap.size+1,4,none⟩=some (.slice b4 k.aj.length c4)∧w1.cell? ⟨w.heap.size+1,5,none⟩=some (.slice b5 k.insts.length c5)∧w1.cell? ⟨w.heap.size+1,6,none⟩=some (.slice b6 k.body.length c6)∧w1.cell? ⟨w.heap.size+2,0,none⟩=some (.int .i64 kd)∧w1.cell? ⟨w.heap.size+2,1,none⟩=some (.string nm)∧w1.cell? ⟨w.heap.size+2,2,none⟩=some (.int .i64 eu)∧w1.cell? ⟨w.heap.size+2,3,none⟩=some (.slice o1 outs.length p1)∧w1.cell? ⟨w.heap.size+2,4,none⟩=some (.slice o2 code.length p2)∧w1.cell? ⟨w.heap.size+2,5,none⟩=some (.slice o3 args.length p3)):=fun w1 h=>⟨(hB1.below ((gq w1).1 h) (by omega)).cell (i:=0) (v:=.slice bm ks.length cm) rfl,(hB2.below ((gq w1).1 h) (by omega)).cell (i:=0) (v:=.string k.name) rfl,(hB2.below ((gq w1).1 h) (by omega)).cell (i:=1) (v:=.slice b1 k.ins.length c1) rfl,(hB2.below ((gq w1).1 h) (by omega)).cell (i:=2) (v:=.slice b2 k.outs.length c2) rfl,(hB2.below ((gq w1).1 h) (by omega)).cell (i:=3) (v:=.slice b3 k.ay.length c3) rfl,(hB2.below ((gq w1).1 h) (by omega)).cell (i:=4) (v:=.slice b4 k.aj.length c4) rfl,(hB2.below ((gq w1).1 h) (by omega)).cell (i:=5) (v:=.slice b5 k.insts.length c5) rfl,(hB2.below ((gq w1).1 h) (by omega)).cell (i:=6) (v:=.slice b6 k.body.length c6) rfl,(hB3.below ((gq w1).1 h) (by omega)).cell (i:=0) (v:=.int .i64 kd) rfl,(hB3.below ((gq w1).1 h) (by omega)).cell (i:=1) (v:=.string nm) rfl,(hB3.below ((gq w1).1 h) (by omega)).cell (i:=2) (v:=.int .i64 eu) rfl,(hB3.below ((gq w1).1 h) (by omega)).cell (i:=3) (v:=.slice o1 outs.length p1) rfl,(hB3.below ((gq w1).1 h) (by omega)).cell (i:=4) (v:=.slice o2 code.length p2) rfl,(hB3.below ((gq w1).1 h) (by omega)).cell (i:=5) (v:=.slice o3 args.length p3) rfl⟩
 have Ky:Hid (∀w1,BX w1->w.heap.size+3<=w1.heap.size):=fun w1 h=>by have:=((gq w1).1 h).size;omega
 have HX0:Hid (BX (((w.alloc (.cells #[.slice bm ks.length cm] 28)).alloc (.cells #[.string k.name,.slice b1 k.ins.length c1,.slice b2 k.outs.length c2,.slice b3 k.ay.length c3,.slice b4 k.aj.length c4,.slice b5 k.insts.length c5,.slice b6 k.body.length c6] 43)).alloc (.cells #[.int .i64 kd,.string nm,.int .i64 eu,.slice o1 outs.length p1,.slice o2 code.length p2,.slice o3 args.length p3] 60))):=(gq _).2 (Below.refl _ _)
 have HXd:Hid (BX (((w.alloc (.cells #[.slice bm ks.length cm] 28)).alloc (.cells #[.string k.name,.slice b1 k.ins.length c1,.slice b2 k.outs.length c2,.slice b3 k.ay.length c3,.slice b4 k.aj.length c4,.slice b5 k.insts.length c5,.slice b6 k.body.length c6] 43)).alloc (.cells #[.int .i64 kd,.string nm,.int .i64 eu,.slice o1 outs.length p1,.slice o2 code.length p2,.slice o3 args.length p3] 60)).drew):=(gq _).2 (Below.refl _ _).drew
 have HA:=hide hA
 clear hA Oq hB1 hB2 hB3 gq
 have y1:(kd == 1)=false:=by rw[beq_eq_false_iff_ne];omega
 have yy1:(kd != 1)=true:=by simp;omega
 have y2:(kd == 2)=false:=by rw[beq_eq_false_iff_ne];omega
 have yy2:(kd != 2)=true:=by simp;omega
 have y3:(kd == 3)=false:=by rw[beq_eq_false_iff_ne];omega
 have yy3:(kd != 3)=true:=by simp;omega
 have y4:(kd == 4)=false:=by rw[beq_eq_false_iff_ne];omega
 have yy4:(kd != 4)=true:=by simp;omega
 have y5:(kd == 5)=false:=by rw[beq_eq_false_iff_ne];omega
 have yy5:(kd != 5)=true:=by simp;omega
 have y6:(kd == 6)=false:=by rw[beq_eq_false_iff_ne];omega
 have yy6:(kd != 6)=true:=by simp;omega
 by_cases hq:nm.size=0
 case neg =>
  have d4:=Gg nm hq
  have d4':=Cj nm hq
  have HF:=hide (Sj ks k ⟨kd,nm,eu,outs,code,args⟩ (by simp only;omega) hq)
  generalize ny ks k ⟨kd,nm,eu,outs,code,args⟩=R at *
  clear hq
  go_enter Tryz.func50,Tryz.ntmps50
  go_wp2
  go_ret
  exact⟨jf (uh HF).symm,uh HA⟩
 have d4:=Ea nm hq
 have d4':=Bg nm hq
 have Ot:=hide hq
 clear hq
 by_cases hq:eu=0
 case neg =>
  have d5:(eu != 0)=true:=by simp[hq]
  have HF:=hide (Zb ks k ⟨kd,nm,eu,outs,code,args⟩ (by simp only;omega) (by simp only;omega) hq)
  generalize ny ks k ⟨kd,nm,eu,outs,code,args⟩=R at *
  clear hq
  go_enter Tryz.func50,Tryz.ntmps50
  go_wp2
  go_ret
  exact⟨jf (uh HF).symm,uh HA⟩
 have d5:(eu != 0)=false:=by simp[hq]
 have aae:=hide hq
 clear hq
 by_cases hq:outs.length=0
 case neg =>
  have d6:((outs.length:Int) != 0)=true:=by rw[bne_iff_ne];omega
  have HF:=hide (Jm ks k ⟨kd,nm,eu,outs,code,args⟩ (by simp only;omega) (Or.inl hq))
  generalize ny ks k ⟨kd,nm,eu,outs,code,args⟩=R at *
  clear hq
  go_enter Tryz.func50,Tryz.ntmps50
  go_wp2
  go_ret
  exact⟨jf (uh HF).symm,uh HA⟩
 have d6:((outs.length:Int) != 0)=false:=by rw[bne_eq_false_iff_eq];omega
 have Nb:=hide hq
 clear hq
 by_cases hq:args.length=0
 case neg =>
  have d7:((args.length:Int) != 0)=true:=by rw[bne_iff_ne];omega
  have HF:=hide (Jm ks k ⟨kd,nm,eu,outs,code,args⟩ (by simp only;omega) (Or.inr hq))
  generalize ny ks k ⟨kd,nm,eu,outs,code,args⟩=R at *
  clear hq
  go_enter Tryz.func50,Tryz.ntmps50
  go_wp2
  go_ret
  exact⟨jf (uh HF).symm,uh HA⟩
 have d7:((args.length:Int) != 0)=false:=by rw[bne_eq_false_iff_eq];omega
 have Nc:=hide hq
 clear hq
 by_cases hq:code.length=0
 case neg =>
  have d8:((code.length:Int) != 0)=true:=by rw[bne_iff_ne];omega
  have HF:=hide (Sl ks k ⟨kd,nm,eu,outs,code,args⟩ (by simp only;omega) (by simp only;omega) hq)
  generalize ny ks k ⟨kd,nm,eu,outs,code,args⟩=R at *
  clear hq
  go_enter Tryz.func50,Tryz.ntmps50
  go_wp2
  go_ret
  exact⟨jf (uh HF).symm,uh HA⟩
 have d8:((code.length:Int) != 0)=false:=by rw[bne_eq_false_iff_eq];omega
 have Ou:=hide hq
 clear hq
 have HF:Hid (ny ks k ⟨kd,nm,eu,outs,code,args⟩=false):=(Na ks k ⟨kd,nm,eu,outs,code,args⟩ (Or.inr (Or.inr (uh Ot))) (Or.inr (Or.inr (uh aae))) (Or.inr ⟨uh Nb,uh Nc⟩) (Or.inr (Or.inr (uh Ou)))).trans (by unfold F8;simp only;rw[if_neg (by omega),if_neg (by omega),if_neg (by omega),if_neg (by omega),if_neg (by omega)])
 generalize ny ks k ⟨kd,nm,eu,outs,code,args⟩=R at *
 clear hkd
 go_enter Tryz.func50,Tryz.ntmps50
 go_wp2
 go_ret
 exact⟨jf (uh HF).symm,uh HA⟩
end Go.Proofs.YtlcgnbcgmljpaaaGreat
