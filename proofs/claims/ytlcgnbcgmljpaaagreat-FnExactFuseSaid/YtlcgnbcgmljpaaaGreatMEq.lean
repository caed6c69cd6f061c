import Derived.Test.YtlcgnbcgmljpaaaGreatMTo
import Derived.Test.YtlcgnbcgmljpaaaGreatData
import Derived.Test.YtlcgnbcgmljpaaaGreatProg
import Derived.WalkLawsBesides
import Derived.Deep.LoopGhost
namespace Go.Proofs.YtlcgnbcgmljpaaaGreat
open Go.RowKit
set_option linter.unusedSimpArgs false
set_option linter.unusedVariables false
set_option maxHeartbeats 400000 in
theorem aqm (c:gy) (w:World) :
  Calls Tryz.prog 93 #[.agg #[.string c.name,.int .i64 c.type],.agg #[.string c.name,.int .i64 c.type]] w (Ia w):=by
 obtain⟨s,ty⟩:=c
 go_enter Tryz.func93,Tryz.ntmps93
 go_wp2
 go_ret
 exact⟨rfl,((Below.refl _ _).alloc (Nat.le_refl _) _).alloc (by simp) _⟩
set_option maxHeartbeats 400000 in
theorem aew (xs:List gy) (v u:Value) (w:World) (hv:bf 2 24 xk 0 w v xs) (hu:bf 2 24 xk 0 w u xs) :
  Calls Tryz.prog 62 #[v,u] w (Ia w):=by
 obtain⟨a,cap,rfl,_,hn,hx⟩:=hv
 obtain⟨a2,cap2,rfl,_,_,hy⟩:=hu
 unfold Len at hn
 have HX:=hide hx
 have HY:=hide hy
 clear hx hy
 go_enter Tryz.func62,Tryz.ntmps62
 go_wp2
 go_loopg [5] xs.length (fun g i wr=>∃(k:Nat),k<=xs.length∧g=xs.length-k∧i=.int .i64 k∧Below w.heap.size w wr)
 case atStart=>exact⟨0,Nat.zero_le _,by omega,rfl,Below.refl _ _⟩
 case round =>
  obtain⟨k,hk,hg,rfl,hbl⟩:=hrel
  have HG:=hide hg
  clear hg
  by_cases hlt:k<xs.length
  ·obtain⟨b,o,cs,rfl,_,hb,hcs,hc,hR⟩:=uh HX k hlt
   have hc:∀j (hj:j<cs.length),wr.cell? ⟨b,o+k*2+j,none⟩=some cs[j]:=fun j hj=>by rw[hbl.cell (p:=⟨b,_,none⟩) hb];exact hc j hj
   obtain⟨b2,o2,cs2,rfl,_,hb2,hcs2,hc2,hR2⟩:=uh HY k hlt
   have hc2:∀j (hj:j<cs2.length),wr.cell? ⟨b2,o2+k*2+j,none⟩=some cs2[j]:=fun j hj=>by rw[hbl.cell (p:=⟨b2,_,none⟩) hb2];exact hc2 j hj
   have hR:=jq.stays _ _ _ _ _ hbl.drew hR
   have hR2:=jq.stays _ _ _ _ _ hbl.drew hR2
   obtain⟨rfl,hsn,_⟩:=hR
   obtain⟨rfl,aud,_⟩:=hR2
   have c0:=hc 0 (by simp)
   have d0:=hc2 0 (by simp)
   have c1:=hc 1 (by simp)
   have d1:=hc2 1 (by simp)
   simp only[Nat.mul_one,Nat.add_zero,List.getElem_cons_zero,List.getElem_cons_succ] at c0 d0 c1 d1
   clear hc hcs hc2 hcs2
   have hlt':(k:Int)<(xs.length:Int):=by omega
   go_wp2_with fail
   go_region_with (go_at_call 93;refine(aqm _ _).mono ?_;rintro e w1 ⟨rfl,hb1⟩)
   all_goals
    go_wp2
    go_roundg (xs.length-(k+1))
    case measure=>have:=uh HG;omega
    case rel=>exact⟨k+1,by omega,rfl,by go_num,hbl.drew.trans (hb1.mono hbl.drew.size)⟩
  ·go_wp2
   go_ret
   exact⟨rfl,hbl⟩
set_option maxHeartbeats 400000 in
theorem agw (xs:List Int) (v u:Value) (w:World) (hv:bf 1 8 yu 0 w v xs) (hu:bf 1 8 yu 0 w u xs) :
  Calls Tryz.prog 64 #[v,u] w (Ia w):=by
 obtain⟨a,cap,rfl,_,hn,hx⟩:=hv
 obtain⟨a2,cap2,rfl,_,_,hy⟩:=hu
 unfold Len at hn
 have HX:=hide hx
 have HY:=hide hy
 clear hx hy
 go_enter Tryz.func64,Tryz.ntmps64
 go_wp2
 go_loopg [5] xs.length (fun g i wr=>∃(k:Nat),k<=xs.length∧g=xs.length-k∧i=.int .i64 k∧Below w.heap.size w wr)
 case atStart=>exact⟨0,Nat.zero_le _,by omega,rfl,Below.refl _ _⟩
 case round =>
  obtain⟨k,hk,hg,rfl,hbl⟩:=hrel
  have HG:=hide hg
  clear hg
  by_cases hlt:k<xs.length
  ·obtain⟨b,o,cs,rfl,_,hb,hcs,hc,hR⟩:=uh HX k hlt
   have hc:∀j (hj:j<cs.length),wr.cell? ⟨b,o+k*1+j,none⟩=some cs[j]:=fun j hj=>by rw[hbl.cell (p:=⟨b,_,none⟩) hb];exact hc j hj
   obtain⟨b2,o2,cs2,rfl,_,hb2,hcs2,hc2,hR2⟩:=uh HY k hlt
   have hc2:∀j (hj:j<cs2.length),wr.cell? ⟨b2,o2+k*1+j,none⟩=some cs2[j]:=fun j hj=>by rw[hbl.cell (p:=⟨b2,_,none⟩) hb2];exact hc2 j hj
   have hR:=jy.stays _ _ _ _ _ hbl.drew hR
   have hR2:=jy.stays _ _ _ _ _ hbl.drew hR2
   obtain⟨rfl,hsn⟩:=hR
   obtain⟨rfl,aud⟩:=hR2
   have c0:=hc 0 (by simp)
   have d0:=hc2 0 (by simp)
   simp only[Nat.mul_one,Nat.add_zero,List.getElem_cons_zero,List.getElem_cons_succ] at c0 d0
   clear hc hcs hc2 hcs2
   have hlt':(k:Int)<(xs.length:Int):=by omega
   go_wp2_with fail
   generalize xs[k]=s at *
   go_quiet (fail)
   go_wp2
   go_roundg (xs.length-(k+1))
   case measure=>have:=uh HG;omega
   case rel=>exact⟨k+1,by omega,rfl,by go_num,below_drewN hbl _⟩
  ·go_wp2
   go_ret
   exact⟨rfl,hbl⟩
set_option maxHeartbeats 1000000 in
theorem aue (x:dh) (a1 b1 a2 b2 a3 b3:Value) (w:World) (h1:bf 1 16 uz 0 w a1 x.outs) (g1:bf 1 16 uz 0 w b1 x.outs) (h2:bf 3 32 tu 0 w a2 x.code) (g2:bf 3 32 tu 0 w b2 x.code) (h3:bf 1 24 vw 0 w a3 x.args) (g3:bf 1 24 vw 0 w b3 x.args) :
  Calls Tryz.prog 94 #[.agg #[.int .i64 x.kind,.string x.name,.int .i64 x.at_,a1,a2,a3],.agg #[.int .i64 x.kind,.string x.name,.int .i64 x.at_,b1,b2,b3]] w (Ia w):=by
 obtain⟨kd,s,at0,outs,code,args⟩:=x
 simp only at h1 g1 h2 g2 h3 g3
 have H1:=hide h1
 have G1:=hide g1
 clear h1 g1
 have H2:=hide h2
 have G2:=hide g2
 clear h2 g2
 have H3:=hide h3
 have G3:=hide g3
 clear h3 g3
 go_enter Tryz.func94,Tryz.ntmps94
 have B0:Below w.heap.size w ((w.alloc (.cells _ _)).alloc (.cells _ _)):=((Below.refl w.heap.size w).alloc (Nat.le_refl _) (.cells #[.int .i64 kd,.string s,.int .i64 at0,a1,a2,a3] 60)).alloc (by simp) (.cells #[.int .i64 kd,.string s,.int .i64 at0,b1,b2,b3] 60)
 go_wp2_with fail
 refine(abu outs _ _ _ ?_ ?_).mono ?_
 ·exact(uh H1).stays lu B0
 ·exact(uh G1).stays lu B0
 rintro e w1 ⟨rfl,hb⟩
 obtain⟨hc1,hf1⟩:=Bo hb
 have hz:=hb.size
 have B1:Below w.heap.size w w1:=B0.trans (hb.mono B0.size)
 try simp only[World.size_alloc] at hz hc1 hf1
 have adq:w.heap.size<w1.heap.size:=by omega
 have adr:w.heap.size+1<w1.heap.size:=by omega
 clear hb hz
 go_wp2_with fail
 refine(aex code _ _ _ ?_ ?_).mono ?_
 ·exact(uh H2).stays og B1
 ·exact(uh G2).stays og B1
 rintro e w2 ⟨rfl,hb⟩
 obtain⟨hc2,hf2⟩:=Bo hb
 have hz:=hb.size
 have B2:Below w.heap.size w w2:=B1.trans (hb.mono B1.size)
 try simp only[World.size_alloc] at hz hc2 hf2
 have ajg:w.heap.size<w2.heap.size:=by omega
 have ajh:w.heap.size+1<w2.heap.size:=by omega
 clear hb hz
 go_wp2_with fail
 refine(ak0 args _ _ _ ?_ ?_).mono ?_
 ·exact(uh H3).stays xq B2
 ·exact(uh G3).stays xq B2
 rintro e w3 ⟨rfl,hb⟩
 obtain⟨hc3,hf3⟩:=Bo hb
 have hz:=hb.size
 have B3:Below w.heap.size w w3:=B2.trans (hb.mono B2.size)
 try simp only[World.size_alloc] at hz hc3 hf3
 have aji:w.heap.size<w3.heap.size:=by omega
 have ajj:w.heap.size+1<w3.heap.size:=by omega
 clear hb hz
 go_wp2
 go_ret
 exact⟨rfl,B3⟩
set_option maxHeartbeats 400000 in
theorem aqn (xs:List dh) (v u:Value) (w:World) (hv:bf 6 104 Ec 0 w v xs) (hu:bf 6 104 Ec 0 w u xs) :
  Calls Tryz.prog 65 #[v,u] w (Ia w):=by
 obtain⟨a,cap,rfl,_,hn,hx⟩:=hv
 obtain⟨a2,cap2,rfl,_,_,hy⟩:=hu
 unfold Len at hn
 have HX:=hide hx
 have HY:=hide hy
 clear hx hy
 go_enter Tryz.func65,Tryz.ntmps65
 go_wp2
 go_loopg [5] xs.length (fun g i wr=>∃(k:Nat),k<=xs.length∧g=xs.length-k∧i=.int .i64 k∧Below w.heap.size w wr)
 case atStart=>exact⟨0,Nat.zero_le _,by omega,rfl,Below.refl _ _⟩
 case round =>
  obtain⟨k,hk,hg,rfl,hbl⟩:=hrel
  have HG:=hide hg
  clear hg
  by_cases hlt:k<xs.length
  ·obtain⟨b,o,cs,rfl,_,hb,hcs,hc,hR⟩:=uh HX k hlt
   have hc:∀j (hj:j<cs.length),wr.cell? ⟨b,o+k*6+j,none⟩=some cs[j]:=fun j hj=>by rw[hbl.cell (p:=⟨b,_,none⟩) hb];exact hc j hj
   obtain⟨b2,o2,cs2,rfl,_,hb2,hcs2,hc2,hR2⟩:=uh HY k hlt
   have hc2:∀j (hj:j<cs2.length),wr.cell? ⟨b2,o2+k*6+j,none⟩=some cs2[j]:=fun j hj=>by rw[hbl.cell (p:=⟨b2,_,none⟩) hb2];exact hc2 j hj
   have hR:=xu.stays _ _ _ _ _ hbl.drew hR
   have hR2:=xu.stays _ _ _ _ _ hbl.drew hR2
   obtain⟨l1,c1,a1,rfl,_,_,_,p1,p2,p3⟩:=hR
   have P1:=hide p1
   clear p1
   have P2:=hide p2
   clear p2
   have P3:=hide p3
   clear p3
   obtain⟨l2,c2,a2,rfl,_,_,_,q1,q2,q3⟩:=hR2
   have Q1:=hide q1
   clear q1
   have Q2:=hide q2
   clear q2
   have Q3:=hide q3
   clear q3
   have c0:=hc 0 (by simp)
   have d0:=hc2 0 (by simp)
   have c1:=hc 1 (by simp)
   have d1:=hc2 1 (by simp)
   have c2:=hc 2 (by simp)
   have d2:=hc2 2 (by simp)
   have c3:=hc 3 (by simp)
   have d3:=hc2 3 (by simp)
   have c4:=hc 4 (by simp)
   have d4:=hc2 4 (by simp)
   have c5:=hc 5 (by simp)
   have d5:=hc2 5 (by simp)
   simp only[Nat.mul_one,Nat.add_zero,List.getElem_cons_zero,List.getElem_cons_succ] at c0 d0 c1 d1 c2 d2 c3 d3 c4 d4 c5 d5
   clear hc hcs hc2 hcs2
   have hlt':(k:Int)<(xs.length:Int):=by omega
   go_wp2_with fail
   go_region_with (go_at_call 94;refine(aue _ _ _ _ _ _ _ _ (uh P1) (uh Q1) (uh P2) (uh Q2) (uh P3) (uh Q3)).mono ?_;rintro e w1 ⟨rfl,hb1⟩)
   all_goals
    go_wp2
    go_roundg (xs.length-(k+1))
    case measure=>have:=uh HG;omega
    case rel=>exact⟨k+1,by omega,rfl,by go_num,hbl.drew.trans (hb1.mono hbl.drew.size)⟩
  ·go_wp2
   go_ret
   exact⟨rfl,hbl⟩
set_option maxHeartbeats 1000000 in
theorem aob (x:ak) (a1 b1 a2 b2 a3 b3 a4 b4 a5 b5 a6 b6:Value) (w:World) (h1:bf 2 24 xk 0 w a1 x.ins) (g1:bf 2 24 xk 0 w b1 x.ins) (h2:bf 2 24 xk 0 w a2 x.outs) (g2:bf 2 24 xk 0 w b2 x.outs) (h3:bf 1 16 uz 0 w a3 x.ay) (g3:bf 1 16 uz 0 w b3 x.ay) (h4:bf 1 8 yu 0 w a4 x.aj) (g4:bf 1 8 yu 0 w b4 x.aj) (h5:bf 1 8 yu 0 w a5 x.insts) (g5:bf 1 8 yu 0 w b5 x.insts) (h6:bf 6 104 Ec 0 w a6 x.body) (g6:bf 6 104 Ec 0 w b6 x.body) :
  Calls Tryz.prog 32 #[.agg #[.string x.name,a1,a2,a3,a4,a5,a6],.agg #[.string x.name,b1,b2,b3,b4,b5,b6]] w (Ia w):=by
 obtain⟨s,ins,outs,ay,aj,insts,body⟩:=x
 simp only at h1 g1 h2 g2 h3 g3 h4 g4 h5 g5 h6 g6
 have H1:=hide h1
 have G1:=hide g1
 clear h1 g1
 have H2:=hide h2
 have G2:=hide g2
 clear h2 g2
 have H3:=hide h3
 have G3:=hide g3
 clear h3 g3
 have H4:=hide h4
 have G4:=hide g4
 clear h4 g4
 have H5:=hide h5
 have G5:=hide g5
 clear h5 g5
 have H6:=hide h6
 have G6:=hide g6
 clear h6 g6
 go_enter Tryz.func32,Tryz.ntmps32
 have B0:Below w.heap.size w ((w.alloc (.cells _ _)).alloc (.cells _ _)):=((Below.refl w.heap.size w).alloc (Nat.le_refl _) (.cells #[.string s,a1,a2,a3,a4,a5,a6] 43)).alloc (by simp) (.cells #[.string s,b1,b2,b3,b4,b5,b6] 43)
 go_wp2_with fail
 refine(aew ins _ _ _ ?_ ?_).mono ?_
 ·exact(uh H1).stays jq B0
 ·exact(uh G1).stays jq B0
 rintro e w1 ⟨rfl,hb⟩
 obtain⟨hc1,hf1⟩:=Bo hb
 have hz:=hb.size
 have B1:Below w.heap.size w w1:=B0.trans (hb.mono B0.size)
 try simp only[World.size_alloc] at hz hc1 hf1
 have adq:w.heap.size<w1.heap.size:=by omega
 have adr:w.heap.size+1<w1.heap.size:=by omega
 clear hb hz
 go_wp2_with fail
 refine(aew outs _ _ _ ?_ ?_).mono ?_
 ·exact(uh H2).stays jq B1
 ·exact(uh G2).stays jq B1
 rintro e w2 ⟨rfl,hb⟩
 obtain⟨hc2,hf2⟩:=Bo hb
 have hz:=hb.size
 have B2:Below w.heap.size w w2:=B1.trans (hb.mono B1.size)
 try simp only[World.size_alloc] at hz hc2 hf2
 have ajg:w.heap.size<w2.heap.size:=by omega
 have ajh:w.heap.size+1<w2.heap.size:=by omega
 clear hb hz
 go_wp2_with fail
 refine(abu ay _ _ _ ?_ ?_).mono ?_
 ·exact(uh H3).stays lu B2
 ·exact(uh G3).stays lu B2
 rintro e w3 ⟨rfl,hb⟩
 obtain⟨hc3,hf3⟩:=Bo hb
 have hz:=hb.size
 have B3:Below w.heap.size w w3:=B2.trans (hb.mono B2.size)
 try simp only[World.size_alloc] at hz hc3 hf3
 have aji:w.heap.size<w3.heap.size:=by omega
 have ajj:w.heap.size+1<w3.heap.size:=by omega
 clear hb hz
 go_wp2_with fail
 refine(agw aj _ _ _ ?_ ?_).mono ?_
 ·exact(uh H4).stays jy B3
 ·exact(uh G4).stays jy B3
 rintro e w4 ⟨rfl,hb⟩
 obtain⟨hc4,hf4⟩:=Bo hb
 have hz:=hb.size
 have B4:Below w.heap.size w w4:=B3.trans (hb.mono B3.size)
 try simp only[World.size_alloc] at hz hc4 hf4
 have a0b:w.heap.size<w4.heap.size:=by omega
 have a0c:w.heap.size+1<w4.heap.size:=by omega
 clear hb hz
 go_wp2_with fail
 refine(agw insts _ _ _ ?_ ?_).mono ?_
 ·exact(uh H5).stays jy B4
 ·exact(uh G5).stays jy B4
 rintro e w5 ⟨rfl,hb⟩
 obtain⟨hc5,hf5⟩:=Bo hb
 have hz:=hb.size
 have B5:Below w.heap.size w w5:=B4.trans (hb.mono B4.size)
 try simp only[World.size_alloc] at hz hc5 hf5
 have a0d:w.heap.size<w5.heap.size:=by omega
 have a0e:w.heap.size+1<w5.heap.size:=by omega
 clear hb hz
 go_wp2_with fail
 refine(aqn body _ _ _ ?_ ?_).mono ?_
 ·exact(uh H6).stays xu B5
 ·exact(uh G6).stays xu B5
 rintro e w6 ⟨rfl,hb⟩
 obtain⟨hc6,hf6⟩:=Bo hb
 have hz:=hb.size
 have B6:Below w.heap.size w w6:=B5.trans (hb.mono B5.size)
 try simp only[World.size_alloc] at hz hc6 hf6
 have a0f:w.heap.size<w6.heap.size:=by omega
 have a0g:w.heap.size+1<w6.heap.size:=by omega
 clear hb hz
 go_wp2
 go_ret
 exact⟨rfl,B6⟩
set_option maxHeartbeats 400000 in
theorem ak1 (xs:List ak) (v u:Value) (w:World) (hv:bf 7 160 ni 0 w v xs) (hu:bf 7 160 ni 0 w u xs) :
  Calls Tryz.prog 19 #[v,u] w (Ia w):=by
 obtain⟨a,cap,rfl,_,hn,hx⟩:=hv
 obtain⟨a2,cap2,rfl,_,_,hy⟩:=hu
 unfold Len at hn
 have HX:=hide hx
 have HY:=hide hy
 clear hx hy
 go_enter Tryz.func19,Tryz.ntmps19
 go_wp2
 go_loopg [5] xs.length (fun g i wr=>∃(k:Nat),k<=xs.length∧g=xs.length-k∧i=.int .i64 k∧Below w.heap.size w wr)
 case atStart=>exact⟨0,Nat.zero_le _,by omega,rfl,Below.refl _ _⟩
 case round =>
  obtain⟨k,hk,hg,rfl,hbl⟩:=hrel
  have HG:=hide hg
  clear hg
  by_cases hlt:k<xs.length
  ·obtain⟨b,o,cs,rfl,_,hb,hcs,hc,hR⟩:=uh HX k hlt
   have hc:∀j (hj:j<cs.length),wr.cell? ⟨b,o+k*7+j,none⟩=some cs[j]:=fun j hj=>by rw[hbl.cell (p:=⟨b,_,none⟩) hb];exact hc j hj
   obtain⟨b2,o2,cs2,rfl,_,hb2,hcs2,hc2,hR2⟩:=uh HY k hlt
   have hc2:∀j (hj:j<cs2.length),wr.cell? ⟨b2,o2+k*7+j,none⟩=some cs2[j]:=fun j hj=>by rw[hbl.cell (p:=⟨b2,_,none⟩) hb2];exact hc2 j hj
   have hR:=jm.stays _ _ _ _ _ hbl.drew hR
   have hR2:=jm.stays _ _ _ _ _ hbl.drew hR2
   obtain⟨i1,i2,i3,i4,i5,i6,rfl,_,p1,p2,p3,p4,p5,p6⟩:=hR
   have P1:=hide p1
   clear p1
   have P2:=hide p2
   clear p2
   have P3:=hide p3
   clear p3
   have P4:=hide p4
   clear p4
   have P5:=hide p5
   clear p5
   have P6:=hide p6
   clear p6
   obtain⟨j1,j2,j3,j4,j5,j6,rfl,_,q1,q2,q3,q4,q5,q6⟩:=hR2
   have Q1:=hide q1
   clear q1
   have Q2:=hide q2
   clear q2
   have Q3:=hide q3
   clear q3
   have Q4:=hide q4
   clear q4
   have Q5:=hide q5
   clear q5
   have Q6:=hide q6
   clear q6
   have c0:=hc 0 (by simp)
   have d0:=hc2 0 (by simp)
   have c1:=hc 1 (by simp)
   have d1:=hc2 1 (by simp)
   have c2:=hc 2 (by simp)
   have d2:=hc2 2 (by simp)
   have c3:=hc 3 (by simp)
   have d3:=hc2 3 (by simp)
   have c4:=hc 4 (by simp)
   have d4:=hc2 4 (by simp)
   have c5:=hc 5 (by simp)
   have d5:=hc2 5 (by simp)
   have c6:=hc 6 (by simp)
   have d6:=hc2 6 (by simp)
   simp only[Nat.mul_one,Nat.add_zero,List.getElem_cons_zero,List.getElem_cons_succ] at c0 d0 c1 d1 c2 d2 c3 d3 c4 d4 c5 d5 c6 d6
   clear hc hcs hc2 hcs2
   have hlt':(k:Int)<(xs.length:Int):=by omega
   go_wp2_with fail
   go_region_with (go_at_call 32;refine(aob _ _ _ _ _ _ _ _ _ _ _ _ _ _ (uh P1) (uh Q1) (uh P2) (uh Q2) (uh P3) (uh Q3) (uh P4) (uh Q4) (uh P5) (uh Q5) (uh P6) (uh Q6)).mono ?_;rintro e w1 ⟨rfl,hb1⟩)
   all_goals
    go_wp2
    go_roundg (xs.length-(k+1))
    case measure=>have:=uh HG;omega
    case rel=>exact⟨k+1,by omega,rfl,by go_num,hbl.drew.trans (hb1.mono hbl.drew.size)⟩
  ·go_wp2
   go_ret
   exact⟨rfl,hbl⟩
set_option maxHeartbeats 400000 in
theorem Qy (ks:List ak) (v u:Value) (w:World) (h1:bf 7 160 ni 0 w v ks) (g1:bf 7 160 ni 0 w u ks) :
  Calls Tryz.prog 8 #[.agg #[v],.agg #[u]] w (Ia w):=by
 have H1:=hide h1
 have G1:=hide g1
 clear h1 g1
 have B0:Below w.heap.size w ((w.alloc (.cells _ _)).alloc (.cells _ _)):=((Below.refl w.heap.size w).alloc (Nat.le_refl _) (.cells #[v] 28)).alloc (by simp) (.cells #[u] 28)
 go_enter Tryz.func8,Tryz.ntmps8
 go_wp2_with fail
 refine(ak1 ks _ _ _ ?_ ?_).mono ?_
 ·exact(uh H1).stays jm B0
 ·exact(uh G1).stays jm B0
 rintro e w1 ⟨rfl,hb⟩
 have B1:Below w.heap.size w w1:=B0.trans (hb.mono B0.size)
 go_wp2
 go_ret
 exact⟨rfl,B1⟩
def Wi (c:Int):Bool:=decide ((97<=c∧c<=122)∨(65<=c∧c<=90))
def Gf (c:Int):Bool:=decide (48<=c∧c<=57)
def Oz (c:Int):Bool:=Wi c||Gf c||c == 95
theorem oq {a b:Bool} (h:a=b):Ending.returned (.bool a)=.returned (.bool b):=by rw[h]
set_option maxHeartbeats 400000 in
theorem Ov (c:Int) (w:World) (h0:0<=c) (h1:c<=255) :
  Calls Tryz.prog 97 #[.int .u8 c] w fun e w'=>e=.returned (.bool (Wi c))∧w'=w:=by
 go_enter Tryz.func97,Tryz.ntmps97
 go_wp2
 all_goals
  go_ret
  refine⟨oq ?_,rfl⟩
  unfold Wi
  rw[Bool.eq_iff_iff]
  simp
  try omega
set_option maxHeartbeats 400000 in
theorem Vt (c:Int) (w:World) (h0:0<=c) (h1:c<=255) :
  Calls Tryz.prog 99 #[.int .u8 c] w fun e w'=>e=.returned (.bool (Gf c))∧w'=w:=by
 go_enter Tryz.func99,Tryz.ntmps99
 go_wp2
 all_goals
  go_ret
  refine⟨oq ?_,rfl⟩
  unfold Gf
  rw[Bool.eq_iff_iff]
  simp
  try omega
set_option maxHeartbeats 400000 in
theorem Tf (c:Int) (w:World) (h0:0<=c) (h1:c<=255) :
  Calls Tryz.prog 124 #[.int .u8 c] w fun e w'=>e=.returned (.bool (Wi c))∧w'=w:=by
 go_enter Tryz.func124,Tryz.ntmps124
 go_wp2
 all_goals
  go_ret
  refine⟨oq ?_,rfl⟩
  unfold Wi
  rw[Bool.eq_iff_iff]
  simp
  try omega
set_option maxHeartbeats 400000 in
theorem ad9 (c:Int) (w:World) (h0:0<=c) (h1:c<=255) :
  Calls Tryz.prog 129 #[.int .u8 c] w fun e w'=>e=.returned (.bool (Gf c))∧w'=w:=by
 go_enter Tryz.func129,Tryz.ntmps129
 go_wp2
 all_goals
  go_ret
  refine⟨oq ?_,rfl⟩
  unfold Gf
  rw[Bool.eq_iff_iff]
  simp
  try omega
set_option maxHeartbeats 400000 in
theorem ahc (c:Int) (w:World) (h0:0<=c) (h1:c<=255) :
  Calls Tryz.prog 127 #[.int .u8 c] w fun e w'=>e=.returned (.bool (Oz c))∧w'=w:=by
 cases hl:Wi c<;>cases hd:Gf c
 all_goals
  go_enter Tryz.func127,Tryz.ntmps127
  go_wp2_with (first|(go_at_call 124;refine(Tf _ _ h0 h1).mono ?_;rintro e w' ⟨rfl,rfl⟩;rw[hl])|(go_at_call 129;refine(ad9 _ _ h0 h1).mono ?_;rintro e w' ⟨rfl,rfl⟩;rw[hd]))
  go_ret
  refine⟨oq ?_,rfl⟩
  simp[Oz,hl,hd]
def jh (s:ByteArray) (i:Nat):Int:=if h:i<s.size then (s[i].toNat:Int) else 0
theorem Ht {s:ByteArray} {i:Nat} (h:i<s.size):jh s i=(s[i].toNat:Int):=by simp[jh,h]
theorem ab5 (x:UInt8):0<=(x.toNat:Int)∧(x.toNat:Int)<=255:=by have:=x.toNat_lt;omega
def allB (p:Nat->Bool) (i n:Nat):Bool:=decide (∀j,j<n->i<=j->p j=true)
theorem aa7 {p:Nat->Bool} {i n:Nat} (h:∀j,j<n->i<=j->p j=true):allB p i n=true:=by simpa[allB] using h
theorem aey {p:Nat->Bool} {i n k:Nat} (h1:k<n) (h2:i<=k) (h:p k=false):allB p i n=false:=by
 unfold allB
 rw[decide_eq_false_iff_not]
 intro hh
 have:=hh k h1 h2
 rw[h] at this
 cases this
def Ci (s:ByteArray):Bool:=decide (2<=s.size∧s.size<=10)&&decide (jh s 0=36)&&!decide (jh s 1=48)&&allB (fun i=>Gf (jh s i)) 1 s.size
set_option maxHeartbeats 400000 in
theorem aoc (s:ByteArray) (w:World) (hs:Len s.size) :
  Calls Tryz.prog 73 #[.string s] w fun e w'=>e=.returned (.bool (Ci s))∧w'=w:=by
 unfold Len at hs
 by_cases h1:s.size<2
 ·have e:Ci s=false:=by simp[Ci];omega
  rw[e]
  have d1:decide ((s.size:Int)<2)=true:=by simp;omega
  go_enter Tryz.func73,Tryz.ntmps73
  go_wp2
  go_ret
  exact⟨rfl,rfl⟩
 have d1:decide ((s.size:Int)<2)=false:=by simp;omega
 by_cases h2:10<s.size
 ·have e:Ci s=false:=by simp[Ci];omega
  rw[e]
  have d2:decide (10<(s.size:Int))=true:=by simp;omega
  go_enter Tryz.func73,Tryz.ntmps73
  go_wp2
  go_ret
  exact⟨rfl,rfl⟩
 have d2:decide (10<(s.size:Int))=false:=by simp;omega
 have g0:0<s.size:=by omega
 have g1:1<s.size:=by omega
 have b0:=Ht g0
 have b1:=Ht g1
 by_cases h3:(s[0].toNat:Int)=36
 case neg =>
  have e:Ci s=false:=by simp[Ci,b0,h3]
  rw[e]
  have d3:((s[0].toNat:Int) != 36)=true:=by rw[bne_iff_ne];exact h3
  clear b0 b1 e
  go_enter Tryz.func73,Tryz.ntmps73
  go_wp2
  go_ret
  exact⟨rfl,rfl⟩
 have d3:((s[0].toNat:Int) != 36)=false:=by simp[h3]
 by_cases h4:(s[1].toNat:Int)=48
 ·have e:Ci s=false:=by simp[Ci,b1,h4]
  rw[e]
  have d4:((s[1].toNat:Int) == 48)=true:=by simp[h4]
  clear b0 b1 e h3 h4
  go_enter Tryz.func73,Tryz.ntmps73
  go_wp2
  go_ret
  exact⟨rfl,rfl⟩
 have d4:((s[1].toNat:Int) == 48)=false:=by simp[h4]
 have e:Ci s=allB (fun i=>Gf (jh s i)) 1 s.size:=by
  simp only[Ci,b0,b1,h3,h4]
  simp
  intro h
  omega
 rw[e]
 clear b0 b1 e h3 h4
 go_enter Tryz.func73,Tryz.ntmps73
 go_wp2
 go_loopg [3] (s.size-1) (fun g i wr=>∃(k:Nat),k<=s.size∧1<=k∧g=s.size-k∧i=.int .i64 k∧wr=w∧∀j,j<k->1<=j->Gf (jh s j)=true)
 case atStart=>exact⟨1,by omega,Nat.le_refl _,by omega,rfl,rfl,fun j h1 h2=>by omega⟩
 case round =>
  obtain⟨k,hk,hk1,hg,rfl,rfl,hall⟩:=hrel
  have HG:=hide hg
  have HA:=hide hall
  clear hg hall
  by_cases hlt:k<s.size
  ·have hbd:=ab5 s[k]
   cases hd:Gf (s[k].toNat:Int)
   ·have F:allB (fun i=>Gf (jh s i)) 1 s.size=false:=aey hlt hk1 (by rw[Ht hlt];exact hd)
    have HF:=hide F
    clear F
    go_wp2_with (go_at_call 99;refine(Vt _ _ (by omega) (by omega)).mono ?_;rintro e w' ⟨rfl,rfl⟩;rw[hd])
    go_ret
    exact⟨oq (uh HF).symm,rfl⟩
   ·have A':∀j,j<k+1->1<=j->Gf (jh s j)=true:=by
     intro j h1 h2
     by_cases e:j=k
     ·subst e;rw[Ht hlt];exact hd
     ·exact uh HA j (by omega) h2
    have HA':=hide A'
    clear A'
    go_wp2_with (go_at_call 99;refine(Vt _ _ (by omega) (by omega)).mono ?_;rintro e w' ⟨rfl,rfl⟩;rw[hd])
    go_roundg (s.size-(k+1))
    case measure=>have:=uh HG;omega
    case rel=>exact⟨k+1,by omega,by omega,rfl,by go_num,rfl,uh HA'⟩
  ·have e:k=s.size:=by omega
   have T:allB (fun i=>Gf (jh s i)) 1 s.size=true:=aa7 (by have:=uh HA;rw[e] at this;exact this)
   have HT:=hide T
   clear T
   go_wp2
   go_ret
   exact⟨oq (uh HT).symm,rfl⟩
def Zc:List ByteArray:=[⟨#[110,111,100,101]⟩,⟨#[114,101,116,117,114,110,115]⟩,⟨#[118,97,114]⟩,⟨#[108,101,116]⟩,⟨#[116,101,108]⟩,⟨#[105,110,116]⟩,⟨#[98,111,111,108]⟩,⟨#[119,104,101,110]⟩,⟨#[119,104,101,110,111,116]⟩,⟨#[105,102]⟩,⟨#[116,104,101,110]⟩,⟨#[101,108,115,101]⟩,⟨#[102,98,121]⟩,⟨#[109,101,114,103,101]⟩,⟨#[116,114,117,101]⟩,⟨#[102,97,108,115,101]⟩,⟨#[97,110,100]⟩,⟨#[111,114]⟩,⟨#[120,111,114]⟩,⟨#[110,111,116]⟩,⟨#[109,111,100]⟩]
def kwB (s:ByteArray):Bool:=s.toList == [110,111,100,101]||s.toList == [114,101,116,117,114,110,115]||s.toList == [118,97,114]||s.toList == [108,101,116]||s.toList == [116,101,108]||s.toList == [105,110,116]||s.toList == [98,111,111,108]||s.toList == [119,104,101,110]||s.toList == [119,104,101,110,111,116]||s.toList == [105,102]||s.toList == [116,104,101,110]||s.toList == [101,108,115,101]||s.toList == [102,98,121]||s.toList == [109,101,114,103,101]||s.toList == [116,114,117,101]||s.toList == [102,97,108,115,101]||s.toList == [97,110,100]||s.toList == [111,114]||s.toList == [120,111,114]||s.toList == [110,111,116]||s.toList == [109,111,100]
def inB (l:List ByteArray) (s:ByteArray):Bool:=l.any (fun x=>x.toList == s.toList)
theorem aqo:∀x,x∈Zc->x.size<=7:=by decide
set_option maxHeartbeats 1000000 in
theorem aat (w:World) :
  Calls Tryz.prog 98 #[] w fun e w'=>∃v,e=.returned v∧bf 1 16 uz w.heap.size w' v Zc∧Below w.heap.size w w':=by
 go_enter Tryz.func98,Tryz.ntmps98
 go_wp2
 go_ret
 refine⟨_,rfl,?_,(Below.refl _ _).alloc (Nat.le_refl _) _⟩
 refine⟨_,_,rfl,by simp[Len,Zc],by simp[Len,Zc],fun i hi=>⟨_,_,[.string Zc[i]],rfl,Nat.le_refl _,by simp,rfl,?_,rfl,?_⟩⟩
 ·intro j hj
  have hj0:j=0:=by simpa using hj
  subst hj0
  have hc:∀(i:Nat) (hi:i<Zc.length),(Zc.map Value.string).toArray[i]?=some (.string Zc[i]):=by
   intro i hi
   simp[hi]
  rw[World.cell?_alloc_at _ _ _ _ rfl]
  simp only[Nat.zero_add,Nat.mul_one,Nat.add_zero]
  exact hc i hi
 ·have:=aqo Zc[i] (List.getElem_mem hi)
  unfold Len
  omega
set_option maxHeartbeats 1000000 in
theorem aa8 (s:ByteArray) (w:World) :
  Calls Tryz.prog 125 #[.string s] w fun e w'=>e=.returned (.bool (kwB s))∧w'=w:=by
 go_enter Tryz.func125,Tryz.ntmps125
 go_wp2
 all_goals
  go_ret
  refine⟨oq ?_,rfl⟩
  simp_all [kwB]
set_option maxHeartbeats 400000 in
theorem Za (l:List ByteArray) (v:Value) (s:ByteArray) (w:World) (hv:bf 1 16 uz 0 w v l) :
  Calls Tryz.prog 76 #[v,.string s] w fun e w'=>e=.returned (.bool (inB l s))∧w'=w:=by
 obtain⟨a,cap,rfl,_,hn,hx⟩:=hv
 unfold Len at hn
 have HX:=hide hx
 clear hx
 go_enter Tryz.func76,Tryz.ntmps76
 go_wp2
 go_loopg [6,9] l.length (fun g x i wr=>∃(k:Nat),k<=l.length∧g=l.length-k∧i=.int .i64 k∧wr=w∧∀j (h:j<l.length),j<k->(l[j].toList == s.toList)=false)
 case atStart=>exact⟨0,by omega,by omega,rfl,rfl,fun j _ h2=>by omega⟩
 case round =>
  obtain⟨k,hk,hg,rfl,rfl,hall⟩:=hrel
  have HG:=hide hg
  have HA:=hide hall
  clear hg hall
  by_cases hlt:k<l.length
  ·obtain⟨b,o,cs,rfl,_,hb,hcs,hc,hR⟩:=uh HX k hlt
   obtain⟨rfl,hsn⟩:=hR
   have c0:=hc 0 (by simp)
   simp only[Nat.mul_one,Nat.add_zero,List.getElem_cons_zero,List.getElem_cons_succ] at c0
   clear hc hcs
   cases he:(l[k].toList == s.toList)
   ·have A':∀j (h:j<l.length),j<k+1->(l[j].toList == s.toList)=false:=by
     intro j h h1
     by_cases e:j=k
     ·subst e;exact he
     ·exact uh HA j h (by omega)
    have HA':=hide A'
    clear A'
    go_wp2
    go_roundg (l.length-(k+1))
    case measure=>have:=uh HG;omega
    case rel=>exact⟨k+1,by omega,rfl,by go_num,rfl,uh HA'⟩
   ·have T:inB l s=true:=by
     unfold inB
     rw[List.any_eq_true]
     exact⟨l[k],List.getElem_mem hlt,he⟩
    have HT:=hide T
    clear T
    go_wp2
    go_ret
    exact⟨oq (uh HT).symm,rfl⟩
  ·have e:k=l.length:=by omega
   have T:inB l s=false:=by
    unfold inB
    rw[List.any_eq_false]
    intro x hx
    obtain⟨j,hj,rfl⟩:=List.getElem_of_mem hx
    rw[uh HA j hj (by omega)]
    decide
   have HT:=hide T
   clear T
   go_wp2
   go_ret
   exact⟨oq (uh HT).symm,rfl⟩
theorem al2 (s:ByteArray):inB Zc s=kwB s:=by
 simp only[inB,Zc,kwB,List.any_cons,List.any_nil,ByteArray.toList_eq,Bool.or_false,BEq.comm (a:=s.data.toList),Bool.or_assoc]
def Ag (s:ByteArray):Bool:=decide (1<=s.size∧s.size<=40)&&Wi (jh s 0)&&!kwB s&&allB (fun i=>Oz (jh s i)) 0 s.size
def Ans (v:Value) (w:World) (e:Ending) (w':World):Prop:=e=.returned v∧Below w.heap.size w w'
set_option maxHeartbeats 1000000 in
theorem aez (s:ByteArray) (w:World) (hs:Len s.size) :
  Calls Tryz.prog 72 #[.string s] w (Ans (.bool (Ag s)) w):=by
 unfold Len at hs
 by_cases h1:s.size<1
 ·have e:Ag s=false:=by simp[Ag];omega
  rw[e]
  have d1:decide ((s.size:Int)<1)=true:=by simp;omega
  clear e
  go_enter Tryz.func72,Tryz.ntmps72
  go_wp2
  go_ret
  exact⟨rfl,Below.refl _ _⟩
 have d1:decide ((s.size:Int)<1)=false:=by simp;omega
 by_cases h2:40<s.size
 ·have e:Ag s=false:=by simp[Ag];omega
  rw[e]
  have d2:decide (40<(s.size:Int))=true:=by simp;omega
  clear e
  go_enter Tryz.func72,Tryz.ntmps72
  go_wp2
  go_ret
  exact⟨rfl,Below.refl _ _⟩
 have d2:decide (40<(s.size:Int))=false:=by simp;omega
 have g0:0<s.size:=by omega
 have b0:=Ht g0
 have hb0:=ab5 s[0]
 cases hl:Wi (s[0].toNat:Int)
 ·have e:Ag s=false:=by simp[Ag,b0,hl]
  rw[e]
  clear e b0
  go_enter Tryz.func72,Tryz.ntmps72
  go_wp2_with (go_at_call 97;refine(Ov _ _ (by omega) (by omega)).mono ?_;rintro e w' ⟨rfl,rfl⟩;rw[hl])
  go_ret
  exact⟨rfl,Below.refl _ _⟩
 cases hkw:kwB s
 ·have e:Ag s=allB (fun i=>Oz (jh s i)) 0 s.size:=by
   have:1<=s.size∧s.size<=40:=by omega
   simp[Ag,b0,hl,hkw,this]
  rw[e]
  clear e b0
  have HK:=hide hkw
  clear hkw
  go_enter Tryz.func72,Tryz.ntmps72
  go_wp2_with fail
  refine(Ov _ _ (by omega) (by omega)).mono ?_
  rintro e w' ⟨rfl,rfl⟩
  rw[hl]
  go_wp2_with fail
  refine(aat _).mono ?_
  rintro e w1 ⟨v,rfl,hv,hbl⟩
  obtain⟨av,cv,rfl⟩:=hv.shape
  have HV:=hide hv
  clear hv
  go_wp2_with fail
  refine(Za Zc _ s _ ?_).mono ?_
  ·exact(uh HV).lower Dq (Nat.zero_le _)
  rintro e w1 ⟨rfl,rfl⟩
  rw[al2,uh HK]
  clear HV
  go_wp2
  go_loopg [3] s.size (fun g i wr=>∃(k:Nat),k<=s.size∧g=s.size-k∧i=.int .i64 k∧wr=w1∧∀j,j<k->0<=j->Oz (jh s j)=true)
  case atStart=>exact⟨0,by omega,by omega,rfl,rfl,fun j h1 h2=>by omega⟩
  case round =>
   obtain⟨k,hk,hg,rfl,rfl,hall⟩:=hrel
   have HG:=hide hg
   have HA:=hide hall
   clear hg hall
   by_cases hlt:k<s.size
   ·have hbd:=ab5 s[k]
    have W:Oz (jh s k)=(Wi (s[k].toNat:Int)||Gf (s[k].toNat:Int)||(s[k].toNat:Int) == 95):=by rw[Ht hlt];rfl
    cases hl:Wi (s[k].toNat:Int)<;>cases hd:Gf (s[k].toNat:Int)<;>cases hu:((s[k].toNat:Int) == 95)
    case false.false.false =>
     have hu':((s[k].toNat:Int) != 95)=true:=by rw[bne,hu];rfl
     have F:allB (fun i=>Oz (jh s i)) 0 s.size=false:=aey hlt (Nat.zero_le _) (by rw[W,hl,hd,hu];rfl)
     have HF:=hide F
     clear F W
     go_wp2_with (first|(go_at_call 97;refine(Ov _ _ (by omega) (by omega)).mono ?_;rintro e w' ⟨rfl,rfl⟩;rw[hl])|(go_at_call 99;refine(Vt _ _ (by omega) (by omega)).mono ?_;rintro e w' ⟨rfl,rfl⟩;rw[hd]))
     go_ret
     exact⟨oq (uh HF).symm,hbl⟩
    all_goals
     have hu':((s[k].toNat:Int) != 95)=!((s[k].toNat:Int) == 95):=rfl
     rw[hu] at hu'
     have A':∀j,j<k+1->0<=j->Oz (jh s j)=true:=by
      intro j h1 h2
      by_cases e:j=k
      ·subst e;rw[W,hl,hd,hu];rfl
      ·exact uh HA j (by omega) h2
     have HA':=hide A'
     clear A' W
     go_wp2_with (first|(go_at_call 97;refine(Ov _ _ (by omega) (by omega)).mono ?_;rintro e w' ⟨rfl,rfl⟩;rw[hl])|(go_at_call 99;refine(Vt _ _ (by omega) (by omega)).mono ?_;rintro e w' ⟨rfl,rfl⟩;rw[hd]))
     go_roundg (s.size-(k+1))
     case measure=>have:=uh HG;omega
     case rel=>exact⟨k+1,by omega,rfl,by go_num,rfl,uh HA'⟩
   ·have e:k=s.size:=by omega
    have T:allB (fun i=>Oz (jh s i)) 0 s.size=true:=aa7 (by have:=uh HA;rw[e] at this;exact this)
    have HT:=hide T
    clear T
    go_wp2
    go_ret
    exact⟨oq (uh HT).symm,hbl⟩
 ·have e:Ag s=false:=by simp[Ag,hkw]
  rw[e]
  clear e b0
  have HK:=hide hkw
  clear hkw
  go_enter Tryz.func72,Tryz.ntmps72
  go_wp2_with fail
  refine(Ov _ _ (by omega) (by omega)).mono ?_
  rintro e w' ⟨rfl,rfl⟩
  rw[hl]
  go_wp2_with fail
  refine(aat _).mono ?_
  rintro e w1 ⟨v,rfl,hv,hbl⟩
  obtain⟨av,cv,rfl⟩:=hv.shape
  have HV:=hide hv
  clear hv
  go_wp2_with fail
  refine(Za Zc _ s _ ?_).mono ?_
  ·exact(uh HV).lower Dq (Nat.zero_le _)
  rintro e w1 ⟨rfl,rfl⟩
  rw[al2,uh HK]
  go_wp2
  go_ret
  exact⟨rfl,hbl⟩
def nameB (s:ByteArray):Bool:=Ag s||Ci s
set_option maxHeartbeats 1000000 in
theorem Xx (s:ByteArray) (w:World) (hs:Len s.size) :
  Calls Tryz.prog 46 #[.string s] w (Ans (.bool (nameB s)) w):=by
 cases hp:Ag s
 ·have e:nameB s=Ci s:=by simp[nameB,hp]
  rw[e]
  clear e
  go_enter Tryz.func46,Tryz.ntmps46
  go_wp2_with fail
  refine(aez s _ hs).mono ?_
  rintro e w1 ⟨rfl,hb⟩
  rw[hp]
  go_wp2_with fail
  refine(aoc s _ hs).mono ?_
  rintro e w' ⟨rfl,rfl⟩
  go_wp2
  go_ret
  exact⟨rfl,hb⟩
 ·have e:nameB s=true:=by simp[nameB,hp]
  rw[e]
  clear e
  go_enter Tryz.func46,Tryz.ntmps46
  go_wp2_with fail
  refine(aez s _ hs).mono ?_
  rintro e w1 ⟨rfl,hb⟩
  rw[hp]
  go_wp2
  go_ret
  exact⟨rfl,hb⟩
theorem aqp (t:Int) (w:World):Calls Tryz.prog 130 #[.int .i64 t] w (fun e w'=>e=.returned (.bool (decide (t=1∨t=2)))∧w'=w):=by
 by_cases h1:t=1
 ·subst h1
  go_enter Tryz.func130,Tryz.ntmps130
  go_wp2
  go_ret
  exact⟨rfl,rfl⟩
 ·by_cases h2:t=2
  ·subst h2
   go_enter Tryz.func130,Tryz.ntmps130
   go_wp2
   go_ret
   exact⟨rfl,rfl⟩
  ·rw[decide_eq_false (fun h=>by rcases h with h|h;exact h1 h;exact h2 h)]
   have b1:(t == 1)=false:=by rw[beq_eq_false_iff_ne];exact h1
   have b2:(t == 2)=false:=by rw[beq_eq_false_iff_ne];exact h2
   go_enter Tryz.func130,Tryz.ntmps130
   go_wp2
   go_ret
   exact⟨rfl,rfl⟩
end Go.Proofs.YtlcgnbcgmljpaaaGreat
