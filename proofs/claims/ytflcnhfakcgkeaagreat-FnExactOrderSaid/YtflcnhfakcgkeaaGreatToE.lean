import Derived.Test.YtflcnhfakcgkeaaGreatFill
import Derived.Test.YtflcnhfakcgkeaaGreatData
import Derived.Test.YtflcnhfakcgkeaaGreatProg
import Derived.WalkLawsBesides
import Derived.Deep.LoopGhost
import Derived.Deep.RegionWith
import Derived.RegionTactic
import Derived.BigQuiet
import Derived.Deep.QuietTactic
namespace Go.Proofs.YtflcnhfakcgkeaaGreat
open Go.RowKit
set_option linter.unusedSimpArgs false
set_option linter.unusedVariables false
set_option maxHeartbeats 1000000 in
theorem ara (x:ay) (a1 a2 a3 a4:Value) (w:World) (hs:Len x.name.size) (h1:bf 3 48 RVar 0 w a1 x.ins) (h2:bf 3 48 RVar 0 w a2 x.outs) (h3:bf 3 48 RVar 0 w a3 x.vars) (h4:bf 4 88 Dt 0 w a4 x.eqs) :
  Calls Tryz.prog 26 #[.agg #[.string x.name,a1,a2,a3,a4]] w (Uz o7 w x):=by
 obtain⟨s,ins,outs,vars,eqs⟩:=x
 simp only at hs h1 h2 h3 h4
 have Hhs:=hide hs
 clear hs
 have H1:=hide h1
 clear h1
 have H2:=hide h2
 clear h2
 have H3:=hide h3
 clear h3
 have H4:=hide h4
 clear h4
 go_enter Tryz.func26,Tryz.ntmps26
 go_wp2_with fail
 refine(aa6 ins _ _ ?_).mono ?_
 ·exact(uh H1).stays ji ((((Below.refl _ _).alloc (Nat.le_refl _) _).alloc (by simp) _).alloc (by simp<;>omega) _)
 rintro e w1 ⟨v1,rfl,hS,hb⟩
 obtain⟨b1,cap1,rfl⟩:=hS.shape
 obtain⟨hc1,hf1⟩:=pq hb.below
 have hz:=hb.below.size
 simp only[World.size_alloc,Deep.nblk_setCell] at hz hc1 hf1
 have Fb:=hide (hS.lower Dc (lo':=w.heap.size+1+1+1) (by simp<;>omega))
 have HB1:Hid (ql w.heap.size w w1):=((((ql.refl _).alloc (Nat.le_refl _) _).alloc (by simp) _).alloc (by simp<;>omega) _).and hb (by simp<;>omega)
 have Au:w.heap.size<w1.heap.size:=by omega
 have Xp:w.heap.size+1<w1.heap.size:=by omega
 have adk:w.heap.size+1+1<w1.heap.size:=by omega
 clear hS hb hz
 go_wp2_with fail
 refine(aa6 outs _ _ ?_).mono ?_
 ·exact(uh H2).stays ji (by repeat (first|refine Below.setCell ?_ (by simp<;>omega) _|exact(uh HB1).below))
 rintro e w2 ⟨v2,rfl,hS,hb⟩
 obtain⟨b2,cap2,rfl⟩:=hS.shape
 obtain⟨hc2,hf2⟩:=pq hb.below
 have hz:=hb.below.size
 simp only[World.size_alloc,Deep.nblk_setCell] at hz hc2 hf2
 have HS2:=hide (hS.lower Dc (lo':=w.heap.size+1+1+1) (by simp<;>omega))
 have HB2:Hid (ql w.heap.size w w2):=by
  refine ql.and ?_ hb (by simp<;>omega)
  repeat (first|refine ql.setCell ?_ (by simp<;>omega) _|exact uh HB1)
 have HK:Kept (w.heap.size+1+1+1) w1.heap.size w1 w2:=by
  refine Kept.trans ?_ (Kept.of_below hb.below) (by simp<;>omega)
  repeat (first|refine Kept.setCell ?_ (by simp<;>omega) _|exact Kept.refl _ _ _)
 replace Fb:=hide ((uh Fb).kept ji HK)
 clear HK
 have Rl:w.heap.size<w2.heap.size:=by omega
 have afl:w.heap.size+1<w2.heap.size:=by omega
 have atz:w.heap.size+1+1<w2.heap.size:=by omega
 clear hS hb hz
 go_wp2_with fail
 refine(aa6 vars _ _ ?_).mono ?_
 ·exact(uh H3).stays ji (by repeat (first|refine Below.setCell ?_ (by simp<;>omega) _|exact(uh HB2).below))
 rintro e w3 ⟨v3,rfl,hS,hb⟩
 obtain⟨b3,cap3,rfl⟩:=hS.shape
 obtain⟨hc3,hf3⟩:=pq hb.below
 have hz:=hb.below.size
 simp only[World.size_alloc,Deep.nblk_setCell] at hz hc3 hf3
 have Ee:=hide (hS.lower Dc (lo':=w.heap.size+1+1+1) (by simp<;>omega))
 have HB3:Hid (ql w.heap.size w w3):=by
  refine ql.and ?_ hb (by simp<;>omega)
  repeat (first|refine ql.setCell ?_ (by simp<;>omega) _|exact uh HB2)
 have HK:Kept (w.heap.size+1+1+1) w2.heap.size w2 w3:=by
  refine Kept.trans ?_ (Kept.of_below hb.below) (by simp<;>omega)
  repeat (first|refine Kept.setCell ?_ (by simp<;>omega) _|exact Kept.refl _ _ _)
 replace Fb:=hide ((uh Fb).kept ji HK)
 replace HS2:=hide ((uh HS2).kept ji HK)
 clear HK
 have aa7:w.heap.size<w3.heap.size:=by omega
 have ajy:w.heap.size+1<w3.heap.size:=by omega
 have at1:w.heap.size+1+1<w3.heap.size:=by omega
 clear hS hb hz
 go_wp2_with fail
 refine(afm eqs _ _ ?_).mono ?_
 ·exact(uh H4).stays xq (by repeat (first|refine Below.setCell ?_ (by simp<;>omega) _|exact(uh HB3).below))
 rintro e w4 ⟨v4,rfl,hS,hb⟩
 obtain⟨b4,cap4,rfl⟩:=hS.shape
 obtain⟨hc4,hf4⟩:=pq hb.below
 have hz:=hb.below.size
 simp only[World.size_alloc,Deep.nblk_setCell] at hz hc4 hf4
 have Rw:=hide (hS.lower Rk (lo':=w.heap.size+1+1+1) (by simp<;>omega))
 have HB4:Hid (ql w.heap.size w w4):=by
  refine ql.and ?_ hb (by simp<;>omega)
  repeat (first|refine ql.setCell ?_ (by simp<;>omega) _|exact uh HB3)
 have HK:Kept (w.heap.size+1+1+1) w3.heap.size w3 w4:=by
  refine Kept.trans ?_ (Kept.of_below hb.below) (by simp<;>omega)
  repeat (first|refine Kept.setCell ?_ (by simp<;>omega) _|exact Kept.refl _ _ _)
 replace Fb:=hide ((uh Fb).kept ji HK)
 replace HS2:=hide ((uh HS2).kept ji HK)
 replace Ee:=hide ((uh Ee).kept ji HK)
 clear HK
 have aok:w.heap.size<w4.heap.size:=by omega
 have a0j:w.heap.size+1<w4.heap.size:=by omega
 have a3s:w.heap.size+1+1<w4.heap.size:=by omega
 clear hS hb hz
 go_wp2
 refine bodyPost_ret (v:=.agg #[.string s,.slice b1 ins.length cap1,.slice b2 outs.length cap2,.slice b3 vars.length cap3,.slice b4 eqs.length cap4]) (by simp[results,Tryz.results26,go_sem,hc1,Au,Xp,adk,hc2,Rl,afl,atz,hc3,aa7,ajy,at1,hc4,aok,a0j,a3s]) rfl ⟨[.string s,.slice b1 ins.length cap1,.slice b2 outs.length cap2,.slice b3 vars.length cap3,.slice b4 eqs.length cap4],rfl,⟨_,_,_,_,rfl,uh Hhs,?_,?_,?_,?_⟩,?_⟩
 ·exact((uh Fb).kept ji (by repeat (first|refine Kept.setCell ?_ (by simp<;>omega) _|exact Kept.refl _ _ _))).lower Dc (by omega)
 ·exact((uh HS2).kept ji (by repeat (first|refine Kept.setCell ?_ (by simp<;>omega) _|exact Kept.refl _ _ _))).lower Dc (by omega)
 ·exact((uh Ee).kept ji (by repeat (first|refine Kept.setCell ?_ (by simp<;>omega) _|exact Kept.refl _ _ _))).lower Dc (by omega)
 ·exact((uh Rw).kept xq (by repeat (first|refine Kept.setCell ?_ (by simp<;>omega) _|exact Kept.refl _ _ _))).lower Rk (by omega)
 ·repeat (first|refine ql.setCell ?_ (by simp<;>omega) _|exact uh HB4)
theorem akw:(Tryz.prog.info? 42).map (fun i=>(i.zero,i.size,i.bytes))=some (some (.agg #[.string ByteArray.empty,.slice none 0 0,.slice none 0 0,.slice none 0 0,.slice none 0 0]),5,112):=by kernel_rfl
set_option maxHeartbeats 400000 in
theorem apb (xs:List ay) (v:Value) (w:World) (hv:bf 5 112 o7 0 w v xs) :
  Calls Tryz.prog 16 #[v] w (Tt 5 112 o7 w xs):=by
 obtain⟨a,cap,rfl,⟨hnb,_⟩,hn,hx⟩:=hv
 have Gl:=hide hnb
 have HN:=hide hn
 unfold Len at hn hnb
 have HX:=hide hx
 clear hx
 have hmk:=Am (P:=Tryz.prog) 28 42 _ _ _ Tryz.underlying28 akw xs.length hnb hn
 clear hnb
 go_enter Tryz.func16,Tryz.ntmps16
 go_wp2
 go_loopg [4] xs.length (fun g i wr=>∃(k:Nat),k<=xs.length∧g=xs.length-k∧i=.int .i64 k∧ql w.heap.size w wr∧zi wr w.heap.size (xs.length*5)∧Jb 5 o7 (w.heap.size+1) wr w.heap.size xs k)
 case atStart=>exact⟨0,Nat.zero_le _,by omega,rfl,(ql.refl _).alloc (Nat.le_refl _) _,zi.made _ _ _ _,Nv _ _ _ _ _ _⟩
 case round =>
  obtain⟨k,hk,hg,rfl,hbl,hrow,hfil⟩:=hrel
  clear hmk
  have HG:=hide hg
  have HF:=hide hfil
  clear hg hfil
  by_cases hlt:k<xs.length
  ·obtain⟨b,o,cs,rfl,_,hb,hcs,hc,hR⟩:=uh HX k hlt
   have hR:=jk.stays _ _ _ _ _ hbl.below hR
   have hc:∀j (hj:j<cs.length),wr.cell? ⟨b,o+k*5+j,none⟩=some cs[j]:=fun j hj=>by rw[hbl.below.cell (p:=⟨b,_,none⟩) hb];exact hc j hj
   obtain⟨ni,no,nv,ne,rfl,hsn,g1,g2,g3,g4⟩:=hR
   have G1:=hide g1
   have G2:=hide g2
   have G3:=hide g3
   have G4:=hide g4
   clear g1 g2 g3 g4
   have c0:=hc 0 (by simp)
   have c1:=hc 1 (by simp)
   have c2:=hc 2 (by simp)
   have c3:=hc 3 (by simp)
   have c4:=hc 4 (by simp)
   simp only[Nat.mul_one,Nat.add_zero,List.getElem_cons_zero,List.getElem_cons_succ] at c0 c1 c2 c3 c4
   clear hc hcs
   go_wp2_with fail
   refine(ara _ _ _ _ _ _ hsn (uh G1) (uh G2) (uh G3) (uh G4)).mono ?_
   rintro e w1 ⟨cs',rfl,hR1,hb1⟩
   have hrow1:=hrow.below hb1.below
   have Ny:=hR1
   obtain⟨i1,o1,v1,e1,rfl,aoj,g1,g2,g3,g4⟩:=hR1
   obtain⟨aa1,ca1,rfl⟩:=g1.shape
   clear g1
   obtain⟨aa2,ca2,rfl⟩:=g2.shape
   clear g2
   obtain⟨aa3,ca3,rfl⟩:=g3.shape
   clear g3
   obtain⟨aa4,ca4,rfl⟩:=g4.shape
   clear g4
   obtain⟨x0,d0⟩:=hrow1.cell (i:=k*5) (by omega)
   have f0:=hrow1.frozen (k*5)
   obtain⟨x1,d1⟩:=hrow1.cell (i:=k*5+1) (by omega)
   have f1:=hrow1.frozen (k*5+1)
   obtain⟨x2,d2⟩:=hrow1.cell (i:=k*5+2) (by omega)
   have f2:=hrow1.frozen (k*5+2)
   obtain⟨x3,d3⟩:=hrow1.cell (i:=k*5+3) (by omega)
   have f3:=hrow1.frozen (k*5+3)
   obtain⟨x4,d4⟩:=hrow1.cell (i:=k*5+4) (by omega)
   have f4:=hrow1.frozen (k*5+4)
   have step:=Js jk Fj hlt (Nat.le_refl _) hbl hrow (uh HF) hb1 rfl Ny
   have ST:=hide step
   clear c0 c1 c2 c3 c4 step Ny hrow1
   go_wp2
   go_roundg (xs.length-(k+1))
   case measure=>have:=uh HG;omega
   case rel=>exact⟨k+1,by omega,rfl,by go_num,uh ST⟩
  ·have e:k=xs.length:=by omega
   have hb0:=hrow.lt
   have D:=hide (Nw Fj hb0 (uh Gl) (uh HN) (by have:=uh HF;rwa[e] at this))
   clear hrow
   go_wp2
   go_ret
   exact⟨_,rfl,uh D,hbl⟩
def awi (lo:Nat) (w:World) (cs:List Value) (ns:List ay):Prop:=∃v,cs=[v]∧bf 5 112 o7 lo w v ns
set_option maxHeartbeats 400000 in
theorem Z4 (ns:List ay) (v:Value) (w:World) (h1:bf 5 112 o7 0 w v ns) :
  Calls Tryz.prog 6 #[.agg #[v]] w (Uz awi w ns):=by
 have H1:=hide h1
 clear h1
 go_enter Tryz.func6,Tryz.ntmps6
 go_wp2_with fail
 refine(apb ns _ _ ?_).mono ?_
 ·exact(uh H1).stays jk ((((Below.refl _ _).alloc (Nat.le_refl _) _).alloc (by simp) _).alloc (by simp<;>omega) _)
 rintro e w1 ⟨v1,rfl,hS,hb⟩
 obtain⟨b1,cap1,rfl⟩:=hS.shape
 obtain⟨hc1,hf1⟩:=pq hb.below
 have hz:=hb.below.size
 simp only[World.size_alloc,Deep.nblk_setCell] at hz hc1 hf1
 have Fb:=hide (hS.lower Fj (lo':=w.heap.size+1+1+1) (by simp<;>omega))
 have HB1:Hid (ql w.heap.size w w1):=((((ql.refl _).alloc (Nat.le_refl _) _).alloc (by simp) _).alloc (by simp<;>omega) _).and hb (by simp<;>omega)
 have Au:w.heap.size<w1.heap.size:=by omega
 have Xp:w.heap.size+1<w1.heap.size:=by omega
 have adk:w.heap.size+1+1<w1.heap.size:=by omega
 clear hS hb hz
 go_wp2
 refine bodyPost_ret (v:=.agg #[.slice b1 ns.length cap1]) (by simp[results,Tryz.results6,go_sem,hc1,Au,Xp,adk]) rfl ⟨[.slice b1 ns.length cap1],rfl,⟨_,rfl,?_⟩,?_⟩
 ·exact((uh Fb).kept jk (by repeat (first|refine Kept.setCell ?_ (by simp<;>omega) _|exact Kept.refl _ _ _))).lower Fj (by omega)
 ·repeat (first|refine ql.setCell ?_ (by simp<;>omega) _|exact uh HB1)
theorem Wn (ns:List ay) (v:Value) (w:World) (h1:bf 5 112 o7 0 w v ns) :
  Calls Tryz.prog 6 #[.agg #[v]] w (amf awi w ns):=(Z4 ns v w h1).mono fun e w' h=>h.weak
def F6 (w:World) (e:Ending) (w':World):Prop:=e=.returned (.bool true)∧Below w.heap.size w w'
set_option maxHeartbeats 400000 in
theorem arb (c:cu) (w:World) :
  Calls Tryz.prog 139 #[.agg #[.string c.name,.bool c.on],.agg #[.string c.name,.bool c.on]] w (F6 w):=by
 obtain⟨s,on⟩:=c
 go_enter Tryz.func139,Tryz.ntmps139
 go_wp2
 go_ret
 exact⟨rfl,((Below.refl _ _).alloc (Nat.le_refl _) _).alloc (by simp) _⟩
set_option maxHeartbeats 400000 in
theorem ard (t:eu) (w:World) :
  Calls Tryz.prog 140 #[.agg #[.int .i64 t.op,.int .i64 t.val,.string t.name],.agg #[.int .i64 t.op,.int .i64 t.val,.string t.name]] w (F6 w):=by
 obtain⟨op,val,s⟩:=t
 go_enter Tryz.func140,Tryz.ntmps140
 go_wp2
 go_ret
 exact⟨rfl,((Below.refl _ _).alloc (Nat.le_refl _) _).alloc (by simp) _⟩
theorem below_drewN {B:Nat} {w w':World} (h:Below B w w') (n:Nat):Below B w (w'.drewN n):=by
 induction n with
 | zero=>exact h
 | succ n ih=>exact ih.drew
set_option maxHeartbeats 400000 in
theorem apc (xs:List cu) (v u:Value) (w:World) (hv:bf 2 24 jm 0 w v xs) (hu:bf 2 24 jm 0 w u xs) :
  Calls Tryz.prog 113 #[v,u] w (F6 w):=by
 obtain⟨a,cap,rfl,_,hn,hx⟩:=hv
 obtain⟨a2,cap2,rfl,_,_,hy⟩:=hu
 unfold Len at hn
 have HX:=hide hx
 have HY:=hide hy
 clear hx hy
 go_enter Tryz.func113,Tryz.ntmps113
 go_wp2
 go_loopg [5] xs.length (fun g i wr=>∃(k:Nat),k<=xs.length∧g=xs.length-k∧i=.int .i64 k∧Below w.heap.size w wr)
 case atStart=>exact⟨0,Nat.zero_le _,by omega,rfl,Below.refl _ _⟩
 case round =>
  obtain⟨k,hk,hg,rfl,hbl⟩:=hrel
  have HG:=hide hg
  clear hg
  by_cases hlt:k<xs.length
  ·obtain⟨b,o,cs,rfl,_,hb,hcs,hc,hR⟩:=uh HX k hlt
   have hc:∀j (hj:j<cs.length),wr.cell? ⟨b,o+k*2+j,none⟩=some cs[j]:=fun j hj=>by rw[hbl.cell (p:=⟨b,_,none⟩) hb];exact hc j hj
   obtain⟨b2,o2,cs2,rfl,_,hb2,hcs2,hc2,hR2⟩:=uh HY k hlt
   have hc2:∀j (hj:j<cs2.length),wr.cell? ⟨b2,o2+k*2+j,none⟩=some cs2[j]:=fun j hj=>by rw[hbl.cell (p:=⟨b2,_,none⟩) hb2];exact hc2 j hj
   have hR:=lg.stays _ _ _ _ _ hbl.drew hR
   have hR2:=lg.stays _ _ _ _ _ hbl.drew hR2
   obtain⟨rfl,hsn⟩:=hR
   obtain⟨rfl,auf⟩:=hR2
   have c0:=hc 0 (by simp)
   have d0:=hc2 0 (by simp)
   have c1:=hc 1 (by simp)
   have d1:=hc2 1 (by simp)
   simp only[Nat.mul_one,Nat.add_zero,List.getElem_cons_zero,List.getElem_cons_succ] at c0 d0 c1 d1
   clear hc hcs hc2 hcs2
   have hlt':(k:Int)<(xs.length:Int):=by omega
   go_wp2_with fail
   go_region_with (go_at_call 139;refine(arb _ _).mono ?_;rintro e w1 ⟨rfl,hb1⟩)
   all_goals
    go_wp2
    go_roundg (xs.length-(k+1))
    case measure=>have:=uh HG;omega
    case rel=>exact⟨k+1,by omega,rfl,by go_num,hbl.drew.trans (hb1.mono hbl.drew.size)⟩
  ·go_wp2
   go_ret
   exact⟨rfl,hbl⟩
set_option maxHeartbeats 400000 in
theorem aew (xs:List eu) (v u:Value) (w:World) (hv:bf 3 32 jw 0 w v xs) (hu:bf 3 32 jw 0 w u xs) :
  Calls Tryz.prog 115 #[v,u] w (F6 w):=by
 obtain⟨a,cap,rfl,_,hn,hx⟩:=hv
 obtain⟨a2,cap2,rfl,_,_,hy⟩:=hu
 unfold Len at hn
 have HX:=hide hx
 have HY:=hide hy
 clear hx hy
 go_enter Tryz.func115,Tryz.ntmps115
 go_wp2
 go_loopg [5] xs.length (fun g i wr=>∃(k:Nat),k<=xs.length∧g=xs.length-k∧i=.int .i64 k∧Below w.heap.size w wr)
 case atStart=>exact⟨0,Nat.zero_le _,by omega,rfl,Below.refl _ _⟩
 case round =>
  obtain⟨k,hk,hg,rfl,hbl⟩:=hrel
  have HG:=hide hg
  clear hg
  by_cases hlt:k<xs.length
  ·obtain⟨b,o,cs,rfl,_,hb,hcs,hc,hR⟩:=uh HX k hlt
   have hc:∀j (hj:j<cs.length),wr.cell? ⟨b,o+k*3+j,none⟩=some cs[j]:=fun j hj=>by rw[hbl.cell (p:=⟨b,_,none⟩) hb];exact hc j hj
   obtain⟨b2,o2,cs2,rfl,_,hb2,hcs2,hc2,hR2⟩:=uh HY k hlt
   have hc2:∀j (hj:j<cs2.length),wr.cell? ⟨b2,o2+k*3+j,none⟩=some cs2[j]:=fun j hj=>by rw[hbl.cell (p:=⟨b2,_,none⟩) hb2];exact hc2 j hj
   have hR:=je.stays _ _ _ _ _ hbl.drew hR
   have hR2:=je.stays _ _ _ _ _ hbl.drew hR2
   obtain⟨rfl,hsn,_,_⟩:=hR
   obtain⟨rfl,auf,_,_⟩:=hR2
   have c0:=hc 0 (by simp)
   have d0:=hc2 0 (by simp)
   have c1:=hc 1 (by simp)
   have d1:=hc2 1 (by simp)
   have c2:=hc 2 (by simp)
   have d2:=hc2 2 (by simp)
   simp only[Nat.mul_one,Nat.add_zero,List.getElem_cons_zero,List.getElem_cons_succ] at c0 d0 c1 d1 c2 d2
   clear hc hcs hc2 hcs2
   have hlt':(k:Int)<(xs.length:Int):=by omega
   go_wp2_with fail
   go_region_with (go_at_call 140;refine(ard _ _).mono ?_;rintro e w1 ⟨rfl,hb1⟩)
   all_goals
    go_wp2
    go_roundg (xs.length-(k+1))
    case measure=>have:=uh HG;omega
    case rel=>exact⟨k+1,by omega,rfl,by go_num,hbl.drew.trans (hb1.mono hbl.drew.size)⟩
  ·go_wp2
   go_ret
   exact⟨rfl,hbl⟩
set_option maxHeartbeats 400000 in
theorem akx (xs:List ByteArray) (v u:Value) (w:World) (hv:bf 1 16 Cc 0 w v xs) (hu:bf 1 16 Cc 0 w u xs) :
  Calls Tryz.prog 114 #[v,u] w (F6 w):=by
 obtain⟨a,cap,rfl,_,hn,hx⟩:=hv
 obtain⟨a2,cap2,rfl,_,_,hy⟩:=hu
 unfold Len at hn
 have HX:=hide hx
 have HY:=hide hy
 clear hx hy
 go_enter Tryz.func114,Tryz.ntmps114
 go_wp2
 go_loopg [5] xs.length (fun g i wr=>∃(k:Nat),k<=xs.length∧g=xs.length-k∧i=.int .i64 k∧Below w.heap.size w wr)
 case atStart=>exact⟨0,Nat.zero_le _,by omega,rfl,Below.refl _ _⟩
 case round =>
  obtain⟨k,hk,hg,rfl,hbl⟩:=hrel
  have HG:=hide hg
  clear hg
  by_cases hlt:k<xs.length
  ·obtain⟨b,o,cs,rfl,_,hb,hcs,hc,hR⟩:=uh HX k hlt
   have hc:∀j (hj:j<cs.length),wr.cell? ⟨b,o+k*1+j,none⟩=some cs[j]:=fun j hj=>by rw[hbl.cell (p:=⟨b,_,none⟩) hb];exact hc j hj
   obtain⟨b2,o2,cs2,rfl,_,hb2,hcs2,hc2,hR2⟩:=uh HY k hlt
   have hc2:∀j (hj:j<cs2.length),wr.cell? ⟨b2,o2+k*1+j,none⟩=some cs2[j]:=fun j hj=>by rw[hbl.cell (p:=⟨b2,_,none⟩) hb2];exact hc2 j hj
   have hR:=uw.stays _ _ _ _ _ hbl.drew hR
   have hR2:=uw.stays _ _ _ _ _ hbl.drew hR2
   obtain⟨rfl,hsn⟩:=hR
   obtain⟨rfl,auf⟩:=hR2
   have c0:=hc 0 (by simp)
   have d0:=hc2 0 (by simp)
   simp only[Nat.mul_one,Nat.add_zero,List.getElem_cons_zero,List.getElem_cons_succ] at c0 d0
   clear hc hcs hc2 hcs2
   have hlt':(k:Int)<(xs.length:Int):=by omega
   go_wp2_with fail
   generalize xs[k]=s at *
   go_quiet (fail)
   go_wp2
   go_roundg (xs.length-(k+1))
   case measure=>have:=uh HG;omega
   case rel=>exact⟨k+1,by omega,rfl,by go_num,below_drewN hbl _⟩
  ·go_wp2
   go_ret
   exact⟨rfl,hbl⟩
set_option maxHeartbeats 1000000 in
theorem avb (x:gy) (a1 b1:Value) (w:World) (h1:bf 2 24 jm 0 w a1 x.clock) (g1:bf 2 24 jm 0 w b1 x.clock) :
  Calls Tryz.prog 87 #[.agg #[.string x.name,.int .i64 x.type,a1],.agg #[.string x.name,.int .i64 x.type,b1]] w (F6 w):=by
 obtain⟨s,ty,clk⟩:=x
 simp only at h1 g1
 have H1:=hide h1
 have G1:=hide g1
 clear h1 g1
 go_enter Tryz.func87,Tryz.ntmps87
 have B0:Below w.heap.size w ((w.alloc (.cells _ _)).alloc (.cells _ _)):=((Below.refl w.heap.size w).alloc (Nat.le_refl _) (.cells #[.string s,.int .i64 ty,a1] 68)).alloc (by simp) (.cells #[.string s,.int .i64 ty,b1] 68)
 go_wp2_with fail
 refine(apc clk _ _ _ ?_ ?_).mono ?_
 ·exact(uh H1).stays lg B0
 ·exact(uh G1).stays lg B0
 rintro e w1 ⟨rfl,hb⟩
 obtain⟨hc1,hf1⟩:=pq hb
 have hz:=hb.size
 have B1:Below w.heap.size w w1:=B0.trans (hb.mono B0.size)
 try simp only[World.size_alloc] at hz hc1 hf1
 have Au:w.heap.size<w1.heap.size:=by omega
 have Xp:w.heap.size+1<w1.heap.size:=by omega
 clear hb hz
 go_wp2
 go_ret
 exact⟨rfl,B1⟩
set_option maxHeartbeats 400000 in
theorem alv (xs:List (List eu)) (v u:Value) (w:World) (hv:bf 1 24 yu 0 w v xs) (hu:bf 1 24 yu 0 w u xs) :
  Calls Tryz.prog 116 #[v,u] w (F6 w):=by
 obtain⟨a,cap,rfl,_,hn,hx⟩:=hv
 obtain⟨a2,cap2,rfl,_,_,hy⟩:=hu
 unfold Len at hn
 have HX:=hide hx
 have HY:=hide hy
 clear hx hy
 go_enter Tryz.func116,Tryz.ntmps116
 go_wp2
 go_loopg [5] xs.length (fun g i wr=>∃(k:Nat),k<=xs.length∧g=xs.length-k∧i=.int .i64 k∧Below w.heap.size w wr)
 case atStart=>exact⟨0,Nat.zero_le _,by omega,rfl,Below.refl _ _⟩
 case round =>
  obtain⟨k,hk,hg,rfl,hbl⟩:=hrel
  have HG:=hide hg
  clear hg
  by_cases hlt:k<xs.length
  ·obtain⟨b,o,cs,rfl,_,hb,hcs,hc,hR⟩:=uh HX k hlt
   have hc:∀j (hj:j<cs.length),wr.cell? ⟨b,o+k*1+j,none⟩=some cs[j]:=fun j hj=>by rw[hbl.cell (p:=⟨b,_,none⟩) hb];exact hc j hj
   obtain⟨b2,o2,cs2,rfl,_,hb2,hcs2,hc2,hR2⟩:=uh HY k hlt
   have hc2:∀j (hj:j<cs2.length),wr.cell? ⟨b2,o2+k*1+j,none⟩=some cs2[j]:=fun j hj=>by rw[hbl.cell (p:=⟨b2,_,none⟩) hb2];exact hc2 j hj
   have hR:=lq.stays _ _ _ _ _ hbl.drew hR
   have hR2:=lq.stays _ _ _ _ _ hbl.drew hR2
   obtain⟨p1,rfl,q1⟩:=hR
   have P1:=hide q1
   clear q1
   obtain⟨p2,rfl,q2⟩:=hR2
   have P2:=hide q2
   clear q2
   have c0:=hc 0 (by simp)
   have d0:=hc2 0 (by simp)
   simp only[Nat.mul_one,Nat.add_zero,List.getElem_cons_zero,List.getElem_cons_succ] at c0 d0
   clear hc hcs hc2 hcs2
   have hlt':(k:Int)<(xs.length:Int):=by omega
   go_wp2_with fail
   go_region_with (go_at_call 115;refine(aew _ _ _ _ (uh P1) (uh P2)).mono ?_;rintro e w1 ⟨rfl,hb1⟩)
   all_goals
    go_wp2
    go_roundg (xs.length-(k+1))
    case measure=>have:=uh HG;omega
    case rel=>exact⟨k+1,by omega,rfl,by go_num,hbl.drew.trans (hb1.mono hbl.drew.size)⟩
  ·go_wp2
   go_ret
   exact⟨rfl,hbl⟩
set_option maxHeartbeats 400000 in
theorem abh (xs:List gy) (v u:Value) (w:World) (hv:bf 3 48 RVar 0 w v xs) (hu:bf 3 48 RVar 0 w u xs) :
  Calls Tryz.prog 54 #[v,u] w (F6 w):=by
 obtain⟨a,cap,rfl,_,hn,hx⟩:=hv
 obtain⟨a2,cap2,rfl,_,_,hy⟩:=hu
 unfold Len at hn
 have HX:=hide hx
 have HY:=hide hy
 clear hx hy
 go_enter Tryz.func54,Tryz.ntmps54
 go_wp2
 go_loopg [5] xs.length (fun g i wr=>∃(k:Nat),k<=xs.length∧g=xs.length-k∧i=.int .i64 k∧Below w.heap.size w wr)
 case atStart=>exact⟨0,Nat.zero_le _,by omega,rfl,Below.refl _ _⟩
 case round =>
  obtain⟨k,hk,hg,rfl,hbl⟩:=hrel
  have HG:=hide hg
  clear hg
  by_cases hlt:k<xs.length
  ·obtain⟨b,o,cs,rfl,_,hb,hcs,hc,hR⟩:=uh HX k hlt
   have hc:∀j (hj:j<cs.length),wr.cell? ⟨b,o+k*3+j,none⟩=some cs[j]:=fun j hj=>by rw[hbl.cell (p:=⟨b,_,none⟩) hb];exact hc j hj
   obtain⟨b2,o2,cs2,rfl,_,hb2,hcs2,hc2,hR2⟩:=uh HY k hlt
   have hc2:∀j (hj:j<cs2.length),wr.cell? ⟨b2,o2+k*3+j,none⟩=some cs2[j]:=fun j hj=>by rw[hbl.cell (p:=⟨b2,_,none⟩) hb2];exact hc2 j hj
   have hR:=ji.stays _ _ _ _ _ hbl.drew hR
   have hR2:=ji.stays _ _ _ _ _ hbl.drew hR2
   obtain⟨p1,rfl,_,_,q1⟩:=hR
   have P1:=hide q1
   clear q1
   obtain⟨p2,rfl,_,_,q2⟩:=hR2
   have P2:=hide q2
   clear q2
   have c0:=hc 0 (by simp)
   have d0:=hc2 0 (by simp)
   have c1:=hc 1 (by simp)
   have d1:=hc2 1 (by simp)
   have c2:=hc 2 (by simp)
   have d2:=hc2 2 (by simp)
   simp only[Nat.mul_one,Nat.add_zero,List.getElem_cons_zero,List.getElem_cons_succ] at c0 d0 c1 d1 c2 d2
   clear hc hcs hc2 hcs2
   have hlt':(k:Int)<(xs.length:Int):=by omega
   go_wp2_with fail
   go_region_with (go_at_call 87;refine(avb _ _ _ _ (uh P1) (uh P2)).mono ?_;rintro e w1 ⟨rfl,hb1⟩)
   all_goals
    go_wp2
    go_roundg (xs.length-(k+1))
    case measure=>have:=uh HG;omega
    case rel=>exact⟨k+1,by omega,rfl,by go_num,hbl.drew.trans (hb1.mono hbl.drew.size)⟩
  ·go_wp2
   go_ret
   exact⟨rfl,hbl⟩
set_option maxHeartbeats 1000000 in
theorem ahc (x:qg) (a1 b1 a2 b2 a3 b3:Value) (w:World) (h1:bf 1 16 Cc 0 w a1 x.lhs) (g1:bf 1 16 Cc 0 w b1 x.lhs) (h2:bf 3 32 jw 0 w a2 x.code) (g2:bf 3 32 jw 0 w b2 x.code) (h3:bf 1 24 yu 0 w a3 x.args) (g3:bf 1 24 yu 0 w b3 x.args) :
  Calls Tryz.prog 88 #[.agg #[a1,a2,.string x.call,a3],.agg #[b1,b2,.string x.call,b3]] w (F6 w):=by
 obtain⟨lhs,code,s,args⟩:=x
 simp only at h1 g1 h2 g2 h3 g3
 have H1:=hide h1
 have G1:=hide g1
 clear h1 g1
 have H2:=hide h2
 have G2:=hide g2
 clear h2 g2
 have H3:=hide h3
 have G3:=hide g3
 clear h3 g3
 go_enter Tryz.func88,Tryz.ntmps88
 have B0:Below w.heap.size w ((w.alloc (.cells _ _)).alloc (.cells _ _)):=((Below.refl w.heap.size w).alloc (Nat.le_refl _) (.cells #[a1,a2,.string s,a3] 48)).alloc (by simp) (.cells #[b1,b2,.string s,b3] 48)
 go_wp2_with fail
 refine(akx lhs _ _ _ ?_ ?_).mono ?_
 ·exact(uh H1).stays uw B0
 ·exact(uh G1).stays uw B0
 rintro e w1 ⟨rfl,hb⟩
 obtain⟨hc1,hf1⟩:=pq hb
 have hz:=hb.size
 have B1:Below w.heap.size w w1:=B0.trans (hb.mono B0.size)
 try simp only[World.size_alloc] at hz hc1 hf1
 have Au:w.heap.size<w1.heap.size:=by omega
 have Xp:w.heap.size+1<w1.heap.size:=by omega
 clear hb hz
 go_wp2_with fail
 refine(aew code _ _ _ ?_ ?_).mono ?_
 ·exact(uh H2).stays je B1
 ·exact(uh G2).stays je B1
 rintro e w2 ⟨rfl,hb⟩
 obtain⟨hc2,hf2⟩:=pq hb
 have hz:=hb.size
 have B2:Below w.heap.size w w2:=B1.trans (hb.mono B1.size)
 try simp only[World.size_alloc] at hz hc2 hf2
 have Rl:w.heap.size<w2.heap.size:=by omega
 have afl:w.heap.size+1<w2.heap.size:=by omega
 clear hb hz
 go_wp2_with fail
 refine(alv args _ _ _ ?_ ?_).mono ?_
 ·exact(uh H3).stays lq B2
 ·exact(uh G3).stays lq B2
 rintro e w3 ⟨rfl,hb⟩
 obtain⟨hc3,hf3⟩:=pq hb
 have hz:=hb.size
 have B3:Below w.heap.size w w3:=B2.trans (hb.mono B2.size)
 try simp only[World.size_alloc] at hz hc3 hf3
 have aa7:w.heap.size<w3.heap.size:=by omega
 have ajy:w.heap.size+1<w3.heap.size:=by omega
 clear hb hz
 go_wp2
 go_ret
 exact⟨rfl,B3⟩
set_option maxHeartbeats 400000 in
theorem af2 (xs:List qg) (v u:Value) (w:World) (hv:bf 4 88 Dt 0 w v xs) (hu:bf 4 88 Dt 0 w u xs) :
  Calls Tryz.prog 55 #[v,u] w (F6 w):=by
 obtain⟨a,cap,rfl,_,hn,hx⟩:=hv
 obtain⟨a2,cap2,rfl,_,_,hy⟩:=hu
 unfold Len at hn
 have HX:=hide hx
 have HY:=hide hy
 clear hx hy
 go_enter Tryz.func55,Tryz.ntmps55
 go_wp2
 go_loopg [5] xs.length (fun g i wr=>∃(k:Nat),k<=xs.length∧g=xs.length-k∧i=.int .i64 k∧Below w.heap.size w wr)
 case atStart=>exact⟨0,Nat.zero_le _,by omega,rfl,Below.refl _ _⟩
 case round =>
  obtain⟨k,hk,hg,rfl,hbl⟩:=hrel
  have HG:=hide hg
  clear hg
  by_cases hlt:k<xs.length
  ·obtain⟨b,o,cs,rfl,_,hb,hcs,hc,hR⟩:=uh HX k hlt
   have hc:∀j (hj:j<cs.length),wr.cell? ⟨b,o+k*4+j,none⟩=some cs[j]:=fun j hj=>by rw[hbl.cell (p:=⟨b,_,none⟩) hb];exact hc j hj
   obtain⟨b2,o2,cs2,rfl,_,hb2,hcs2,hc2,hR2⟩:=uh HY k hlt
   have hc2:∀j (hj:j<cs2.length),wr.cell? ⟨b2,o2+k*4+j,none⟩=some cs2[j]:=fun j hj=>by rw[hbl.cell (p:=⟨b2,_,none⟩) hb2];exact hc2 j hj
   have hR:=xq.stays _ _ _ _ _ hbl.drew hR
   have hR2:=xq.stays _ _ _ _ _ hbl.drew hR2
   obtain⟨l1,c1,a1,rfl,_,p1,p2,p3⟩:=hR
   have P1:=hide p1
   clear p1
   have P2:=hide p2
   clear p2
   have P3:=hide p3
   clear p3
   obtain⟨l2,c2,a2,rfl,_,q1,q2,q3⟩:=hR2
   have Q1:=hide q1
   clear q1
   have Q2:=hide q2
   clear q2
   have Q3:=hide q3
   clear q3
   have c0:=hc 0 (by simp)
   have d0:=hc2 0 (by simp)
   have c1:=hc 1 (by simp)
   have d1:=hc2 1 (by simp)
   have c2:=hc 2 (by simp)
   have d2:=hc2 2 (by simp)
   have c3:=hc 3 (by simp)
   have d3:=hc2 3 (by simp)
   simp only[Nat.mul_one,Nat.add_zero,List.getElem_cons_zero,List.getElem_cons_succ] at c0 d0 c1 d1 c2 d2 c3 d3
   clear hc hcs hc2 hcs2
   have hlt':(k:Int)<(xs.length:Int):=by omega
   go_wp2_with fail
   go_region_with (go_at_call 88;refine(ahc _ _ _ _ _ _ _ _ (uh P1) (uh Q1) (uh P2) (uh Q2) (uh P3) (uh Q3)).mono ?_;rintro e w1 ⟨rfl,hb1⟩)
   all_goals
    go_wp2
    go_roundg (xs.length-(k+1))
    case measure=>have:=uh HG;omega
    case rel=>exact⟨k+1,by omega,rfl,by go_num,hbl.drew.trans (hb1.mono hbl.drew.size)⟩
  ·go_wp2
   go_ret
   exact⟨rfl,hbl⟩
set_option maxHeartbeats 1000000 in
theorem arf (x:ay) (a1 b1 a2 b2 a3 b3 a4 b4:Value) (w:World) (h1:bf 3 48 RVar 0 w a1 x.ins) (g1:bf 3 48 RVar 0 w b1 x.ins) (h2:bf 3 48 RVar 0 w a2 x.outs) (g2:bf 3 48 RVar 0 w b2 x.outs) (h3:bf 3 48 RVar 0 w a3 x.vars) (g3:bf 3 48 RVar 0 w b3 x.vars) (h4:bf 4 88 Dt 0 w a4 x.eqs) (g4:bf 4 88 Dt 0 w b4 x.eqs) :
  Calls Tryz.prog 31 #[.agg #[.string x.name,a1,a2,a3,a4],.agg #[.string x.name,b1,b2,b3,b4]] w (F6 w):=by
 obtain⟨s,ins,outs,vars,eqs⟩:=x
 simp only at h1 g1 h2 g2 h3 g3 h4 g4
 have H1:=hide h1
 have G1:=hide g1
 clear h1 g1
 have H2:=hide h2
 have G2:=hide g2
 clear h2 g2
 have H3:=hide h3
 have G3:=hide g3
 clear h3 g3
 have H4:=hide h4
 have G4:=hide g4
 clear h4 g4
 go_enter Tryz.func31,Tryz.ntmps31
 have B0:Below w.heap.size w ((w.alloc (.cells _ _)).alloc (.cells _ _)):=((Below.refl w.heap.size w).alloc (Nat.le_refl _) (.cells #[.string s,a1,a2,a3,a4] 42)).alloc (by simp) (.cells #[.string s,b1,b2,b3,b4] 42)
 go_wp2_with fail
 refine(abh ins _ _ _ ?_ ?_).mono ?_
 ·exact(uh H1).stays ji B0
 ·exact(uh G1).stays ji B0
 rintro e w1 ⟨rfl,hb⟩
 obtain⟨hc1,hf1⟩:=pq hb
 have hz:=hb.size
 have B1:Below w.heap.size w w1:=B0.trans (hb.mono B0.size)
 try simp only[World.size_alloc] at hz hc1 hf1
 have Au:w.heap.size<w1.heap.size:=by omega
 have Xp:w.heap.size+1<w1.heap.size:=by omega
 clear hb hz
 go_wp2_with fail
 refine(abh outs _ _ _ ?_ ?_).mono ?_
 ·exact(uh H2).stays ji B1
 ·exact(uh G2).stays ji B1
 rintro e w2 ⟨rfl,hb⟩
 obtain⟨hc2,hf2⟩:=pq hb
 have hz:=hb.size
 have B2:Below w.heap.size w w2:=B1.trans (hb.mono B1.size)
 try simp only[World.size_alloc] at hz hc2 hf2
 have Rl:w.heap.size<w2.heap.size:=by omega
 have afl:w.heap.size+1<w2.heap.size:=by omega
 clear hb hz
 go_wp2_with fail
 refine(abh vars _ _ _ ?_ ?_).mono ?_
 ·exact(uh H3).stays ji B2
 ·exact(uh G3).stays ji B2
 rintro e w3 ⟨rfl,hb⟩
 obtain⟨hc3,hf3⟩:=pq hb
 have hz:=hb.size
 have B3:Below w.heap.size w w3:=B2.trans (hb.mono B2.size)
 try simp only[World.size_alloc] at hz hc3 hf3
 have aa7:w.heap.size<w3.heap.size:=by omega
 have ajy:w.heap.size+1<w3.heap.size:=by omega
 clear hb hz
 go_wp2_with fail
 refine(af2 eqs _ _ _ ?_ ?_).mono ?_
 ·exact(uh H4).stays xq B3
 ·exact(uh G4).stays xq B3
 rintro e w4 ⟨rfl,hb⟩
 obtain⟨hc4,hf4⟩:=pq hb
 have hz:=hb.size
 have B4:Below w.heap.size w w4:=B3.trans (hb.mono B3.size)
 try simp only[World.size_alloc] at hz hc4 hf4
 have aok:w.heap.size<w4.heap.size:=by omega
 have a0j:w.heap.size+1<w4.heap.size:=by omega
 clear hb hz
 go_wp2
 go_ret
 exact⟨rfl,B4⟩
set_option maxHeartbeats 400000 in
theorem apd (xs:List ay) (v u:Value) (w:World) (hv:bf 5 112 o7 0 w v xs) (hu:bf 5 112 o7 0 w u xs) :
  Calls Tryz.prog 20 #[v,u] w (F6 w):=by
 obtain⟨a,cap,rfl,_,hn,hx⟩:=hv
 obtain⟨a2,cap2,rfl,_,_,hy⟩:=hu
 unfold Len at hn
 have HX:=hide hx
 have HY:=hide hy
 clear hx hy
 go_enter Tryz.func20,Tryz.ntmps20
 go_wp2
 go_loopg [5] xs.length (fun g i wr=>∃(k:Nat),k<=xs.length∧g=xs.length-k∧i=.int .i64 k∧Below w.heap.size w wr)
 case atStart=>exact⟨0,Nat.zero_le _,by omega,rfl,Below.refl _ _⟩
 case round =>
  obtain⟨k,hk,hg,rfl,hbl⟩:=hrel
  have HG:=hide hg
  clear hg
  by_cases hlt:k<xs.length
  ·obtain⟨b,o,cs,rfl,_,hb,hcs,hc,hR⟩:=uh HX k hlt
   have hc:∀j (hj:j<cs.length),wr.cell? ⟨b,o+k*5+j,none⟩=some cs[j]:=fun j hj=>by rw[hbl.cell (p:=⟨b,_,none⟩) hb];exact hc j hj
   obtain⟨b2,o2,cs2,rfl,_,hb2,hcs2,hc2,hR2⟩:=uh HY k hlt
   have hc2:∀j (hj:j<cs2.length),wr.cell? ⟨b2,o2+k*5+j,none⟩=some cs2[j]:=fun j hj=>by rw[hbl.cell (p:=⟨b2,_,none⟩) hb2];exact hc2 j hj
   have hR:=jk.stays _ _ _ _ _ hbl.drew hR
   have hR2:=jk.stays _ _ _ _ _ hbl.drew hR2
   obtain⟨i1,o1,v1,e1,rfl,_,p1,p2,p3,p4⟩:=hR
   have P1:=hide p1
   clear p1
   have P2:=hide p2
   clear p2
   have P3:=hide p3
   clear p3
   have P4:=hide p4
   clear p4
   obtain⟨i2,o2,v2,e2,rfl,_,q1,q2,q3,q4⟩:=hR2
   have Q1:=hide q1
   clear q1
   have Q2:=hide q2
   clear q2
   have Q3:=hide q3
   clear q3
   have Q4:=hide q4
   clear q4
   have c0:=hc 0 (by simp)
   have d0:=hc2 0 (by simp)
   have c1:=hc 1 (by simp)
   have d1:=hc2 1 (by simp)
   have c2:=hc 2 (by simp)
   have d2:=hc2 2 (by simp)
   have c3:=hc 3 (by simp)
   have d3:=hc2 3 (by simp)
   have c4:=hc 4 (by simp)
   have d4:=hc2 4 (by simp)
   simp only[Nat.mul_one,Nat.add_zero,List.getElem_cons_zero,List.getElem_cons_succ] at c0 d0 c1 d1 c2 d2 c3 d3 c4 d4
   clear hc hcs hc2 hcs2
   have hlt':(k:Int)<(xs.length:Int):=by omega
   go_wp2_with fail
   go_region_with (go_at_call 31;refine(arf _ _ _ _ _ _ _ _ _ _ (uh P1) (uh Q1) (uh P2) (uh Q2) (uh P3) (uh Q3) (uh P4) (uh Q4)).mono ?_;rintro e w1 ⟨rfl,hb1⟩)
   all_goals
    go_wp2
    go_roundg (xs.length-(k+1))
    case measure=>have:=uh HG;omega
    case rel=>exact⟨k+1,by omega,rfl,by go_num,hbl.drew.trans (hb1.mono hbl.drew.size)⟩
  ·go_wp2
   go_ret
   exact⟨rfl,hbl⟩
set_option maxHeartbeats 400000 in
theorem akb (ns:List ay) (v u:Value) (w:World) (h1:bf 5 112 o7 0 w v ns) (g1:bf 5 112 o7 0 w u ns) :
  Calls Tryz.prog 9 #[.agg #[v],.agg #[u]] w (F6 w):=by
 have H1:=hide h1
 have G1:=hide g1
 clear h1 g1
 have B0:Below w.heap.size w ((w.alloc (.cells _ _)).alloc (.cells _ _)):=((Below.refl w.heap.size w).alloc (Nat.le_refl _) (.cells #[v] 30)).alloc (by simp) (.cells #[u] 30)
 go_enter Tryz.func9,Tryz.ntmps9
 go_wp2_with fail
 refine(apd ns _ _ _ ?_ ?_).mono ?_
 ·exact(uh H1).stays jk B0
 ·exact(uh G1).stays jk B0
 rintro e w1 ⟨rfl,hb⟩
 have B1:Below w.heap.size w w1:=B0.trans (hb.mono B0.size)
 go_wp2
 go_ret
 exact⟨rfl,B1⟩
end Go.Proofs.YtflcnhfakcgkeaaGreat
