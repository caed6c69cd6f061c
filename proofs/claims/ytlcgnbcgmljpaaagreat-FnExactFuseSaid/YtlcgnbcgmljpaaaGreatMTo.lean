import Derived.Test.YtlcgnbcgmljpaaaGreatMSz
import Derived.Test.YtlcgnbcgmljpaaaGreatData
import Derived.Test.YtlcgnbcgmljpaaaGreatProg
import Derived.WalkLawsBesides
import Derived.Deep.LoopGhost
import Derived.Deep.RegionWith
import Derived.RegionTactic
import Derived.BigQuiet
import Derived.Deep.QuietTactic
namespace Go.Proofs.YtlcgnbcgmljpaaaGreat
open Go.RowKit
set_option linter.unusedSimpArgs false
set_option linter.unusedVariables false
set_option maxHeartbeats 400000 in
theorem arq (c:gy) (w:World) (hs:Len c.name.size) (ht:I64 c.type) :
  Calls Tryz.prog 77 #[.agg #[.string c.name,.int .i64 c.type]] w (Xi xk w c):=by
 obtain⟨s,ty⟩:=c
 simp only at hs ht
 have HS:=hide hs
 have HT:=hide ht
 clear hs ht
 go_enter Tryz.func77,Tryz.ntmps77
 go_wp2
 exact bodyPost_ret (v:=.agg #[.string s,.int .i64 ty]) (by simp[results,Tryz.results77,go_sem]) rfl ⟨[.string s,.int .i64 ty],rfl,⟨rfl,uh HS,uh HT⟩,(((qc.refl _).alloc (Nat.le_refl _) _).alloc (by simp) _).alloc (by simp;omega) _⟩
theorem aj6:(Tryz.prog.info? 79).map (fun i=>(i.zero,i.size,i.bytes))=some (some (.agg #[.string ByteArray.empty,.int .i64 0]),2,24):=by kernel_rfl
set_option maxHeartbeats 400000 in
theorem afa (xs:List gy) (v:Value) (w:World) (hv:bf 2 24 xk 0 w v xs) :
  Calls Tryz.prog 54 #[v] w (S9 2 24 xk w xs):=by
 obtain⟨a,cap,rfl,⟨hnb,_⟩,hn,hx⟩:=hv
 have Ob:=hide hnb
 have HN:=hide hn
 unfold Len at hn hnb
 have HX:=hide hx
 clear hx
 have hmk:=Hf (P:=Tryz.prog) 39 79 _ _ _ Tryz.underlying39 aj6 xs.length hnb hn
 clear hnb
 go_enter Tryz.func54,Tryz.ntmps54
 go_wp2
 go_loopg [4] xs.length (fun g i wr=>∃(k:Nat),k<=xs.length∧g=xs.length-k∧i=.int .i64 k∧qc w.heap.size w wr∧zq wr w.heap.size (xs.length*2)∧Jb 2 xk (w.heap.size+1) wr w.heap.size xs k)
 case atStart=>exact⟨0,Nat.zero_le _,by omega,rfl,(qc.refl _).alloc (Nat.le_refl _) _,zq.made _ _ _ _,Lh _ _ _ _ _ _⟩
 case round =>
  obtain⟨k,hk,hg,rfl,hbl,hrow,hfil⟩:=hrel
  clear hmk
  have HG:=hide hg
  have HF:=hide hfil
  clear hg hfil
  by_cases hlt:k<xs.length
  ·obtain⟨b,o,cs,rfl,_,hb,hcs,hc,hR⟩:=uh HX k hlt
   have hR:=jq.stays _ _ _ _ _ hbl.below hR
   have hc:∀j (hj:j<cs.length),wr.cell? ⟨b,o+k*2+j,none⟩=some cs[j]:=fun j hj=>by rw[hbl.below.cell (p:=⟨b,_,none⟩) hb];exact hc j hj
   obtain⟨rfl,hsn,hty⟩:=hR
   have c0:=hc 0 (by simp)
   have c1:=hc 1 (by simp)
   simp only[Nat.mul_one,Nat.add_zero,List.getElem_cons_zero,List.getElem_cons_succ] at c0 c1
   clear hc hcs
   go_wp2_with fail
   refine(arq _ _ hsn hty).mono ?_
   rintro e w1 ⟨cs',rfl,hR1,hb1⟩
   have hrow1:=hrow.below hb1.below
   have Q9:=hR1
   obtain⟨rfl,avd,a6t⟩:=hR1
   obtain⟨x0,d0⟩:=hrow1.cell (i:=k*2) (by omega)
   have f0:=hrow1.frozen (k*2)
   obtain⟨x1,d1⟩:=hrow1.cell (i:=k*2+1) (by omega)
   have f1:=hrow1.frozen (k*2+1)
   have step:=Js jq Fp hlt (Nat.le_refl _) hbl hrow (uh HF) hb1 rfl Q9
   have ST:=hide step
   clear c0 c1 step Q9 hrow1
   go_wp2
   go_roundg (xs.length-(k+1))
   case measure=>have:=uh HG;omega
   case rel=>exact⟨k+1,by omega,rfl,by go_num,uh ST⟩
  ·have e:k=xs.length:=by omega
   have hb0:=hrow.lt
   have D:=hide (Lj Fp hb0 (uh Ob) (uh HN) (by have:=uh HF;rwa[e] at this))
   clear hrow
   go_wp2
   go_ret
   exact⟨_,rfl,uh D,hbl⟩
theorem ak9:(Tryz.prog.info? 3).map (fun i=>(i.zero,i.size,i.bytes))=some (some (.int .i64 0),1,8):=by kernel_rfl
set_option maxHeartbeats 400000 in
theorem ag9 (xs:List Int) (v:Value) (w:World) (hv:bf 1 8 yu 0 w v xs) :
  Calls Tryz.prog 56 #[v] w (S9 1 8 yu w xs):=by
 obtain⟨a,cap,rfl,⟨hnb,_⟩,hn,hx⟩:=hv
 have Ob:=hide hnb
 have HN:=hide hn
 unfold Len at hn hnb
 have HX:=hide hx
 clear hx
 have hmk:=Hf (P:=Tryz.prog) 41 3 _ _ _ Tryz.underlying41 ak9 xs.length hnb hn
 clear hnb
 go_enter Tryz.func56,Tryz.ntmps56
 go_wp2
 go_loopg [4] xs.length (fun g i wr=>∃(k:Nat),k<=xs.length∧g=xs.length-k∧i=.int .i64 k∧qc w.heap.size w wr∧zq wr w.heap.size xs.length∧Jb 1 yu (w.heap.size+1) wr w.heap.size xs k)
 case atStart=>exact⟨0,Nat.zero_le _,by omega,rfl,(qc.refl _).alloc (Nat.le_refl _) _,zq.made _ _ _ _,Lh _ _ _ _ _ _⟩
 case round =>
  obtain⟨k,hk,hg,rfl,hbl,hrow,hfil⟩:=hrel
  clear hmk
  have HG:=hide hg
  have HF:=hide hfil
  clear hg hfil
  by_cases hlt:k<xs.length
  ·obtain⟨b,o,cs,rfl,_,hb,hcs,hc,hR⟩:=uh HX k hlt
   have hR:=jy.stays _ _ _ _ _ hbl.below hR
   have hc:∀j (hj:j<cs.length),wr.cell? ⟨b,o+k*1+j,none⟩=some cs[j]:=fun j hj=>by rw[hbl.below.cell (p:=⟨b,_,none⟩) hb];exact hc j hj
   obtain⟨rfl,hsn⟩:=hR
   have c0:=hc 0 (by simp)
   simp only[Nat.mul_one,Nat.add_zero,List.getElem_cons_zero,List.getElem_cons_succ] at c0
   clear hc hcs
   obtain⟨x0,d0⟩:=hrow.cell (i:=k) (by omega)
   have f0:=hrow.frozen k
   have step:=Js jy He hlt (Nat.le_refl _) hbl (by rw[Nat.mul_one];exact hrow) (uh HF) (qc.refl _) rfl (cs:=[.int .i64 xs[k]]) ⟨rfl,hsn⟩
   simp only[Nat.mul_one] at step
   have ST:=hide step
   clear step hsn
   generalize xs[k]=s at *
   go_wp2
   go_roundg (xs.length-(k+1))
   case measure=>have:=uh HG;omega
   case rel=>exact⟨k+1,by omega,rfl,by go_num,uh ST⟩
  ·have e:k=xs.length:=by omega
   have hb0:=hrow.lt
   have D:=hide (Lj He hb0 (uh Ob) (uh HN) (by have:=uh HF;rwa[e] at this))
   clear hrow
   go_wp2
   go_ret
   exact⟨_,rfl,uh D,hbl⟩
set_option maxHeartbeats 1000000 in
theorem ave (x:dh) (a1 a2 a3:Value) (w:World) (hs:Len x.name.size) (hk:I64 x.kind) (ha:I64 x.at_) (h1:bf 1 16 uz 0 w a1 x.outs) (h2:bf 3 32 tu 0 w a2 x.code) (h3:bf 1 24 vw 0 w a3 x.args) :
  Calls Tryz.prog 78 #[.agg #[.int .i64 x.kind,.string x.name,.int .i64 x.at_,a1,a2,a3]] w (Xi Ec w x):=by
 obtain⟨kd,s,at0,outs,code,args⟩:=x
 simp only at hs hk ha h1 h2 h3
 have Hhs:=hide hs
 clear hs
 have Hhk:=hide hk
 clear hk
 have Hha:=hide ha
 clear ha
 have H1:=hide h1
 clear h1
 have H2:=hide h2
 clear h2
 have H3:=hide h3
 clear h3
 go_enter Tryz.func78,Tryz.ntmps78
 go_wp2_with fail
 refine(ab1 outs _ _ ?_).mono ?_
 ·exact(uh H1).stays lu ((((Below.refl _ _).alloc (Nat.le_refl _) _).alloc (by simp) _).alloc (by simp<;>omega) _)
 rintro e w1 ⟨v1,rfl,hS,hb⟩
 obtain⟨b1,cap1,rfl⟩:=hS.shape
 obtain⟨hc1,hf1⟩:=Bo hb.below
 have hz:=hb.below.size
 simp only[World.size_alloc,Deep.nblk_setCell] at hz hc1 hf1
 have Bd:=hide (hS.lower Dq (lo':=w.heap.size+1+1+1) (by simp<;>omega))
 have HB1:Hid (qc w.heap.size w w1):=((((qc.refl _).alloc (Nat.le_refl _) _).alloc (by simp) _).alloc (by simp<;>omega) _).and hb (by simp<;>omega)
 have adq:w.heap.size<w1.heap.size:=by omega
 have adr:w.heap.size+1<w1.heap.size:=by omega
 have aj7:w.heap.size+1+1<w1.heap.size:=by omega
 clear hS hb hz
 go_wp2_with fail
 refine(ae9 code _ _ ?_).mono ?_
 ·exact(uh H2).stays og (by repeat (first|refine Below.setCell ?_ (by simp<;>omega) _|exact(uh HB1).below))
 rintro e w2 ⟨v2,rfl,hS,hb⟩
 obtain⟨b2,cap2,rfl⟩:=hS.shape
 obtain⟨hc2,hf2⟩:=Bo hb.below
 have hz:=hb.below.size
 simp only[World.size_alloc,Deep.nblk_setCell] at hz hc2 hf2
 have HS2:=hide (hS.lower Ja (lo':=w.heap.size+1+1+1) (by simp<;>omega))
 have HB2:Hid (qc w.heap.size w w2):=by
  refine qc.and ?_ hb (by simp<;>omega)
  repeat (first|refine qc.setCell ?_ (by simp<;>omega) _|exact uh HB1)
 have HK:Kept (w.heap.size+1+1+1) w1.heap.size w1 w2:=by
  refine Kept.trans ?_ (Kept.of_below hb.below) (by simp<;>omega)
  repeat (first|refine Kept.setCell ?_ (by simp<;>omega) _|exact Kept.refl _ _ _)
 replace Bd:=hide ((uh Bd).kept lu HK)
 clear HK
 have ajg:w.heap.size<w2.heap.size:=by omega
 have ajh:w.heap.size+1<w2.heap.size:=by omega
 have avf:w.heap.size+1+1<w2.heap.size:=by omega
 clear hS hb hz
 go_wp2_with fail
 refine(ak8 args _ _ ?_).mono ?_
 ·exact(uh H3).stays xq (by repeat (first|refine Below.setCell ?_ (by simp<;>omega) _|exact(uh HB2).below))
 rintro e w3 ⟨v3,rfl,hS,hb⟩
 obtain⟨b3,cap3,rfl⟩:=hS.shape
 obtain⟨hc3,hf3⟩:=Bo hb.below
 have hz:=hb.below.size
 simp only[World.size_alloc,Deep.nblk_setCell] at hz hc3 hf3
 have Ef:=hide (hS.lower J3 (lo':=w.heap.size+1+1+1) (by simp<;>omega))
 have HB3:Hid (qc w.heap.size w w3):=by
  refine qc.and ?_ hb (by simp<;>omega)
  repeat (first|refine qc.setCell ?_ (by simp<;>omega) _|exact uh HB2)
 have HK:Kept (w.heap.size+1+1+1) w2.heap.size w2 w3:=by
  refine Kept.trans ?_ (Kept.of_below hb.below) (by simp<;>omega)
  repeat (first|refine Kept.setCell ?_ (by simp<;>omega) _|exact Kept.refl _ _ _)
 replace Bd:=hide ((uh Bd).kept lu HK)
 replace HS2:=hide ((uh HS2).kept og HK)
 clear HK
 have aji:w.heap.size<w3.heap.size:=by omega
 have ajj:w.heap.size+1<w3.heap.size:=by omega
 have avg:w.heap.size+1+1<w3.heap.size:=by omega
 clear hS hb hz
 go_wp2
 refine bodyPost_ret (v:=.agg #[.int .i64 kd,.string s,.int .i64 at0,.slice b1 outs.length cap1,.slice b2 code.length cap2,.slice b3 args.length cap3]) (by simp[results,Tryz.results78,go_sem,hc1,adq,adr,aj7,hc2,ajg,ajh,avf,hc3,aji,ajj,avg]) rfl ⟨[.int .i64 kd,.string s,.int .i64 at0,.slice b1 outs.length cap1,.slice b2 code.length cap2,.slice b3 args.length cap3],rfl,⟨_,_,_,rfl,uh Hhs,uh Hhk,uh Hha,?_,?_,?_⟩,?_⟩
 ·exact((uh Bd).kept lu (by repeat (first|refine Kept.setCell ?_ (by simp<;>omega) _|exact Kept.refl _ _ _))).lower Dq (by omega)
 ·exact((uh HS2).kept og (by repeat (first|refine Kept.setCell ?_ (by simp<;>omega) _|exact Kept.refl _ _ _))).lower Ja (by omega)
 ·exact((uh Ef).kept xq (by repeat (first|refine Kept.setCell ?_ (by simp<;>omega) _|exact Kept.refl _ _ _))).lower J3 (by omega)
 ·repeat (first|refine qc.setCell ?_ (by simp<;>omega) _|exact uh HB3)
theorem ala:(Tryz.prog.info? 60).map (fun i=>(i.zero,i.size,i.bytes))=some (some (.agg #[.int .i64 0,.string ByteArray.empty,.int .i64 0,.slice none 0 0,.slice none 0 0,.slice none 0 0]),6,104):=by kernel_rfl
set_option maxHeartbeats 400000 in
theorem ars (xs:List dh) (v:Value) (w:World) (hv:bf 6 104 Ec 0 w v xs) :
  Calls Tryz.prog 57 #[v] w (S9 6 104 Ec w xs):=by
 obtain⟨a,cap,rfl,⟨hnb,_⟩,hn,hx⟩:=hv
 have Ob:=hide hnb
 have HN:=hide hn
 unfold Len at hn hnb
 have HX:=hide hx
 clear hx
 have hmk:=Hf (P:=Tryz.prog) 36 60 _ _ _ Tryz.underlying36 ala xs.length hnb hn
 clear hnb
 go_enter Tryz.func57,Tryz.ntmps57
 go_wp2
 go_loopg [4] xs.length (fun g i wr=>∃(k:Nat),k<=xs.length∧g=xs.length-k∧i=.int .i64 k∧qc w.heap.size w wr∧zq wr w.heap.size (xs.length*6)∧Jb 6 Ec (w.heap.size+1) wr w.heap.size xs k)
 case atStart=>exact⟨0,Nat.zero_le _,by omega,rfl,(qc.refl _).alloc (Nat.le_refl _) _,zq.made _ _ _ _,Lh _ _ _ _ _ _⟩
 case round =>
  obtain⟨k,hk,hg,rfl,hbl,hrow,hfil⟩:=hrel
  clear hmk
  have HG:=hide hg
  have HF:=hide hfil
  clear hg hfil
  by_cases hlt:k<xs.length
  ·obtain⟨b,o,cs,rfl,_,hb,hcs,hc,hR⟩:=uh HX k hlt
   have hR:=xu.stays _ _ _ _ _ hbl.below hR
   have hc:∀j (hj:j<cs.length),wr.cell? ⟨b,o+k*6+j,none⟩=some cs[j]:=fun j hj=>by rw[hbl.below.cell (p:=⟨b,_,none⟩) hb];exact hc j hj
   obtain⟨so,sc,sa,rfl,hsn,hk1,hk2,g1,g2,g3⟩:=hR
   have G1:=hide g1
   clear g1
   have G2:=hide g2
   clear g2
   have G3:=hide g3
   clear g3
   have c0:=hc 0 (by simp)
   have c1:=hc 1 (by simp)
   have c2:=hc 2 (by simp)
   have c3:=hc 3 (by simp)
   have c4:=hc 4 (by simp)
   have c5:=hc 5 (by simp)
   simp only[Nat.mul_one,Nat.add_zero,List.getElem_cons_zero,List.getElem_cons_succ] at c0 c1 c2 c3 c4 c5
   clear hc hcs
   go_wp2_with fail
   refine(ave _ _ _ _ _ hsn hk1 hk2 (uh G1) (uh G2) (uh G3)).mono ?_
   rintro e w1 ⟨cs',rfl,hR1,hb1⟩
   have hrow1:=hrow.below hb1.below
   have Q9:=hR1
   obtain⟨l1,l2,l3,rfl,avd,a6u,hk12,g1,g2,g3⟩:=hR1
   obtain⟨aa1,ca1,rfl⟩:=g1.shape
   clear g1
   obtain⟨aa2,ca2,rfl⟩:=g2.shape
   clear g2
   obtain⟨aa3,ca3,rfl⟩:=g3.shape
   clear g3
   obtain⟨x0,d0⟩:=hrow1.cell (i:=k*6) (by omega)
   have f0:=hrow1.frozen (k*6)
   obtain⟨x1,d1⟩:=hrow1.cell (i:=k*6+1) (by omega)
   have f1:=hrow1.frozen (k*6+1)
   obtain⟨x2,d2⟩:=hrow1.cell (i:=k*6+2) (by omega)
   have f2:=hrow1.frozen (k*6+2)
   obtain⟨x3,d3⟩:=hrow1.cell (i:=k*6+3) (by omega)
   have f3:=hrow1.frozen (k*6+3)
   obtain⟨x4,d4⟩:=hrow1.cell (i:=k*6+4) (by omega)
   have f4:=hrow1.frozen (k*6+4)
   obtain⟨x5,d5⟩:=hrow1.cell (i:=k*6+5) (by omega)
   have f5:=hrow1.frozen (k*6+5)
   have step:=Js xu Oj hlt (Nat.le_refl _) hbl hrow (uh HF) hb1 rfl Q9
   have ST:=hide step
   clear c0 c1 c2 c3 c4 c5 step Q9 hrow1
   go_wp2
   go_roundg (xs.length-(k+1))
   case measure=>have:=uh HG;omega
   case rel=>exact⟨k+1,by omega,rfl,by go_num,uh ST⟩
  ·have e:k=xs.length:=by omega
   have hb0:=hrow.lt
   have D:=hide (Lj Oj hb0 (uh Ob) (uh HN) (by have:=uh HF;rwa[e] at this))
   clear hrow
   go_wp2
   go_ret
   exact⟨_,rfl,uh D,hbl⟩
set_option maxHeartbeats 4000000 in
theorem ao7 (x:ak) (a1 a2 a3 a4 a5 a6:Value) (w:World) (hs:Len x.name.size) (h1:bf 2 24 xk 0 w a1 x.ins) (h2:bf 2 24 xk 0 w a2 x.outs) (h3:bf 1 16 uz 0 w a3 x.ay) (h4:bf 1 8 yu 0 w a4 x.aj) (h5:bf 1 8 yu 0 w a5 x.insts) (h6:bf 6 104 Ec 0 w a6 x.body) :
  Calls Tryz.prog 28 #[.agg #[.string x.name,a1,a2,a3,a4,a5,a6]] w (Xi ni w x):=by
 obtain⟨s,ins,outs,ay,aj,insts,body⟩:=x
 simp only at hs h1 h2 h3 h4 h5 h6
 have Hhs:=hide hs
 clear hs
 have H1:=hide h1
 clear h1
 have H2:=hide h2
 clear h2
 have H3:=hide h3
 clear h3
 have H4:=hide h4
 clear h4
 have H5:=hide h5
 clear h5
 have H6:=hide h6
 clear h6
 go_enter Tryz.func28,Tryz.ntmps28
 go_wp2_with fail
 refine(afa ins _ _ ?_).mono ?_
 ·exact(uh H1).stays jq ((((Below.refl _ _).alloc (Nat.le_refl _) _).alloc (by simp) _).alloc (by simp<;>omega) _)
 rintro e w1 ⟨v1,rfl,hS,hb⟩
 obtain⟨b1,cap1,rfl⟩:=hS.shape
 obtain⟨hc1,hf1⟩:=Bo hb.below
 have hz:=hb.below.size
 simp only[World.size_alloc,Deep.nblk_setCell] at hz hc1 hf1
 have Bd:=hide (hS.lower Fp (lo':=w.heap.size+1+1+1) (by simp<;>omega))
 have HB1:Hid (qc w.heap.size w w1):=((((qc.refl _).alloc (Nat.le_refl _) _).alloc (by simp) _).alloc (by simp<;>omega) _).and hb (by simp<;>omega)
 have adq:w.heap.size<w1.heap.size:=by omega
 have adr:w.heap.size+1<w1.heap.size:=by omega
 have aj7:w.heap.size+1+1<w1.heap.size:=by omega
 clear hS hb hz
 go_wp2_with fail
 refine(afa outs _ _ ?_).mono ?_
 ·exact(uh H2).stays jq (by repeat (first|refine Below.setCell ?_ (by simp<;>omega) _|exact(uh HB1).below))
 rintro e w2 ⟨v2,rfl,hS,hb⟩
 obtain⟨b2,cap2,rfl⟩:=hS.shape
 obtain⟨hc2,hf2⟩:=Bo hb.below
 have hz:=hb.below.size
 simp only[World.size_alloc,Deep.nblk_setCell] at hz hc2 hf2
 have HS2:=hide (hS.lower Fp (lo':=w.heap.size+1+1+1) (by simp<;>omega))
 have HB2:Hid (qc w.heap.size w w2):=by
  refine qc.and ?_ hb (by simp<;>omega)
  repeat (first|refine qc.setCell ?_ (by simp<;>omega) _|exact uh HB1)
 have HK:Kept (w.heap.size+1+1+1) w1.heap.size w1 w2:=by
  refine Kept.trans ?_ (Kept.of_below hb.below) (by simp<;>omega)
  repeat (first|refine Kept.setCell ?_ (by simp<;>omega) _|exact Kept.refl _ _ _)
 replace Bd:=hide ((uh Bd).kept jq HK)
 clear HK
 have ajg:w.heap.size<w2.heap.size:=by omega
 have ajh:w.heap.size+1<w2.heap.size:=by omega
 have avf:w.heap.size+1+1<w2.heap.size:=by omega
 clear hS hb hz
 go_wp2_with fail
 refine(ab1 ay _ _ ?_).mono ?_
 ·exact(uh H3).stays lu (by repeat (first|refine Below.setCell ?_ (by simp<;>omega) _|exact(uh HB2).below))
 rintro e w3 ⟨v3,rfl,hS,hb⟩
 obtain⟨b3,cap3,rfl⟩:=hS.shape
 obtain⟨hc3,hf3⟩:=Bo hb.below
 have hz:=hb.below.size
 simp only[World.size_alloc,Deep.nblk_setCell] at hz hc3 hf3
 have Ef:=hide (hS.lower Dq (lo':=w.heap.size+1+1+1) (by simp<;>omega))
 have HB3:Hid (qc w.heap.size w w3):=by
  refine qc.and ?_ hb (by simp<;>omega)
  repeat (first|refine qc.setCell ?_ (by simp<;>omega) _|exact uh HB2)
 have HK:Kept (w.heap.size+1+1+1) w2.heap.size w2 w3:=by
  refine Kept.trans ?_ (Kept.of_below hb.below) (by simp<;>omega)
  repeat (first|refine Kept.setCell ?_ (by simp<;>omega) _|exact Kept.refl _ _ _)
 replace Bd:=hide ((uh Bd).kept jq HK)
 replace HS2:=hide ((uh HS2).kept jq HK)
 clear HK
 have aji:w.heap.size<w3.heap.size:=by omega
 have ajj:w.heap.size+1<w3.heap.size:=by omega
 have avg:w.heap.size+1+1<w3.heap.size:=by omega
 clear hS hb hz
 go_wp2_with fail
 refine(ag9 aj _ _ ?_).mono ?_
 ·exact(uh H4).stays jy (by repeat (first|refine Below.setCell ?_ (by simp<;>omega) _|exact(uh HB3).below))
 rintro e w4 ⟨v4,rfl,hS,hb⟩
 obtain⟨b4,cap4,rfl⟩:=hS.shape
 obtain⟨hc4,hf4⟩:=Bo hb.below
 have hz:=hb.below.size
 simp only[World.size_alloc,Deep.nblk_setCell] at hz hc4 hf4
 have Es:=hide (hS.lower He (lo':=w.heap.size+1+1+1) (by simp<;>omega))
 have HB4:Hid (qc w.heap.size w w4):=by
  refine qc.and ?_ hb (by simp<;>omega)
  repeat (first|refine qc.setCell ?_ (by simp<;>omega) _|exact uh HB3)
 have HK:Kept (w.heap.size+1+1+1) w3.heap.size w3 w4:=by
  refine Kept.trans ?_ (Kept.of_below hb.below) (by simp<;>omega)
  repeat (first|refine Kept.setCell ?_ (by simp<;>omega) _|exact Kept.refl _ _ _)
 replace Bd:=hide ((uh Bd).kept jq HK)
 replace HS2:=hide ((uh HS2).kept jq HK)
 replace Ef:=hide ((uh Ef).kept lu HK)
 clear HK
 have a0b:w.heap.size<w4.heap.size:=by omega
 have a0c:w.heap.size+1<w4.heap.size:=by omega
 have a5f:w.heap.size+1+1<w4.heap.size:=by omega
 clear hS hb hz
 go_wp2_with fail
 refine(ag9 insts _ _ ?_).mono ?_
 ·exact(uh H5).stays jy (by repeat (first|refine Below.setCell ?_ (by simp<;>omega) _|exact(uh HB4).below))
 rintro e w5 ⟨v5,rfl,hS,hb⟩
 obtain⟨b5,cap5,rfl⟩:=hS.shape
 obtain⟨hc5,hf5⟩:=Bo hb.below
 have hz:=hb.below.size
 simp only[World.size_alloc,Deep.nblk_setCell] at hz hc5 hf5
 have HS5:=hide (hS.lower He (lo':=w.heap.size+1+1+1) (by simp<;>omega))
 have zo:Hid (qc w.heap.size w w5):=by
  refine qc.and ?_ hb (by simp<;>omega)
  repeat (first|refine qc.setCell ?_ (by simp<;>omega) _|exact uh HB4)
 have HK:Kept (w.heap.size+1+1+1) w4.heap.size w4 w5:=by
  refine Kept.trans ?_ (Kept.of_below hb.below) (by simp<;>omega)
  repeat (first|refine Kept.setCell ?_ (by simp<;>omega) _|exact Kept.refl _ _ _)
 replace Bd:=hide ((uh Bd).kept jq HK)
 replace HS2:=hide ((uh HS2).kept jq HK)
 replace Ef:=hide ((uh Ef).kept lu HK)
 replace Es:=hide ((uh Es).kept jy HK)
 clear HK
 have a0d:w.heap.size<w5.heap.size:=by omega
 have a0e:w.heap.size+1<w5.heap.size:=by omega
 have a5g:w.heap.size+1+1<w5.heap.size:=by omega
 clear hS hb hz
 go_wp2_with fail
 refine(ars body _ _ ?_).mono ?_
 ·exact(uh H6).stays xu (by repeat (first|refine Below.setCell ?_ (by simp<;>omega) _|exact(uh zo).below))
 rintro e w6 ⟨v6,rfl,hS,hb⟩
 obtain⟨b6,cap6,rfl⟩:=hS.shape
 obtain⟨hc6,hf6⟩:=Bo hb.below
 have hz:=hb.below.size
 simp only[World.size_alloc,Deep.nblk_setCell] at hz hc6 hf6
 have HS6:=hide (hS.lower Oj (lo':=w.heap.size+1+1+1) (by simp<;>omega))
 have Oa:Hid (qc w.heap.size w w6):=by
  refine qc.and ?_ hb (by simp<;>omega)
  repeat (first|refine qc.setCell ?_ (by simp<;>omega) _|exact uh zo)
 have HK:Kept (w.heap.size+1+1+1) w5.heap.size w5 w6:=by
  refine Kept.trans ?_ (Kept.of_below hb.below) (by simp<;>omega)
  repeat (first|refine Kept.setCell ?_ (by simp<;>omega) _|exact Kept.refl _ _ _)
 replace Bd:=hide ((uh Bd).kept jq HK)
 replace HS2:=hide ((uh HS2).kept jq HK)
 replace Ef:=hide ((uh Ef).kept lu HK)
 replace Es:=hide ((uh Es).kept jy HK)
 replace HS5:=hide ((uh HS5).kept jy HK)
 clear HK
 have a0f:w.heap.size<w6.heap.size:=by omega
 have a0g:w.heap.size+1<w6.heap.size:=by omega
 have a5h:w.heap.size+1+1<w6.heap.size:=by omega
 clear hS hb hz
 go_wp2
 refine bodyPost_ret (v:=.agg #[.string s,.slice b1 ins.length cap1,.slice b2 outs.length cap2,.slice b3 ay.length cap3,.slice b4 aj.length cap4,.slice b5 insts.length cap5,.slice b6 body.length cap6]) (by simp[results,Tryz.results28,go_sem,hc1,adq,adr,aj7,hc2,ajg,ajh,avf,hc3,aji,ajj,avg,hc4,a0b,a0c,a5f,hc5,a0d,a0e,a5g,hc6,a0f,a0g,a5h]) rfl ⟨[.string s,.slice b1 ins.length cap1,.slice b2 outs.length cap2,.slice b3 ay.length cap3,.slice b4 aj.length cap4,.slice b5 insts.length cap5,.slice b6 body.length cap6],rfl,⟨_,_,_,_,_,_,rfl,uh Hhs,?_,?_,?_,?_,?_,?_⟩,?_⟩
 ·exact((uh Bd).kept jq (by repeat (first|refine Kept.setCell ?_ (by simp<;>omega) _|exact Kept.refl _ _ _))).lower Fp (by omega)
 ·exact((uh HS2).kept jq (by repeat (first|refine Kept.setCell ?_ (by simp<;>omega) _|exact Kept.refl _ _ _))).lower Fp (by omega)
 ·exact((uh Ef).kept lu (by repeat (first|refine Kept.setCell ?_ (by simp<;>omega) _|exact Kept.refl _ _ _))).lower Dq (by omega)
 ·exact((uh Es).kept jy (by repeat (first|refine Kept.setCell ?_ (by simp<;>omega) _|exact Kept.refl _ _ _))).lower He (by omega)
 ·exact((uh HS5).kept jy (by repeat (first|refine Kept.setCell ?_ (by simp<;>omega) _|exact Kept.refl _ _ _))).lower He (by omega)
 ·exact((uh HS6).kept xu (by repeat (first|refine Kept.setCell ?_ (by simp<;>omega) _|exact Kept.refl _ _ _))).lower Oj (by omega)
 ·repeat (first|refine qc.setCell ?_ (by simp<;>omega) _|exact uh Oa)
theorem ahq:(Tryz.prog.info? 43).map (fun i=>(i.zero,i.size,i.bytes))=some (some (.agg #[.string ByteArray.empty,.slice none 0 0,.slice none 0 0,.slice none 0 0,.slice none 0 0,.slice none 0 0,.slice none 0 0]),7,160):=by kernel_rfl
set_option maxHeartbeats 400000 in
theorem alb (xs:List ak) (v:Value) (w:World) (hv:bf 7 160 ni 0 w v xs) :
  Calls Tryz.prog 15 #[v] w (S9 7 160 ni w xs):=by
 obtain⟨a,cap,rfl,⟨hnb,_⟩,hn,hx⟩:=hv
 have Ob:=hide hnb
 have HN:=hide hn
 unfold Len at hn hnb
 have HX:=hide hx
 clear hx
 have hmk:=Hf (P:=Tryz.prog) 26 43 _ _ _ Tryz.underlying26 ahq xs.length hnb hn
 clear hnb
 go_enter Tryz.func15,Tryz.ntmps15
 go_wp2
 go_loopg [4] xs.length (fun g i wr=>∃(k:Nat),k<=xs.length∧g=xs.length-k∧i=.int .i64 k∧qc w.heap.size w wr∧zq wr w.heap.size (xs.length*7)∧Jb 7 ni (w.heap.size+1) wr w.heap.size xs k)
 case atStart=>exact⟨0,Nat.zero_le _,by omega,rfl,(qc.refl _).alloc (Nat.le_refl _) _,zq.made _ _ _ _,Lh _ _ _ _ _ _⟩
 case round =>
  obtain⟨k,hk,hg,rfl,hbl,hrow,hfil⟩:=hrel
  clear hmk
  have HG:=hide hg
  have HF:=hide hfil
  clear hg hfil
  by_cases hlt:k<xs.length
  ·obtain⟨b,o,cs,rfl,_,hb,hcs,hc,hR⟩:=uh HX k hlt
   have hR:=jm.stays _ _ _ _ _ hbl.below hR
   have hc:∀j (hj:j<cs.length),wr.cell? ⟨b,o+k*7+j,none⟩=some cs[j]:=fun j hj=>by rw[hbl.below.cell (p:=⟨b,_,none⟩) hb];exact hc j hj
   obtain⟨ki,ko,kl,km,kn,kb,rfl,hsn,g1,g2,g3,g4,g5,g6⟩:=hR
   have G1:=hide g1
   clear g1
   have G2:=hide g2
   clear g2
   have G3:=hide g3
   clear g3
   have G4:=hide g4
   clear g4
   have G5:=hide g5
   clear g5
   have G6:=hide g6
   clear g6
   have c0:=hc 0 (by simp)
   have c1:=hc 1 (by simp)
   have c2:=hc 2 (by simp)
   have c3:=hc 3 (by simp)
   have c4:=hc 4 (by simp)
   have c5:=hc 5 (by simp)
   have c6:=hc 6 (by simp)
   simp only[Nat.mul_one,Nat.add_zero,List.getElem_cons_zero,List.getElem_cons_succ] at c0 c1 c2 c3 c4 c5 c6
   clear hc hcs
   go_wp2_with fail
   refine(ao7 _ _ _ _ _ _ _ _ hsn (uh G1) (uh G2) (uh G3) (uh G4) (uh G5) (uh G6)).mono ?_
   rintro e w1 ⟨cs',rfl,hR1,hb1⟩
   have hrow1:=hrow.below hb1.below
   have Q9:=hR1
   obtain⟨j1,j2,j3,j4,j5,j6,rfl,avd,g1,g2,g3,g4,g5,g6⟩:=hR1
   obtain⟨aa1,ca1,rfl⟩:=g1.shape
   clear g1
   obtain⟨aa2,ca2,rfl⟩:=g2.shape
   clear g2
   obtain⟨aa3,ca3,rfl⟩:=g3.shape
   clear g3
   obtain⟨aa4,ca4,rfl⟩:=g4.shape
   clear g4
   obtain⟨aa5,ca5,rfl⟩:=g5.shape
   clear g5
   obtain⟨aa6,ca6,rfl⟩:=g6.shape
   clear g6
   obtain⟨x0,d0⟩:=hrow1.cell (i:=k*7) (by omega)
   have f0:=hrow1.frozen (k*7)
   obtain⟨x1,d1⟩:=hrow1.cell (i:=k*7+1) (by omega)
   have f1:=hrow1.frozen (k*7+1)
   obtain⟨x2,d2⟩:=hrow1.cell (i:=k*7+2) (by omega)
   have f2:=hrow1.frozen (k*7+2)
   obtain⟨x3,d3⟩:=hrow1.cell (i:=k*7+3) (by omega)
   have f3:=hrow1.frozen (k*7+3)
   obtain⟨x4,d4⟩:=hrow1.cell (i:=k*7+4) (by omega)
   have f4:=hrow1.frozen (k*7+4)
   obtain⟨x5,d5⟩:=hrow1.cell (i:=k*7+5) (by omega)
   have f5:=hrow1.frozen (k*7+5)
   obtain⟨x6,d6⟩:=hrow1.cell (i:=k*7+6) (by omega)
   have f6:=hrow1.frozen (k*7+6)
   have step:=Js jm D9 hlt (Nat.le_refl _) hbl hrow (uh HF) hb1 rfl Q9
   have ST:=hide step
   clear c0 c1 c2 c3 c4 c5 c6 step Q9 hrow1
   go_wp2
   go_roundg (xs.length-(k+1))
   case measure=>have:=uh HG;omega
   case rel=>exact⟨k+1,by omega,rfl,by go_num,uh ST⟩
  ·have e:k=xs.length:=by omega
   have hb0:=hrow.lt
   have D:=hide (Lj D9 hb0 (uh Ob) (uh HN) (by have:=uh HF;rwa[e] at this))
   clear hrow
   go_wp2
   go_ret
   exact⟨_,rfl,uh D,hbl⟩
def awl (lo:Nat) (w:World) (cs:List Value) (ks:List ak):Prop:=∃v,cs=[v]∧bf 7 160 ni lo w v ks
set_option maxHeartbeats 400000 in
theorem aas (ks:List ak) (v:Value) (w:World) (h1:bf 7 160 ni 0 w v ks) :
  Calls Tryz.prog 6 #[.agg #[v]] w (Xi awl w ks):=by
 have H1:=hide h1
 clear h1
 go_enter Tryz.func6,Tryz.ntmps6
 go_wp2_with fail
 refine(alb ks _ _ ?_).mono ?_
 ·exact(uh H1).stays jm ((((Below.refl _ _).alloc (Nat.le_refl _) _).alloc (by simp) _).alloc (by simp<;>omega) _)
 rintro e w1 ⟨v1,rfl,hS,hb⟩
 obtain⟨b1,cap1,rfl⟩:=hS.shape
 obtain⟨hc1,hf1⟩:=Bo hb.below
 have hz:=hb.below.size
 simp only[World.size_alloc,Deep.nblk_setCell] at hz hc1 hf1
 have Bd:=hide (hS.lower D9 (lo':=w.heap.size+1+1+1) (by simp<;>omega))
 have HB1:Hid (qc w.heap.size w w1):=((((qc.refl _).alloc (Nat.le_refl _) _).alloc (by simp) _).alloc (by simp<;>omega) _).and hb (by simp<;>omega)
 have adq:w.heap.size<w1.heap.size:=by omega
 have adr:w.heap.size+1<w1.heap.size:=by omega
 have aj7:w.heap.size+1+1<w1.heap.size:=by omega
 clear hS hb hz
 go_wp2
 refine bodyPost_ret (v:=.agg #[.slice b1 ks.length cap1]) (by simp[results,Tryz.results6,go_sem,hc1,adq,adr,aj7]) rfl ⟨[.slice b1 ks.length cap1],rfl,⟨_,rfl,?_⟩,?_⟩
 ·exact((uh Bd).kept jm (by repeat (first|refine Kept.setCell ?_ (by simp<;>omega) _|exact Kept.refl _ _ _))).lower D9 (by omega)
 ·repeat (first|refine qc.setCell ?_ (by simp<;>omega) _|exact uh HB1)
theorem Xc (ks:List ak) (v:Value) (w:World) (h1:bf 7 160 ni 0 w v ks) :
  Calls Tryz.prog 6 #[.agg #[v]] w (al9 awl w ks):=(aas ks v w h1).mono fun e w' h=>h.weak
def Ia (w:World) (e:Ending) (w':World):Prop:=e=.returned (.bool true)∧Below w.heap.size w w'
set_option maxHeartbeats 400000 in
theorem aru (t:iw) (w:World) :
  Calls Tryz.prog 134 #[.agg #[.int .i64 t.op,.int .i64 t.val,.string t.name],.agg #[.int .i64 t.op,.int .i64 t.val,.string t.name]] w (Ia w):=by
 obtain⟨op,val,s⟩:=t
 go_enter Tryz.func134,Tryz.ntmps134
 go_wp2
 go_ret
 exact⟨rfl,((Below.refl _ _).alloc (Nat.le_refl _) _).alloc (by simp) _⟩
theorem below_drewN {B:Nat} {w w':World} (h:Below B w w') (n:Nat):Below B w (w'.drewN n):=by
 induction n with
 | zero=>exact h
 | succ n ih=>exact ih.drew
set_option maxHeartbeats 400000 in
theorem aex (xs:List iw) (v u:Value) (w:World) (hv:bf 3 32 tu 0 w v xs) (hu:bf 3 32 tu 0 w u xs) :
  Calls Tryz.prog 118 #[v,u] w (Ia w):=by
 obtain⟨a,cap,rfl,_,hn,hx⟩:=hv
 obtain⟨a2,cap2,rfl,_,_,hy⟩:=hu
 unfold Len at hn
 have HX:=hide hx
 have HY:=hide hy
 clear hx hy
 go_enter Tryz.func118,Tryz.ntmps118
 go_wp2
 go_loopg [5] xs.length (fun g i wr=>∃(k:Nat),k<=xs.length∧g=xs.length-k∧i=.int .i64 k∧Below w.heap.size w wr)
 case atStart=>exact⟨0,Nat.zero_le _,by omega,rfl,Below.refl _ _⟩
 case round =>
  obtain⟨k,hk,hg,rfl,hbl⟩:=hrel
  have HG:=hide hg
  clear hg
  by_cases hlt:k<xs.length
  ·obtain⟨b,o,cs,rfl,_,hb,hcs,hc,hR⟩:=uh HX k hlt
   have hc:∀j (hj:j<cs.length),wr.cell? ⟨b,o+k*3+j,none⟩=some cs[j]:=fun j hj=>by rw[hbl.cell (p:=⟨b,_,none⟩) hb];exact hc j hj
   obtain⟨b2,o2,cs2,rfl,_,hb2,hcs2,hc2,hR2⟩:=uh HY k hlt
   have hc2:∀j (hj:j<cs2.length),wr.cell? ⟨b2,o2+k*3+j,none⟩=some cs2[j]:=fun j hj=>by rw[hbl.cell (p:=⟨b2,_,none⟩) hb2];exact hc2 j hj
   have hR:=og.stays _ _ _ _ _ hbl.drew hR
   have hR2:=og.stays _ _ _ _ _ hbl.drew hR2
   obtain⟨rfl,hsn,_,_⟩:=hR
   obtain⟨rfl,aud,_,_⟩:=hR2
   have c0:=hc 0 (by simp)
   have d0:=hc2 0 (by simp)
   have c1:=hc 1 (by simp)
   have d1:=hc2 1 (by simp)
   have c2:=hc 2 (by simp)
   have d2:=hc2 2 (by simp)
   simp only[Nat.mul_one,Nat.add_zero,List.getElem_cons_zero,List.getElem_cons_succ] at c0 d0 c1 d1 c2 d2
   clear hc hcs hc2 hcs2
   have hlt':(k:Int)<(xs.length:Int):=by omega
   go_wp2_with fail
   go_region_with (go_at_call 134;refine(aru _ _).mono ?_;rintro e w1 ⟨rfl,hb1⟩)
   all_goals
    go_wp2
    go_roundg (xs.length-(k+1))
    case measure=>have:=uh HG;omega
    case rel=>exact⟨k+1,by omega,rfl,by go_num,hbl.drew.trans (hb1.mono hbl.drew.size)⟩
  ·go_wp2
   go_ret
   exact⟨rfl,hbl⟩
set_option maxHeartbeats 400000 in
theorem abu (xs:List ByteArray) (v u:Value) (w:World) (hv:bf 1 16 uz 0 w v xs) (hu:bf 1 16 uz 0 w u xs) :
  Calls Tryz.prog 63 #[v,u] w (Ia w):=by
 obtain⟨a,cap,rfl,_,hn,hx⟩:=hv
 obtain⟨a2,cap2,rfl,_,_,hy⟩:=hu
 unfold Len at hn
 have HX:=hide hx
 have HY:=hide hy
 clear hx hy
 go_enter Tryz.func63,Tryz.ntmps63
 go_wp2
 go_loopg [5] xs.length (fun g i wr=>∃(k:Nat),k<=xs.length∧g=xs.length-k∧i=.int .i64 k∧Below w.heap.size w wr)
 case atStart=>exact⟨0,Nat.zero_le _,by omega,rfl,Below.refl _ _⟩
 case round =>
  obtain⟨k,hk,hg,rfl,hbl⟩:=hrel
  have HG:=hide hg
  clear hg
  by_cases hlt:k<xs.length
  ·obtain⟨b,o,cs,rfl,_,hb,hcs,hc,hR⟩:=uh HX k hlt
   have hc:∀j (hj:j<cs.length),wr.cell? ⟨b,o+k*1+j,none⟩=some cs[j]:=fun j hj=>by rw[hbl.cell (p:=⟨b,_,none⟩) hb];exact hc j hj
   obtain⟨b2,o2,cs2,rfl,_,hb2,hcs2,hc2,hR2⟩:=uh HY k hlt
   have hc2:∀j (hj:j<cs2.length),wr.cell? ⟨b2,o2+k*1+j,none⟩=some cs2[j]:=fun j hj=>by rw[hbl.cell (p:=⟨b2,_,none⟩) hb2];exact hc2 j hj
   have hR:=lu.stays _ _ _ _ _ hbl.drew hR
   have hR2:=lu.stays _ _ _ _ _ hbl.drew hR2
   obtain⟨rfl,hsn⟩:=hR
   obtain⟨rfl,aud⟩:=hR2
   have c0:=hc 0 (by simp)
   have d0:=hc2 0 (by simp)
   simp only[Nat.mul_one,Nat.add_zero,List.getElem_cons_zero,List.getElem_cons_succ] at c0 d0
   clear hc hcs hc2 hcs2
   have hlt':(k:Int)<(xs.length:Int):=by omega
   go_wp2_with fail
   generalize xs[k]=s at *
   go_quiet (fail)
   go_wp2
   go_roundg (xs.length-(k+1))
   case measure=>have:=uh HG;omega
   case rel=>exact⟨k+1,by omega,rfl,by go_num,below_drewN hbl _⟩
  ·go_wp2
   go_ret
   exact⟨rfl,hbl⟩
set_option maxHeartbeats 400000 in
theorem ak0 (xs:List (List iw)) (v u:Value) (w:World) (hv:bf 1 24 vw 0 w v xs) (hu:bf 1 24 vw 0 w u xs) :
  Calls Tryz.prog 119 #[v,u] w (Ia w):=by
 obtain⟨a,cap,rfl,_,hn,hx⟩:=hv
 obtain⟨a2,cap2,rfl,_,_,hy⟩:=hu
 unfold Len at hn
 have HX:=hide hx
 have HY:=hide hy
 clear hx hy
 go_enter Tryz.func119,Tryz.ntmps119
 go_wp2
 go_loopg [5] xs.length (fun g i wr=>∃(k:Nat),k<=xs.length∧g=xs.length-k∧i=.int .i64 k∧Below w.heap.size w wr)
 case atStart=>exact⟨0,Nat.zero_le _,by omega,rfl,Below.refl _ _⟩
 case round =>
  obtain⟨k,hk,hg,rfl,hbl⟩:=hrel
  have HG:=hide hg
  clear hg
  by_cases hlt:k<xs.length
  ·obtain⟨b,o,cs,rfl,_,hb,hcs,hc,hR⟩:=uh HX k hlt
   have hc:∀j (hj:j<cs.length),wr.cell? ⟨b,o+k*1+j,none⟩=some cs[j]:=fun j hj=>by rw[hbl.cell (p:=⟨b,_,none⟩) hb];exact hc j hj
   obtain⟨b2,o2,cs2,rfl,_,hb2,hcs2,hc2,hR2⟩:=uh HY k hlt
   have hc2:∀j (hj:j<cs2.length),wr.cell? ⟨b2,o2+k*1+j,none⟩=some cs2[j]:=fun j hj=>by rw[hbl.cell (p:=⟨b2,_,none⟩) hb2];exact hc2 j hj
   have hR:=xq.stays _ _ _ _ _ hbl.drew hR
   have hR2:=xq.stays _ _ _ _ _ hbl.drew hR2
   obtain⟨p1,rfl,q1⟩:=hR
   have P1:=hide q1
   clear q1
   obtain⟨p2,rfl,q2⟩:=hR2
   have P2:=hide q2
   clear q2
   have c0:=hc 0 (by simp)
   have d0:=hc2 0 (by simp)
   simp only[Nat.mul_one,Nat.add_zero,List.getElem_cons_zero,List.getElem_cons_succ] at c0 d0
   clear hc hcs hc2 hcs2
   have hlt':(k:Int)<(xs.length:Int):=by omega
   go_wp2_with fail
   go_region_with (go_at_call 118;refine(aex _ _ _ _ (uh P1) (uh P2)).mono ?_;rintro e w1 ⟨rfl,hb1⟩)
   all_goals
    go_wp2
    go_roundg (xs.length-(k+1))
    case measure=>have:=uh HG;omega
    case rel=>exact⟨k+1,by omega,rfl,by go_num,hbl.drew.trans (hb1.mono hbl.drew.size)⟩
  ·go_wp2
   go_ret
   exact⟨rfl,hbl⟩
end Go.Proofs.YtlcgnbcgmljpaaaGreat
