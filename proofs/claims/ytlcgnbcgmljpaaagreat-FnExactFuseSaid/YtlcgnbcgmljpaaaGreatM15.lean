import Derived.Test.YtlcgnbcgmljpaaaGreatM14
import Derived.Test.YtlcgnbcgmljpaaaGreatMSz
import Derived.Test.YtlcgnbcgmljpaaaGreatMTo
import Derived.Test.YtlcgnbcgmljpaaaGreatMEq
import Derived.Test.YtlcgnbcgmljpaaaGreatFW
import Derived.Test.YtlcgnbcgmljpaaaGreatMkA
import Derived.Test.YtlcgnbcgmljpaaaGreatStepAll
import Derived.Test.YtlcgnbcgmljpaaaGreatCP7
import Derived.Test.YtlcgnbcgmljpaaaGreatMI12
import Derived.Test.YtlcgnbcgmljpaaaGreatM4
namespace Go.Proofs.YtlcgnbcgmljpaaaGreat
open Go.RowKit
def acg (ks:List ak):Prop:=∀i (hi:i<ks.length),ks[i].ins.length+ks[i].outs.length+ks[i].ay.length<=1048576
theorem aqi (ks:List ak) (v:Value) (w:World) (hm:bf 7 160 ni 0 w v ks) (hs:acg ks):ags ks v w:=fun i hi w' hb=>ajb ks v i w' (hm.stays jm hb) hi hs
theorem adg (ks:List ak) (v:Value) (w:World) (hm:bf 7 160 ni 0 w v ks) (hs:acg ks):Calls Tryz.prog 12 #[.agg #[v]] w (Ans (.bool (aad ks)) w) :=
 aja ks v w hm (aqi ks v w hm hs)
end Go.Proofs.YtlcgnbcgmljpaaaGreat
namespace Go.Proofs.YtlcgnbcgmljpaaaGreat
open Go.RowKit
set_option linter.unusedSimpArgs false
set_option linter.unusedVariables false
theorem aw7 (f:ak->Nat) (ns:List ak) (n:ak) (h:n∈ns):f n<=(ns.map f).sum:=by
 induction ns with
 | nil=>cases h
 | cons x xs ih =>
  simp only[List.map_cons,List.sum_cons]
  rcases List.mem_cons.1 h with rfl|h
  ·omega
  ·have:=ih h
   omega
theorem azy (ks:List ak) (h:A8 Jc ks<=1048576):acg ks:=fun i hi=>by
 have h1:=aw7 Jc ks ks[i] (List.getElem_mem hi)
 have h2:ks[i].ins.length+ks[i].outs.length+ks[i].ay.length<=Jc ks[i]:=by
  simp only[Jc,A8]
  omega
 unfold A8 at h
 omega
theorem Mk.kept {lo hi B:Nat} {w w':World} (h:Mk lo hi w w') (hB:hi<=B):Kept B w.heap.size w w':=⟨h.size,fun k h1 h2=>h.out k h2 (Or.inr (by omega))⟩
theorem trees (ks:List ak):∃ts:List BF,(Gv ks&&decide (1<=ks.length))=true->ts.length=ks.length∧∀i (h1:i<ts.length) (h2:i<ks.length),ts[i].wf∧ts[i].flat=ks[i].body∧ts[i].flat.length<=1000000:=by
 by_cases h:(Gv ks&&decide (1<=ks.length))=true
 ·obtain⟨ts,h1⟩:=aw8 h
  exact⟨ts,fun _=>h1⟩
 ·exact⟨[],fun h9=>absurd h9 h⟩
def at1 (ks ns:List ak):Prop:=qo Dh ns ns.length<=100000000∧(∀v w,bf 7 160 ni 0 w v ks->Calls Tryz.prog 5 #[.agg #[v]] w (SpP ns w))∧∀v w,bf 7 160 ni 0 w v ks->Calls Tryz.prog 7 #[.agg #[v]] w (MaP w.heap.size ns w)
theorem al0 {bs:List Nat} {B H:Nat} {w w':World} {v:Value} {ns:List ak} (h:uf uj oh B w v ns bs) (hk:Kept B H w w') (hH:w.heap.size<=H) (hz:w.heap.size<=w'.heap.size):uf uj oh B w' v ns bs:=h.fr zx (fun b hb=>hk.2 b (h.nd.2 b hb).1 (Nat.lt_of_lt_of_le (h.nd.2 b hb).2 hH)) hz
set_option maxHeartbeats 8000000 in
theorem an0 (ks:List ak) (v:Value) (w:World) (h1:bf 7 160 ni 0 w v ks) (hall:A8 Jc ks<=1048576->∃ns,at1 ks ns) :
  Calls Tryz.prog 3 #[.agg #[v]] w (Ans (.bool true) w):=by
 obtain⟨b0,c0,rfl⟩:=h1.shape
 have H1:=hide h1
 have afp:=hide hall
 clear h1 hall
 have B0:=hide ((Below.refl w.heap.size w).alloc (Nat.le_refl _) (.cells #[.slice b0 ks.length c0] 24))
 go_enter Tryz.func3,Tryz.ntmps3
 go_wp2_with fail
 refine(ajd ks _ _ _ ?_ ?_ ?_).mono ?_
 ·exact(uh H1).stays jm (uh B0)
 ·omega
 ·omega
 rintro e w1 ⟨r1,rfl,hr|⟨p1,q1⟩,hb1⟩
 ·subst hr
  go_wp2
  go_ret
  exact⟨rfl,(uh B0).trans (hb1.mono (uh B0).size)⟩
 have HMC:Hid (qo Dh ks ks.length<=100000000):=by
  have:=agm ks
  refine hide ?_
  omega
 obtain⟨ns,hns,hsp,him⟩:=uh afp (by omega)
 have HST:=hide hns
 have a4e:=hide hsp
 have azz:=hide him
 clear hns hsp him afp
 have ado:=hide (axy hb1)
 have B1:Hid (Below w.heap.size w w1):=(uh B0).trans (hb1.mono (uh B0).size)
 have k1:w1.cell? ⟨w.heap.size,0,none⟩=some (.slice b0 ks.length c0):=by rw[Ro (B:=0) (uh ado) 0];rfl
 clear hb1
 go_wp2_with fail
 refine(Xc ks _ _ ((uh H1).stays jm (uh B1))).mono ?_
 rintro e w2 ⟨cs2,rfl,⟨vx,rfl,hS2⟩,hb2⟩
 have HS2:=hide (hS2.lower D9 (Nat.zero_le _))
 have B2:Hid (Below w.heap.size w w2):=(uh B1).trans (hb2.mono (uh B1).size)
 have aje:Hid (Below (w.heap.size+1) _ w2):=(uh ado).trans (hb2.mono (by have:=(uh ado).size;simp at this;omega))
 clear hS2 hb2 k1
 go_wp2_with fail
 refine(uh a4e _ _ (uh HS2)).mono ?_
 rintro e w3 ⟨rv,rfl,hRV,hb3⟩
 obtain⟨ra,rc,rfl⟩:=hRV.shape
 have B3:Hid (Below w.heap.size w w3):=(uh B2).trans (hb3.mono (uh B2).size)
 have az0:Hid (Below (w.heap.size+1) _ w3):=(uh aje).trans (hb3.mono (by have:=(uh aje).size;simp at this;omega))
 have k3:w3.cell? ⟨w.heap.size,0,none⟩=some (.slice b0 ks.length c0):=by rw[Ro (B:=0) (uh az0) 0];rfl
 have hz3:w.heap.size<w3.heap.size:=by have:=(uh az0).size;simp at this;omega
 have hSS:Below w3.heap.size w3 (w3.alloc (.cells #[.slice ra ns.length rc] 28)):=(Below.refl _ _).alloc (Nat.le_refl _) _
 obtain⟨wS,hwS⟩:∃z,z=w3.alloc (.cells #[.slice ra ns.length rc] 28):=⟨_,rfl⟩
 have av9:au wS w3.heap.size 28 #[.slice ra ns.length rc]:=by rw[hwS];exact Bq rfl
 rw[←hwS] at hSS
 have HRV:=hide (hRV.stays jm hSS)
 have BS:Hid (Below w.heap.size w wS):=(uh B3).trans (hSS.mono (uh B3).size)
 have kS:wS.cell? ⟨w.heap.size,0,none⟩=some (.slice b0 ks.length c0):=(hSS.cell (p:=⟨w.heap.size,0,none⟩) hz3).trans k3
 have HKS:=hide kS
 have hzS:w.heap.size<wS.heap.size:=Nat.lt_of_lt_of_le hz3 hSS.size
 have Me:=hide av9
 clear hb3 hRV hSS av9
 go_wp2_with fail
 rw[←hwS]
 clear hwS k3
 refine(aas ks _ _ ((uh H1).stays jm (uh BS))).mono ?_
 rintro e w4 ⟨cs4,rfl,⟨vy,rfl,hS4⟩,hb4⟩
 obtain⟨by4,cy4,rfl⟩:=hS4.shape
 have HMA:=hide (Dy.of hb4.apw (apz hb4.apw) hS4)
 have Es:=hide (hS4.lower D9 (Nat.zero_le _))
 have az1:=hide hb4.below
 have hz4:wS.heap.size<=w4.heap.size:=hb4.below.size
 have hXX:Below w4.heap.size w4 (w4.alloc (.cells #[.slice by4 ks.length cy4] 28)):=(Below.refl _ _).alloc (Nat.le_refl _) _
 obtain⟨wX,Qp⟩:∃z,z=w4.alloc (.cells #[.slice by4 ks.length cy4] 28):=⟨_,rfl⟩
 have awc:au wX w4.heap.size 28 #[.slice by4 ks.length cy4]:=by rw[Qp];exact Bq rfl
 have az2:wX.heap.size=w4.heap.size+1:=by rw[Qp];simp
 rw[←Qp] at hXX
 have HXX:=hide hXX
 have Fa:=hide awc
 have HSX:=hide ((uh Es).stays jm hXX)
 have HZX:=hide az2
 clear hS4 hb4 kS hXX awc az2
 go_wp2_with fail
 rw[←Qp]
 clear Qp
 refine(uh azz _ _ (uh HSX)).mono ?_
 rintro e w5 ⟨gv,bs,rfl,hG5,hb5⟩
 obtain⟨ga,gc,rfl⟩:=hG5.slice
 have hGG:Below w5.heap.size w5 (w5.alloc (.cells #[.slice ga ns.length gc] 28)):=(Below.refl _ _).alloc (Nat.le_refl _) _
 obtain⟨wG,hwG⟩:∃z,z=w5.alloc (.cells #[.slice ga ns.length gc] 28):=⟨_,rfl⟩
 have awd:au wG w5.heap.size 28 #[.slice ga ns.length gc]:=by rw[hwG];exact Bq rfl
 rw[←hwG] at hGG
 have HXG:Hid (Below wX.heap.size wX wG):=hb5.trans (hGG.mono hb5.size)
 have H4G:Hid (Below w4.heap.size w4 wG):=(uh HXX).trans ((uh HXG).mono (uh HXX).size)
 have HSG:Hid (Below wS.heap.size wS wG):=(uh az1).trans ((uh H4G).mono hz4)
 have HGR:Hid (uf uj oh wX.heap.size wG (.slice ga ns.length gc) ns bs):=hide (al0 (H:=w5.heap.size) hG5 ⟨hGG.size,fun g _ hlt=>hGG.block g hlt⟩ (Nat.le_refl _) hGG.size)
 have HBG:=hide awd
 have abr:=hide ((uh Me).below (uh HSG) (uh Me).lt)
 have aje:=hide ((uh Fa).below (uh HXG) (uh Fa).lt)
 have i5:w5.cell? ⟨w3.heap.size,0,none⟩=some (.slice ra ns.length rc):=(((uh Me).below ((uh az1).trans (((uh HXX).trans (hb5.mono (uh HXX).size)).mono hz4)) (uh Me).lt)).cell (i:=0) (v:=.slice ra ns.length rc) rfl
 have a6i:w3.heap.size<w5.heap.size:=Nat.lt_of_lt_of_le (uh Me).lt (Nat.le_trans hz4 (Nat.le_trans (uh HXX).size hb5.size))
 have HZ5:Hid (wX.heap.size<=w5.heap.size):=hide hb5.size
 have HZS:Hid (wS.heap.size<=wX.heap.size):=hide (Nat.le_trans hz4 (uh HXX).size)
 have a4f:Hid (bf 7 160 ni 0 wG (.slice ga ns.length gc) ns):=hide ((uh HGR).rowT.sl rfl (fun _=>rfl) (fun cs x bs h=>X5 h))
 have HEG:=hide (Qy ns _ _ wG (uh a4f) ((uh HRV).stays jm (uh HSG)))
 clear hb5 hG5 hGG awd
 go_wp2_with fail
 rw[←hwG]
 clear hwG i5
 refine(uh HEG).mono ?_
 rintro e w6 ⟨rfl,hb6⟩
 have Nz:=hide hb6
 have H46:Hid (Below w4.heap.size w4 w6):=(uh H4G).trans (hb6.mono (uh H4G).size)
 have HS6:Hid (Below wS.heap.size wS w6):=(uh HSG).trans (hb6.mono (uh HSG).size)
 have a4g:=hide ((uh HSX).stays jm ((uh HXG).trans (hb6.mono (uh HXG).size)))
 have B6:Hid (Below w.heap.size w w6):=(uh BS).trans ((uh HS6).mono (uh BS).size)
 have az3:=hide ((uh aje).below hb6 (uh aje).lt)
 have j6:w6.cell? ⟨w4.heap.size,0,none⟩=some (.slice by4 ks.length cy4):=(uh az3).cell (i:=0) (v:=.slice by4 ks.length cy4) rfl
 have k6:w6.cell? ⟨w.heap.size,0,none⟩=some (.slice b0 ks.length c0):=((uh HS6).cell (p:=⟨w.heap.size,0,none⟩) hzS).trans (uh HKS)
 have hz6:w4.heap.size<w6.heap.size:=(uh az3).lt
 clear hb6
 go_wp2_with fail
 have HTP:=hide (Xc ks _ w6.drew ((uh H1).stays jm (uh B6).drew))
 go_region_with (first|(go_at_call 6;refine(uh HTP).mono ?_;rintro e w7 ⟨cs7,rfl,⟨vz,rfl,hS7⟩,hb7⟩;have j7:w7.cell? ⟨w4.heap.size,0,none⟩=some (.slice by4 ks.length cy4):=(hb7.cell (p:=⟨w4.heap.size,0,none⟩) hz6).trans j6;have Wh:=hide (Below.trans (Below.drew (Below.refl _ w6)) hb7);have HE7:=hide (Qy ks _ _ w7 ((uh a4g).stays jm (Below.trans (Below.drew (Below.refl _ w6)) hb7)) (hS7.lower D9 (Nat.zero_le _)));have hz7:w4.heap.size<w7.heap.size:=Nat.lt_of_lt_of_le hz6 hb7.size;clear hS7 hb7)|(go_at_call 8;refine(uh HE7).mono ?_;rintro e w8 ⟨rfl,hb8⟩))
 all_goals
  have H68:=hide (Below.trans (uh Wh) (hb8.mono (uh Wh).size))
  have HG8:Hid (Below wG.heap.size wG w8):=(uh Nz).trans ((uh H68).mono (uh Nz).size)
  have j8:w8.cell? ⟨w4.heap.size,0,none⟩=some (.slice by4 ks.length cy4):=(hb8.cell (p:=⟨w4.heap.size,0,none⟩) hz7).trans j7
  have H48:Hid (Below w4.heap.size w4 w8):=(uh H46).trans ((uh H68).mono (uh H46).size)
  have HS8:Hid (Below wS.heap.size wS w8):=(uh HS6).trans ((uh H68).mono (uh HS6).size)
  have HM8:=hide (afu ks _ wS.heap.size w4.heap.size w8 ((uh HMA).stays Dt (Mk.of_below (uh H48) (Nat.le_refl _))) (uh H48).size (uh HMC))
  clear hb8 j7 HE7 HTP Wh j6 k6
  go_wp2_with fail
  refine(uh HM8).mono ?_
  rintro e w9 ⟨mk,rfl,hm9⟩
  have HS9:Hid (Below wS.heap.size wS w9):=(uh HS8).trans (hm9.below (uh HS8).size)
  have az4:Hid (Kept wX.heap.size wG.heap.size wG w9):=(Kept.of_below (uh HG8)).trans (hm9.kept (uh HXX).size) (uh HG8).size
  have a4h:wG.heap.size<=w9.heap.size:=Nat.le_trans (uh HG8).size hm9.size
  have HG9:=hide (al0 (uh HGR) (uh az4) (Nat.le_refl _) a4h)
  have at6:Hid (au w9 w5.heap.size 28 #[.slice ga ns.length gc]):=hide (((uh az4).2 _ (uh HZ5) (uh HBG).lt).trans (uh HBG))
  have a4i:=hide ((uh Me).below (uh HS9) (uh Me).lt)
  have j9:w9.cell? ⟨w5.heap.size,0,none⟩=some (.slice ga ns.length gc):=(uh at6).cell (i:=0) (v:=.slice ga ns.length gc) rfl
  have i9:w9.cell? ⟨w3.heap.size,0,none⟩=some (.slice ra ns.length rc):=(uh a4i).cell (i:=0) (v:=.slice ra ns.length rc) rfl
  have a4j:Hid (bf 7 160 ni 0 w9 (.slice ga ns.length gc) ns):=hide ((uh HG9).rowT.sl rfl (fun _=>rfl) (fun cs x bs h=>X5 h))
  have HE9:=hide (Qy ns _ _ w9 (uh a4j) ((uh HRV).stays jm (uh HS9)))
  have m0:decide ((mk:Int)<0)=false:=decide_eq_false (by omega)
  clear hm9 j8
  go_wp2_with fail
  refine(uh HE9).mono ?_
  rintro e wA ⟨rfl,Rj⟩
  have HSA:Hid (Below wS.heap.size wS wA):=(uh HS9).trans (Rj.mono (uh HS9).size)
  have HGA:=(uh HG9).fr zx (fun b hb=>Rj.block b ((uh HG9).nd.2 b hb).2) Rj.size
  obtain⟨l,hL,awe⟩:=a2m (lo:=wX.heap.size) (hi:=wA.heap.size) HGA.rowT HGA.nd.1 (fun c hc=>HGA.nd.2 c hc)
  have at7:=(uh at6).below Rj (uh at6).lt
  have jA:wA.cell? ⟨w5.heap.size,0,none⟩=some (.slice ga ns.length gc):=at7.cell (i:=0) (v:=.slice ga ns.length gc) rfl
  have hzA:w5.heap.size<wA.heap.size:=at7.lt
  obtain⟨r,hr⟩:∃r,1+l.length=r:=⟨_,rfl⟩
  have hrb:r<=1000000000:=by
   have h9:=hL.len ant
   have h8:=uh HST
   omega
  have HMX:=hide (ahh ns _ l wX.heap.size wA.heap.size r wA hL (Nat.le_refl _) hr hrb)
  have HL:=hide hL
  have HGD:=hide awe
  have HBD:=hide HGA.nd.2
  have HR:=hide hr
  have qm:=hide hrb
  clear Rj hr hrb HGA hL awe at7 j9 i9
  go_wp2_with fail
  refine(uh HMX).mono ?_
  rintro e wB ⟨rfl,hXB⟩
  have HSB:Hid (Below wS.heap.size wS wB):=(uh HSA).trans ((hXB.md.below (Nat.le_trans (uh HZ5) (Nat.le_of_lt hzA))).mono (uh HZS))
  have hHeld:Held 1 l wB:=hXB.held (uh HGD).1 (fun p hp=>⟨((uh HGD).2 p hp).1,(uh HBD _ ((uh HGD).2 p hp).2.1).2,((uh HGD).2 p hp).2.2⟩)
  have HHX:=hide (ahi ns _ l wX.heap.size wA.heap.size r wB ((uh HL).stays Yd hXB.md) hHeld hXB.md.size (uh HR) (uh qm))
  have jB:wB.cell? ⟨w5.heap.size,0,none⟩=some (.slice ga ns.length gc):=hXB.csl (uh HZ5) hzA jA
  clear hXB hHeld jA
  go_wp2_with fail
  refine(uh HHX).mono ?_
  rintro e wC ⟨rfl,HBC⟩
  have HSC:Hid (Below wS.heap.size wS wC):=(uh HSB).trans ((uh HBC).mono (uh HSB).size)
  have BC:Hid (Below w.heap.size w wC):=(uh BS).trans ((uh HSC).mono (by omega))
  have kC:wC.cell? ⟨w.heap.size,0,none⟩=some (.slice b0 ks.length c0):=((uh HSC).cell (p:=⟨w.heap.size,0,none⟩) hzS).trans (uh HKS)
  have a4k:=hide (Xc ks _ wC ((uh H1).stays jm (uh BC)))
  have m1:decide ((r:Int)<0)=false:=decide_eq_false (by omega)
  have m2:((r:Int) != (r:Int))=false:=by simp
  clear jB
  go_wp2_with fail
  refine(uh a4k).mono ?_
  rintro e wD ⟨csD,rfl,⟨vh,rfl,hSD⟩,hbD⟩
  have HSD:Hid (Below wS.heap.size wS wD):=(uh HSC).trans (hbD.mono (uh HSC).size)
  have a4l:=hide (uh azz _ wD (hSD.lower D9 (Nat.zero_le _)))
  clear hSD hbD kC
  go_wp2_with fail
  refine(uh a4l).mono ?_
  rintro e wE ⟨hv,bsE,rfl,hGE,hbE⟩
  obtain⟨ha,hc,rfl⟩:=hGE.slice
  have P9:Hid (Below wS.heap.size wS wE):=(uh HSD).trans (hbE.mono (uh HSD).size)
  have hEE:Below wE.heap.size wE (wE.alloc (.cells #[.slice ha ns.length hc] 28)):=(Below.refl _ _).alloc (Nat.le_refl _) _
  have HSF:Hid (Below wS.heap.size wS (wE.alloc (.cells #[.slice ha ns.length hc] 28))):=(uh P9).trans (hEE.mono (uh P9).size)
  have az5:bf 7 160 ni 0 wE (.slice ha ns.length hc) ns:=hGE.rowT.sl rfl (fun _=>rfl) (fun cs x bs h=>X5 h)
  have HEE:=hide (Qy ns _ _ _ (az5.stays jm hEE) ((uh HRV).stays jm (uh HSF)))
  have iE:wE.cell? ⟨w3.heap.size,0,none⟩=some (.slice ra ns.length rc):=((uh Me).below (uh P9) (uh Me).lt).cell (i:=0) (v:=.slice ra ns.length rc) rfl
  have hzE:w3.heap.size<wE.heap.size:=Nat.lt_of_lt_of_le (uh Me).lt (uh P9).size
  clear hGE hbE hEE az5
  go_wp2_with fail
  refine(uh HEE).mono ?_
  rintro e wF ⟨rfl,hbF⟩
  have HFF:Hid (Below w.heap.size w wF):=(uh BS).trans (((uh HSF).trans (hbF.mono (uh HSF).size)).mono (by omega))
  clear hbF
  go_wp2
  go_ret
  exact⟨rfl,uh HFF⟩
theorem Jq {P:Program} {α:Type} (E:wo P α) (w:World) (base:Nat) (hb:base<=w.heap.size):dw E (w.alloc (.cells #[] E.T)) base (.slice (some ⟨w.heap.size,0,none⟩) 0 0) [] :=
 ⟨by simp,Or.inr ⟨w.heap.size,0,#[],rfl,hb,Bq rfl,Nat.le_refl _,by simp[maxLen],by simp,by simp⟩⟩
theorem aar (code:List iw) (v:Value) (w:World) (h:bf 3 32 tu 0 w v code):Calls Tryz.prog 26 #[v] w (fun e w'=>∃v',e=.returned v'∧dw Dv w' w.heap.size v' code∧Below w.heap.size w w'):=by
 have hA:Below w.heap.size w (w.alloc (.cells #[] 141)):=(Below.refl _ _).alloc (Nat.le_refl _) _
 have HS:=hide (h.stays og hA)
 have hbt:code.length*32<=140737488355328:=by
  obtain⟨a,cap,_,⟨h1,_⟩,_⟩:=h
  exact h1
 obtain⟨a,c,hv⟩:=h.shape
 subst hv
 have Ei:Hid (dw Dv (w.alloc (.cells #[] 141)) w.heap.size (.slice (some ⟨w.heap.size,0,none⟩) 0 0) []):=hide (Jq Dv w w.heap.size (Nat.le_refl _))
 have HA:=hide hA
 have vg:Hid ((([]:List iw).length+code.length)*32<=140737488355328):=by
  refine hide ?_
  simpa using hbt
 clear hA h hbt
 go_enter Tryz.func26,Tryz.ntmps26
 go_wp2_with (at_builtin;go_must (refine qw Dv (R:=tu) (fun _ _ _ h=>h.1) _ rfl _ _ rfl w.heap.size w.heap.size 0 [] rfl (uh Ei) _ rfl code (uh HS) (uh vg) (uh HA).size ?_))
 intro g' cap' w' ho hg
 have HF:Hid (dw Dv w' w.heap.size (.slice (some ⟨g',0,none⟩) code.length cap') code∧Below w.heap.size w w'):=by
  refine hide ⟨by simpa using ho,⟨hg.os.trans (uh HA).os,hg.tape.trans (uh HA).tape,hg.output.trans (uh HA).output,Nat.le_trans (uh HA).size hg.size,fun k hk=>(hg.block k (Nat.lt_of_lt_of_le hk (uh HA).size) (fun e9=>by have:=Option.some.inj e9;omega)).trans ((uh HA).block k hk)⟩⟩
 clear ho hg
 go_wp2
 go_ret
 exact⟨_,rfl,uh HF⟩
def Ad {α:Type} {sz:Nat} (E:wo Tryz.prog (Raw sz)) (R:World->List Value->α->List Nat->Prop) (base:Nat) (w:World) (v:Value) (xs:List α):Prop:=∃(css:List (Raw sz)) (subs:List (List Nat)),dw E w base v css∧zn (fun c x s=>R w c.1 x s) css xs subs
theorem Ad.nil {α:Type} {sz:Nat} (E:wo Tryz.prog (Raw sz)) (R:World->List Value->α->List Nat->Prop) (base:Nat) (w:World):Ad E R base w (.slice none 0 0) []:=⟨[],[],dw.nil _ _,.nil⟩
theorem Ad.start {α:Type} {sz:Nat} (E:wo Tryz.prog (Raw sz)) (R:World->List Value->α->List Nat->Prop) (w:World) (base:Nat) (hb:base<=w.heap.size):Ad E R base (w.alloc (.cells #[] E.T)) (.slice (some ⟨w.heap.size,0,none⟩) 0 0) []:=⟨[],[],dw.start _ _ hb,.nil⟩
theorem Ad.slice {α:Type} {sz:Nat} {E:wo Tryz.prog (Raw sz)} {R:World->List Value->α->List Nat->Prop} {base:Nat} {w:World} {v:Value} {xs:List α} (h:Ad E R base w v xs):∃a cap,v=.slice a xs.length cap:=by
 obtain⟨css,subs,h1,h3⟩:=h
 rw[←h3.len.1]
 exact h1.slice
theorem Ad.low {α:Type} {sz:Nat} {E:wo Tryz.prog (Raw sz)} {R:World->List Value->α->List Nat->Prop} {base b2:Nat} {w:World} {v:Value} {xs:List α} (h:Ad E R base w v xs) (hb:b2<=base):Ad E R b2 w v xs:=by
 obtain⟨css,subs,h1,h3⟩:=h
 exact⟨css,subs,h1.low hb,h3⟩
theorem Ad.rowT {α:Type} {sz:Nat} {E:wo Tryz.prog (Raw sz)} {R:World->List Value->α->List Nat->Prop} {base:Nat} {w:World} {v:Value} {xs:List α} (h:Ad E R base w v xs) (hl:xs.length*E.jh<=140737488355328):∃bs,C9 E R w v xs bs:=by
 obtain⟨css,subs,h1,h3⟩:=h
 exact⟨_,css,subs,h1.low (Nat.zero_le _),by rw[h3.len.1];exact hl,h3,rfl⟩
theorem Ad.below {α:Type} {sz:Nat} {E:wo Tryz.prog (Raw sz)} {R:World->List Value->α->List Nat->Prop} {Ts:List Nat} (hR:Zj R) (hT:adp Ts R) {base:Nat} {w w':World} {v:Value} {xs:List α} (h:Ad E R base w v xs) (hb:Below w.heap.size w w'):Ad E R base w' v xs:=by
 obtain⟨css,subs,h1,h3⟩:=h
 exact⟨css,subs,h1.below hb,h3.mono (fun c x s _ _ _ h9=>hR _ _ _ _ _ h9 ((hT _ _ _ _ h9).below hb))⟩
theorem Ad.Cm {α:Type} {sz:Nat} {E:wo Tryz.prog (Raw sz)} {R:World->List Value->α->List Nat->Prop} {Ts:List Nat} (hR:Zj R) (hT:adp Ts R) {T base:Nat} {w w':World} {v:Value} {xs:List α} (h:Ad E R base w v xs) (hk:Fb T w w') (h1:T≠E.T) (h2:T∉Ts):Ad E R base w' v xs:=by
 obtain⟨css,subs,g1,g3⟩:=h
 refine⟨css,subs,g1.Ai (fun b hb=>?_),g3.mono (fun c x s _ _ _ h9=>hR _ _ _ _ _ h9 (hk.fr (hT _ _ _ _ h9) h2))⟩
 obtain⟨cur,hh⟩:=g1.cellT hb
 exact(Fb.blk hk (show au w b E.T cur from hh) (fun e=>h1 e.symm)).trans hh.symm
theorem Ad.snoc {α:Type} {sz:Nat} {E:wo Tryz.prog (Raw sz)} {R:World->List Value->α->List Nat->Prop} {Ts:List Nat} (hR:Zj R) (hT:adp Ts R) (hn:E.T∉Ts) {base:Nat} {w w5:World} {v v':Value} {css:List (Raw sz)} {subs:List (List Nat)} {xs:List α} (ho:dw E w base v css) (ha:zn (fun c x s=>R w c.1 x s) css xs subs) {c:Raw sz} {y:α} {s:List Nat} (hc:R w c.1 y s) (Bh:dw E w5 base v' (css++[c])) (hg5:w.grownBy w5 v.ownBlock):Ad E R base w5 v' (xs++[y]) :=
 ⟨css++[c],subs++[s],Bh,(ha.mono (fun c x s _ _ _ h9=>hR _ _ _ _ _ h9 (Zv ho hg5 (hT _ _ _ _ h9) hn))).app (.cons (hR _ _ _ _ _ hc (Zv ho hg5 (hT _ _ _ _ hc) hn)) .nil)⟩
theorem Ad.aeo {P:Program} {α:Type} {E:wo P α} {base:Nat} {w w5:World} {v:Value} {css:List α} (ho:dw E w base v css) (hg5:w.grownBy w5 v.ownBlock):Fb E.T w w5:=Fb.Jg hg5 (fun b hb=>by
 obtain⟨cur,hh⟩:=ho.cellT hb
 exact⟨cur,(0,0),hh⟩)
theorem zf.Cm {α:Type} {E:wo Tryz.prog α} {ok:α->Prop} {T:Nat} {w w':World} {v:Value} {xs:List α} {bs:List Nat} (h:zf E ok w v xs bs) (hk:Fb T w w') (h1:T≠E.T):zf E ok w' v xs bs:=h.fr (hk.fr h.typ (by simpa using h1))
theorem zf.azd {α:Type} {E:wo Tryz.prog α} {ok:α->Prop} {w w':World} {v:Value} {xs:List α} {bs:List Nat} (h:zf E ok w v xs bs) (hk:Below w.heap.size w w'):zf E ok w' v xs bs:=h.fr (h.typ.below hk)
theorem aqc {α:Type} {E:wo Tryz.prog α} {ok:α->Prop} {w':World} {g cap:Nat} {base:Nat} {xs:List α} (ho:dw E w' base (.slice (some ⟨g,0,none⟩) xs.length cap) xs) (hk:∀x,x∈xs->ok x) (hl:xs.length*E.jh<=140737488355328):zf E ok w' (.slice (some ⟨g,0,none⟩) xs.length cap) xs [g]:=⟨ho.low (Nat.zero_le _),hk,hl,rfl⟩
theorem aqj {sz:Nat} (u:Value) (k:Nat) (hk:k<sz) (c':Raw sz):∀(cs:List (Raw sz)) (i:Nat) (hi:i<cs.length),c'.1=cs[i].1.set k u->(cs.flatMap (fun c=>c.1)).set (i*sz+k) u=(cs.set i c').flatMap (fun c=>c.1):=by
 intro cs
 induction cs with
 | nil=>intro i hi;exact absurd hi (Nat.not_lt_zero _)
 | cons c cs ih =>
  intro i hi hc
  have hl:c.1.length=sz:=c.2.1
  cases i with
  | zero =>
   simp only[List.getElem_cons_zero] at hc
   simp only[List.flatMap_cons,List.set_cons_zero,Nat.zero_mul,Nat.zero_add]
   rw[List.set_append_left _ _ (by omega),hc]
  | succ i =>
   simp only[List.getElem_cons_succ] at hc
   simp only[List.flatMap_cons,List.set_cons_succ]
   have e9:(i+1)*sz+k-c.1.length=i*sz+k:=by rw[Nat.succ_mul];omega
   rw[List.set_append_right _ _ (by rw[Nat.succ_mul];omega),e9,ih i (by simpa using hi) hc]
theorem aua {w:World} {B g cap:Nat} {cs:List (Raw 7)} (h:dw uj w B (.slice (some ⟨g,0,none⟩) cs.length cap) cs) (i k:Nat) (hi:i<cs.length) (hk:k<7) (u:Value) (c':Raw 7) (hc:c'.1=cs[i].1.set k u) :
  dw uj (w.setCell ⟨g,i*7+k,none⟩ u) B (.slice (some ⟨g,0,none⟩) cs.length cap) (cs.set i c'):=by
 obtain⟨h1,h2⟩:=h
 rcases h2 with ⟨hv,_⟩|⟨g',cap',cur,hv,hg,hh,hn,hm,hs,ht⟩
 ·cases hv
 ·simp only[Value.slice.injEq,Option.some.injEq,Addr.mk.injEq] at hv
  obtain⟨⟨rfl,_⟩,_,rfl⟩:=hv
  have hb:au w g uj.T cur:=hh
  have hb2:=hb.set (i*7+k) u
  have hfl:=aqj u k hk c' cs i hi hc
  refine⟨?_,Or.inr ⟨g,cap,cur.setIfInBounds (i*7+k) u,by rw[List.length_set],hg,hb2,by rw[List.length_set];exact hn,hm,by rw[Array.size_setIfInBounds];exact hs,?_⟩⟩
  ·have h9:(cs.set i c').flatMap uj.f=(cs.flatMap uj.f).set (i*7+k) u:=hfl.symm
   rw[h9,List.length_set,List.length_set]
   exact h1
  ·have h9:(cs.set i c').flatMap uj.f=(cs.flatMap uj.f).set (i*7+k) u:=hfl.symm
   rw[h9,←ht,Array.toList_setIfInBounds,List.length_set,List.take_set]
theorem zn.set {α β γ:Type} {R:α->β->γ->Prop} {la:List α} {lb:List β} {lc:List γ} (h:zn R la lb lc):∀(i:Nat) {a:α} {b:β} {c:γ},R a b c->zn R (la.set i a) (lb.set i b) (lc.set i c):=by
 induction h using zn.ind with
 | nil=>intro i a b c _;simp only[List.set_nil];exact .nil
 | cons h k ih =>
  intro i a b c hr
  cases i with
  | zero=>exact .cons hr k
  | succ i=>exact .cons h (ih i hr)
theorem Ad.body {B g cap:Nat} {w:World} {n:Nat} {ks:List ak} (h:Ad uj oh B w (.slice (some ⟨g,0,none⟩) n cap) ks) (i:Nat) (hi:i<ks.length) {v6:Value} {l:List dh} {bs:List Nat} (hb:C9 zh Aa w v6 l bs):Ad uj oh B (w.setCell ⟨g,i*7+6,none⟩ v6) (.slice (some ⟨g,0,none⟩) n cap) (ks.set i { ks[i] with body:=l })∧Fb 43 w (w.setCell ⟨g,i*7+6,none⟩ v6):=by
 obtain⟨css,subs,h1,h3⟩:=h
 have hl:=h3.len
 obtain⟨a9,c9,yx⟩:=h1.slice
 simp only[Value.slice.injEq] at yx
 obtain⟨_,rfl,_⟩:=yx
 obtain⟨cur,hcur⟩:=h1.cellT (g:=g) rfl
 have hk:Fb 43 w (w.setCell ⟨g,i*7+6,none⟩ v6):=Fb.set hcur _ _
 refine⟨?_,hk⟩
 have hT:=h3.get i (by omega) hi (by omega)
 obtain⟨v1,v2,v3,v4,v5,v6',b1,b2,b3,b4,b5,b6,h0,hn,g1,g2,g3,g4,g5,g6,hbs⟩:=hT
 have hs6:∃a c,v6=.slice a l.length c:=by
  obtain⟨cs9,s9,o9,_,a9,_⟩:=hb
  rw[←a9.len.1]
  exact o9.slice
 obtain⟨a6,c6,hv6⟩:=hs6
 have ho:∀u,u∈[.string ks[i].name,v1,v2,v3,v4,v5,v6]->u.oneCell'=true:=fun u hu=>by
  have h9:=css[i].2.2
  rw[h0] at h9
  simp only[List.mem_cons,List.not_mem_nil,or_false] at hu
  rcases hu with rfl|rfl|rfl|rfl|rfl|rfl|rfl
  ·exact h9 _ (by simp)
  ·exact h9 _ (by simp)
  ·exact h9 _ (by simp)
  ·exact h9 _ (by simp)
  ·exact h9 _ (by simp)
  ·exact h9 _ (by simp)
  ·rw[hv6];rfl
 have hfr:∀bs',Dc Tq bs' w->Fr bs' w (w.setCell ⟨g,i*7+6,none⟩ v6):=fun bs' ht=>hk.fr ht (by decide)
 have one:∀{T:Nat} {bs:List Nat},Dc [T] bs w->T∈Tq->Dc Tq bs w:=fun h hT=>h.wide (fun t ht=>by rw[List.mem_singleton] at ht;rw[ht];exact hT)
 have tb:Dc Tq bs w:=(hb.typ Rz).wide (fun t ht=>by
  rcases List.mem_cons.1 ht with rfl|h9
  ·decide
  ·unfold an1 at h9
   unfold Tq
   simp only[List.mem_cons,List.not_mem_nil,or_false] at h9 ⊢
   omega)
 refine⟨css.set i ⟨[.string ks[i].name,v1,v2,v3,v4,v5,v6],by simp,ho⟩,subs.set i (b1++b2++b3++b4++b5++bs),aua h1 i 6 (by omega) (by omega) v6 _ (by rw[h0];rfl),zn.set (h3.mono (fun c x s _ _ _ h9=>zx _ _ _ _ _ h9 (hfr s (zy _ _ _ _ h9)))) i ?_⟩
 exact⟨v1,v2,v3,v4,v5,v6,b1,b2,b3,b4,b5,bs,rfl,hn,g1.fr (hfr _ (one g1.typ (by decide))),g2.fr (hfr _ (one g2.typ (by decide))),g3.fr (hfr _ (one g3.typ (by decide))),g4.fr (hfr _ (one g4.typ (by decide))),g5.fr (hfr _ (one g5.typ (by decide))),hb.fr I4 (hfr _ tb),rfl⟩
theorem afv {pre post:List dh} {s:dh} {i:Nat} (h:i=pre.length):Yl (pre++s::post) i=s.kind:=by
 subst h
 unfold Yl
 rw[apf]
theorem an2:∀(t:BF) (pre post:List dh),t.wf->∀i,pre.length<=i->i<pre.length+t.flat.length->Yl (pre++(t.flat++post)) i=4->∃o e:Nat,je (dn (pre++(t.flat++post))) i=((o:Int),(e:Int))∧i<o∧o<e∧e<pre.length+t.flat.length:=by
 intro t
 induction t using BF.ind with
 | nil =>
  intro pre post _ i h1 h2
  simp[BF.flat] at h2
  omega
 | node s a b r iha ihb ihr =>
  intro pre post hw i h1 h2 h4
  obtain⟨w1,w2,w3,w4,w5,w6⟩:=hw
  by_cases hk:s.kind=4
  case neg =>
   have hfl:(BF.node s a b r).flat=s::r.flat:=by rw[jd,if_neg hk]
   rw[hfl] at h2 h4 ⊢
   have e:pre++((s::r.flat)++post)=(pre++[s])++(r.flat++post):=by simp
   by_cases c:i=pre.length
   ·rw[List.cons_append,afv c] at h4
    exact absurd h4 hk
   ·rw[e] at h4 ⊢
    have hl:(pre++[s]).length=pre.length+1:=by simp
    rw[List.length_cons] at h2
    obtain⟨o,e9,k1,k2,k3,k4⟩:=ihr (pre++[s]) post w6 i (by omega) (by omega) h4
    exact⟨o,e9,k1,k2,k3,by rw[List.length_cons];omega⟩
  case pos =>
   have hfl:(BF.node s a b r).flat=s::(a.flat++elS::(b.flat++uo::r.flat)):=by rw[jd,if_pos hk]
   have hlen:(BF.node s a b r).flat.length=a.flat.length+b.flat.length+r.flat.length+3:=by
    rw[hfl]
    simp only[List.length_cons,List.length_append]
    omega
   have eL:pre++((BF.node s a b r).flat++post)=pre++s::(a.flat++elS::(b.flat++uo::(r.flat++post))):=by rw[hfl];simp
   rw[eL] at h4 ⊢
   rw[hlen] at h2 ⊢
   obtain⟨L,hL⟩:∃L,L=pre++s::(a.flat++elS::(b.flat++uo::(r.flat++post))):=⟨_,rfl⟩
   have eA:(pre++[s])++(a.flat++(elS::(b.flat++uo::(r.flat++post))))=L:=by rw[hL];simp
   have eB:(pre++s::(a.flat++[elS]))++(b.flat++(uo::(r.flat++post)))=L:=by rw[hL];simp
   have eR:(pre++s::(a.flat++elS::(b.flat++[uo])))++(r.flat++post)=L:=by rw[hL];simp
   have eE:(pre++s::a.flat)++elS::(b.flat++(uo::(r.flat++post)))=L:=by rw[hL];simp
   have eN:(pre++s::(a.flat++elS::b.flat))++uo::(r.flat++post)=L:=by rw[hL];simp
   have lA:(pre++[s]).length=pre.length+1:=by simp
   have lB:(pre++s::(a.flat++[elS])).length=pre.length+a.flat.length+2:=by
    simp only[List.length_append,List.length_cons,List.length_nil]
    omega
   have lR:(pre++s::(a.flat++elS::(b.flat++[uo]))).length=pre.length+a.flat.length+b.flat.length+3:=by
    simp only[List.length_append,List.length_cons,List.length_nil]
    omega
   have lE:(pre++s::a.flat).length=pre.length+a.flat.length+1:=by
    simp only[List.length_append,List.length_cons]
    omega
   have lN:(pre++s::(a.flat++elS::b.flat)).length=pre.length+a.flat.length+b.flat.length+2:=by
    simp only[List.length_append,List.length_cons]
    omega
   by_cases c0:i=pre.length
   ·have hp:=Vp pre s a b (r.flat++post) hk w4 w5
    rw[c0,hp]
    exact⟨_,_,rfl,by omega,by omega,by omega⟩
   rw[←hL] at h4 ⊢
   by_cases c1:i<pre.length+a.flat.length+1
   ·obtain⟨o,e9,k1,k2,k3,k4⟩:=iha (pre++[s]) (elS::(b.flat++uo::(r.flat++post))) w4 i (by omega) (by omega) (by rw[eA];exact h4)
    rw[eA] at k1
    exact⟨o,e9,k1,k2,k3,by omega⟩
   by_cases c2:i=pre.length+a.flat.length+1
   ·rw[←eE,afv (by omega)] at h4
    exact absurd h4 (by decide)
   by_cases c3:i<pre.length+a.flat.length+b.flat.length+2
   ·obtain⟨o,e9,k1,k2,k3,k4⟩:=ihb (pre++s::(a.flat++[elS])) (uo::(r.flat++post)) w5 i (by omega) (by omega) (by rw[eB];exact h4)
    rw[eB] at k1
    exact⟨o,e9,k1,k2,k3,by omega⟩
   by_cases c4:i=pre.length+a.flat.length+b.flat.length+2
   ·rw[←eN,afv (by omega)] at h4
    exact absurd h4 (by decide)
   ·obtain⟨o,e9,k1,k2,k3,k4⟩:=ihr (pre++s::(a.flat++elS::(b.flat++[uo]))) post w6 i (by omega) (by omega) (by rw[eR];exact h4)
    rw[eR] at k1
    exact⟨o,e9,k1,k2,k3,by omega⟩
theorem agu (t:BF) (h:t.wf) (i:Nat) (hi:i<t.flat.length) (hk:Yl t.flat i=4):∃o e:Nat,je (dn t.flat) i=((o:Int),(e:Int))∧i<o∧o<e∧e<t.flat.length:=by
 have h9:=an2 t [] [] h i (Nat.zero_le _) (by simpa using hi)
 simp only[List.nil_append,List.append_nil,List.length_nil,Nat.zero_add] at h9
 exact h9 hk
def Y6 {α:Type} (o e o2 e2:Nat) (l:List α):List α:=ug l 0 o++ug l (e+2) o2++ug l o e++ug l (o2+1) e2++ug l e2 l.length
theorem az6 (l:List dh) (i o e o2 e2:Nat) (h1:je (dn l) i=((o:Int),(e:Int))) (h2:je (dn l) (e+1)=((o2:Int),(e2:Int))):foR l i=Y6 o e o2 e2 l:=by
 unfold foR Y6 ug
 simp only[h1,Int.toNat_natCast,h2,List.drop_zero,Nat.sub_zero]
 have h9:(l.drop e2).take (l.length-e2)=l.drop e2:=by
  rw[←List.length_drop,List.take_length]
 rw[h9]
theorem zn.sub {α β γ:Type} {R:α->β->γ->Prop} {la:List α} {lb:List β} {lc:List γ} (h:zn R la lb lc) (p q:Nat):zn R (ug la p q) (ug lb p q) (ug lc p q):=(h.drop p).take (q-p)
theorem zn.Y6 {α β γ:Type} {R:α->β->γ->Prop} {la:List α} {lb:List β} {lc:List γ} (h:zn R la lb lc) (o e o2 e2:Nat):zn R (Y6 o e o2 e2 la) (Y6 o e o2 e2 lb) (Y6 o e o2 e2 lc):=by
 have hl:=h.len
 unfold Go.Proofs.YtlcgnbcgmljpaaaGreat.Y6
 have h9:=h.sub e2 la.length
 rw[hl.1] at h9 ⊢
 rw[hl.2]
 exact((((h.sub 0 o).app (h.sub (e+2) o2)).app (h.sub o e)).app (h.sub (o2+1) e2)).app h9
theorem azm (t:BF) (h:t.wf) (i:Nat) (hi:i<t.flat.length):(t.flat[i].kind≠4->I7 t.flat i=false)∧(t.flat[i].kind=4->∃o e:Nat,je (dn t.flat) i=((o:Int),(e:Int))∧i<o∧o<e∧e<t.flat.length∧(e+1=t.flat.length->I7 t.flat i=false)∧∀(h9:e+1<t.flat.length),(t.flat[e+1].kind≠4->I7 t.flat i=false)∧(t.flat[e+1].name≠t.flat[i].name->I7 t.flat i=false)∧(t.flat[e+1].kind=4->t.flat[e+1].name=t.flat[i].name->I7 t.flat i=true∧∃o2 e2:Nat,je (dn t.flat) (e+1)=((o2:Int),(e2:Int))∧e+1<o2∧o2<e2∧e2<t.flat.length∧foR t.flat i=Y6 o e o2 e2 t.flat)):=by
 have hg:=List.getElem?_eq_getElem hi
 have hka:Yl t.flat i=t.flat[i].kind:=by unfold Yl;rw[hg]
 have hna:nAt t.flat i=t.flat[i].name:=by unfold nAt;rw[hg]
 refine⟨fun h4=>Zm hg h4,fun h4=>?_⟩
 obtain⟨o,e,k1,k2,k3,k4⟩:=agu t h i hi (by rw[hka];exact h4)
 have hte:((e:Int)+1).toNat=e+1:=by omega
 have hfo:I7 t.flat i=(decide (e+1<t.flat.length)&&(decide (Yl t.flat (e+1)=4)&&decide (nAt t.flat (e+1)=t.flat[i].name))):=by
  unfold I7
  rw[k1,hka,hna,h4]
  simp only[hte,decide_true,Bool.true_and]
 refine⟨o,e,k1,k2,k3,k4,fun c=>?_,fun c=>?_⟩
 ·rw[hfo,decide_eq_false (by omega)];rfl
 ·have hg2:=List.getElem?_eq_getElem c
  have hk2:Yl t.flat (e+1)=t.flat[e+1].kind:=by unfold Yl;rw[hg2]
  have hn2:nAt t.flat (e+1)=t.flat[e+1].name:=by unfold nAt;rw[hg2]
  rw[hfo,hk2,hn2]
  refine⟨fun d=>?_,fun d=>?_,fun d1 d2=>?_⟩
  ·rw[decide_eq_false d];simp
  ·rw[decide_eq_false d];simp
  ·refine⟨by rw[decide_eq_true c,decide_eq_true d1,decide_eq_true d2];rfl,?_⟩
   obtain⟨o2,e2,j1,j2,j3,j4⟩:=agu t h (e+1) c (by rw[hk2];exact d1)
   exact⟨o2,e2,j1,j2,j3,j4,az6 t.flat i o e o2 e2 k1 j1⟩
theorem aw0 {t:BF} (h:t.wf) (hn:∀i,i<t.flat.length->I7 t.flat i=false):stepT t=none:=by
 have h9:=apg t h
 cases hs:stepT t with
 | none=>rfl
 | some t' =>
  rw[hs] at h9
  obtain⟨i,_,g2,g3,_⟩:=h9
  rw[hn i g2] at g3
  cases g3
theorem awz {t:BF} (h:t.wf) {i:Nat} (hi:i<t.flat.length) (hb:I7 t.flat i=true) (hn:∀j,j<i->I7 t.flat j=false):∃t',stepT t=some t'∧t'.flat=foR t.flat i:=by
 have h9:=apg t h
 cases hs:stepT t with
 | none =>
  rw[hs] at h9
  have:=h9 i (Nat.zero_le _) hi
  rw[hb] at this
  cases this
 | some t' =>
  rw[hs] at h9
  obtain⟨j,_,g2,g3,g4,g5⟩:=h9
  have e:j=i:=by
   rcases Nat.lt_trichotomy j i with c|c|c
   ·rw[hn j c] at g3;cases g3
   ·exact c
   ·have:=g4 i (Nat.zero_le _) c;rw[hb] at this;cases this
  rw[e] at g5
  exact⟨t',rfl,g5.symm⟩
end Go.Proofs.YtlcgnbcgmljpaaaGreat
