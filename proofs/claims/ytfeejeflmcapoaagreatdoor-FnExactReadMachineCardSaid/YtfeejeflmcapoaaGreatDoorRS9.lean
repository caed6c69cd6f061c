import Derived.Deep.RegionHeld3
import Derived.Deep.QuietTactic
import Derived.BigQuiet
import Derived.Test.YtfeejeflmcapoaaGreatDoorRH1
import Derived.Test.YtfeejeflmcapoaaGreatDoorMI20
set_option linter.unusedSimpArgs false
set_option linter.unusedVariables false
set_option maxHeartbeats 8000000
namespace Go.Proofs.YtfeejeflmcapoaaGreatDoor
open Go.RowKit
set_option maxRecDepth 1000000 in
theorem bcy (cu:dh) (a:List dw) (k:dw) (hf0:fA (wordsOf 32 cu) 0=Eo) (Ph:(wordsOf 32 cu).length=2):Ji cu (a++[k]):=by
 intro t rb mb lg n lc u q hu hq hn K K1 PO wr W1 mv bs hgs Jj hlz hwq HK hm;have hfz:=(yg 32 cu).1;have hfp:1<=(wordsOf 32 cu).length:=Bg.2 (Aj 32 cu);have Dc:=hide (Du hgs cu hlz);have HKK:=hide HK;have zf:=hide (Dv (a++[k]) cu);have Ol:=hide hgs;have Ug:(q:Int)<(n:Int):=by omega
 have Ci:=hide hwq;clear HK hgs hwq;rw[zh,hu];conv=>arg 2;whnf
 have Af:=hide (zq cu hlz);generalize wordsOf 32 cu=f at *;obtain⟨Df,Jr,Gy,Hu,Ih,Iw,Gs,Em,Lr,Et⟩:=Vg hf0 false false false true false false false false false false (by decide)
 have Gn:Hid (stepS (a++[k]) cu=a++[{ k with iq:=k.iq++[fA f 1] }]):=hide (by
  rw[uh zf];unfold Iz;rw[qg hf0 (by decide),Ae];unfold lineS;rw[qg hf0 (by decide),qg hf0 (by decide),gu ⟨hf0,Ph⟩])
 have HY:Hid (okS (fA f 1)):=hide (by have h9:=(uh Af).2 (fA f 1) (by rw[←Jo f 1 (by omega)];exact pz _);unfold okS Len;omega);have d2:((f.length:Int) == 2)=true:=by rw[Ph];rfl
 have HL2:=hide Ph;clear hf0 zf Ph;go_wp2_with fail;refine(uh Dc).mono ?_;rintro e w2 ⟨fg,fc,rfl,o7,Dk,hfl⟩;have x0:=uh Dk 0 (by omega);obtain⟨g,mc,hmv⟩:=E8 (uh o7).1.row;obtain⟨al,hal⟩:∃z,z=a.length:=⟨_,rfl⟩;have Ba:=hide hal
 have hnb:al<=1048577:=by
  have h9:=uh Ci;unfold oq at h9;rw[je] at h9;omega
 rw[←hal] at hmv;clear hal;subst hmv;have m0:=(uh o7).1.box.cell (i:=0) (v:=.slice (some ⟨g,0,none⟩) (al+1) mc) rfl;have hml:mb<w2.heap.size:=(uh o7).1.box.lt;have Bj:=hide (Aa f (.slice (some ⟨fg,0,none⟩) f.length fc) ou w2 (Fh (uh o7).2.1 (uh Af)));obtain⟨c0,c1,c2,c3⟩:=gc al f.length (by omega) (by omega);go_wp2_with fail;refine(uh Bj).mono ?_;rintro e w3 ⟨rfl,hw3⟩;obtain rfl:=hw3.symm;have x1:=uh Dk 1 (by have:=uh HL2;omega);have hl1:(1:Int)<(f.length:Int):=by have:=uh HL2;omega
 have aiz:1<f.length:=by have:=uh HL2;omega
 have Uj:=hide (uh o7).1;have hA:Below w2.heap.size w2 (w2.alloc (.cells #[.string (fA f 1)] 9)).drew:=((gy _ _).alloc (gq _) _).drew;have hgA:=(uh Uj).below hA;obtain⟨v1,hc1,ho1,hgl,hgrow⟩:=Q8 (bai _) (by decide) (by decide) hgA.row;rw[←uh Ba] at hc1;have hsm:=Aq (uh Ci)
 obtain⟨v',w5,hrun,yc,hg5,Gm⟩:=Dz ni (w2.alloc (.cells #[.string (fA f 1)] 9)).drew 40 W1.heap.size v1 k.iq ho1 w2.heap.size (fA f 1) (fun j u hu=>by
  have h9:=(og w2 #[.string (fA f 1)] 9).cell (i:=j) (v:=u) (by simpa[ni] using hu);exact h9) (by show (k.iq.length+1)*16<=_;omega) (jq hgA.but.size (gq _))
 obtain⟨⟨hc5,O6⟩,bs',hmk⟩:=hgrow v' w5 (fA f 1) (uh HY) yc hg5 Gm (by omega);rw[←uh Ba] at hc5 O6 hmk;have Ky:=hide (hgA.put hm ho1 (by decide) hg5 hgA.Y7 hmk);obtain⟨ia,ic,hv1⟩:=ho1.slice;obtain⟨va,vc,hv'⟩:=yc.slice;obtain⟨n1,hn1⟩:∃z,z=k.iq.length:=⟨_,rfl⟩;obtain⟨n2,hn2⟩:∃z,z=(k.iq++[(fA f 1)]).length:=⟨_,rfl⟩;rw[←hn1] at hv1;rw[←hn2] at hv';subst hv1 hv';have hrun':(Builtin.append_ #[40,40] 40 #[.slice ia n1 ic,.slice (some ⟨w2.heap.size,0,none⟩) 1 1]).run Tryz.prog (w2.alloc (.cells #[.string (fA f 1)] 9)).drew=.ok (.slice va n2 vc) w5:=hrun;have Dp:=hide hrun'
 have Ql:g<w2.heap.size:=by
  obtain⟨abv,Y8,Jd,_⟩:=(uh Uj).row;exact(Bd Jd g rfl).2
 have hc0:w2.cell? ⟨g,al*7+3,none⟩=some (.slice ia n1 ic):=(hA.cell (p:=⟨g,_,none⟩) Ql).symm.trans hc1;obtain⟨w6,hw6⟩:∃z,z=w5.setCell ⟨g,al*7+3,none⟩ (.slice va n2 vc):=⟨_,rfl⟩;rw[←hw6] at Ky;have Uc:=hide hw6;have aff:g<w5.heap.size:=qj hgl hg5.size;clear hrun hrun' hgrow ho1 yc hg5 Gm hmk hn1 hn2 hsm hgA hw6;have qc:Hid (Gw W1 mb (stepS (a++[k]) cu) (.slice (some ⟨g,0,none⟩) (al+1) mc) bs' w6):=hide (by rw[uh Gn];exact uh Ky);have x1a:(w2.alloc (.cells #[.string (fA f 1)] 9)).drew.cell? ⟨fg,1,none⟩=some (.string (fA f 1)):=(hA.cell (p:=⟨fg,1,none⟩) hfl).trans x1;go_wp2_with fail;clear x0 m0
 go_region_law (refine ug rfl _ _ 40 40 rfl rfl _ _ _ rfl rfl (uh Dp) ?_)
 all_goals
  rw[←uh Uc];clear hc0 hc1 hc5 O6 x1 x1a;go_wp2;refine uh HKK _ _ _ _ rfl ?_ ?_ (uh qc)
  ·exact Qc rfl rfl rfl rfl rfl rfl rfl rfl rfl rfl
  ·rfl
end Go.Proofs.YtfeejeflmcapoaaGreatDoor
