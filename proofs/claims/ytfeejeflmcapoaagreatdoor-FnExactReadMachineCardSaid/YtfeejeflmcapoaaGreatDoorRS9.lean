import Derived.Deep.RegionHeld3
import Derived.Deep.QuietTactic
import Derived.BigQuiet
import Derived.Test.YtfeejeflmcapoaaGreatDoorRS6
import Derived.Test.YtfeejeflmcapoaaGreatDoorMI20
set_option linter.unusedSimpArgs false
set_option linter.unusedVariables false
set_option maxHeartbeats 8000000
set_option maxRecDepth 1000000
namespace Go.Proofs.YtfeejeflmcapoaaGreatDoor
open Go.RowKit
theorem bcc (eu:dh) (a:List dw) (k:dw) (hf0:fA (wordsOf 32 eu) 0=Ee) (O7:(wordsOf 32 eu).length=2):Qm eu (a++[k]):=by
 intro t rb mb lg n lc u q hu hq hn K K1 PO wr W1 mv bs hgs Qn hlz hwq HK hm;have hfz:=(Au 32 eu).1;have hfp:1<=(wordsOf 32 eu).length:=E5.2 (Ei 32 eu);have Ie:=ak (I4 hgs eu hlz);have HKK:=ak HK;have Ac:=ak (I5 (a++[k]) eu);have Ue:=ak hgs;have hqI:(q:Int)<(n:Int):=by omega
 have Gf:=ak hwq;clear HK hgs hwq;rw[Cj,hu];conv=>arg 2;whnf
 have Bj:=ak (Eb eu hlz);generalize wordsOf 32 eu=f at *;obtain⟨Cb,Jm,Gq,Hg,H8,Io,Gj,Ec,Lp,Ej⟩:=Vb hf0 false false false true false false false false false false (by decide)
 have I7:Hid (stepS (a++[k]) eu=a++[{ k with iw:=k.iw++[fA f 1] }]):=ak (by
  rw[uh Ac];unfold Iq;rw[qc hf0 (by decide),Aa];unfold lineS;rw[qc hf0 (by decide),qc hf0 (by decide),gy ⟨hf0,O7⟩])
 have HY:Hid (okS (fA f 1)):=ak (by have h9:=(uh Bj).2 (fA f 1) (by rw[←Jj f 1 (by omega)];exact o7 _);unfold okS Len;omega);have d2:((f.length:Int)==2)=true:=by rw[O7];rfl
 have HL2:=ak O7;clear hf0 Ac O7;go_wp2_with fail;refine(uh Ie).mono ?_;rintro e w2 ⟨fg,fc,rfl,uq,Gs,hfl⟩;have x0:=uh Gs 0 (by omega);obtain⟨g,mc,hmv⟩:=Lh (uh uq).1.row;obtain⟨al,hal⟩:=o8 a.length;have Cm:=ak hal
 have hnb:al<=1048577:=by
  have h9:=uh Gf;unfold pz at h9;rw[jh] at h9;omega
 rw[←hal] at hmv;clear hal;subst hmv;have m0:=(uh uq).1.box.cell (i:=0) (v:=.slice (some ⟨g,0,none⟩) (al+1) mc) rfl;have hml:mb<w2.heap.size:=(uh uq).1.box.lt;have Fa:=ak (D6 f (.slice (some ⟨fg,0,none⟩) f.length fc) ql w2 (J3 (uh uq).2.1 (uh Bj)));obtain⟨c0,c1,c2,c3⟩:=gc al f.length (by omega) (by omega);go_wp2_with fail;refine(uh Fa).mono ?_;rintro e w3 ⟨rfl,hw3⟩;obtain rfl:=hw3.symm;have x1:=uh Gs 1 (by have:=uh HL2;omega);have hl1:(1:Int)<(f.length:Int):=by have:=uh HL2;omega
 have aix:1<f.length:=by have:=uh HL2;omega
 have Uf:=ak (uh uq).1;have hA:Below w2.heap.size w2 (w2.alloc (.cells #[.string (fA f 1)] 9)).drew:=((iq _ _).alloc (gu _) _).drew;have hgA:=(uh Uf).below hA;obtain⟨v1,hc1,ho1,hgl,hgrow⟩:=Qu (a97 _) (by decide) (by decide) hgA.row;rw[←uh Cm] at hc1;have hsm:=Aj (uh Gf)
 obtain⟨v',w5,hrun,yh,hg5,F9⟩:=Dn ny (w2.alloc (.cells #[.string (fA f 1)] 9)).drew 40 W1.heap.size v1 k.iw ho1 w2.heap.size (fA f 1) (fun j u hu=>by
  have h9:=(oh w2 #[.string (fA f 1)] 9).cell (i:=j) (v:=u) (by simpa[ny] using hu);exact h9) (by show (k.iw.length+1)*16<=_;omega) (ku hgA.but.size (gu _))
 obtain⟨⟨hc5,Oy⟩,bs',hmk⟩:=hgrow v' w5 (fA f 1) (uh HY) yh hg5 F9 (by omega);rw[←uh Cm] at hc5 Oy hmk;have Ku:=ak (hgA.put hm ho1 (by decide) hg5 hgA.Y5 hmk);obtain⟨ia,ic,hv1⟩:=ho1.slice;obtain⟨va,vc,hv'⟩:=yh.slice;obtain⟨n1,hn1⟩:=o8 k.iw.length;obtain⟨n2,hn2⟩:=o8 ((k.iw++[(fA f 1)]).length);rw[←hn1] at hv1;rw[←hn2] at hv';subst hv1 hv';have hrun':(Builtin.append_ #[40,40] 40 #[.slice ia n1 ic,.slice (some ⟨w2.heap.size,0,none⟩) 1 1]).run Tryz.prog (w2.alloc (.cells #[.string (fA f 1)] 9)).drew=.ok (.slice va n2 vc) w5:=hrun;have Df:=ak hrun'
 have Qd:g<w2.heap.size:=by
  obtain⟨abr,Y6,Jc,_⟩:=(uh Uf).row;exact(Az Jc g rfl).2
 have hc0:w2.cell? ⟨g,al*7+3,none⟩=some (.slice ia n1 ic):=(hA.cell (p:=⟨g,_,none⟩) Qd).symm.trans hc1;obtain⟨w6,hw6⟩:=o8 (w5.setCell ⟨g,al*7+3,none⟩ (.slice va n2 vc));rw[←hw6] at Ku;have Tt:=ak hw6;have afb:g<w5.heap.size:=qg hgl hg5.size;clear hrun hrun' hgrow ho1 yh hg5 F9 hmk hn1 hn2 hsm hgA hw6;have qx:Hid (Jz W1 mb (stepS (a++[k]) eu) (.slice (some ⟨g,0,none⟩) (al+1) mc) bs' w6):=ak (by rw[uh I7];exact uh Ku);have x1a:(w2.alloc (.cells #[.string (fA f 1)] 9)).drew.cell? ⟨fg,1,none⟩=some (.string (fA f 1)):=(hA.cell (p:=⟨fg,1,none⟩) hfl).trans x1;go_wp2_with fail;clear x0 m0
 go_region_law (refine uj rfl _ _ 40 40 rfl rfl _ _ _ rfl rfl (uh Df) ?_)
 all_goals
  rw[←uh Tt];clear hc0 hc1 hc5 Oy x1 x1a;go_wp2;refine uh HKK _ _ _ _ rfl ?_ ?_ (uh qx)
  ·exact V3 rfl rfl rfl rfl rfl rfl rfl rfl rfl rfl
  ·rfl
end Go.Proofs.YtfeejeflmcapoaaGreatDoor
