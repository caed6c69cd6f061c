import Derived.Deep.RegionHeld3
import Derived.Deep.QuietTactic
import Derived.BigQuiet
import Derived.Test.YtfeejeflmcapoaaGreatDoorRS6
import Derived.Test.YtfeejeflmcapoaaGreatDoorMI20
set_option linter.unusedSimpArgs false
set_option linter.unusedVariables false
set_option maxHeartbeats 8000000
set_option maxRecDepth 1000000
namespace Go.Proofs.YtfeejeflmcapoaaGreatDoor
open Go.RowKit
theorem a2p (eu:dh) (a:List dw) (k:dw) (hf0:fA (wordsOf 32 eu) 0=Ic) (Uo:(wordsOf 32 eu).length=3) (hty:fA (wordsOf 32 eu) 2=Z9):Qm eu (a++[k]):=by
 intro t rb mb lg n lc u q hu hq hn K K1 PO wr W1 mv bs hgs Qn hlz hwq HK hm;have hfz:=(Au 32 eu).1;have hfp:1<=(wordsOf 32 eu).length:=E5.2 (Ei 32 eu);have Ie:=ak (I4 hgs eu hlz);have HKK:=ak HK;have Ac:=ak (I5 (a++[k]) eu);have Ue:=ak hgs;have hqI:(q:Int)<(n:Int):=by omega
 have Gf:=ak hwq;clear HK hgs hwq;rw[Cj,hu];conv=>arg 2;whnf
 have Bj:=ak (Eb eu hlz);generalize wordsOf 32 eu=f at *;obtain⟨Cb,Jm,Gq,Hg,H8,Io,Gj,Ec,Lp,Ej⟩:=Vb hf0 false true false false false false false false false false (by decide);have aus:((fA f 2).toList==[105,110,116])=true:=by rw[aj9];exact jf hty
 have I7:Hid (stepS (a++[k]) eu=a++[{ k with ins:=k.ins++[⟨fA f 1,1⟩] }]):=ak (by
  rw[uh Ac];unfold Iq;rw[qc hf0 (by decide),Aa];unfold lineS;rw[gy ⟨hf0,Uo⟩,gy hty])
 have HY:Hid (ade ⟨fA f 1,1⟩):=ak ⟨by have h9:=(uh Bj).2 (fA f 1) (by rw[←Jj f 1 (by omega)];exact o7 _);unfold Len;simp only;omega,by unfold I64;simp only;omega⟩;have d3:((f.length:Int)==3)=true:=by rw[Uo];rfl
 have Ol:=ak Uo;clear hf0 hty Ac Uo;go_wp2_with fail;refine(uh Ie).mono ?_;rintro e w2 ⟨fg,fc,rfl,uq,Gs,hfl⟩;have x0:=uh Gs 0 (by omega);obtain⟨g,mc,hmv⟩:=Lh (uh uq).1.row;obtain⟨al,hal⟩:=o8 a.length;have Cm:=ak hal
 have hnb:al<=1048577:=by
  have h9:=uh Gf;unfold pz at h9;rw[jh] at h9;omega
 rw[←hal] at hmv;clear hal;subst hmv;have m0:=(uh uq).1.box.cell (i:=0) (v:=.slice (some ⟨g,0,none⟩) (al+1) mc) rfl;have hml:mb<w2.heap.size:=(uh uq).1.box.lt;have Fa:=ak (D6 f (.slice (some ⟨fg,0,none⟩) f.length fc) ql w2 (J3 (uh uq).2.1 (uh Bj)));obtain⟨c0,c1,c2,c3⟩:=gc al f.length (by omega) (by omega);go_wp2_with fail;refine(uh Fa).mono ?_;rintro e w3 ⟨rfl,hw3⟩;obtain rfl:=hw3.symm;have x1:=uh Gs 1 (by have:=uh Ol;omega);have x2:=uh Gs 2 (by have:=uh Ol;omega);have hl1:(1:Int)<(f.length:Int):=by have:=uh Ol;omega
 have hl2:(2:Int)<(f.length:Int):=by have:=uh Ol;omega
 obtain⟨X,hX⟩:=o8 (w2.alloc (.cells #[.string (fA f 1),.int .i64 1] 54));have hbX:Below w2.heap.size w2 X:=by rw[hX];exact(iq _ _).alloc (gu _) _
 have hsX:jd X w2.heap.size 54 #[.string (fA f 1),.int .i64 1]:=by rw[hX];exact aa2 rfl
 have hzX:X.heap.size=w2.heap.size+1:=by rw[hX];simp[World.setCell]
 have Uf:=ak ((uh uq).1.below hbX);have s0:=hsX.cell (i:=0) (v:=.string (fA f 1)) rfl;have s1:=hsX.cell (i:=1) (v:=.int .i64 1) rfl;have HX:=ak hX;have xx0:=(hbX.cell (p:=⟨fg,0,none⟩) hfl).trans x0;clear hX hzX;have hA:Below X.heap.size X (X.alloc (.cells #[.string (fA f 1),.int .i64 1] 54)).drew:=((iq _ _).alloc (gu _) _).drew;have hgA:=(uh Uf).below hA;obtain⟨v1,hc1,ho1,hgl,hgrow⟩:=Qu (a2d _) (by decide) (by decide) hgA.row;rw[←uh Cm] at hc1;have hsm:=Aj (uh Gf)
 obtain⟨v',w5,hrun,yh,hg5,F9⟩:=Dn F5 (X.alloc (.cells #[.string (fA f 1),.int .i64 1] 54)).drew 46 W1.heap.size v1 k.ins ho1 X.heap.size (⟨fA f 1,1⟩:jw) (fun j u hu=>by
  have h9:=(oh X #[.string (fA f 1),.int .i64 1] 54).cell (i:=j) (v:=u) (by simpa[F5] using hu);exact h9) (by show (k.ins.length+1)*24<=_;omega) (ku hgA.but.size (gu _))
 obtain⟨⟨hc5,Oy⟩,bs',hmk⟩:=hgrow v' w5 (⟨fA f 1,1⟩:jw) (uh HY) yh hg5 F9 (by omega);rw[←uh Cm] at hc5 Oy hmk;have Ku:=ak (hgA.put hm ho1 (by decide) hg5 hgA.Y5 hmk);obtain⟨ia,ic,hv1⟩:=ho1.slice;obtain⟨va,vc,hv'⟩:=yh.slice;obtain⟨n1,hn1⟩:=o8 k.ins.length;obtain⟨n2,hn2⟩:=o8 ((k.ins++[(⟨fA f 1,1⟩:jw)]).length);rw[←hn1] at hv1;rw[←hn2] at hv';subst hv1 hv';have hrun':(Builtin.append_ #[46,46] 46 #[.slice ia n1 ic,.slice (some ⟨X.heap.size,0,none⟩) 1 1]).run Tryz.prog (X.alloc (.cells #[.string (fA f 1),.int .i64 1] 54)).drew=.ok (.slice va n2 vc) w5:=hrun;have Df:=ak hrun'
 have Qd:g<X.heap.size:=by
  obtain⟨abr,Y6,Jc,_⟩:=(uh Uf).row;exact(Az Jc g rfl).2
 have hc0:X.cell? ⟨g,al*7+1,none⟩=some (.slice ia n1 ic):=(hA.cell (p:=⟨g,_,none⟩) Qd).symm.trans hc1;obtain⟨w6,hw6⟩:=o8 (w5.setCell ⟨g,al*7+1,none⟩ (.slice va n2 vc));rw[←hw6] at Ku;have Tt:=ak hw6;have afb:g<w5.heap.size:=qg hgl hg5.size;clear hrun hrun' hgrow ho1 yh hg5 F9 hmk hn1 hn2 hsm hgA hw6;have qx:Hid (Jz W1 mb (stepS (a++[k]) eu) (.slice (some ⟨g,0,none⟩) (al+1) mc) bs' w6):=ak (by rw[uh I7];exact uh Ku);go_wp2_with fail;rw[←uh HX];clear x0 x1 x2 xx0 m0
 go_region_law (refine uj rfl _ _ 46 46 rfl rfl _ _ _ rfl rfl (uh Df) ?_)
 all_goals
  rw[←uh Tt];clear hc0 hc1 hc5 Oy s0 s1;go_wp2;refine uh HKK _ _ _ _ rfl ?_ ?_ (uh qx)
  ·exact V3 rfl rfl rfl rfl rfl rfl rfl rfl rfl rfl
  ·rfl
theorem ax7 (eu:dh) (a:List dw) (k:dw) (hf0:fA (wordsOf 32 eu) 0=Ic) (Uo:(wordsOf 32 eu).length=3) (hty:¬fA (wordsOf 32 eu) 2=Z9):Qm eu (a++[k]):=by
 intro t rb mb lg n lc u q hu hq hn K K1 PO wr W1 mv bs hgs Qn hlz hwq HK hm;have hfz:=(Au 32 eu).1;have hfp:1<=(wordsOf 32 eu).length:=E5.2 (Ei 32 eu);have Ie:=ak (I4 hgs eu hlz);have HKK:=ak HK;have Ac:=ak (I5 (a++[k]) eu);have Ue:=ak hgs;have hqI:(q:Int)<(n:Int):=by omega
 have Gf:=ak hwq;clear HK hgs hwq;rw[Cj,hu];conv=>arg 2;whnf
 have Bj:=ak (Eb eu hlz);generalize wordsOf 32 eu=f at *;obtain⟨Cb,Jm,Gq,Hg,H8,Io,Gj,Ec,Lp,Ej⟩:=Vb hf0 false true false false false false false false false false (by decide);have aus:((fA f 2).toList==[105,110,116])=false:=by rw[aj9];exact iy hty
 have I7:Hid (stepS (a++[k]) eu=a++[{ k with ins:=k.ins++[⟨fA f 1,2⟩] }]):=ak (by
  rw[uh Ac];unfold Iq;rw[qc hf0 (by decide),Aa];unfold lineS;rw[gy ⟨hf0,Uo⟩,bf hty])
 have HY:Hid (ade ⟨fA f 1,2⟩):=ak ⟨by have h9:=(uh Bj).2 (fA f 1) (by rw[←Jj f 1 (by omega)];exact o7 _);unfold Len;simp only;omega,by unfold I64;simp only;omega⟩;have d3:((f.length:Int)==3)=true:=by rw[Uo];rfl
 have Ol:=ak Uo;clear hf0 hty Ac Uo;go_wp2_with fail;refine(uh Ie).mono ?_;rintro e w2 ⟨fg,fc,rfl,uq,Gs,hfl⟩;have x0:=uh Gs 0 (by omega);obtain⟨g,mc,hmv⟩:=Lh (uh uq).1.row;obtain⟨al,hal⟩:=o8 a.length;have Cm:=ak hal
 have hnb:al<=1048577:=by
  have h9:=uh Gf;unfold pz at h9;rw[jh] at h9;omega
 rw[←hal] at hmv;clear hal;subst hmv;have m0:=(uh uq).1.box.cell (i:=0) (v:=.slice (some ⟨g,0,none⟩) (al+1) mc) rfl;have hml:mb<w2.heap.size:=(uh uq).1.box.lt;have Fa:=ak (D6 f (.slice (some ⟨fg,0,none⟩) f.length fc) ql w2 (J3 (uh uq).2.1 (uh Bj)));obtain⟨c0,c1,c2,c3⟩:=gc al f.length (by omega) (by omega);go_wp2_with fail;refine(uh Fa).mono ?_;rintro e w3 ⟨rfl,hw3⟩;obtain rfl:=hw3.symm;have x1:=uh Gs 1 (by have:=uh Ol;omega);have x2:=uh Gs 2 (by have:=uh Ol;omega);have hl1:(1:Int)<(f.length:Int):=by have:=uh Ol;omega
 have hl2:(2:Int)<(f.length:Int):=by have:=uh Ol;omega
 obtain⟨X,hX⟩:=o8 (w2.alloc (.cells #[.string (fA f 1),.int .i64 2] 54));have hbX:Below w2.heap.size w2 X:=by rw[hX];exact(iq _ _).alloc (gu _) _
 have hsX:jd X w2.heap.size 54 #[.string (fA f 1),.int .i64 2]:=by rw[hX];exact aa2 rfl
 have hzX:X.heap.size=w2.heap.size+1:=by rw[hX];simp[World.setCell]
 have Uf:=ak ((uh uq).1.below hbX);have s0:=hsX.cell (i:=0) (v:=.string (fA f 1)) rfl;have s1:=hsX.cell (i:=1) (v:=.int .i64 2) rfl;have HX:=ak hX;have xx0:=(hbX.cell (p:=⟨fg,0,none⟩) hfl).trans x0;clear hX hzX;have hA:Below X.heap.size X (X.alloc (.cells #[.string (fA f 1),.int .i64 2] 54)).drew:=((iq _ _).alloc (gu _) _).drew;have hgA:=(uh Uf).below hA;obtain⟨v1,hc1,ho1,hgl,hgrow⟩:=Qu (a2d _) (by decide) (by decide) hgA.row;rw[←uh Cm] at hc1;have hsm:=Aj (uh Gf)
 obtain⟨v',w5,hrun,yh,hg5,F9⟩:=Dn F5 (X.alloc (.cells #[.string (fA f 1),.int .i64 2] 54)).drew 46 W1.heap.size v1 k.ins ho1 X.heap.size (⟨fA f 1,2⟩:jw) (fun j u hu=>by
  have h9:=(oh X #[.string (fA f 1),.int .i64 2] 54).cell (i:=j) (v:=u) (by simpa[F5] using hu);exact h9) (by show (k.ins.length+1)*24<=_;omega) (ku hgA.but.size (gu _))
 obtain⟨⟨hc5,Oy⟩,bs',hmk⟩:=hgrow v' w5 (⟨fA f 1,2⟩:jw) (uh HY) yh hg5 F9 (by omega);rw[←uh Cm] at hc5 Oy hmk;have Ku:=ak (hgA.put hm ho1 (by decide) hg5 hgA.Y5 hmk);obtain⟨ia,ic,hv1⟩:=ho1.slice;obtain⟨va,vc,hv'⟩:=yh.slice;obtain⟨n1,hn1⟩:=o8 k.ins.length;obtain⟨n2,hn2⟩:=o8 ((k.ins++[(⟨fA f 1,2⟩:jw)]).length);rw[←hn1] at hv1;rw[←hn2] at hv';subst hv1 hv';have hrun':(Builtin.append_ #[46,46] 46 #[.slice ia n1 ic,.slice (some ⟨X.heap.size,0,none⟩) 1 1]).run Tryz.prog (X.alloc (.cells #[.string (fA f 1),.int .i64 2] 54)).drew=.ok (.slice va n2 vc) w5:=hrun;have Df:=ak hrun'
 have Qd:g<X.heap.size:=by
  obtain⟨abr,Y6,Jc,_⟩:=(uh Uf).row;exact(Az Jc g rfl).2
 have hc0:X.cell? ⟨g,al*7+1,none⟩=some (.slice ia n1 ic):=(hA.cell (p:=⟨g,_,none⟩) Qd).symm.trans hc1;obtain⟨w6,hw6⟩:=o8 (w5.setCell ⟨g,al*7+1,none⟩ (.slice va n2 vc));rw[←hw6] at Ku;have Tt:=ak hw6;have afb:g<w5.heap.size:=qg hgl hg5.size;clear hrun hrun' hgrow ho1 yh hg5 F9 hmk hn1 hn2 hsm hgA hw6;have qx:Hid (Jz W1 mb (stepS (a++[k]) eu) (.slice (some ⟨g,0,none⟩) (al+1) mc) bs' w6):=ak (by rw[uh I7];exact uh Ku);go_wp2_with fail;rw[←uh HX];clear x0 x1 x2 xx0 m0
 go_region_law (refine uj rfl _ _ 46 46 rfl rfl _ _ _ rfl rfl (uh Df) ?_)
 all_goals
  rw[←uh Tt];clear hc0 hc1 hc5 Oy s0 s1;go_wp2;refine uh HKK _ _ _ _ rfl ?_ ?_ (uh qx)
  ·exact V3 rfl rfl rfl rfl rfl rfl rfl rfl rfl rfl
  ·rfl
theorem ax8 (eu:dh) (a:List dw) (k:dw) (hf0:fA (wordsOf 32 eu) 0=Dz) (Uo:(wordsOf 32 eu).length=3) (hty:fA (wordsOf 32 eu) 2=Z9):Qm eu (a++[k]):=by
 intro t rb mb lg n lc u q hu hq hn K K1 PO wr W1 mv bs hgs Qn hlz hwq HK hm;have hfz:=(Au 32 eu).1;have hfp:1<=(wordsOf 32 eu).length:=E5.2 (Ei 32 eu);have Ie:=ak (I4 hgs eu hlz);have HKK:=ak HK;have Ac:=ak (I5 (a++[k]) eu);have Ue:=ak hgs;have hqI:(q:Int)<(n:Int):=by omega
 have Gf:=ak hwq;clear HK hgs hwq;rw[Cj,hu];conv=>arg 2;whnf
 have Bj:=ak (Eb eu hlz);generalize wordsOf 32 eu=f at *;obtain⟨Cb,Jm,Gq,Hg,H8,Io,Gj,Ec,Lp,Ej⟩:=Vb hf0 false false true false false false false false false false (by decide);have aus:((fA f 2).toList==[105,110,116])=true:=by rw[aj9];exact jf hty
 have I7:Hid (stepS (a++[k]) eu=a++[{ k with au:=k.au++[⟨fA f 1,1⟩] }]):=ak (by
  rw[uh Ac];unfold Iq;rw[qc hf0 (by decide),Aa];unfold lineS;rw[qc hf0 (by decide),gy ⟨hf0,Uo⟩,gy hty])
 have HY:Hid (ade ⟨fA f 1,1⟩):=ak ⟨by have h9:=(uh Bj).2 (fA f 1) (by rw[←Jj f 1 (by omega)];exact o7 _);unfold Len;simp only;omega,by unfold I64;simp only;omega⟩;have d3:((f.length:Int)==3)=true:=by rw[Uo];rfl
 have Ol:=ak Uo;clear hf0 hty Ac Uo;go_wp2_with fail;refine(uh Ie).mono ?_;rintro e w2 ⟨fg,fc,rfl,uq,Gs,hfl⟩;have x0:=uh Gs 0 (by omega);obtain⟨g,mc,hmv⟩:=Lh (uh uq).1.row;obtain⟨al,hal⟩:=o8 a.length;have Cm:=ak hal
 have hnb:al<=1048577:=by
  have h9:=uh Gf;unfold pz at h9;rw[jh] at h9;omega
 rw[←hal] at hmv;clear hal;subst hmv;have m0:=(uh uq).1.box.cell (i:=0) (v:=.slice (some ⟨g,0,none⟩) (al+1) mc) rfl;have hml:mb<w2.heap.size:=(uh uq).1.box.lt;have Fa:=ak (D6 f (.slice (some ⟨fg,0,none⟩) f.length fc) ql w2 (J3 (uh uq).2.1 (uh Bj)));obtain⟨c0,c1,c2,c3⟩:=gc al f.length (by omega) (by omega);go_wp2_with fail;refine(uh Fa).mono ?_;rintro e w3 ⟨rfl,hw3⟩;obtain rfl:=hw3.symm;have x1:=uh Gs 1 (by have:=uh Ol;omega);have x2:=uh Gs 2 (by have:=uh Ol;omega);have hl1:(1:Int)<(f.length:Int):=by have:=uh Ol;omega
 have hl2:(2:Int)<(f.length:Int):=by have:=uh Ol;omega
 obtain⟨X,hX⟩:=o8 (w2.alloc (.cells #[.string (fA f 1),.int .i64 1] 54));have hbX:Below w2.heap.size w2 X:=by rw[hX];exact(iq _ _).alloc (gu _) _
 have hsX:jd X w2.heap.size 54 #[.string (fA f 1),.int .i64 1]:=by rw[hX];exact aa2 rfl
 have hzX:X.heap.size=w2.heap.size+1:=by rw[hX];simp[World.setCell]
 have Uf:=ak ((uh uq).1.below hbX);have s0:=hsX.cell (i:=0) (v:=.string (fA f 1)) rfl;have s1:=hsX.cell (i:=1) (v:=.int .i64 1) rfl;have HX:=ak hX;have xx0:=(hbX.cell (p:=⟨fg,0,none⟩) hfl).trans x0;clear hX hzX;have hA:Below X.heap.size X (X.alloc (.cells #[.string (fA f 1),.int .i64 1] 54)).drew:=((iq _ _).alloc (gu _) _).drew;have hgA:=(uh Uf).below hA;obtain⟨v1,hc1,ho1,hgl,hgrow⟩:=Qu (a2e _) (by decide) (by decide) hgA.row;rw[←uh Cm] at hc1;have hsm:=Aj (uh Gf)
 obtain⟨v',w5,hrun,yh,hg5,F9⟩:=Dn F5 (X.alloc (.cells #[.string (fA f 1),.int .i64 1] 54)).drew 46 W1.heap.size v1 k.au ho1 X.heap.size (⟨fA f 1,1⟩:jw) (fun j u hu=>by
  have h9:=(oh X #[.string (fA f 1),.int .i64 1] 54).cell (i:=j) (v:=u) (by simpa[F5] using hu);exact h9) (by show (k.au.length+1)*24<=_;omega) (ku hgA.but.size (gu _))
 obtain⟨⟨hc5,Oy⟩,bs',hmk⟩:=hgrow v' w5 (⟨fA f 1,1⟩:jw) (uh HY) yh hg5 F9 (by omega);rw[←uh Cm] at hc5 Oy hmk;have Ku:=ak (hgA.put hm ho1 (by decide) hg5 hgA.Y5 hmk);obtain⟨ia,ic,hv1⟩:=ho1.slice;obtain⟨va,vc,hv'⟩:=yh.slice;obtain⟨n1,hn1⟩:=o8 k.au.length;obtain⟨n2,hn2⟩:=o8 ((k.au++[(⟨fA f 1,1⟩:jw)]).length);rw[←hn1] at hv1;rw[←hn2] at hv';subst hv1 hv';have hrun':(Builtin.append_ #[46,46] 46 #[.slice ia n1 ic,.slice (some ⟨X.heap.size,0,none⟩) 1 1]).run Tryz.prog (X.alloc (.cells #[.string (fA f 1),.int .i64 1] 54)).drew=.ok (.slice va n2 vc) w5:=hrun;have Df:=ak hrun'
 have Qd:g<X.heap.size:=by
  obtain⟨abr,Y6,Jc,_⟩:=(uh Uf).row;exact(Az Jc g rfl).2
 have hc0:X.cell? ⟨g,al*7+2,none⟩=some (.slice ia n1 ic):=(hA.cell (p:=⟨g,_,none⟩) Qd).symm.trans hc1;obtain⟨w6,hw6⟩:=o8 (w5.setCell ⟨g,al*7+2,none⟩ (.slice va n2 vc));rw[←hw6] at Ku;have Tt:=ak hw6;have afb:g<w5.heap.size:=qg hgl hg5.size;clear hrun hrun' hgrow ho1 yh hg5 F9 hmk hn1 hn2 hsm hgA hw6;have qx:Hid (Jz W1 mb (stepS (a++[k]) eu) (.slice (some ⟨g,0,none⟩) (al+1) mc) bs' w6):=ak (by rw[uh I7];exact uh Ku);go_wp2_with fail;rw[←uh HX];clear x0 x1 x2 xx0 m0
 go_region_law (refine uj rfl _ _ 46 46 rfl rfl _ _ _ rfl rfl (uh Df) ?_)
 all_goals
  rw[←uh Tt];clear hc0 hc1 hc5 Oy s0 s1;go_wp2;refine uh HKK _ _ _ _ rfl ?_ ?_ (uh qx)
  ·exact V3 rfl rfl rfl rfl rfl rfl rfl rfl rfl rfl
  ·rfl
theorem aut (eu:dh) (a:List dw) (k:dw) (hf0:fA (wordsOf 32 eu) 0=Dz) (Uo:(wordsOf 32 eu).length=3) (hty:¬fA (wordsOf 32 eu) 2=Z9):Qm eu (a++[k]):=by
 intro t rb mb lg n lc u q hu hq hn K K1 PO wr W1 mv bs hgs Qn hlz hwq HK hm;have hfz:=(Au 32 eu).1;have hfp:1<=(wordsOf 32 eu).length:=E5.2 (Ei 32 eu);have Ie:=ak (I4 hgs eu hlz);have HKK:=ak HK;have Ac:=ak (I5 (a++[k]) eu);have Ue:=ak hgs;have hqI:(q:Int)<(n:Int):=by omega
 have Gf:=ak hwq;clear HK hgs hwq;rw[Cj,hu];conv=>arg 2;whnf
 have Bj:=ak (Eb eu hlz);generalize wordsOf 32 eu=f at *;obtain⟨Cb,Jm,Gq,Hg,H8,Io,Gj,Ec,Lp,Ej⟩:=Vb hf0 false false true false false false false false false false (by decide);have aus:((fA f 2).toList==[105,110,116])=false:=by rw[aj9];exact iy hty
 have I7:Hid (stepS (a++[k]) eu=a++[{ k with au:=k.au++[⟨fA f 1,2⟩] }]):=ak (by
  rw[uh Ac];unfold Iq;rw[qc hf0 (by decide),Aa];unfold lineS;rw[qc hf0 (by decide),gy ⟨hf0,Uo⟩,bf hty])
 have HY:Hid (ade ⟨fA f 1,2⟩):=ak ⟨by have h9:=(uh Bj).2 (fA f 1) (by rw[←Jj f 1 (by omega)];exact o7 _);unfold Len;simp only;omega,by unfold I64;simp only;omega⟩;have d3:((f.length:Int)==3)=true:=by rw[Uo];rfl
 have Ol:=ak Uo;clear hf0 hty Ac Uo;go_wp2_with fail;refine(uh Ie).mono ?_;rintro e w2 ⟨fg,fc,rfl,uq,Gs,hfl⟩;have x0:=uh Gs 0 (by omega);obtain⟨g,mc,hmv⟩:=Lh (uh uq).1.row;obtain⟨al,hal⟩:=o8 a.length;have Cm:=ak hal
 have hnb:al<=1048577:=by
  have h9:=uh Gf;unfold pz at h9;rw[jh] at h9;omega
 rw[←hal] at hmv;clear hal;subst hmv;have m0:=(uh uq).1.box.cell (i:=0) (v:=.slice (some ⟨g,0,none⟩) (al+1) mc) rfl;have hml:mb<w2.heap.size:=(uh uq).1.box.lt;have Fa:=ak (D6 f (.slice (some ⟨fg,0,none⟩) f.length fc) ql w2 (J3 (uh uq).2.1 (uh Bj)));obtain⟨c0,c1,c2,c3⟩:=gc al f.length (by omega) (by omega);go_wp2_with fail;refine(uh Fa).mono ?_;rintro e w3 ⟨rfl,hw3⟩;obtain rfl:=hw3.symm;have x1:=uh Gs 1 (by have:=uh Ol;omega);have x2:=uh Gs 2 (by have:=uh Ol;omega);have hl1:(1:Int)<(f.length:Int):=by have:=uh Ol;omega
 have hl2:(2:Int)<(f.length:Int):=by have:=uh Ol;omega
 obtain⟨X,hX⟩:=o8 (w2.alloc (.cells #[.string (fA f 1),.int .i64 2] 54));have hbX:Below w2.heap.size w2 X:=by rw[hX];exact(iq _ _).alloc (gu _) _
 have hsX:jd X w2.heap.size 54 #[.string (fA f 1),.int .i64 2]:=by rw[hX];exact aa2 rfl
 have hzX:X.heap.size=w2.heap.size+1:=by rw[hX];simp[World.setCell]
 have Uf:=ak ((uh uq).1.below hbX);have s0:=hsX.cell (i:=0) (v:=.string (fA f 1)) rfl;have s1:=hsX.cell (i:=1) (v:=.int .i64 2) rfl;have HX:=ak hX;have xx0:=(hbX.cell (p:=⟨fg,0,none⟩) hfl).trans x0;clear hX hzX;have hA:Below X.heap.size X (X.alloc (.cells #[.string (fA f 1),.int .i64 2] 54)).drew:=((iq _ _).alloc (gu _) _).drew;have hgA:=(uh Uf).below hA;obtain⟨v1,hc1,ho1,hgl,hgrow⟩:=Qu (a2e _) (by decide) (by decide) hgA.row;rw[←uh Cm] at hc1;have hsm:=Aj (uh Gf)
 obtain⟨v',w5,hrun,yh,hg5,F9⟩:=Dn F5 (X.alloc (.cells #[.string (fA f 1),.int .i64 2] 54)).drew 46 W1.heap.size v1 k.au ho1 X.heap.size (⟨fA f 1,2⟩:jw) (fun j u hu=>by
  have h9:=(oh X #[.string (fA f 1),.int .i64 2] 54).cell (i:=j) (v:=u) (by simpa[F5] using hu);exact h9) (by show (k.au.length+1)*24<=_;omega) (ku hgA.but.size (gu _))
 obtain⟨⟨hc5,Oy⟩,bs',hmk⟩:=hgrow v' w5 (⟨fA f 1,2⟩:jw) (uh HY) yh hg5 F9 (by omega);rw[←uh Cm] at hc5 Oy hmk;have Ku:=ak (hgA.put hm ho1 (by decide) hg5 hgA.Y5 hmk);obtain⟨ia,ic,hv1⟩:=ho1.slice;obtain⟨va,vc,hv'⟩:=yh.slice;obtain⟨n1,hn1⟩:=o8 k.au.length;obtain⟨n2,hn2⟩:=o8 ((k.au++[(⟨fA f 1,2⟩:jw)]).length);rw[←hn1] at hv1;rw[←hn2] at hv';subst hv1 hv';have hrun':(Builtin.append_ #[46,46] 46 #[.slice ia n1 ic,.slice (some ⟨X.heap.size,0,none⟩) 1 1]).run Tryz.prog (X.alloc (.cells #[.string (fA f 1),.int .i64 2] 54)).drew=.ok (.slice va n2 vc) w5:=hrun;have Df:=ak hrun'
 have Qd:g<X.heap.size:=by
  obtain⟨abr,Y6,Jc,_⟩:=(uh Uf).row;exact(Az Jc g rfl).2
 have hc0:X.cell? ⟨g,al*7+2,none⟩=some (.slice ia n1 ic):=(hA.cell (p:=⟨g,_,none⟩) Qd).symm.trans hc1;obtain⟨w6,hw6⟩:=o8 (w5.setCell ⟨g,al*7+2,none⟩ (.slice va n2 vc));rw[←hw6] at Ku;have Tt:=ak hw6;have afb:g<w5.heap.size:=qg hgl hg5.size;clear hrun hrun' hgrow ho1 yh hg5 F9 hmk hn1 hn2 hsm hgA hw6;have qx:Hid (Jz W1 mb (stepS (a++[k]) eu) (.slice (some ⟨g,0,none⟩) (al+1) mc) bs' w6):=ak (by rw[uh I7];exact uh Ku);go_wp2_with fail;rw[←uh HX];clear x0 x1 x2 xx0 m0
 go_region_law (refine uj rfl _ _ 46 46 rfl rfl _ _ _ rfl rfl (uh Df) ?_)
 all_goals
  rw[←uh Tt];clear hc0 hc1 hc5 Oy s0 s1;go_wp2;refine uh HKK _ _ _ _ rfl ?_ ?_ (uh qx)
  ·exact V3 rfl rfl rfl rfl rfl rfl rfl rfl rfl rfl
  ·rfl
end Go.Proofs.YtfeejeflmcapoaaGreatDoor
