import Derived.Deep.RegionHeld3
import Derived.Deep.QuietTactic
import Derived.BigQuiet
import Derived.Test.YtfeejeflmcapoaaGreatDoorRH1
import Derived.Test.YtfeejeflmcapoaaGreatDoorMI20
set_option linter.unusedSimpArgs false
set_option linter.unusedVariables false
set_option maxHeartbeats 8000000
namespace Go.Proofs.YtfeejeflmcapoaaGreatDoor
open Go.RowKit
set_option maxRecDepth 1000000 in
theorem a2y (cu:dh) (a:List dw) (k:dw) (hf0:fA (wordsOf 32 cu) 0=Ik) (Uu:(wordsOf 32 cu).length=3) (hty:fA (wordsOf 32 cu) 2=aaf):Ji cu (a++[k]):=by
 intro t rb mb lg n lc u q hu hq hn K K1 PO wr W1 mv bs hgs Jj hlz hwq HK hm;have hfz:=(yg 32 cu).1;have hfp:1<=(wordsOf 32 cu).length:=Bg.2 (Aj 32 cu);have Dc:=hide (Du hgs cu hlz);have HKK:=hide HK;have zf:=hide (Dv (a++[k]) cu);have Ol:=hide hgs;have Ug:(q:Int)<(n:Int):=by omega
 have Ci:=hide hwq;clear HK hgs hwq;rw[zh,hu];conv=>arg 2;whnf
 have Af:=hide (zq cu hlz);generalize wordsOf 32 cu=f at *;obtain⟨Df,Jr,Gy,Hu,Ih,Iw,Gs,Em,Lr,Et⟩:=Vg hf0 false true false false false false false false false false (by decide);have auu:((fA f 2).toList == [105,110,116])=true:=by rw[akb];exact jf hty
 have Gn:Hid (stepS (a++[k]) cu=a++[{ k with ins:=k.ins++[⟨fA f 1,1⟩] }]):=hide (by
  rw[uh zf];unfold Iz;rw[qg hf0 (by decide),Ae];unfold lineS;rw[gu ⟨hf0,Uu⟩,gu hty])
 have HY:Hid (adh ⟨fA f 1,1⟩):=hide ⟨by have h9:=(uh Af).2 (fA f 1) (by rw[←Jo f 1 (by omega)];exact pz _);unfold Len;simp only;omega,by unfold I64;simp only;omega⟩;have d3:((f.length:Int) == 3)=true:=by rw[Uu];rfl
 have Oq:=hide Uu;clear hf0 hty zf Uu;go_wp2_with fail;refine(uh Dc).mono ?_;rintro e w2 ⟨fg,fc,rfl,o7,Dk,hfl⟩;have x0:=uh Dk 0 (by omega);obtain⟨g,mc,hmv⟩:=E8 (uh o7).1.row;obtain⟨al,hal⟩:∃z,z=a.length:=⟨_,rfl⟩;have Ba:=hide hal
 have hnb:al<=1048577:=by
  have h9:=uh Ci;unfold oq at h9;rw[je] at h9;omega
 rw[←hal] at hmv;clear hal;subst hmv;have m0:=(uh o7).1.box.cell (i:=0) (v:=.slice (some ⟨g,0,none⟩) (al+1) mc) rfl;have hml:mb<w2.heap.size:=(uh o7).1.box.lt;have Bj:=hide (Aa f (.slice (some ⟨fg,0,none⟩) f.length fc) ou w2 (Fh (uh o7).2.1 (uh Af)));obtain⟨c0,c1,c2,c3⟩:=gc al f.length (by omega) (by omega);go_wp2_with fail;refine(uh Bj).mono ?_;rintro e w3 ⟨rfl,hw3⟩;obtain rfl:=hw3.symm;have x1:=uh Dk 1 (by have:=uh Oq;omega);have x2:=uh Dk 2 (by have:=uh Oq;omega);have hl1:(1:Int)<(f.length:Int):=by have:=uh Oq;omega
 have hl2:(2:Int)<(f.length:Int):=by have:=uh Oq;omega
 obtain⟨X,hX⟩:∃z,z=w2.alloc (.cells #[.string (fA f 1),.int .i64 1] 54):=⟨_,rfl⟩;have hbX:Below w2.heap.size w2 X:=by rw[hX];exact(gy _ _).alloc (gq _) _
 have hsX:jc X w2.heap.size 54 #[.string (fA f 1),.int .i64 1]:=by rw[hX];exact aa8 rfl
 have hzX:X.heap.size=w2.heap.size+1:=by rw[hX];simp[World.setCell]
 have Uj:=hide ((uh o7).1.below hbX);have s0:=hsX.cell (i:=0) (v:=.string (fA f 1)) rfl;have s1:=hsX.cell (i:=1) (v:=.int .i64 1) rfl;have HX:=hide hX;have xx0:=(hbX.cell (p:=⟨fg,0,none⟩) hfl).trans x0;clear hX hzX;have hA:Below X.heap.size X (X.alloc (.cells #[.string (fA f 1),.int .i64 1] 54)).drew:=((gy _ _).alloc (gq _) _).drew;have hgA:=(uh Uj).below hA;obtain⟨v1,hc1,ho1,hgl,hgrow⟩:=Q8 (a1q _) (by decide) (by decide) hgA.row;rw[←uh Ba] at hc1;have hsm:=Aq (uh Ci)
 obtain⟨v',w5,hrun,yc,hg5,Gm⟩:=Dz Gh (X.alloc (.cells #[.string (fA f 1),.int .i64 1] 54)).drew 46 W1.heap.size v1 k.ins ho1 X.heap.size (⟨fA f 1,1⟩:jw) (fun j u hu=>by
  have h9:=(og X #[.string (fA f 1),.int .i64 1] 54).cell (i:=j) (v:=u) (by simpa[Gh] using hu);exact h9) (by show (k.ins.length+1)*24<=_;omega) (jq hgA.but.size (gq _))
 obtain⟨⟨hc5,O6⟩,bs',hmk⟩:=hgrow v' w5 (⟨fA f 1,1⟩:jw) (uh HY) yc hg5 Gm (by omega);rw[←uh Ba] at hc5 O6 hmk;have Ky:=hide (hgA.put hm ho1 (by decide) hg5 hgA.Y7 hmk);obtain⟨ia,ic,hv1⟩:=ho1.slice;obtain⟨va,vc,hv'⟩:=yc.slice;obtain⟨n1,hn1⟩:∃z,z=k.ins.length:=⟨_,rfl⟩;obtain⟨n2,hn2⟩:∃z,z=(k.ins++[(⟨fA f 1,1⟩:jw)]).length:=⟨_,rfl⟩;rw[←hn1] at hv1;rw[←hn2] at hv';subst hv1 hv';have hrun':(Builtin.append_ #[46,46] 46 #[.slice ia n1 ic,.slice (some ⟨X.heap.size,0,none⟩) 1 1]).run Tryz.prog (X.alloc (.cells #[.string (fA f 1),.int .i64 1] 54)).drew=.ok (.slice va n2 vc) w5:=hrun;have Dp:=hide hrun'
 have Ql:g<X.heap.size:=by
  obtain⟨abv,Y8,Jd,_⟩:=(uh Uj).row;exact(Bd Jd g rfl).2
 have hc0:X.cell? ⟨g,al*7+1,none⟩=some (.slice ia n1 ic):=(hA.cell (p:=⟨g,_,none⟩) Ql).symm.trans hc1;obtain⟨w6,hw6⟩:∃z,z=w5.setCell ⟨g,al*7+1,none⟩ (.slice va n2 vc):=⟨_,rfl⟩;rw[←hw6] at Ky;have Uc:=hide hw6;have aff:g<w5.heap.size:=qj hgl hg5.size;clear hrun hrun' hgrow ho1 yc hg5 Gm hmk hn1 hn2 hsm hgA hw6;have qc:Hid (Gw W1 mb (stepS (a++[k]) cu) (.slice (some ⟨g,0,none⟩) (al+1) mc) bs' w6):=hide (by rw[uh Gn];exact uh Ky);go_wp2_with fail;rw[←uh HX];clear x0 x1 x2 xx0 m0
 go_region_law (refine ug rfl _ _ 46 46 rfl rfl _ _ _ rfl rfl (uh Dp) ?_)
 all_goals
  rw[←uh Uc];clear hc0 hc1 hc5 O6 s0 s1;go_wp2;refine uh HKK _ _ _ _ rfl ?_ ?_ (uh qc)
  ·exact Qc rfl rfl rfl rfl rfl rfl rfl rfl rfl rfl
  ·rfl
set_option maxRecDepth 1000000 in
theorem aye (cu:dh) (a:List dw) (k:dw) (hf0:fA (wordsOf 32 cu) 0=Ik) (Uu:(wordsOf 32 cu).length=3) (hty:¬fA (wordsOf 32 cu) 2=aaf):Ji cu (a++[k]):=by
 intro t rb mb lg n lc u q hu hq hn K K1 PO wr W1 mv bs hgs Jj hlz hwq HK hm;have hfz:=(yg 32 cu).1;have hfp:1<=(wordsOf 32 cu).length:=Bg.2 (Aj 32 cu);have Dc:=hide (Du hgs cu hlz);have HKK:=hide HK;have zf:=hide (Dv (a++[k]) cu);have Ol:=hide hgs;have Ug:(q:Int)<(n:Int):=by omega
 have Ci:=hide hwq;clear HK hgs hwq;rw[zh,hu];conv=>arg 2;whnf
 have Af:=hide (zq cu hlz);generalize wordsOf 32 cu=f at *;obtain⟨Df,Jr,Gy,Hu,Ih,Iw,Gs,Em,Lr,Et⟩:=Vg hf0 false true false false false false false false false false (by decide);have auu:((fA f 2).toList == [105,110,116])=false:=by rw[akb];exact iw hty
 have Gn:Hid (stepS (a++[k]) cu=a++[{ k with ins:=k.ins++[⟨fA f 1,2⟩] }]):=hide (by
  rw[uh zf];unfold Iz;rw[qg hf0 (by decide),Ae];unfold lineS;rw[gu ⟨hf0,Uu⟩,ay hty])
 have HY:Hid (adh ⟨fA f 1,2⟩):=hide ⟨by have h9:=(uh Af).2 (fA f 1) (by rw[←Jo f 1 (by omega)];exact pz _);unfold Len;simp only;omega,by unfold I64;simp only;omega⟩;have d3:((f.length:Int) == 3)=true:=by rw[Uu];rfl
 have Oq:=hide Uu;clear hf0 hty zf Uu;go_wp2_with fail;refine(uh Dc).mono ?_;rintro e w2 ⟨fg,fc,rfl,o7,Dk,hfl⟩;have x0:=uh Dk 0 (by omega);obtain⟨g,mc,hmv⟩:=E8 (uh o7).1.row;obtain⟨al,hal⟩:∃z,z=a.length:=⟨_,rfl⟩;have Ba:=hide hal
 have hnb:al<=1048577:=by
  have h9:=uh Ci;unfold oq at h9;rw[je] at h9;omega
 rw[←hal] at hmv;clear hal;subst hmv;have m0:=(uh o7).1.box.cell (i:=0) (v:=.slice (some ⟨g,0,none⟩) (al+1) mc) rfl;have hml:mb<w2.heap.size:=(uh o7).1.box.lt;have Bj:=hide (Aa f (.slice (some ⟨fg,0,none⟩) f.length fc) ou w2 (Fh (uh o7).2.1 (uh Af)));obtain⟨c0,c1,c2,c3⟩:=gc al f.length (by omega) (by omega);go_wp2_with fail;refine(uh Bj).mono ?_;rintro e w3 ⟨rfl,hw3⟩;obtain rfl:=hw3.symm;have x1:=uh Dk 1 (by have:=uh Oq;omega);have x2:=uh Dk 2 (by have:=uh Oq;omega);have hl1:(1:Int)<(f.length:Int):=by have:=uh Oq;omega
 have hl2:(2:Int)<(f.length:Int):=by have:=uh Oq;omega
 obtain⟨X,hX⟩:∃z,z=w2.alloc (.cells #[.string (fA f 1),.int .i64 2] 54):=⟨_,rfl⟩;have hbX:Below w2.heap.size w2 X:=by rw[hX];exact(gy _ _).alloc (gq _) _
 have hsX:jc X w2.heap.size 54 #[.string (fA f 1),.int .i64 2]:=by rw[hX];exact aa8 rfl
 have hzX:X.heap.size=w2.heap.size+1:=by rw[hX];simp[World.setCell]
 have Uj:=hide ((uh o7).1.below hbX);have s0:=hsX.cell (i:=0) (v:=.string (fA f 1)) rfl;have s1:=hsX.cell (i:=1) (v:=.int .i64 2) rfl;have HX:=hide hX;have xx0:=(hbX.cell (p:=⟨fg,0,none⟩) hfl).trans x0;clear hX hzX;have hA:Below X.heap.size X (X.alloc (.cells #[.string (fA f 1),.int .i64 2] 54)).drew:=((gy _ _).alloc (gq _) _).drew;have hgA:=(uh Uj).below hA;obtain⟨v1,hc1,ho1,hgl,hgrow⟩:=Q8 (a1q _) (by decide) (by decide) hgA.row;rw[←uh Ba] at hc1;have hsm:=Aq (uh Ci)
 obtain⟨v',w5,hrun,yc,hg5,Gm⟩:=Dz Gh (X.alloc (.cells #[.string (fA f 1),.int .i64 2] 54)).drew 46 W1.heap.size v1 k.ins ho1 X.heap.size (⟨fA f 1,2⟩:jw) (fun j u hu=>by
  have h9:=(og X #[.string (fA f 1),.int .i64 2] 54).cell (i:=j) (v:=u) (by simpa[Gh] using hu);exact h9) (by show (k.ins.length+1)*24<=_;omega) (jq hgA.but.size (gq _))
 obtain⟨⟨hc5,O6⟩,bs',hmk⟩:=hgrow v' w5 (⟨fA f 1,2⟩:jw) (uh HY) yc hg5 Gm (by omega);rw[←uh Ba] at hc5 O6 hmk;have Ky:=hide (hgA.put hm ho1 (by decide) hg5 hgA.Y7 hmk);obtain⟨ia,ic,hv1⟩:=ho1.slice;obtain⟨va,vc,hv'⟩:=yc.slice;obtain⟨n1,hn1⟩:∃z,z=k.ins.length:=⟨_,rfl⟩;obtain⟨n2,hn2⟩:∃z,z=(k.ins++[(⟨fA f 1,2⟩:jw)]).length:=⟨_,rfl⟩;rw[←hn1] at hv1;rw[←hn2] at hv';subst hv1 hv';have hrun':(Builtin.append_ #[46,46] 46 #[.slice ia n1 ic,.slice (some ⟨X.heap.size,0,none⟩) 1 1]).run Tryz.prog (X.alloc (.cells #[.string (fA f 1),.int .i64 2] 54)).drew=.ok (.slice va n2 vc) w5:=hrun;have Dp:=hide hrun'
 have Ql:g<X.heap.size:=by
  obtain⟨abv,Y8,Jd,_⟩:=(uh Uj).row;exact(Bd Jd g rfl).2
 have hc0:X.cell? ⟨g,al*7+1,none⟩=some (.slice ia n1 ic):=(hA.cell (p:=⟨g,_,none⟩) Ql).symm.trans hc1;obtain⟨w6,hw6⟩:∃z,z=w5.setCell ⟨g,al*7+1,none⟩ (.slice va n2 vc):=⟨_,rfl⟩;rw[←hw6] at Ky;have Uc:=hide hw6;have aff:g<w5.heap.size:=qj hgl hg5.size;clear hrun hrun' hgrow ho1 yc hg5 Gm hmk hn1 hn2 hsm hgA hw6;have qc:Hid (Gw W1 mb (stepS (a++[k]) cu) (.slice (some ⟨g,0,none⟩) (al+1) mc) bs' w6):=hide (by rw[uh Gn];exact uh Ky);go_wp2_with fail;rw[←uh HX];clear x0 x1 x2 xx0 m0
 go_region_law (refine ug rfl _ _ 46 46 rfl rfl _ _ _ rfl rfl (uh Dp) ?_)
 all_goals
  rw[←uh Uc];clear hc0 hc1 hc5 O6 s0 s1;go_wp2;refine uh HKK _ _ _ _ rfl ?_ ?_ (uh qc)
  ·exact Qc rfl rfl rfl rfl rfl rfl rfl rfl rfl rfl
  ·rfl
set_option maxRecDepth 1000000 in
theorem ayf (cu:dh) (a:List dw) (k:dw) (hf0:fA (wordsOf 32 cu) 0=Ee) (Uu:(wordsOf 32 cu).length=3) (hty:fA (wordsOf 32 cu) 2=aaf):Ji cu (a++[k]):=by
 intro t rb mb lg n lc u q hu hq hn K K1 PO wr W1 mv bs hgs Jj hlz hwq HK hm;have hfz:=(yg 32 cu).1;have hfp:1<=(wordsOf 32 cu).length:=Bg.2 (Aj 32 cu);have Dc:=hide (Du hgs cu hlz);have HKK:=hide HK;have zf:=hide (Dv (a++[k]) cu);have Ol:=hide hgs;have Ug:(q:Int)<(n:Int):=by omega
 have Ci:=hide hwq;clear HK hgs hwq;rw[zh,hu];conv=>arg 2;whnf
 have Af:=hide (zq cu hlz);generalize wordsOf 32 cu=f at *;obtain⟨Df,Jr,Gy,Hu,Ih,Iw,Gs,Em,Lr,Et⟩:=Vg hf0 false false true false false false false false false false (by decide);have auu:((fA f 2).toList == [105,110,116])=true:=by rw[akb];exact jf hty
 have Gn:Hid (stepS (a++[k]) cu=a++[{ k with ak:=k.ak++[⟨fA f 1,1⟩] }]):=hide (by
  rw[uh zf];unfold Iz;rw[qg hf0 (by decide),Ae];unfold lineS;rw[qg hf0 (by decide),gu ⟨hf0,Uu⟩,gu hty])
 have HY:Hid (adh ⟨fA f 1,1⟩):=hide ⟨by have h9:=(uh Af).2 (fA f 1) (by rw[←Jo f 1 (by omega)];exact pz _);unfold Len;simp only;omega,by unfold I64;simp only;omega⟩;have d3:((f.length:Int) == 3)=true:=by rw[Uu];rfl
 have Oq:=hide Uu;clear hf0 hty zf Uu;go_wp2_with fail;refine(uh Dc).mono ?_;rintro e w2 ⟨fg,fc,rfl,o7,Dk,hfl⟩;have x0:=uh Dk 0 (by omega);obtain⟨g,mc,hmv⟩:=E8 (uh o7).1.row;obtain⟨al,hal⟩:∃z,z=a.length:=⟨_,rfl⟩;have Ba:=hide hal
 have hnb:al<=1048577:=by
  have h9:=uh Ci;unfold oq at h9;rw[je] at h9;omega
 rw[←hal] at hmv;clear hal;subst hmv;have m0:=(uh o7).1.box.cell (i:=0) (v:=.slice (some ⟨g,0,none⟩) (al+1) mc) rfl;have hml:mb<w2.heap.size:=(uh o7).1.box.lt;have Bj:=hide (Aa f (.slice (some ⟨fg,0,none⟩) f.length fc) ou w2 (Fh (uh o7).2.1 (uh Af)));obtain⟨c0,c1,c2,c3⟩:=gc al f.length (by omega) (by omega);go_wp2_with fail;refine(uh Bj).mono ?_;rintro e w3 ⟨rfl,hw3⟩;obtain rfl:=hw3.symm;have x1:=uh Dk 1 (by have:=uh Oq;omega);have x2:=uh Dk 2 (by have:=uh Oq;omega);have hl1:(1:Int)<(f.length:Int):=by have:=uh Oq;omega
 have hl2:(2:Int)<(f.length:Int):=by have:=uh Oq;omega
 obtain⟨X,hX⟩:∃z,z=w2.alloc (.cells #[.string (fA f 1),.int .i64 1] 54):=⟨_,rfl⟩;have hbX:Below w2.heap.size w2 X:=by rw[hX];exact(gy _ _).alloc (gq _) _
 have hsX:jc X w2.heap.size 54 #[.string (fA f 1),.int .i64 1]:=by rw[hX];exact aa8 rfl
 have hzX:X.heap.size=w2.heap.size+1:=by rw[hX];simp[World.setCell]
 have Uj:=hide ((uh o7).1.below hbX);have s0:=hsX.cell (i:=0) (v:=.string (fA f 1)) rfl;have s1:=hsX.cell (i:=1) (v:=.int .i64 1) rfl;have HX:=hide hX;have xx0:=(hbX.cell (p:=⟨fg,0,none⟩) hfl).trans x0;clear hX hzX;have hA:Below X.heap.size X (X.alloc (.cells #[.string (fA f 1),.int .i64 1] 54)).drew:=((gy _ _).alloc (gq _) _).drew;have hgA:=(uh Uj).below hA;obtain⟨v1,hc1,ho1,hgl,hgrow⟩:=Q8 (a1r _) (by decide) (by decide) hgA.row;rw[←uh Ba] at hc1;have hsm:=Aq (uh Ci)
 obtain⟨v',w5,hrun,yc,hg5,Gm⟩:=Dz Gh (X.alloc (.cells #[.string (fA f 1),.int .i64 1] 54)).drew 46 W1.heap.size v1 k.ak ho1 X.heap.size (⟨fA f 1,1⟩:jw) (fun j u hu=>by
  have h9:=(og X #[.string (fA f 1),.int .i64 1] 54).cell (i:=j) (v:=u) (by simpa[Gh] using hu);exact h9) (by show (k.ak.length+1)*24<=_;omega) (jq hgA.but.size (gq _))
 obtain⟨⟨hc5,O6⟩,bs',hmk⟩:=hgrow v' w5 (⟨fA f 1,1⟩:jw) (uh HY) yc hg5 Gm (by omega);rw[←uh Ba] at hc5 O6 hmk;have Ky:=hide (hgA.put hm ho1 (by decide) hg5 hgA.Y7 hmk);obtain⟨ia,ic,hv1⟩:=ho1.slice;obtain⟨va,vc,hv'⟩:=yc.slice;obtain⟨n1,hn1⟩:∃z,z=k.ak.length:=⟨_,rfl⟩;obtain⟨n2,hn2⟩:∃z,z=(k.ak++[(⟨fA f 1,1⟩:jw)]).length:=⟨_,rfl⟩;rw[←hn1] at hv1;rw[←hn2] at hv';subst hv1 hv';have hrun':(Builtin.append_ #[46,46] 46 #[.slice ia n1 ic,.slice (some ⟨X.heap.size,0,none⟩) 1 1]).run Tryz.prog (X.alloc (.cells #[.string (fA f 1),.int .i64 1] 54)).drew=.ok (.slice va n2 vc) w5:=hrun;have Dp:=hide hrun'
 have Ql:g<X.heap.size:=by
  obtain⟨abv,Y8,Jd,_⟩:=(uh Uj).row;exact(Bd Jd g rfl).2
 have hc0:X.cell? ⟨g,al*7+2,none⟩=some (.slice ia n1 ic):=(hA.cell (p:=⟨g,_,none⟩) Ql).symm.trans hc1;obtain⟨w6,hw6⟩:∃z,z=w5.setCell ⟨g,al*7+2,none⟩ (.slice va n2 vc):=⟨_,rfl⟩;rw[←hw6] at Ky;have Uc:=hide hw6;have aff:g<w5.heap.size:=qj hgl hg5.size;clear hrun hrun' hgrow ho1 yc hg5 Gm hmk hn1 hn2 hsm hgA hw6;have qc:Hid (Gw W1 mb (stepS (a++[k]) cu) (.slice (some ⟨g,0,none⟩) (al+1) mc) bs' w6):=hide (by rw[uh Gn];exact uh Ky);go_wp2_with fail;rw[←uh HX];clear x0 x1 x2 xx0 m0
 go_region_law (refine ug rfl _ _ 46 46 rfl rfl _ _ _ rfl rfl (uh Dp) ?_)
 all_goals
  rw[←uh Uc];clear hc0 hc1 hc5 O6 s0 s1;go_wp2;refine uh HKK _ _ _ _ rfl ?_ ?_ (uh qc)
  ·exact Qc rfl rfl rfl rfl rfl rfl rfl rfl rfl rfl
  ·rfl
set_option maxRecDepth 1000000 in
theorem auv (cu:dh) (a:List dw) (k:dw) (hf0:fA (wordsOf 32 cu) 0=Ee) (Uu:(wordsOf 32 cu).length=3) (hty:¬fA (wordsOf 32 cu) 2=aaf):Ji cu (a++[k]):=by
 intro t rb mb lg n lc u q hu hq hn K K1 PO wr W1 mv bs hgs Jj hlz hwq HK hm;have hfz:=(yg 32 cu).1;have hfp:1<=(wordsOf 32 cu).length:=Bg.2 (Aj 32 cu);have Dc:=hide (Du hgs cu hlz);have HKK:=hide HK;have zf:=hide (Dv (a++[k]) cu);have Ol:=hide hgs;have Ug:(q:Int)<(n:Int):=by omega
 have Ci:=hide hwq;clear HK hgs hwq;rw[zh,hu];conv=>arg 2;whnf
 have Af:=hide (zq cu hlz);generalize wordsOf 32 cu=f at *;obtain⟨Df,Jr,Gy,Hu,Ih,Iw,Gs,Em,Lr,Et⟩:=Vg hf0 false false true false false false false false false false (by decide);have auu:((fA f 2).toList == [105,110,116])=false:=by rw[akb];exact iw hty
 have Gn:Hid (stepS (a++[k]) cu=a++[{ k with ak:=k.ak++[⟨fA f 1,2⟩] }]):=hide (by
  rw[uh zf];unfold Iz;rw[qg hf0 (by decide),Ae];unfold lineS;rw[qg hf0 (by decide),gu ⟨hf0,Uu⟩,ay hty])
 have HY:Hid (adh ⟨fA f 1,2⟩):=hide ⟨by have h9:=(uh Af).2 (fA f 1) (by rw[←Jo f 1 (by omega)];exact pz _);unfold Len;simp only;omega,by unfold I64;simp only;omega⟩;have d3:((f.length:Int) == 3)=true:=by rw[Uu];rfl
 have Oq:=hide Uu;clear hf0 hty zf Uu;go_wp2_with fail;refine(uh Dc).mono ?_;rintro e w2 ⟨fg,fc,rfl,o7,Dk,hfl⟩;have x0:=uh Dk 0 (by omega);obtain⟨g,mc,hmv⟩:=E8 (uh o7).1.row;obtain⟨al,hal⟩:∃z,z=a.length:=⟨_,rfl⟩;have Ba:=hide hal
 have hnb:al<=1048577:=by
  have h9:=uh Ci;unfold oq at h9;rw[je] at h9;omega
 rw[←hal] at hmv;clear hal;subst hmv;have m0:=(uh o7).1.box.cell (i:=0) (v:=.slice (some ⟨g,0,none⟩) (al+1) mc) rfl;have hml:mb<w2.heap.size:=(uh o7).1.box.lt;have Bj:=hide (Aa f (.slice (some ⟨fg,0,none⟩) f.length fc) ou w2 (Fh (uh o7).2.1 (uh Af)));obtain⟨c0,c1,c2,c3⟩:=gc al f.length (by omega) (by omega);go_wp2_with fail;refine(uh Bj).mono ?_;rintro e w3 ⟨rfl,hw3⟩;obtain rfl:=hw3.symm;have x1:=uh Dk 1 (by have:=uh Oq;omega);have x2:=uh Dk 2 (by have:=uh Oq;omega);have hl1:(1:Int)<(f.length:Int):=by have:=uh Oq;omega
 have hl2:(2:Int)<(f.length:Int):=by have:=uh Oq;omega
 obtain⟨X,hX⟩:∃z,z=w2.alloc (.cells #[.string (fA f 1),.int .i64 2] 54):=⟨_,rfl⟩;have hbX:Below w2.heap.size w2 X:=by rw[hX];exact(gy _ _).alloc (gq _) _
 have hsX:jc X w2.heap.size 54 #[.string (fA f 1),.int .i64 2]:=by rw[hX];exact aa8 rfl
 have hzX:X.heap.size=w2.heap.size+1:=by rw[hX];simp[World.setCell]
 have Uj:=hide ((uh o7).1.below hbX);have s0:=hsX.cell (i:=0) (v:=.string (fA f 1)) rfl;have s1:=hsX.cell (i:=1) (v:=.int .i64 2) rfl;have HX:=hide hX;have xx0:=(hbX.cell (p:=⟨fg,0,none⟩) hfl).trans x0;clear hX hzX;have hA:Below X.heap.size X (X.alloc (.cells #[.string (fA f 1),.int .i64 2] 54)).drew:=((gy _ _).alloc (gq _) _).drew;have hgA:=(uh Uj).below hA;obtain⟨v1,hc1,ho1,hgl,hgrow⟩:=Q8 (a1r _) (by decide) (by decide) hgA.row;rw[←uh Ba] at hc1;have hsm:=Aq (uh Ci)
 obtain⟨v',w5,hrun,yc,hg5,Gm⟩:=Dz Gh (X.alloc (.cells #[.string (fA f 1),.int .i64 2] 54)).drew 46 W1.heap.size v1 k.ak ho1 X.heap.size (⟨fA f 1,2⟩:jw) (fun j u hu=>by
  have h9:=(og X #[.string (fA f 1),.int .i64 2] 54).cell (i:=j) (v:=u) (by simpa[Gh] using hu);exact h9) (by show (k.ak.length+1)*24<=_;omega) (jq hgA.but.size (gq _))
 obtain⟨⟨hc5,O6⟩,bs',hmk⟩:=hgrow v' w5 (⟨fA f 1,2⟩:jw) (uh HY) yc hg5 Gm (by omega);rw[←uh Ba] at hc5 O6 hmk;have Ky:=hide (hgA.put hm ho1 (by decide) hg5 hgA.Y7 hmk);obtain⟨ia,ic,hv1⟩:=ho1.slice;obtain⟨va,vc,hv'⟩:=yc.slice;obtain⟨n1,hn1⟩:∃z,z=k.ak.length:=⟨_,rfl⟩;obtain⟨n2,hn2⟩:∃z,z=(k.ak++[(⟨fA f 1,2⟩:jw)]).length:=⟨_,rfl⟩;rw[←hn1] at hv1;rw[←hn2] at hv';subst hv1 hv';have hrun':(Builtin.append_ #[46,46] 46 #[.slice ia n1 ic,.slice (some ⟨X.heap.size,0,none⟩) 1 1]).run Tryz.prog (X.alloc (.cells #[.string (fA f 1),.int .i64 2] 54)).drew=.ok (.slice va n2 vc) w5:=hrun;have Dp:=hide hrun'
 have Ql:g<X.heap.size:=by
  obtain⟨abv,Y8,Jd,_⟩:=(uh Uj).row;exact(Bd Jd g rfl).2
 have hc0:X.cell? ⟨g,al*7+2,none⟩=some (.slice ia n1 ic):=(hA.cell (p:=⟨g,_,none⟩) Ql).symm.trans hc1;obtain⟨w6,hw6⟩:∃z,z=w5.setCell ⟨g,al*7+2,none⟩ (.slice va n2 vc):=⟨_,rfl⟩;rw[←hw6] at Ky;have Uc:=hide hw6;have aff:g<w5.heap.size:=qj hgl hg5.size;clear hrun hrun' hgrow ho1 yc hg5 Gm hmk hn1 hn2 hsm hgA hw6;have qc:Hid (Gw W1 mb (stepS (a++[k]) cu) (.slice (some ⟨g,0,none⟩) (al+1) mc) bs' w6):=hide (by rw[uh Gn];exact uh Ky);go_wp2_with fail;rw[←uh HX];clear x0 x1 x2 xx0 m0
 go_region_law (refine ug rfl _ _ 46 46 rfl rfl _ _ _ rfl rfl (uh Dp) ?_)
 all_goals
  rw[←uh Uc];clear hc0 hc1 hc5 O6 s0 s1;go_wp2;refine uh HKK _ _ _ _ rfl ?_ ?_ (uh qc)
  ·exact Qc rfl rfl rfl rfl rfl rfl rfl rfl rfl rfl
  ·rfl
end Go.Proofs.YtfeejeflmcapoaaGreatDoor
