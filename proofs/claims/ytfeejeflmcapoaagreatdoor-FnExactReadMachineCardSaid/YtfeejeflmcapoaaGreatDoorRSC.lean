import Derived.Deep.RegionHeld3
import Derived.Deep.QuietTactic
import Derived.BigQuiet
import Derived.Test.YtfeejeflmcapoaaGreatDoorRH1
import Derived.Test.YtfeejeflmcapoaaGreatDoorMI20
import Derived.Test.YtfeejeflmcapoaaGreatDoorRI8
import Derived.Test.YtfeejeflmcapoaaGreatDoorPI2
set_option linter.unusedSimpArgs false
set_option linter.unusedVariables false
set_option maxHeartbeats 8000000
namespace Go.Proofs.YtfeejeflmcapoaaGreatDoor
open Go.RowKit
set_option maxRecDepth 1000000 in
theorem bbo (cu:dh) (a:List dw) (k:dw) (hln:cu=Cj):Ji cu (a++[k]):=by
 intro t rb mb lg n lc u q hu hq hn K K1 PO wr W1 mv bs hgs Jj hlz hwq HK hm;have hf0:fA (wordsOf 32 cu) 0=Cj:=by rw[hln];decide
 have hfz:=(yg 32 cu).1;have hfp:1<=(wordsOf 32 cu).length:=Bg.2 (Aj 32 cu);have Dc:=hide (Du hgs cu hlz);have HKK:=hide HK;have zf:=hide (Dv (a++[k]) cu);have Ol:=hide hgs;have Ug:(q:Int)<(n:Int):=by omega
 have Ci:=hide hwq;clear HK hgs hwq;rw[zh,hu];conv=>arg 2;whnf
 have Af:=hide (zq cu hlz);generalize wordsOf 32 cu=f at *;obtain⟨Df,Jr,Gy,Hu,Ih,Iw,Gs,Em,Lr,Et⟩:=Vg hf0 false false false false false false false false false false (by decide);have Ox:(cu.toList == [101,108,115,101])=true:=by rw[Jw,hln];decide
 have Tc:(cu.toList == [101,110,100])=false:=by rw[Ov,hln];decide
 have Gn:Hid (stepS (a++[k]) cu=a++[Dw k ⟨5,E0,0,[],[],[]⟩]):=hide (by
  rw[uh zf];unfold Iz;rw[qg hf0 (by decide),Ae];unfold lineS;rw[qg hf0 (by decide),qg hf0 (by decide),qg hf0 (by decide),qg hf0 (by decide),qg hf0 (by decide),qg hf0 (by decide),qg hf0 (by decide),qg hf0 (by decide),gu hln])
 have HY:Hid (Len (⟨#[]⟩:dh).size∧I64 5):=hide ⟨by unfold Len;decide,by unfold I64;omega⟩;clear hf0 zf hln;go_wp2_with fail;refine(uh Dc).mono ?_;rintro e w2 ⟨fg,fc,rfl,o7,Dk,hfl⟩;have x0:=uh Dk 0 (by omega);obtain⟨g,mc,hmv⟩:=E8 (uh o7).1.row;obtain⟨al,hal⟩:∃z,z=a.length:=⟨_,rfl⟩;have Ba:=hide hal
 have hnb:al<=1048577:=by
  have h9:=uh Ci;unfold oq at h9;rw[je] at h9;omega
 rw[←hal] at hmv;clear hal;subst hmv;have m0:=(uh o7).1.box.cell (i:=0) (v:=.slice (some ⟨g,0,none⟩) (al+1) mc) rfl;have hml:mb<w2.heap.size:=(uh o7).1.box.lt;have Bj:=hide (Aa f (.slice (some ⟨fg,0,none⟩) f.length fc) ou w2 (Fh (uh o7).2.1 (uh Af)));obtain⟨c0,c1,c2,c3⟩:=gc al f.length (by omega) (by omega);go_wp2_with fail;refine(uh Bj).mono ?_;rintro e w3 ⟨rfl,hw3⟩;obtain rfl:=hw3.symm;have Uj:=hide (uh o7).1;have hA:Below w2.heap.size w2 (w2.alloc (.cells #[.int .i64 5,.string ⟨#[]⟩,.int .i64 0,.slice none 0 0,.slice none 0 0,.slice none 0 0] 60)):=(gy _ _).alloc (gq _) _;have hgA:=(uh Uj).below hA;obtain⟨v1,Pn,hc1,ho1,hl6,hgl,hgrow⟩:=yh.aev hgA.row;rw[←uh Ba] at hc1;have hsm:=Aq (uh Ci);obtain⟨c,hcv⟩:∃c:Raw 6,c.1=[.int .i64 5,.string ⟨#[]⟩,.int .i64 0,.slice none 0 0,.slice none 0 0,.slice none 0 0]:=⟨⟨[.int .i64 5,.string ⟨#[]⟩,.int .i64 0,.slice none 0 0,.slice none 0 0,.slice none 0 0],by simp,by intro u hu;simp only[ql,xg,xk] at hu;rcases hu with rfl|rfl|rfl|rfl|rfl|rfl<;>rfl⟩,rfl⟩;have HCV:=hide hcv;have Ue:=hide ho1;have Rk:Hid ((Pn.length+1)*104<=140737488355328):=hide (by rw[hl6];omega);have Rl:Hid (W1.heap.size<=(w2.alloc (.cells #[.int .i64 5,.string ⟨#[]⟩,.int .i64 0,.slice none 0 0,.slice none 0 0,.slice none 0 0] 60)).heap.size):=hide hgA.but.size;have HGA:=hide hgA;have HGW:=hide (fun v' w5 (h1:jm abu w5 W1.heap.size v' (Pn++[c])) h2 h3=>hgrow v' w5 c ⟨5,⟨#[]⟩,0,[],[],[]⟩ [] (by rw[hcv];exact acf _ _ _ (uh HY)) List.nodup_nil (fun b hb=>by cases hb) h1 h2 h3 (by omega));obtain⟨ia,ic,hv1⟩:=ho1.slice;obtain⟨n1,hn1⟩:∃z,z=Pn.length:=⟨_,rfl⟩;rw[←hn1] at hv1;subst hv1
 have Ql:g<w2.heap.size:=by
  obtain⟨abv,Y8,Jd,_⟩:=(uh Uj).row;exact(Bd Jd g rfl).2
 have hc0:w2.cell? ⟨g,al*7+6,none⟩=some (.slice ia n1 ic):=(hA.cell (p:=⟨g,_,none⟩) Ql).symm.trans hc1;clear hA hgA ho1 hl6 hgrow hsm hcv hn1;generalize jd f ou=pc at *;go_wp2_with (at_builtin;go_must (refine Ld abu _ rfl _ _ rfl W1.heap.size _ Pn rfl (uh Ue) w2.heap.size c rfl (fun j u hu=>by rw[zy _ _ _ _ rfl];have hu':c.1[j]?=some u:=hu;rw[uh HCV] at hu';simpa using hu') (uh Rk) (uh Rl) ?_));intro v' w5 yc hg5 Gm;obtain⟨⟨hc5,O6⟩,bs',hmk⟩:=uh HGW v' w5 yc (by simpa using hg5) (by simpa using Gm);rw[←uh Ba] at hc5 O6 hmk;have Ky:=hide ((uh HGA).put hm (uh Ue) (by decide) (by simpa using hg5) (uh HGA).Y7 hmk);obtain⟨va,vc,hv'⟩:=yc.slice;obtain⟨n2,hn2⟩:∃z,z=(Pn++[c]).length:=⟨_,rfl⟩;rw[←hn2] at hv';have aff:g<w5.heap.size:=qj hgl hg5.size;subst hv';obtain⟨w6,hw6⟩:∃z,z=w5.setCell ⟨g,al*7+6,none⟩ (.slice va n2 vc):=⟨_,rfl⟩;rw[←hw6] at Ky;have Uc:=hide hw6;have qc:Hid (Gw W1 mb (stepS (a++[k]) cu) (.slice (some ⟨g,0,none⟩) (al+1) mc) bs' w6):=hide (by rw[uh Gn];exact uh Ky);clear yc hg5 Gm hmk hn2 hw6 HGW hc0 hc1;go_wp2;rw[←uh Uc];refine uh HKK _ _ _ _ rfl ?_ ?_ (uh qc)
 ·exact Qc rfl rfl rfl rfl rfl rfl rfl rfl rfl rfl
 ·rfl
set_option maxRecDepth 1000000 in
theorem bcz (cu:dh) (a:List dw) (k:dw) (hln:cu=Fz):Ji cu (a++[k]):=by
 intro t rb mb lg n lc u q hu hq hn K K1 PO wr W1 mv bs hgs Jj hlz hwq HK hm;have hf0:fA (wordsOf 32 cu) 0=Fz:=by rw[hln];decide
 have hfz:=(yg 32 cu).1;have hfp:1<=(wordsOf 32 cu).length:=Bg.2 (Aj 32 cu);have Dc:=hide (Du hgs cu hlz);have HKK:=hide HK;have zf:=hide (Dv (a++[k]) cu);have Ol:=hide hgs;have Ug:(q:Int)<(n:Int):=by omega
 have Ci:=hide hwq;clear HK hgs hwq;rw[zh,hu];conv=>arg 2;whnf
 have Af:=hide (zq cu hlz);generalize wordsOf 32 cu=f at *;obtain⟨Df,Jr,Gy,Hu,Ih,Iw,Gs,Em,Lr,Et⟩:=Vg hf0 false false false false false false false false false false (by decide);have Ox:(cu.toList == [101,108,115,101])=false:=by rw[Jw,hln];decide
 have Tc:(cu.toList == [101,110,100])=true:=by rw[Ov,hln];decide
 have Gn:Hid (stepS (a++[k]) cu=a++[Dw k ⟨6,E0,0,[],[],[]⟩]):=hide (by
  rw[uh zf];unfold Iz;rw[qg hf0 (by decide),Ae];unfold lineS;rw[qg hf0 (by decide),qg hf0 (by decide),qg hf0 (by decide),qg hf0 (by decide),qg hf0 (by decide),qg hf0 (by decide),qg hf0 (by decide),qg hf0 (by decide),ay (by rw[hln];decide),gu hln])
 have HY:Hid (Len (⟨#[]⟩:dh).size∧I64 6):=hide ⟨by unfold Len;decide,by unfold I64;omega⟩;clear hf0 zf hln;go_wp2_with fail;refine(uh Dc).mono ?_;rintro e w2 ⟨fg,fc,rfl,o7,Dk,hfl⟩;have x0:=uh Dk 0 (by omega);obtain⟨g,mc,hmv⟩:=E8 (uh o7).1.row;obtain⟨al,hal⟩:∃z,z=a.length:=⟨_,rfl⟩;have Ba:=hide hal
 have hnb:al<=1048577:=by
  have h9:=uh Ci;unfold oq at h9;rw[je] at h9;omega
 rw[←hal] at hmv;clear hal;subst hmv;have m0:=(uh o7).1.box.cell (i:=0) (v:=.slice (some ⟨g,0,none⟩) (al+1) mc) rfl;have hml:mb<w2.heap.size:=(uh o7).1.box.lt;have Bj:=hide (Aa f (.slice (some ⟨fg,0,none⟩) f.length fc) ou w2 (Fh (uh o7).2.1 (uh Af)));obtain⟨c0,c1,c2,c3⟩:=gc al f.length (by omega) (by omega);go_wp2_with fail;refine(uh Bj).mono ?_;rintro e w3 ⟨rfl,hw3⟩;obtain rfl:=hw3.symm;have Uj:=hide (uh o7).1;have hA:Below w2.heap.size w2 (w2.alloc (.cells #[.int .i64 6,.string ⟨#[]⟩,.int .i64 0,.slice none 0 0,.slice none 0 0,.slice none 0 0] 60)):=(gy _ _).alloc (gq _) _;have hgA:=(uh Uj).below hA;obtain⟨v1,Pn,hc1,ho1,hl6,hgl,hgrow⟩:=yh.aev hgA.row;rw[←uh Ba] at hc1;have hsm:=Aq (uh Ci);obtain⟨c,hcv⟩:∃c:Raw 6,c.1=[.int .i64 6,.string ⟨#[]⟩,.int .i64 0,.slice none 0 0,.slice none 0 0,.slice none 0 0]:=⟨⟨[.int .i64 6,.string ⟨#[]⟩,.int .i64 0,.slice none 0 0,.slice none 0 0,.slice none 0 0],by simp,by intro u hu;simp only[ql,xg,xk] at hu;rcases hu with rfl|rfl|rfl|rfl|rfl|rfl<;>rfl⟩,rfl⟩;have HCV:=hide hcv;have Ue:=hide ho1;have Rk:Hid ((Pn.length+1)*104<=140737488355328):=hide (by rw[hl6];omega);have Rl:Hid (W1.heap.size<=(w2.alloc (.cells #[.int .i64 6,.string ⟨#[]⟩,.int .i64 0,.slice none 0 0,.slice none 0 0,.slice none 0 0] 60)).heap.size):=hide hgA.but.size;have HGA:=hide hgA;have HGW:=hide (fun v' w5 (h1:jm abu w5 W1.heap.size v' (Pn++[c])) h2 h3=>hgrow v' w5 c ⟨6,⟨#[]⟩,0,[],[],[]⟩ [] (by rw[hcv];exact acf _ _ _ (uh HY)) List.nodup_nil (fun b hb=>by cases hb) h1 h2 h3 (by omega));obtain⟨ia,ic,hv1⟩:=ho1.slice;obtain⟨n1,hn1⟩:∃z,z=Pn.length:=⟨_,rfl⟩;rw[←hn1] at hv1;subst hv1
 have Ql:g<w2.heap.size:=by
  obtain⟨abv,Y8,Jd,_⟩:=(uh Uj).row;exact(Bd Jd g rfl).2
 have hc0:w2.cell? ⟨g,al*7+6,none⟩=some (.slice ia n1 ic):=(hA.cell (p:=⟨g,_,none⟩) Ql).symm.trans hc1;clear hA hgA ho1 hl6 hgrow hsm hcv hn1;generalize jd f ou=pc at *;go_wp2_with (at_builtin;go_must (refine Ld abu _ rfl _ _ rfl W1.heap.size _ Pn rfl (uh Ue) w2.heap.size c rfl (fun j u hu=>by rw[zy _ _ _ _ rfl];have hu':c.1[j]?=some u:=hu;rw[uh HCV] at hu';simpa using hu') (uh Rk) (uh Rl) ?_));intro v' w5 yc hg5 Gm;obtain⟨⟨hc5,O6⟩,bs',hmk⟩:=uh HGW v' w5 yc (by simpa using hg5) (by simpa using Gm);rw[←uh Ba] at hc5 O6 hmk;have Ky:=hide ((uh HGA).put hm (uh Ue) (by decide) (by simpa using hg5) (uh HGA).Y7 hmk);obtain⟨va,vc,hv'⟩:=yc.slice;obtain⟨n2,hn2⟩:∃z,z=(Pn++[c]).length:=⟨_,rfl⟩;rw[←hn2] at hv';have aff:g<w5.heap.size:=qj hgl hg5.size;subst hv';obtain⟨w6,hw6⟩:∃z,z=w5.setCell ⟨g,al*7+6,none⟩ (.slice va n2 vc):=⟨_,rfl⟩;rw[←hw6] at Ky;have Uc:=hide hw6;have qc:Hid (Gw W1 mb (stepS (a++[k]) cu) (.slice (some ⟨g,0,none⟩) (al+1) mc) bs' w6):=hide (by rw[uh Gn];exact uh Ky);clear yc hg5 Gm hmk hn2 hw6 HGW hc0 hc1;go_wp2;rw[←uh Uc];refine uh HKK _ _ _ _ rfl ?_ ?_ (uh qc)
 ·exact Qc rfl rfl rfl rfl rfl rfl rfl rfl rfl rfl
 ·rfl
set_option maxRecDepth 1000000 in
theorem a6t (cu:dh) (hcl:fA (wordsOf 32 cu) 0≠vg∨(wordsOf 32 cu).length≠2):Ji cu []:=by
 intro t rb mb lg n lc u q hu hq hn K K1 PO wr W1 mv bs hgs Jj hlz hwq HK hm;have hfz:=(yg 32 cu).1;have hfp:1<=(wordsOf 32 cu).length:=Bg.2 (Aj 32 cu);have Dc:=hide (Du hgs cu hlz);have HKK:=hide HK;have zf:=hide (Dv [] cu);have Ol:=hide hgs;have Ug:(q:Int)<(n:Int):=by omega
 have Ci:=hide hwq;clear HK hgs hwq;rw[zh,hu];conv=>arg 2;whnf
 generalize wordsOf 32 cu=f at *
 have Gn:Hid (stepS [] cu=[]):=hide (by
  rw[uh zf];unfold Iz;rw[ay (fun h9=>by rcases hcl with h8|h8;exact h8 h9.1;exact h8 h9.2)];rfl)
 have Df:=acd (fA f 0);clear zf
 by_cases h0:fA f 0=vg
 ·rw[jf h0] at Df
  have d2:((f.length:Int) == 2)=false:=by rw[su];rcases hcl with h8|h8;exact absurd h0 h8;omega
  clear hcl h0;go_wp2_with fail;refine(uh Dc).mono ?_;rintro e w2 ⟨fg,fc,rfl,o7,Dk,hfl⟩;have x0:=uh Dk 0 (by omega);obtain⟨ma,mc,hmv⟩:=(uh o7).1.row.slice;rw[A8] at hmv;subst hmv;have m0:=(uh o7).1.box.cell (i:=0) (v:=.slice ma 0 mc) rfl;have qc:Hid (Gw W1 mb (stepS [] cu) (.slice ma 0 mc) bs w2):=hide (by rw[uh Gn];exact(uh o7).1);go_wp2;refine uh HKK _ _ _ _ rfl ?_ ?_ (uh qc)
  ·exact Qc rfl rfl rfl rfl rfl rfl rfl rfl rfl rfl
  ·rfl
 ·rw[iw h0] at Df
  clear hcl h0;go_wp2_with fail;refine(uh Dc).mono ?_;rintro e w2 ⟨fg,fc,rfl,o7,Dk,hfl⟩;have x0:=uh Dk 0 (by omega);obtain⟨ma,mc,hmv⟩:=(uh o7).1.row.slice;rw[A8] at hmv;subst hmv;have m0:=(uh o7).1.box.cell (i:=0) (v:=.slice ma 0 mc) rfl;have qc:Hid (Gw W1 mb (stepS [] cu) (.slice ma 0 mc) bs w2):=hide (by rw[uh Gn];exact(uh o7).1);go_wp2;refine uh HKK _ _ _ _ rfl ?_ ?_ (uh qc)
  ·exact Qc rfl rfl rfl rfl rfl rfl rfl rfl rfl rfl
  ·rfl
set_option maxRecDepth 1000000 in
theorem bc4 (cu:dh) (a:List dw) (k:dw) (hf0:fA (wordsOf 32 cu) 0=Ep) (Ph:(wordsOf 32 cu).length=2):Ji cu (a++[k]):=by
 intro t rb mb lg n lc u q hu hq hn K K1 PO wr W1 mv bs hgs Jj hlz hwq HK hm;have hfz:=(yg 32 cu).1;have hfp:1<=(wordsOf 32 cu).length:=Bg.2 (Aj 32 cu);have Dc:=hide (Du hgs cu hlz);have HKK:=hide HK;have zf:=hide (Dv (a++[k]) cu);have Ol:=hide hgs;have Ug:(q:Int)<(n:Int):=by omega
 have Ci:=hide hwq;clear HK hgs hwq;rw[zh,hu];conv=>arg 2;whnf
 have Af:=hide (zq cu hlz);generalize wordsOf 32 cu=f at *;obtain⟨Df,Jr,Gy,Hu,Ih,Iw,Gs,Em,Lr,Et⟩:=Vg hf0 false false false false true false false false false false (by decide)
 have Gn:Hid (stepS (a++[k]) cu=a++[{ k with eu:=k.eu++[Bo (fA f 1)] }]):=hide (by
  rw[uh zf];unfold Iz;rw[qg hf0 (by decide),Ae];unfold lineS;rw[qg hf0 (by decide),qg hf0 (by decide),qg hf0 (by decide),gu ⟨hf0,Ph⟩])
 have HY:Hid (I64 (Bo (fA f 1))):=hide (by have h9:=aea (fA f 1);unfold I64;omega);have hz1:(fA f 1).size<=1048576:=(uh Af).2 (fA f 1) (by rw[←Jo f 1 (by omega)];exact pz _);have ai2:=hide (fun W=>aaj (fA f 1) W hz1);have d2:((f.length:Int) == 2)=true:=by rw[Ph];rfl
 have HL2:=hide Ph;clear hf0 zf Ph;go_wp2_with fail;refine(uh Dc).mono ?_;rintro e w2 ⟨fg,fc,rfl,o7,Dk,hfl⟩;have x0:=uh Dk 0 (by omega);obtain⟨g,mc,hmv⟩:=E8 (uh o7).1.row;obtain⟨al,hal⟩:∃z,z=a.length:=⟨_,rfl⟩;have Ba:=hide hal
 have hnb:al<=1048577:=by
  have h9:=uh Ci;unfold oq at h9;rw[je] at h9;omega
 rw[←hal] at hmv;clear hal;subst hmv;have m0:=(uh o7).1.box.cell (i:=0) (v:=.slice (some ⟨g,0,none⟩) (al+1) mc) rfl;have hml:mb<w2.heap.size:=(uh o7).1.box.lt;have Bj:=hide (Aa f (.slice (some ⟨fg,0,none⟩) f.length fc) ou w2 (Fh (uh o7).2.1 (uh Af)));obtain⟨c0,c1,c2,c3⟩:=gc al f.length (by omega) (by omega);go_wp2_with fail;refine(uh Bj).mono ?_;rintro e w3 ⟨rfl,hw3⟩;obtain rfl:=hw3.symm;have x1:=uh Dk 1 (by have:=uh HL2;omega);have hl1:(1:Int)<(f.length:Int):=by have:=uh HL2;omega
 have aiz:1<f.length:=by have:=uh HL2;omega
 have Uj:=hide (uh o7).1;have hA:Below w2.heap.size w2 (w2.alloc (.cells #[.int .i64 (Bo (fA f 1))] 3)).drew:=((gy _ _).alloc (gq _) _).drew;have hgA:=(uh Uj).below hA;obtain⟨v1,hc1,ho1,hgl,hgrow⟩:=Q8 (baj _) (by decide) (by decide) hgA.row;rw[←uh Ba] at hc1;have hsm:=Aq (uh Ci)
 obtain⟨v',w5,hrun,yc,hg5,Gm⟩:=Dz Xy (w2.alloc (.cells #[.int .i64 (Bo (fA f 1))] 3)).drew 47 W1.heap.size v1 k.eu ho1 w2.heap.size (Bo (fA f 1)) (fun j u hu=>by
  have h9:=(og w2 #[.int .i64 (Bo (fA f 1))] 3).cell (i:=j) (v:=u) (by simpa[Xy] using hu);exact h9) (by show (k.eu.length+1)*8<=_;omega) (jq hgA.but.size (gq _))
 obtain⟨⟨hc5,O6⟩,bs',hmk⟩:=hgrow v' w5 (Bo (fA f 1)) (uh HY) yc hg5 Gm (by omega);rw[←uh Ba] at hc5 O6 hmk;have Ky:=hide (hgA.put hm ho1 (by decide) hg5 hgA.Y7 hmk);obtain⟨ia,ic,hv1⟩:=ho1.slice;obtain⟨va,vc,hv'⟩:=yc.slice;obtain⟨n1,hn1⟩:∃z,z=k.eu.length:=⟨_,rfl⟩;obtain⟨n2,hn2⟩:∃z,z=(k.eu++[(Bo (fA f 1))]).length:=⟨_,rfl⟩;rw[←hn1] at hv1;rw[←hn2] at hv';subst hv1 hv';have hrun':(Builtin.append_ #[47,47] 47 #[.slice ia n1 ic,.slice (some ⟨w2.heap.size,0,none⟩) 1 1]).run Tryz.prog (w2.alloc (.cells #[.int .i64 (Bo (fA f 1))] 3)).drew=.ok (.slice va n2 vc) w5:=hrun;have Dp:=hide hrun'
 have Ql:g<w2.heap.size:=by
  obtain⟨abv,Y8,Jd,_⟩:=(uh Uj).row;exact(Bd Jd g rfl).2
 have hc0:w2.cell? ⟨g,al*7+4,none⟩=some (.slice ia n1 ic):=(hA.cell (p:=⟨g,_,none⟩) Ql).symm.trans hc1;obtain⟨w6,hw6⟩:∃z,z=w5.setCell ⟨g,al*7+4,none⟩ (.slice va n2 vc):=⟨_,rfl⟩;rw[←hw6] at Ky;have Uc:=hide hw6;have aff:g<w5.heap.size:=qj hgl hg5.size;clear hrun hrun' hgrow ho1 yc hg5 Gm hmk hn1 hn2 hsm hgA hw6;have qc:Hid (Gw W1 mb (stepS (a++[k]) cu) (.slice (some ⟨g,0,none⟩) (al+1) mc) bs' w6):=hide (by rw[uh Gn];exact uh Ky);have x1a:(w2.alloc (.cells #[.int .i64 (Bo (fA f 1))] 3)).drew.cell? ⟨fg,1,none⟩=some (.string (fA f 1)):=(hA.cell (p:=⟨fg,1,none⟩) hfl).trans x1;go_wp2_with fail;clear x0 m0
 go_region_law (first|(go_simp;go_at_call 21;refine(uh ai2 _).mono ?_;rintro e w9 ⟨rfl,rfl⟩)|(refine ug rfl _ _ 47 47 rfl rfl _ _ _ rfl rfl (uh Dp) ?_))
 all_goals
  rw[←uh Uc];clear hc0 hc1 hc5 O6 x1 x1a;go_wp2;refine uh HKK _ _ _ _ rfl ?_ ?_ (uh qc)
  ·exact Qc rfl rfl rfl rfl rfl rfl rfl rfl rfl rfl
  ·rfl
set_option maxRecDepth 1000000 in
theorem a6u (cu:dh) (cs:List dw) (hf0:fA (wordsOf 32 cu) 0=vg) (Ph:(wordsOf 32 cu).length=2):Ji cu cs:=by
 intro t rb mb lg n lc u q hu hq hn K K1 PO wr W1 mv bs hgs Jj hlz hwq HK hm;have he:cu≠Cj:=fun e=>by rw[e] at hf0;exact absurd hf0 (by decide)
 have hd:cu≠Fz:=fun e=>by rw[e] at hf0;exact absurd hf0 (by decide)
 have hfz:=(yg 32 cu).1;have hfp:1<=(wordsOf 32 cu).length:=Bg.2 (Aj 32 cu);have Dc:=hide (Du hgs cu hlz);have HKK:=hide HK;have zf:=hide (Dv cs cu);have Ol:=hide hgs;have Ug:(q:Int)<(n:Int):=by omega
 have Ci:=hide hwq;clear HK hgs hwq;rw[zh,hu];conv=>arg 2;whnf
 have Af:=hide (zq cu hlz);generalize wordsOf 32 cu=f at *;obtain⟨Df,Jr,Gy,Hu,Ih,Iw,Gs,Em,Lr,Et⟩:=Vg hf0 true false false false false false false false false false (by decide);have Ox:(cu.toList == [101,108,115,101])=false:=by rw[Jw];exact iw he
 have Tc:(cu.toList == [101,110,100])=false:=by rw[Ov];exact iw hd
 have Gn:Hid (stepS cs cu=cs++[K0 (fA f 1)]):=hide (by
  rw[uh zf];unfold Iz;rw[gu ⟨hf0,Ph⟩,Ae];unfold lineS;rw[qg hf0 (by decide),qg hf0 (by decide),qg hf0 (by decide),qg hf0 (by decide),qg hf0 (by decide),qg hf0 (by decide),qg hf0 (by decide),qg hf0 (by decide),ay he,ay hd,qg hf0 (by decide)])
 have HY:Hid (Len (fA f 1).size):=hide (by have h9:=(uh Af).2 (fA f 1) (by rw[←Jo f 1 (by omega)];exact pz _);unfold Len;omega);have d2:((f.length:Int) == 2)=true:=by rw[Ph];rfl
 have HL2:=hide Ph;clear hf0 zf Ph he hd;go_wp2_with fail;refine(uh Dc).mono ?_;rintro e w2 ⟨fg,fc,rfl,o7,Dk,hfl⟩;have x0:=uh Dk 0 (by omega);have x1:=uh Dk 1 (by have:=uh HL2;omega);have hl1:(1:Int)<(f.length:Int):=by have:=uh HL2;omega
 have aiz:1<f.length:=by have:=uh HL2;omega
 have bey:cs.length<=1048577:=by
  have h9:=uh Ci;unfold oq at h9;omega
 obtain⟨wA,hwA⟩:∃z,z=(w2.alloc (.cells #[.string (fA f 1),.slice none 0 0,.slice none 0 0,.slice none 0 0,.slice none 0 0,.slice none 0 0,.slice none 0 0] 50)).drew:=⟨_,rfl⟩;have hA:Below w2.heap.size w2 wA:=by rw[hwA];exact((gy _ _).alloc (gq _) _).drew
 obtain⟨css,ho1,U1,hgrow⟩:=amc (uh o7).1.row (uh o7).1.but.size;obtain⟨c,hcv⟩:∃c:Raw 7,c.1=[.string (fA f 1),.slice none 0 0,.slice none 0 0,.slice none 0 0,.slice none 0 0,.slice none 0 0,.slice none 0 0]:=⟨⟨[.string (fA f 1),.slice none 0 0,.slice none 0 0,.slice none 0 0,.slice none 0 0,.slice none 0 0,.slice none 0 0],by simp,by intro u hu;simp only[ql,xg,xk] at hu;rcases hu with rfl|rfl|rfl|rfl|rfl|rfl|rfl<;>rfl⟩,rfl⟩;have Zq:=ho1.below hA
 obtain⟨v',w5,hrun,yc,hg5,Gm⟩:=Dz Fa wA 22 W1.heap.size mv css Zq w2.heap.size c (fun j u hu=>by
  have hu':c.1[j]?=some u:=hu;rw[hcv] at hu';have h9:=(og w2 #[.string (fA f 1),.slice none 0 0,.slice none 0 0,.slice none 0 0,.slice none 0 0,.slice none 0 0,.slice none 0 0] 50).cell (i:=j) (v:=u) (by simpa using hu');rw[hwA];exact h9) (by rw[U1];show (cs.length+1)*160<=_;omega) (jq (uh o7).1.but.size hA.size)
 obtain⟨bs',hmk⟩:=hgrow wA w5 v' c (fA f 1) (uh HY) hcv hA yc hg5 Gm (by omega);have hput:=(uh o7).1.cls hm hA ho1 hg5 hmk;obtain⟨cur,hcur⟩:=(uh o7).2.2.1;have hne1:mv.ownBlock≠some fg:=Zq.Ua (hcur.below hA hfl) (by decide)
 have hne2:fg≠mb:=fun e=>by
  have h9:=(uh o7).1.box;rw[←e] at h9;unfold jc at h9 hcur;rw[hcur] at h9;simp only[uo,Obj.cells.injEq] at h9;exact absurd h9.2.1 (by decide)
 have hbx:w5.cell? ⟨mb,0,none⟩=some mv∧w5.frozen? ⟨mb,0,none⟩=false:=by
  have h9:=(RwB.Xp Zq hg5).blk ((uh o7).1.box.below hA (uh o7).1.box.lt) (by decide);exact⟨h9.cell (i:=0) (v:=mv) rfl,h9.free 0⟩
 have hkb:(w5.setCell ⟨mb,0,none⟩ v').heap[fg]?=w2.heap[fg]?:=(yx _ _ _ _ (fun e=>hne2 e)).trans ((hg5.block fg (qj hfl hA.size) (fun e=>hne1 e.symm)).trans (hA.block fg hfl));obtain⟨g,mc,hv'⟩:=E8 hmk;obtain⟨al,hal⟩:∃z,z=cs.length:=⟨_,rfl⟩;rw[←hal] at hv' bey;obtain⟨ia,ic,hmv⟩:=(uh o7).1.row.slice;rw[←hal] at hmv;clear hal;obtain⟨w6,hw6⟩:∃z,z=w5.setCell ⟨mb,0,none⟩ v':=⟨_,rfl⟩;rw[←hw6] at hput hkb;have HOF:=hide ((uh o7).2.1.Ii (w':=w6) (fun b hb=>by cases hb;exact hkb))
 have xx0:w6.cell? ⟨fg,0,none⟩=some (.string (fA f 0)):=by
  rw[←x0];unfold World.cell?;rw[hkb]
 have Uc:=hide hw6;have Ky:=hide hput;have a3z:=hide hrun;have m0:=(uh o7).1.box.cell (i:=0) (v:=mv) rfl;have m0A:wA.cell? ⟨mb,0,none⟩=some mv:=(hA.cell (p:=⟨mb,0,none⟩) (uh o7).1.box.lt).trans m0;have x1A:wA.cell? ⟨fg,1,none⟩=some (.string (fA f 1)):=(hA.cell (p:=⟨fg,1,none⟩) hfl).trans x1;have n0:=hput.box.cell (i:=0) (v:=v') rfl;have bgb:mb<w5.heap.size:=(RwB.Xp Zq hg5).blk ((uh o7).1.box.below hA (uh o7).1.box.lt) (by decide) |>.lt;have bgc:mb<w6.heap.size:=hput.box.lt;subst hv' hmv;have hrun':(Builtin.append_ #[22,22] 22 #[.slice ia al ic,.slice (some ⟨w2.heap.size,0,none⟩) 1 1]).run Tryz.prog wA=.ok (.slice (some ⟨g,0,none⟩) (al+1) mc) w5:=uh a3z;have Dp:=hide hrun';have Bj:=hide (Aa f (.slice (some ⟨fg,0,none⟩) f.length fc) ou w6 (Fh (uh HOF) (uh Af)));obtain⟨c0,c1,c2,c3⟩:=gc al f.length (by omega) (by omega);have hml:mb<w2.heap.size:=(uh o7).1.box.lt;have qc:Hid (Gw W1 mb (stepS cs cu) (.slice (some ⟨g,0,none⟩) (al+1) mc) bs' w6):=hide (by rw[uh Gn];exact uh Ky);obtain⟨hb1,hb2⟩:=hbx;clear hrun hrun' hgrow ho1 Zq yc hg5 Gm hmk hput hcur hkb hw6 hcv U1 hA a3z HOF;subst hwA;go_wp2_with fail
 go_region_law (refine ug rfl _ _ 22 22 rfl rfl _ _ _ rfl rfl (uh Dp) ?_)
 all_goals
  rw[←uh Uc];clear x0 x1 x1A m0 m0A;go_wp2_with fail;refine(uh Bj).mono ?_;rintro e w3 ⟨rfl,hw3⟩;obtain rfl:=hw3.symm;generalize jd f ou=pc at *;go_wp2;refine uh HKK _ _ _ _ rfl ?_ ?_ (uh qc)
  ·exact Qc rfl rfl rfl rfl rfl rfl rfl rfl rfl rfl
  ·rfl
end Go.Proofs.YtfeejeflmcapoaaGreatDoor
