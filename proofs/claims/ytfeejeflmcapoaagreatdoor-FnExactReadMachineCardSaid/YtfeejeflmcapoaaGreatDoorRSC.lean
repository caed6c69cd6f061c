import Derived.Deep.RegionHeld3
import Derived.Deep.QuietTactic
import Derived.BigQuiet
import Derived.Test.YtfeejeflmcapoaaGreatDoorRS6
import Derived.Test.YtfeejeflmcapoaaGreatDoorMI20
import Derived.Test.YtfeejeflmcapoaaGreatDoorRI8
import Derived.Test.YtfeejeflmcapoaaGreatDoorPS3
set_option linter.unusedSimpArgs false
set_option linter.unusedVariables false
set_option maxHeartbeats 8000000
set_option maxRecDepth 1000000
namespace Go.Proofs.YtfeejeflmcapoaaGreatDoor
open Go.RowKit
theorem bao (eu:dh) (a:List dw) (k:dw) (hln:eu=Fg):Qm eu (a++[k]):=by
 intro t rb mb lg n lc u q hu hq hn K K1 PO wr W1 mv bs hgs Qn hlz hwq HK hm;have hf0:fA (wordsOf 32 eu) 0=Fg:=by rw[hln];decide
 have hfz:=(Au 32 eu).1;have hfp:1<=(wordsOf 32 eu).length:=E5.2 (Ei 32 eu);have Ie:=ak (I4 hgs eu hlz);have HKK:=ak HK;have Ac:=ak (I5 (a++[k]) eu);have Ue:=ak hgs;have hqI:(q:Int)<(n:Int):=by omega
 have Gf:=ak hwq;clear HK hgs hwq;rw[Cj,hu];conv=>arg 2;whnf
 have Bj:=ak (Eb eu hlz);generalize wordsOf 32 eu=f at *;obtain⟨Cb,Jm,Gq,Hg,H8,Io,Gj,Ec,Lp,Ej⟩:=Vb hf0 false false false false false false false false false false (by decide);have aa3:(eu.toList==[101,108,115,101])=true:=by rw[Wh,hln];decide
 have afc:(eu.toList==[101,110,100])=false:=by rw[aa4,hln];decide
 have I7:Hid (stepS (a++[k]) eu=a++[Dj k ⟨5,E0,0,[],[],[]⟩]):=ak (by
  rw[uh Ac];unfold Iq;rw[qc hf0 (by decide),Aa];unfold lineS;rw[qc hf0 (by decide),qc hf0 (by decide),qc hf0 (by decide),qc hf0 (by decide),qc hf0 (by decide),qc hf0 (by decide),qc hf0 (by decide),qc hf0 (by decide),gy hln])
 have HY:Hid (Len (⟨#[]⟩:dh).size/\I64 5):=ak ⟨by unfold Len;decide,by unfold I64;omega⟩;clear hf0 Ac hln;go_wp2_with fail;refine(uh Ie).mono ?_;rintro e w2 ⟨fg,fc,rfl,uq,Gs,hfl⟩;have x0:=uh Gs 0 (by omega);obtain⟨g,mc,hmv⟩:=Lh (uh uq).1.row;obtain⟨al,hal⟩:=o8 a.length;have Cm:=ak hal
 have hnb:al<=1048577:=by
  have h9:=uh Gf;unfold pz at h9;rw[jh] at h9;omega
 rw[←hal] at hmv;clear hal;subst hmv;have m0:=(uh uq).1.box.cell (i:=0) (v:=.slice (some ⟨g,0,none⟩) (al+1) mc) rfl;have hml:mb<w2.heap.size:=(uh uq).1.box.lt;have Fa:=ak (D6 f (.slice (some ⟨fg,0,none⟩) f.length fc) ql w2 (J3 (uh uq).2.1 (uh Bj)));obtain⟨c0,c1,c2,c3⟩:=gc al f.length (by omega) (by omega);go_wp2_with fail;refine(uh Fa).mono ?_;rintro e w3 ⟨rfl,hw3⟩;obtain rfl:=hw3.symm;have Uf:=ak (uh uq).1;have hA:Below w2.heap.size w2 (w2.alloc (.cells #[.int .i64 5,.string ⟨#[]⟩,.int .i64 0,.slice none 0 0,.slice none 0 0,.slice none 0 0] 60)):=(iq _ _).alloc (gu _) _;have hgA:=(uh Uf).below hA;obtain⟨v1,Pe,hc1,ho1,hl6,hgl,hgrow⟩:=yj.aes hgA.row;rw[←uh Cm] at hc1;have hsm:=Aj (uh Gf);obtain⟨c,hcv⟩:∃c:Raw 6,c.1=[.int .i64 5,.string ⟨#[]⟩,.int .i64 0,.slice none 0 0,.slice none 0 0,.slice none 0 0]:=⟨⟨[.int .i64 5,.string ⟨#[]⟩,.int .i64 0,.slice none 0 0,.slice none 0 0,.slice none 0 0],by simp,by intro u hu;simp only[qj,xq,xu] at hu;rcases hu with rfl|rfl|rfl|rfl|rfl|rfl<;>rfl⟩,rfl⟩;have HCV:=ak hcv;have Ua:=ak ho1;have Qz:Hid ((Pe.length+1)*104<=140737488355328):=ak (by rw[hl6];omega);have Q8:Hid (W1.heap.size<=(w2.alloc (.cells #[.int .i64 5,.string ⟨#[]⟩,.int .i64 0,.slice none 0 0,.slice none 0 0,.slice none 0 0] 60)).heap.size):=ak hgA.but.size;have HGA:=ak hgA;have HGW:=ak (fun v' w5 (h1:jq abq w5 W1.heap.size v' (Pe++[c])) h2 h3=>hgrow v' w5 c ⟨5,⟨#[]⟩,0,[],[],[]⟩ [] (by rw[hcv];exact ab7 _ _ _ (uh HY)) List.nodup_nil (fun b hb=>by cases hb) h1 h2 h3 (by omega));obtain⟨ia,ic,hv1⟩:=ho1.slice;obtain⟨n1,hn1⟩:=o8 Pe.length;rw[←hn1] at hv1;subst hv1
 have Qd:g<w2.heap.size:=by
  obtain⟨abr,Y6,Jc,_⟩:=(uh Uf).row;exact(Az Jc g rfl).2
 have hc0:w2.cell? ⟨g,al*7+6,none⟩=some (.slice ia n1 ic):=(hA.cell (p:=⟨g,_,none⟩) Qd).symm.trans hc1;clear hA hgA ho1 hl6 hgrow hsm hcv hn1;generalize je f ql=pc at *;go_wp2_with (at_builtin;go_must (refine La abq _ rfl _ _ rfl W1.heap.size _ Pe rfl (uh Ua) w2.heap.size c rfl (fun j u hu=>by rw[zu _ _ _ _ rfl];have hu':c.1[j]?=some u:=hu;rw[uh HCV] at hu';simpa using hu') (uh Qz) (uh Q8) ?_));intro v' w5 yh hg5 F9;obtain⟨⟨hc5,Oy⟩,bs',hmk⟩:=uh HGW v' w5 yh (by simpa using hg5) (by simpa using F9);rw[←uh Cm] at hc5 Oy hmk;have Ku:=ak ((uh HGA).put hm (uh Ua) (by decide) (by simpa using hg5) (uh HGA).Y5 hmk);obtain⟨va,vc,hv'⟩:=yh.slice;obtain⟨n2,hn2⟩:=o8 ((Pe++[c]).length);rw[←hn2] at hv';have afb:g<w5.heap.size:=qg hgl hg5.size;subst hv';obtain⟨w6,hw6⟩:=o8 (w5.setCell ⟨g,al*7+6,none⟩ (.slice va n2 vc));rw[←hw6] at Ku;have Tt:=ak hw6;have qx:Hid (Jz W1 mb (stepS (a++[k]) eu) (.slice (some ⟨g,0,none⟩) (al+1) mc) bs' w6):=ak (by rw[uh I7];exact uh Ku);clear yh hg5 F9 hmk hn2 hw6 HGW hc0 hc1;go_wp2;rw[←uh Tt];refine uh HKK _ _ _ _ rfl ?_ ?_ (uh qx)
 ·exact V3 rfl rfl rfl rfl rfl rfl rfl rfl rfl rfl
 ·rfl
theorem bcd (eu:dh) (a:List dw) (k:dw) (hln:eu=Iz):Qm eu (a++[k]):=by
 intro t rb mb lg n lc u q hu hq hn K K1 PO wr W1 mv bs hgs Qn hlz hwq HK hm;have hf0:fA (wordsOf 32 eu) 0=Iz:=by rw[hln];decide
 have hfz:=(Au 32 eu).1;have hfp:1<=(wordsOf 32 eu).length:=E5.2 (Ei 32 eu);have Ie:=ak (I4 hgs eu hlz);have HKK:=ak HK;have Ac:=ak (I5 (a++[k]) eu);have Ue:=ak hgs;have hqI:(q:Int)<(n:Int):=by omega
 have Gf:=ak hwq;clear HK hgs hwq;rw[Cj,hu];conv=>arg 2;whnf
 have Bj:=ak (Eb eu hlz);generalize wordsOf 32 eu=f at *;obtain⟨Cb,Jm,Gq,Hg,H8,Io,Gj,Ec,Lp,Ej⟩:=Vb hf0 false false false false false false false false false false (by decide);have aa3:(eu.toList==[101,108,115,101])=false:=by rw[Wh,hln];decide
 have afc:(eu.toList==[101,110,100])=true:=by rw[aa4,hln];decide
 have I7:Hid (stepS (a++[k]) eu=a++[Dj k ⟨6,E0,0,[],[],[]⟩]):=ak (by
  rw[uh Ac];unfold Iq;rw[qc hf0 (by decide),Aa];unfold lineS;rw[qc hf0 (by decide),qc hf0 (by decide),qc hf0 (by decide),qc hf0 (by decide),qc hf0 (by decide),qc hf0 (by decide),qc hf0 (by decide),qc hf0 (by decide),bf (by rw[hln];decide),gy hln])
 have HY:Hid (Len (⟨#[]⟩:dh).size/\I64 6):=ak ⟨by unfold Len;decide,by unfold I64;omega⟩;clear hf0 Ac hln;go_wp2_with fail;refine(uh Ie).mono ?_;rintro e w2 ⟨fg,fc,rfl,uq,Gs,hfl⟩;have x0:=uh Gs 0 (by omega);obtain⟨g,mc,hmv⟩:=Lh (uh uq).1.row;obtain⟨al,hal⟩:=o8 a.length;have Cm:=ak hal
 have hnb:al<=1048577:=by
  have h9:=uh Gf;unfold pz at h9;rw[jh] at h9;omega
 rw[←hal] at hmv;clear hal;subst hmv;have m0:=(uh uq).1.box.cell (i:=0) (v:=.slice (some ⟨g,0,none⟩) (al+1) mc) rfl;have hml:mb<w2.heap.size:=(uh uq).1.box.lt;have Fa:=ak (D6 f (.slice (some ⟨fg,0,none⟩) f.length fc) ql w2 (J3 (uh uq).2.1 (uh Bj)));obtain⟨c0,c1,c2,c3⟩:=gc al f.length (by omega) (by omega);go_wp2_with fail;refine(uh Fa).mono ?_;rintro e w3 ⟨rfl,hw3⟩;obtain rfl:=hw3.symm;have Uf:=ak (uh uq).1;have hA:Below w2.heap.size w2 (w2.alloc (.cells #[.int .i64 6,.string ⟨#[]⟩,.int .i64 0,.slice none 0 0,.slice none 0 0,.slice none 0 0] 60)):=(iq _ _).alloc (gu _) _;have hgA:=(uh Uf).below hA;obtain⟨v1,Pe,hc1,ho1,hl6,hgl,hgrow⟩:=yj.aes hgA.row;rw[←uh Cm] at hc1;have hsm:=Aj (uh Gf);obtain⟨c,hcv⟩:∃c:Raw 6,c.1=[.int .i64 6,.string ⟨#[]⟩,.int .i64 0,.slice none 0 0,.slice none 0 0,.slice none 0 0]:=⟨⟨[.int .i64 6,.string ⟨#[]⟩,.int .i64 0,.slice none 0 0,.slice none 0 0,.slice none 0 0],by simp,by intro u hu;simp only[qj,xq,xu] at hu;rcases hu with rfl|rfl|rfl|rfl|rfl|rfl<;>rfl⟩,rfl⟩;have HCV:=ak hcv;have Ua:=ak ho1;have Qz:Hid ((Pe.length+1)*104<=140737488355328):=ak (by rw[hl6];omega);have Q8:Hid (W1.heap.size<=(w2.alloc (.cells #[.int .i64 6,.string ⟨#[]⟩,.int .i64 0,.slice none 0 0,.slice none 0 0,.slice none 0 0] 60)).heap.size):=ak hgA.but.size;have HGA:=ak hgA;have HGW:=ak (fun v' w5 (h1:jq abq w5 W1.heap.size v' (Pe++[c])) h2 h3=>hgrow v' w5 c ⟨6,⟨#[]⟩,0,[],[],[]⟩ [] (by rw[hcv];exact ab7 _ _ _ (uh HY)) List.nodup_nil (fun b hb=>by cases hb) h1 h2 h3 (by omega));obtain⟨ia,ic,hv1⟩:=ho1.slice;obtain⟨n1,hn1⟩:=o8 Pe.length;rw[←hn1] at hv1;subst hv1
 have Qd:g<w2.heap.size:=by
  obtain⟨abr,Y6,Jc,_⟩:=(uh Uf).row;exact(Az Jc g rfl).2
 have hc0:w2.cell? ⟨g,al*7+6,none⟩=some (.slice ia n1 ic):=(hA.cell (p:=⟨g,_,none⟩) Qd).symm.trans hc1;clear hA hgA ho1 hl6 hgrow hsm hcv hn1;generalize je f ql=pc at *;go_wp2_with (at_builtin;go_must (refine La abq _ rfl _ _ rfl W1.heap.size _ Pe rfl (uh Ua) w2.heap.size c rfl (fun j u hu=>by rw[zu _ _ _ _ rfl];have hu':c.1[j]?=some u:=hu;rw[uh HCV] at hu';simpa using hu') (uh Qz) (uh Q8) ?_));intro v' w5 yh hg5 F9;obtain⟨⟨hc5,Oy⟩,bs',hmk⟩:=uh HGW v' w5 yh (by simpa using hg5) (by simpa using F9);rw[←uh Cm] at hc5 Oy hmk;have Ku:=ak ((uh HGA).put hm (uh Ua) (by decide) (by simpa using hg5) (uh HGA).Y5 hmk);obtain⟨va,vc,hv'⟩:=yh.slice;obtain⟨n2,hn2⟩:=o8 ((Pe++[c]).length);rw[←hn2] at hv';have afb:g<w5.heap.size:=qg hgl hg5.size;subst hv';obtain⟨w6,hw6⟩:=o8 (w5.setCell ⟨g,al*7+6,none⟩ (.slice va n2 vc));rw[←hw6] at Ku;have Tt:=ak hw6;have qx:Hid (Jz W1 mb (stepS (a++[k]) eu) (.slice (some ⟨g,0,none⟩) (al+1) mc) bs' w6):=ak (by rw[uh I7];exact uh Ku);clear yh hg5 F9 hmk hn2 hw6 HGW hc0 hc1;go_wp2;rw[←uh Tt];refine uh HKK _ _ _ _ rfl ?_ ?_ (uh qx)
 ·exact V3 rfl rfl rfl rfl rfl rfl rfl rfl rfl rfl
 ·rfl
theorem a6f (eu:dh) (hcl:fA (wordsOf 32 eu) 0≠vw\/(wordsOf 32 eu).length≠2):Qm eu []:=by
 intro t rb mb lg n lc u q hu hq hn K K1 PO wr W1 mv bs hgs Qn hlz hwq HK hm;have hfz:=(Au 32 eu).1;have hfp:1<=(wordsOf 32 eu).length:=E5.2 (Ei 32 eu);have Ie:=ak (I4 hgs eu hlz);have HKK:=ak HK;have Ac:=ak (I5 [] eu);have Ue:=ak hgs;have hqI:(q:Int)<(n:Int):=by omega
 have Gf:=ak hwq;clear HK hgs hwq;rw[Cj,hu];conv=>arg 2;whnf
 generalize wordsOf 32 eu=f at *
 have I7:Hid (stepS [] eu=[]):=ak (by
  rw[uh Ac];unfold Iq;rw[bf (fun h9=>by rcases hcl with h8|h8;exact h8 h9.1;exact h8 h9.2)];rfl)
 have Cb:=ab9 (fA f 0);clear Ac
 by_cases h0:fA f 0=vw
 ·rw[jf h0] at Cb
  have d2:((f.length:Int)==2)=false:=by rw[su];rcases hcl with h8|h8;exact absurd h0 h8;omega
  clear hcl h0;go_wp2_with fail;refine(uh Ie).mono ?_;rintro e w2 ⟨fg,fc,rfl,uq,Gs,hfl⟩;have x0:=uh Gs 0 (by omega);obtain⟨ma,mc,hmv⟩:=(uh uq).1.row.slice;rw[Ar] at hmv;subst hmv;have m0:=(uh uq).1.box.cell (i:=0) (v:=.slice ma 0 mc) rfl;have qx:Hid (Jz W1 mb (stepS [] eu) (.slice ma 0 mc) bs w2):=ak (by rw[uh I7];exact(uh uq).1);go_wp2;refine uh HKK _ _ _ _ rfl ?_ ?_ (uh qx)
  ·exact V3 rfl rfl rfl rfl rfl rfl rfl rfl rfl rfl
  ·rfl
 ·rw[iy h0] at Cb
  clear hcl h0;go_wp2_with fail;refine(uh Ie).mono ?_;rintro e w2 ⟨fg,fc,rfl,uq,Gs,hfl⟩;have x0:=uh Gs 0 (by omega);obtain⟨ma,mc,hmv⟩:=(uh uq).1.row.slice;rw[Ar] at hmv;subst hmv;have m0:=(uh uq).1.box.cell (i:=0) (v:=.slice ma 0 mc) rfl;have qx:Hid (Jz W1 mb (stepS [] eu) (.slice ma 0 mc) bs w2):=ak (by rw[uh I7];exact(uh uq).1);go_wp2;refine uh HKK _ _ _ _ rfl ?_ ?_ (uh qx)
  ·exact V3 rfl rfl rfl rfl rfl rfl rfl rfl rfl rfl
  ·rfl
theorem bcf (eu:dh) (a:List dw) (k:dw) (hf0:fA (wordsOf 32 eu) 0=Ef) (O7:(wordsOf 32 eu).length=2):Qm eu (a++[k]):=by
 intro t rb mb lg n lc u q hu hq hn K K1 PO wr W1 mv bs hgs Qn hlz hwq HK hm;have hfz:=(Au 32 eu).1;have hfp:1<=(wordsOf 32 eu).length:=E5.2 (Ei 32 eu);have Ie:=ak (I4 hgs eu hlz);have HKK:=ak HK;have Ac:=ak (I5 (a++[k]) eu);have Ue:=ak hgs;have hqI:(q:Int)<(n:Int):=by omega
 have Gf:=ak hwq;clear HK hgs hwq;rw[Cj,hu];conv=>arg 2;whnf
 have Bj:=ak (Eb eu hlz);generalize wordsOf 32 eu=f at *;obtain⟨Cb,Jm,Gq,Hg,H8,Io,Gj,Ec,Lp,Ej⟩:=Vb hf0 false false false false true false false false false false (by decide)
 have I7:Hid (stepS (a++[k]) eu=a++[{ k with gq:=k.gq++[Bd (fA f 1)] }]):=ak (by
  rw[uh Ac];unfold Iq;rw[qc hf0 (by decide),Aa];unfold lineS;rw[qc hf0 (by decide),qc hf0 (by decide),qc hf0 (by decide),gy ⟨hf0,O7⟩])
 have HY:Hid (I64 (Bd (fA f 1))):=ak (by have h9:=ad8 (fA f 1);unfold I64;omega);have hz1:(fA f 1).size<=1048576:=(uh Bj).2 (fA f 1) (by rw[←Jj f 1 (by omega)];exact o7 _);have ai1:=ak (fun W=>aae (fA f 1) W hz1);have d2:((f.length:Int)==2)=true:=by rw[O7];rfl
 have HL2:=ak O7;clear hf0 Ac O7;go_wp2_with fail;refine(uh Ie).mono ?_;rintro e w2 ⟨fg,fc,rfl,uq,Gs,hfl⟩;have x0:=uh Gs 0 (by omega);obtain⟨g,mc,hmv⟩:=Lh (uh uq).1.row;obtain⟨al,hal⟩:=o8 a.length;have Cm:=ak hal
 have hnb:al<=1048577:=by
  have h9:=uh Gf;unfold pz at h9;rw[jh] at h9;omega
 rw[←hal] at hmv;clear hal;subst hmv;have m0:=(uh uq).1.box.cell (i:=0) (v:=.slice (some ⟨g,0,none⟩) (al+1) mc) rfl;have hml:mb<w2.heap.size:=(uh uq).1.box.lt;have Fa:=ak (D6 f (.slice (some ⟨fg,0,none⟩) f.length fc) ql w2 (J3 (uh uq).2.1 (uh Bj)));obtain⟨c0,c1,c2,c3⟩:=gc al f.length (by omega) (by omega);go_wp2_with fail;refine(uh Fa).mono ?_;rintro e w3 ⟨rfl,hw3⟩;obtain rfl:=hw3.symm;have x1:=uh Gs 1 (by have:=uh HL2;omega);have hl1:(1:Int)<(f.length:Int):=by have:=uh HL2;omega
 have aix:1<f.length:=by have:=uh HL2;omega
 have Uf:=ak (uh uq).1;have hA:Below w2.heap.size w2 (w2.alloc (.cells #[.int .i64 (Bd (fA f 1))] 3)).drew:=((iq _ _).alloc (gu _) _).drew;have hgA:=(uh Uf).below hA;obtain⟨v1,hc1,ho1,hgl,hgrow⟩:=Qu (a98 _) (by decide) (by decide) hgA.row;rw[←uh Cm] at hc1;have hsm:=Aj (uh Gf)
 obtain⟨v',w5,hrun,yh,hg5,F9⟩:=Dn Xv (w2.alloc (.cells #[.int .i64 (Bd (fA f 1))] 3)).drew 47 W1.heap.size v1 k.gq ho1 w2.heap.size (Bd (fA f 1)) (fun j u hu=>by
  have h9:=(oh w2 #[.int .i64 (Bd (fA f 1))] 3).cell (i:=j) (v:=u) (by simpa[Xv] using hu);exact h9) (by show (k.gq.length+1)*8<=_;omega) (ku hgA.but.size (gu _))
 obtain⟨⟨hc5,Oy⟩,bs',hmk⟩:=hgrow v' w5 (Bd (fA f 1)) (uh HY) yh hg5 F9 (by omega);rw[←uh Cm] at hc5 Oy hmk;have Ku:=ak (hgA.put hm ho1 (by decide) hg5 hgA.Y5 hmk);obtain⟨ia,ic,hv1⟩:=ho1.slice;obtain⟨va,vc,hv'⟩:=yh.slice;obtain⟨n1,hn1⟩:=o8 k.gq.length;obtain⟨n2,hn2⟩:=o8 ((k.gq++[(Bd (fA f 1))]).length);rw[←hn1] at hv1;rw[←hn2] at hv';subst hv1 hv';have hrun':(Builtin.append_ #[47,47] 47 #[.slice ia n1 ic,.slice (some ⟨w2.heap.size,0,none⟩) 1 1]).run Tryz.prog (w2.alloc (.cells #[.int .i64 (Bd (fA f 1))] 3)).drew=.ok (.slice va n2 vc) w5:=hrun;have Df:=ak hrun'
 have Qd:g<w2.heap.size:=by
  obtain⟨abr,Y6,Jc,_⟩:=(uh Uf).row;exact(Az Jc g rfl).2
 have hc0:w2.cell? ⟨g,al*7+4,none⟩=some (.slice ia n1 ic):=(hA.cell (p:=⟨g,_,none⟩) Qd).symm.trans hc1;obtain⟨w6,hw6⟩:=o8 (w5.setCell ⟨g,al*7+4,none⟩ (.slice va n2 vc));rw[←hw6] at Ku;have Tt:=ak hw6;have afb:g<w5.heap.size:=qg hgl hg5.size;clear hrun hrun' hgrow ho1 yh hg5 F9 hmk hn1 hn2 hsm hgA hw6;have qx:Hid (Jz W1 mb (stepS (a++[k]) eu) (.slice (some ⟨g,0,none⟩) (al+1) mc) bs' w6):=ak (by rw[uh I7];exact uh Ku);have x1a:(w2.alloc (.cells #[.int .i64 (Bd (fA f 1))] 3)).drew.cell? ⟨fg,1,none⟩=some (.string (fA f 1)):=(hA.cell (p:=⟨fg,1,none⟩) hfl).trans x1;go_wp2_with fail;clear x0 m0
 go_region_law (first|(go_simp;go_at_call 21;refine(uh ai1 _).mono ?_;rintro e w9 ⟨rfl,rfl⟩)|(refine uj rfl _ _ 47 47 rfl rfl _ _ _ rfl rfl (uh Df) ?_))
 all_goals
  rw[←uh Tt];clear hc0 hc1 hc5 Oy x1 x1a;go_wp2;refine uh HKK _ _ _ _ rfl ?_ ?_ (uh qx)
  ·exact V3 rfl rfl rfl rfl rfl rfl rfl rfl rfl rfl
  ·rfl
theorem a6g (eu:dh) (cs:List dw) (hf0:fA (wordsOf 32 eu) 0=vw) (O7:(wordsOf 32 eu).length=2):Qm eu cs:=by
 intro t rb mb lg n lc u q hu hq hn K K1 PO wr W1 mv bs hgs Qn hlz hwq HK hm;have he:eu≠Fg:=fun e=>by rw[e] at hf0;exact absurd hf0 (by decide)
 have hd:eu≠Iz:=fun e=>by rw[e] at hf0;exact absurd hf0 (by decide)
 have hfz:=(Au 32 eu).1;have hfp:1<=(wordsOf 32 eu).length:=E5.2 (Ei 32 eu);have Ie:=ak (I4 hgs eu hlz);have HKK:=ak HK;have Ac:=ak (I5 cs eu);have Ue:=ak hgs;have hqI:(q:Int)<(n:Int):=by omega
 have Gf:=ak hwq;clear HK hgs hwq;rw[Cj,hu];conv=>arg 2;whnf
 have Bj:=ak (Eb eu hlz);generalize wordsOf 32 eu=f at *;obtain⟨Cb,Jm,Gq,Hg,H8,Io,Gj,Ec,Lp,Ej⟩:=Vb hf0 true false false false false false false false false false (by decide);have aa3:(eu.toList==[101,108,115,101])=false:=by rw[Wh];exact iy he
 have afc:(eu.toList==[101,110,100])=false:=by rw[aa4];exact iy hd
 have I7:Hid (stepS cs eu=cs++[K0 (fA f 1)]):=ak (by
  rw[uh Ac];unfold Iq;rw[gy ⟨hf0,O7⟩,Aa];unfold lineS;rw[qc hf0 (by decide),qc hf0 (by decide),qc hf0 (by decide),qc hf0 (by decide),qc hf0 (by decide),qc hf0 (by decide),qc hf0 (by decide),qc hf0 (by decide),bf he,bf hd,qc hf0 (by decide)])
 have HY:Hid (Len (fA f 1).size):=ak (by have h9:=(uh Bj).2 (fA f 1) (by rw[←Jj f 1 (by omega)];exact o7 _);unfold Len;omega);have d2:((f.length:Int)==2)=true:=by rw[O7];rfl
 have HL2:=ak O7;clear hf0 Ac O7 he hd;go_wp2_with fail;refine(uh Ie).mono ?_;rintro e w2 ⟨fg,fc,rfl,uq,Gs,hfl⟩;have x0:=uh Gs 0 (by omega);have x1:=uh Gs 1 (by have:=uh HL2;omega);have hl1:(1:Int)<(f.length:Int):=by have:=uh HL2;omega
 have aix:1<f.length:=by have:=uh HL2;omega
 have bd9:cs.length<=1048577:=by
  have h9:=uh Gf;unfold pz at h9;omega
 obtain⟨wA,hwA⟩:=o8 ((w2.alloc (.cells #[.string (fA f 1),.slice none 0 0,.slice none 0 0,.slice none 0 0,.slice none 0 0,.slice none 0 0,.slice none 0 0] 50)).drew);have hA:Below w2.heap.size w2 wA:=by rw[hwA];exact((iq _ _).alloc (gu _) _).drew
 obtain⟨css,ho1,Ux,hgrow⟩:=amf (uh uq).1.row (uh uq).1.but.size;obtain⟨c,hcv⟩:∃c:Raw 7,c.1=[.string (fA f 1),.slice none 0 0,.slice none 0 0,.slice none 0 0,.slice none 0 0,.slice none 0 0,.slice none 0 0]:=⟨⟨[.string (fA f 1),.slice none 0 0,.slice none 0 0,.slice none 0 0,.slice none 0 0,.slice none 0 0,.slice none 0 0],by simp,by intro u hu;simp only[qj,xq,xu] at hu;rcases hu with rfl|rfl|rfl|rfl|rfl|rfl|rfl<;>rfl⟩,rfl⟩;have Zo:=ho1.below hA
 obtain⟨v',w5,hrun,yh,hg5,F9⟩:=Dn Et wA 22 W1.heap.size mv css Zo w2.heap.size c (fun j u hu=>by
  have hu':c.1[j]?=some u:=hu;rw[hcv] at hu';have h9:=(oh w2 #[.string (fA f 1),.slice none 0 0,.slice none 0 0,.slice none 0 0,.slice none 0 0,.slice none 0 0,.slice none 0 0] 50).cell (i:=j) (v:=u) (by simpa using hu');rw[hwA];exact h9) (by rw[Ux];show (cs.length+1)*160<=_;omega) (ku (uh uq).1.but.size hA.size)
 obtain⟨bs',hmk⟩:=hgrow wA w5 v' c (fA f 1) (uh HY) hcv hA yh hg5 F9 (by omega);have hput:=(uh uq).1.cls hm hA ho1 hg5 hmk;obtain⟨cur,hcur⟩:=(uh uq).2.2.1;have hne1:mv.ownBlock≠some fg:=Zo.Tj (hcur.below hA hfl) (by decide)
 have hne2:fg≠mb:=fun e=>by
  have h9:=(uh uq).1.box;rw[←e] at h9;unfold jd at h9 hcur;rw[hcur] at h9;simp only[uw,Obj.cells.injEq] at h9;exact absurd h9.2.1 (by decide)
 have hbx:w5.cell? ⟨mb,0,none⟩=some mv/\w5.frozen? ⟨mb,0,none⟩=false:=by
  have h9:=(RwB.Xl Zo hg5).blk ((uh uq).1.box.below hA (uh uq).1.box.lt) (by decide);exact⟨h9.cell (i:=0) (v:=mv) rfl,h9.free 0⟩
 have hkb:(w5.setCell ⟨mb,0,none⟩ v').heap[fg]?=w2.heap[fg]?:=(zf _ _ _ _ (fun e=>hne2 e)).trans ((hg5.block fg (qg hfl hA.size) (fun e=>hne1 e.symm)).trans (hA.block fg hfl));obtain⟨g,mc,hv'⟩:=Lh hmk;obtain⟨al,hal⟩:=o8 cs.length;rw[←hal] at hv' bd9;obtain⟨ia,ic,hmv⟩:=(uh uq).1.row.slice;rw[←hal] at hmv;clear hal;obtain⟨w6,hw6⟩:=o8 (w5.setCell ⟨mb,0,none⟩ v');rw[←hw6] at hput hkb;have HOF:=ak ((uh uq).2.1.Ia (w':=w6) (fun b hb=>by cases hb;exact hkb))
 have xx0:w6.cell? ⟨fg,0,none⟩=some (.string (fA f 0)):=by
  rw[←x0];unfold World.cell?;rw[hkb]
 have Tt:=ak hw6;have Ku:=ak hput;have a3o:=ak hrun;have m0:=(uh uq).1.box.cell (i:=0) (v:=mv) rfl;have m0A:wA.cell? ⟨mb,0,none⟩=some mv:=(hA.cell (p:=⟨mb,0,none⟩) (uh uq).1.box.lt).trans m0;have x1A:wA.cell? ⟨fg,1,none⟩=some (.string (fA f 1)):=(hA.cell (p:=⟨fg,1,none⟩) hfl).trans x1;have n0:=hput.box.cell (i:=0) (v:=v') rfl;have bfr:mb<w5.heap.size:=(RwB.Xl Zo hg5).blk ((uh uq).1.box.below hA (uh uq).1.box.lt) (by decide) |>.lt;have bfs:mb<w6.heap.size:=hput.box.lt;subst hv' hmv;have hrun':(Builtin.append_ #[22,22] 22 #[.slice ia al ic,.slice (some ⟨w2.heap.size,0,none⟩) 1 1]).run Tryz.prog wA=.ok (.slice (some ⟨g,0,none⟩) (al+1) mc) w5:=uh a3o;have Df:=ak hrun';have Fa:=ak (D6 f (.slice (some ⟨fg,0,none⟩) f.length fc) ql w6 (J3 (uh HOF) (uh Bj)));obtain⟨c0,c1,c2,c3⟩:=gc al f.length (by omega) (by omega);have hml:mb<w2.heap.size:=(uh uq).1.box.lt;have qx:Hid (Jz W1 mb (stepS cs eu) (.slice (some ⟨g,0,none⟩) (al+1) mc) bs' w6):=ak (by rw[uh I7];exact uh Ku);obtain⟨hb1,hb2⟩:=hbx;clear hrun hrun' hgrow ho1 Zo yh hg5 F9 hmk hput hcur hkb hw6 hcv Ux hA a3o HOF;subst hwA;go_wp2_with fail
 go_region_law (refine uj rfl _ _ 22 22 rfl rfl _ _ _ rfl rfl (uh Df) ?_)
 all_goals
  rw[←uh Tt];clear x0 x1 x1A m0 m0A;go_wp2_with fail;refine(uh Fa).mono ?_;rintro e w3 ⟨rfl,hw3⟩;obtain rfl:=hw3.symm;generalize je f ql=pc at *;go_wp2;refine uh HKK _ _ _ _ rfl ?_ ?_ (uh qx)
  ·exact V3 rfl rfl rfl rfl rfl rfl rfl rfl rfl rfl
  ·rfl
end Go.Proofs.YtfeejeflmcapoaaGreatDoor
