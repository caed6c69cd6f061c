import Derived.Deep.RegionHeld3
import Derived.Deep.QuietTactic
import Derived.BigQuiet
import Derived.Test.YtfeejeflmcapoaaGreatDoorRH1
import Derived.Test.YtfeejeflmcapoaaGreatDoorMI20
set_option linter.unusedSimpArgs false
set_option linter.unusedVariables false
set_option maxHeartbeats 8000000
namespace Go.Proofs.YtfeejeflmcapoaaGreatDoor
open Go.RowKit
set_option maxRecDepth 1000000 in
theorem a6r (cu:dh) (a:List dw) (k:dw) (hf0:fA (wordsOf 32 cu) 0=Ik) (hmiss:(wordsOf 32 cu).length≠3) (he:cu≠Cj) (hd:cu≠Fz):Ji cu (a++[k]):=by
 intro t rb mb lg n lc u q hu hq hn K K1 PO wr W1 mv bs hgs Jj hlz hwq HK hm;have hfz:=(yg 32 cu).1;have hfp:1<=(wordsOf 32 cu).length:=Bg.2 (Aj 32 cu);have Dc:=hide (Du hgs cu hlz);have HKK:=hide HK;have zf:=hide (Dv (a++[k]) cu);have Ol:=hide hgs;have Ug:(q:Int)<(n:Int):=by omega
 have Ci:=hide hwq;clear HK hgs hwq;rw[zh,hu];conv=>arg 2;whnf
 have Af:=hide (zq cu hlz);generalize wordsOf 32 cu=f at *;obtain⟨Df,Jr,Gy,Hu,Ih,Iw,Gs,Em,Lr,Et⟩:=Vg hf0 false true false false false false false false false false (by decide);have Ox:(cu.toList == [101,108,115,101])=false:=by rw[Jw];exact iw he
 have Tc:(cu.toList == [101,110,100])=false:=by rw[Ov];exact iw hd
 have d9:((f.length:Int) == 3)=false:=by rw[su];omega
 have Gn:Hid (stepS (a++[k]) cu=a++[k]):=hide (by
  rw[uh zf];unfold Iz;rw[qg hf0 (by decide),Ae];unfold lineS;rw[ay (fun h9=>hmiss h9.2),qg hf0 (by decide),qg hf0 (by decide),qg hf0 (by decide),qg hf0 (by decide),qg hf0 (by decide),qg hf0 (by decide),qg hf0 (by decide),ay he,ay hd,qg hf0 (by decide)])
 clear hf0 hmiss he hd zf;go_wp2_with fail;refine(uh Dc).mono ?_;rintro e w2 ⟨fg,fc,rfl,o7,Dk,hfl⟩;have x0:=uh Dk 0 (by omega);obtain⟨g,mc,hmv⟩:=E8 (uh o7).1.row;obtain⟨al,hal⟩:∃z,z=a.length:=⟨_,rfl⟩;have Ba:=hide hal
 have hnb:al<=1048577:=by
  have h9:=uh Ci;unfold oq at h9;rw[je] at h9;omega
 rw[←hal] at hmv;clear hal;subst hmv;have m0:=(uh o7).1.box.cell (i:=0) (v:=.slice (some ⟨g,0,none⟩) (al+1) mc) rfl;have hml:mb<w2.heap.size:=(uh o7).1.box.lt;have Bj:=hide (Aa f (.slice (some ⟨fg,0,none⟩) f.length fc) ou w2 (Fh (uh o7).2.1 (uh Af)));obtain⟨c0,c1,c2,c3⟩:=gc al f.length (by omega) (by omega);go_wp2_with fail;refine(uh Bj).mono ?_;rintro e w3 ⟨rfl,hw3⟩;obtain rfl:=hw3.symm;have qc:Hid (Gw W1 mb (stepS (a++[k]) cu) (.slice (some ⟨g,0,none⟩) (al+1) mc) bs w2):=hide (by rw[uh Gn];exact(uh o7).1);generalize jd f ou=pc at *;go_wp2;refine uh HKK _ _ _ _ rfl ?_ ?_ (uh qc)
 ·exact Qc rfl rfl rfl rfl rfl rfl rfl rfl rfl rfl
 ·rfl
set_option maxRecDepth 1000000 in
theorem a2z (cu:dh) (a:List dw) (k:dw) (hf0:fA (wordsOf 32 cu) 0=Ee) (hmiss:(wordsOf 32 cu).length≠3) (he:cu≠Cj) (hd:cu≠Fz):Ji cu (a++[k]):=by
 intro t rb mb lg n lc u q hu hq hn K K1 PO wr W1 mv bs hgs Jj hlz hwq HK hm;have hfz:=(yg 32 cu).1;have hfp:1<=(wordsOf 32 cu).length:=Bg.2 (Aj 32 cu);have Dc:=hide (Du hgs cu hlz);have HKK:=hide HK;have zf:=hide (Dv (a++[k]) cu);have Ol:=hide hgs;have Ug:(q:Int)<(n:Int):=by omega
 have Ci:=hide hwq;clear HK hgs hwq;rw[zh,hu];conv=>arg 2;whnf
 have Af:=hide (zq cu hlz);generalize wordsOf 32 cu=f at *;obtain⟨Df,Jr,Gy,Hu,Ih,Iw,Gs,Em,Lr,Et⟩:=Vg hf0 false false true false false false false false false false (by decide);have Ox:(cu.toList == [101,108,115,101])=false:=by rw[Jw];exact iw he
 have Tc:(cu.toList == [101,110,100])=false:=by rw[Ov];exact iw hd
 have d9:((f.length:Int) == 3)=false:=by rw[su];omega
 have Gn:Hid (stepS (a++[k]) cu=a++[k]):=hide (by
  rw[uh zf];unfold Iz;rw[qg hf0 (by decide),Ae];unfold lineS;rw[qg hf0 (by decide),ay (fun h9=>hmiss h9.2),qg hf0 (by decide),qg hf0 (by decide),qg hf0 (by decide),qg hf0 (by decide),qg hf0 (by decide),qg hf0 (by decide),ay he,ay hd,qg hf0 (by decide)])
 clear hf0 hmiss he hd zf;go_wp2_with fail;refine(uh Dc).mono ?_;rintro e w2 ⟨fg,fc,rfl,o7,Dk,hfl⟩;have x0:=uh Dk 0 (by omega);obtain⟨g,mc,hmv⟩:=E8 (uh o7).1.row;obtain⟨al,hal⟩:∃z,z=a.length:=⟨_,rfl⟩;have Ba:=hide hal
 have hnb:al<=1048577:=by
  have h9:=uh Ci;unfold oq at h9;rw[je] at h9;omega
 rw[←hal] at hmv;clear hal;subst hmv;have m0:=(uh o7).1.box.cell (i:=0) (v:=.slice (some ⟨g,0,none⟩) (al+1) mc) rfl;have hml:mb<w2.heap.size:=(uh o7).1.box.lt;have Bj:=hide (Aa f (.slice (some ⟨fg,0,none⟩) f.length fc) ou w2 (Fh (uh o7).2.1 (uh Af)));obtain⟨c0,c1,c2,c3⟩:=gc al f.length (by omega) (by omega);go_wp2_with fail;refine(uh Bj).mono ?_;rintro e w3 ⟨rfl,hw3⟩;obtain rfl:=hw3.symm;have qc:Hid (Gw W1 mb (stepS (a++[k]) cu) (.slice (some ⟨g,0,none⟩) (al+1) mc) bs w2):=hide (by rw[uh Gn];exact(uh o7).1);generalize jd f ou=pc at *;go_wp2;refine uh HKK _ _ _ _ rfl ?_ ?_ (uh qc)
 ·exact Qc rfl rfl rfl rfl rfl rfl rfl rfl rfl rfl
 ·rfl
set_option maxRecDepth 1000000 in
theorem a3a (cu:dh) (a:List dw) (k:dw) (hf0:fA (wordsOf 32 cu) 0=Eo) (hmiss:(wordsOf 32 cu).length≠2) (he:cu≠Cj) (hd:cu≠Fz):Ji cu (a++[k]):=by
 intro t rb mb lg n lc u q hu hq hn K K1 PO wr W1 mv bs hgs Jj hlz hwq HK hm;have hfz:=(yg 32 cu).1;have hfp:1<=(wordsOf 32 cu).length:=Bg.2 (Aj 32 cu);have Dc:=hide (Du hgs cu hlz);have HKK:=hide HK;have zf:=hide (Dv (a++[k]) cu);have Ol:=hide hgs;have Ug:(q:Int)<(n:Int):=by omega
 have Ci:=hide hwq;clear HK hgs hwq;rw[zh,hu];conv=>arg 2;whnf
 have Af:=hide (zq cu hlz);generalize wordsOf 32 cu=f at *;obtain⟨Df,Jr,Gy,Hu,Ih,Iw,Gs,Em,Lr,Et⟩:=Vg hf0 false false false true false false false false false false (by decide);have Ox:(cu.toList == [101,108,115,101])=false:=by rw[Jw];exact iw he
 have Tc:(cu.toList == [101,110,100])=false:=by rw[Ov];exact iw hd
 have d9:((f.length:Int) == 2)=false:=by rw[su];omega
 have Gn:Hid (stepS (a++[k]) cu=a++[k]):=hide (by
  rw[uh zf];unfold Iz;rw[qg hf0 (by decide),Ae];unfold lineS;rw[qg hf0 (by decide),qg hf0 (by decide),ay (fun h9=>hmiss h9.2),qg hf0 (by decide),qg hf0 (by decide),qg hf0 (by decide),qg hf0 (by decide),qg hf0 (by decide),ay he,ay hd,qg hf0 (by decide)])
 clear hf0 hmiss he hd zf;go_wp2_with fail;refine(uh Dc).mono ?_;rintro e w2 ⟨fg,fc,rfl,o7,Dk,hfl⟩;have x0:=uh Dk 0 (by omega);obtain⟨g,mc,hmv⟩:=E8 (uh o7).1.row;obtain⟨al,hal⟩:∃z,z=a.length:=⟨_,rfl⟩;have Ba:=hide hal
 have hnb:al<=1048577:=by
  have h9:=uh Ci;unfold oq at h9;rw[je] at h9;omega
 rw[←hal] at hmv;clear hal;subst hmv;have m0:=(uh o7).1.box.cell (i:=0) (v:=.slice (some ⟨g,0,none⟩) (al+1) mc) rfl;have hml:mb<w2.heap.size:=(uh o7).1.box.lt;have Bj:=hide (Aa f (.slice (some ⟨fg,0,none⟩) f.length fc) ou w2 (Fh (uh o7).2.1 (uh Af)));obtain⟨c0,c1,c2,c3⟩:=gc al f.length (by omega) (by omega);go_wp2_with fail;refine(uh Bj).mono ?_;rintro e w3 ⟨rfl,hw3⟩;obtain rfl:=hw3.symm;have qc:Hid (Gw W1 mb (stepS (a++[k]) cu) (.slice (some ⟨g,0,none⟩) (al+1) mc) bs w2):=hide (by rw[uh Gn];exact(uh o7).1);generalize jd f ou=pc at *;go_wp2;refine uh HKK _ _ _ _ rfl ?_ ?_ (uh qc)
 ·exact Qc rfl rfl rfl rfl rfl rfl rfl rfl rfl rfl
 ·rfl
set_option maxRecDepth 1000000 in
theorem a3b (cu:dh) (a:List dw) (k:dw) (hf0:fA (wordsOf 32 cu) 0=Ep) (hmiss:(wordsOf 32 cu).length≠2) (he:cu≠Cj) (hd:cu≠Fz):Ji cu (a++[k]):=by
 intro t rb mb lg n lc u q hu hq hn K K1 PO wr W1 mv bs hgs Jj hlz hwq HK hm;have hfz:=(yg 32 cu).1;have hfp:1<=(wordsOf 32 cu).length:=Bg.2 (Aj 32 cu);have Dc:=hide (Du hgs cu hlz);have HKK:=hide HK;have zf:=hide (Dv (a++[k]) cu);have Ol:=hide hgs;have Ug:(q:Int)<(n:Int):=by omega
 have Ci:=hide hwq;clear HK hgs hwq;rw[zh,hu];conv=>arg 2;whnf
 have Af:=hide (zq cu hlz);generalize wordsOf 32 cu=f at *;obtain⟨Df,Jr,Gy,Hu,Ih,Iw,Gs,Em,Lr,Et⟩:=Vg hf0 false false false false true false false false false false (by decide);have Ox:(cu.toList == [101,108,115,101])=false:=by rw[Jw];exact iw he
 have Tc:(cu.toList == [101,110,100])=false:=by rw[Ov];exact iw hd
 have d9:((f.length:Int) == 2)=false:=by rw[su];omega
 have Gn:Hid (stepS (a++[k]) cu=a++[k]):=hide (by
  rw[uh zf];unfold Iz;rw[qg hf0 (by decide),Ae];unfold lineS;rw[qg hf0 (by decide),qg hf0 (by decide),qg hf0 (by decide),ay (fun h9=>hmiss h9.2),qg hf0 (by decide),qg hf0 (by decide),qg hf0 (by decide),qg hf0 (by decide),ay he,ay hd,qg hf0 (by decide)])
 clear hf0 hmiss he hd zf;go_wp2_with fail;refine(uh Dc).mono ?_;rintro e w2 ⟨fg,fc,rfl,o7,Dk,hfl⟩;have x0:=uh Dk 0 (by omega);obtain⟨g,mc,hmv⟩:=E8 (uh o7).1.row;obtain⟨al,hal⟩:∃z,z=a.length:=⟨_,rfl⟩;have Ba:=hide hal
 have hnb:al<=1048577:=by
  have h9:=uh Ci;unfold oq at h9;rw[je] at h9;omega
 rw[←hal] at hmv;clear hal;subst hmv;have m0:=(uh o7).1.box.cell (i:=0) (v:=.slice (some ⟨g,0,none⟩) (al+1) mc) rfl;have hml:mb<w2.heap.size:=(uh o7).1.box.lt;have Bj:=hide (Aa f (.slice (some ⟨fg,0,none⟩) f.length fc) ou w2 (Fh (uh o7).2.1 (uh Af)));obtain⟨c0,c1,c2,c3⟩:=gc al f.length (by omega) (by omega);go_wp2_with fail;refine(uh Bj).mono ?_;rintro e w3 ⟨rfl,hw3⟩;obtain rfl:=hw3.symm;have qc:Hid (Gw W1 mb (stepS (a++[k]) cu) (.slice (some ⟨g,0,none⟩) (al+1) mc) bs w2):=hide (by rw[uh Gn];exact(uh o7).1);generalize jd f ou=pc at *;go_wp2;refine uh HKK _ _ _ _ rfl ?_ ?_ (uh qc)
 ·exact Qc rfl rfl rfl rfl rfl rfl rfl rfl rfl rfl
 ·rfl
set_option maxRecDepth 1000000 in
theorem a3c (cu:dh) (a:List dw) (k:dw) (hf0:fA (wordsOf 32 cu) 0=Es) (hmiss:(wordsOf 32 cu).length≠2) (he:cu≠Cj) (hd:cu≠Fz):Ji cu (a++[k]):=by
 intro t rb mb lg n lc u q hu hq hn K K1 PO wr W1 mv bs hgs Jj hlz hwq HK hm;have hfz:=(yg 32 cu).1;have hfp:1<=(wordsOf 32 cu).length:=Bg.2 (Aj 32 cu);have Dc:=hide (Du hgs cu hlz);have HKK:=hide HK;have zf:=hide (Dv (a++[k]) cu);have Ol:=hide hgs;have Ug:(q:Int)<(n:Int):=by omega
 have Ci:=hide hwq;clear HK hgs hwq;rw[zh,hu];conv=>arg 2;whnf
 have Af:=hide (zq cu hlz);generalize wordsOf 32 cu=f at *;obtain⟨Df,Jr,Gy,Hu,Ih,Iw,Gs,Em,Lr,Et⟩:=Vg hf0 false false false false false true false false false false (by decide);have Ox:(cu.toList == [101,108,115,101])=false:=by rw[Jw];exact iw he
 have Tc:(cu.toList == [101,110,100])=false:=by rw[Ov];exact iw hd
 have d9:((f.length:Int) == 2)=false:=by rw[su];omega
 have Gn:Hid (stepS (a++[k]) cu=a++[k]):=hide (by
  rw[uh zf];unfold Iz;rw[qg hf0 (by decide),Ae];unfold lineS;rw[qg hf0 (by decide),qg hf0 (by decide),qg hf0 (by decide),qg hf0 (by decide),ay (fun h9=>hmiss h9.2),qg hf0 (by decide),qg hf0 (by decide),qg hf0 (by decide),ay he,ay hd,qg hf0 (by decide)])
 clear hf0 hmiss he hd zf;go_wp2_with fail;refine(uh Dc).mono ?_;rintro e w2 ⟨fg,fc,rfl,o7,Dk,hfl⟩;have x0:=uh Dk 0 (by omega);obtain⟨g,mc,hmv⟩:=E8 (uh o7).1.row;obtain⟨al,hal⟩:∃z,z=a.length:=⟨_,rfl⟩;have Ba:=hide hal
 have hnb:al<=1048577:=by
  have h9:=uh Ci;unfold oq at h9;rw[je] at h9;omega
 rw[←hal] at hmv;clear hal;subst hmv;have m0:=(uh o7).1.box.cell (i:=0) (v:=.slice (some ⟨g,0,none⟩) (al+1) mc) rfl;have hml:mb<w2.heap.size:=(uh o7).1.box.lt;have Bj:=hide (Aa f (.slice (some ⟨fg,0,none⟩) f.length fc) ou w2 (Fh (uh o7).2.1 (uh Af)));obtain⟨c0,c1,c2,c3⟩:=gc al f.length (by omega) (by omega);go_wp2_with fail;refine(uh Bj).mono ?_;rintro e w3 ⟨rfl,hw3⟩;obtain rfl:=hw3.symm;have qc:Hid (Gw W1 mb (stepS (a++[k]) cu) (.slice (some ⟨g,0,none⟩) (al+1) mc) bs w2):=hide (by rw[uh Gn];exact(uh o7).1);generalize jd f ou=pc at *;go_wp2;refine uh HKK _ _ _ _ rfl ?_ ?_ (uh qc)
 ·exact Qc rfl rfl rfl rfl rfl rfl rfl rfl rfl rfl
 ·rfl
set_option maxRecDepth 1000000 in
theorem a3d (cu:dh) (a:List dw) (k:dw) (hf0:fA (wordsOf 32 cu) 0=Jf) (hmiss:jd (wordsOf 32 cu) ou≠2) (he:cu≠Cj) (hd:cu≠Fz):Ji cu (a++[k]):=by
 intro t rb mb lg n lc u q hu hq hn K K1 PO wr W1 mv bs hgs Jj hlz hwq HK hm;have hfz:=(yg 32 cu).1;have hfp:1<=(wordsOf 32 cu).length:=Bg.2 (Aj 32 cu);have Dc:=hide (Du hgs cu hlz);have HKK:=hide HK;have zf:=hide (Dv (a++[k]) cu);have Ol:=hide hgs;have Ug:(q:Int)<(n:Int):=by omega
 have Ci:=hide hwq;clear HK hgs hwq;rw[zh,hu];conv=>arg 2;whnf
 have Af:=hide (zq cu hlz);generalize wordsOf 32 cu=f at *;obtain⟨Df,Jr,Gy,Hu,Ih,Iw,Gs,Em,Lr,Et⟩:=Vg hf0 false false false false false false true false false false (by decide);have Ox:(cu.toList == [101,108,115,101])=false:=by rw[Jw];exact iw he
 have Tc:(cu.toList == [101,110,100])=false:=by rw[Ov];exact iw hd
 have d9:(jd f ou == 2)=false:=by rw[su];exact hmiss
 have Gn:Hid (stepS (a++[k]) cu=a++[k]):=hide (by
  rw[uh zf];unfold Iz;rw[qg hf0 (by decide),Ae];unfold lineS;rw[qg hf0 (by decide),qg hf0 (by decide),qg hf0 (by decide),qg hf0 (by decide),qg hf0 (by decide),ay (fun h9=>hmiss h9.2),qg hf0 (by decide),qg hf0 (by decide),ay he,ay hd,qg hf0 (by decide)])
 clear hf0 hmiss he hd zf;go_wp2_with fail;refine(uh Dc).mono ?_;rintro e w2 ⟨fg,fc,rfl,o7,Dk,hfl⟩;have x0:=uh Dk 0 (by omega);obtain⟨g,mc,hmv⟩:=E8 (uh o7).1.row;obtain⟨al,hal⟩:∃z,z=a.length:=⟨_,rfl⟩;have Ba:=hide hal
 have hnb:al<=1048577:=by
  have h9:=uh Ci;unfold oq at h9;rw[je] at h9;omega
 rw[←hal] at hmv;clear hal;subst hmv;have m0:=(uh o7).1.box.cell (i:=0) (v:=.slice (some ⟨g,0,none⟩) (al+1) mc) rfl;have hml:mb<w2.heap.size:=(uh o7).1.box.lt;have Bj:=hide (Aa f (.slice (some ⟨fg,0,none⟩) f.length fc) ou w2 (Fh (uh o7).2.1 (uh Af)));obtain⟨c0,c1,c2,c3⟩:=gc al f.length (by omega) (by omega);go_wp2_with fail;refine(uh Bj).mono ?_;rintro e w3 ⟨rfl,hw3⟩;obtain rfl:=hw3.symm;have qc:Hid (Gw W1 mb (stepS (a++[k]) cu) (.slice (some ⟨g,0,none⟩) (al+1) mc) bs w2):=hide (by rw[uh Gn];exact(uh o7).1);generalize jd f ou=pc at *;go_wp2;refine uh HKK _ _ _ _ rfl ?_ ?_ (uh qc)
 ·exact Qc rfl rfl rfl rfl rfl rfl rfl rfl rfl rfl
 ·rfl
set_option maxRecDepth 1000000 in
theorem ayg (cu:dh) (a:List dw) (k:dw) (hf0:fA (wordsOf 32 cu) 0=F8) (hmiss:jd (wordsOf 32 cu) ou≠2) (he:cu≠Cj) (hd:cu≠Fz):Ji cu (a++[k]):=by
 intro t rb mb lg n lc u q hu hq hn K K1 PO wr W1 mv bs hgs Jj hlz hwq HK hm;have hfz:=(yg 32 cu).1;have hfp:1<=(wordsOf 32 cu).length:=Bg.2 (Aj 32 cu);have Dc:=hide (Du hgs cu hlz);have HKK:=hide HK;have zf:=hide (Dv (a++[k]) cu);have Ol:=hide hgs;have Ug:(q:Int)<(n:Int):=by omega
 have Ci:=hide hwq;clear HK hgs hwq;rw[zh,hu];conv=>arg 2;whnf
 have Af:=hide (zq cu hlz);generalize wordsOf 32 cu=f at *;obtain⟨Df,Jr,Gy,Hu,Ih,Iw,Gs,Em,Lr,Et⟩:=Vg hf0 false false false false false false false true false false (by decide);have Ox:(cu.toList == [101,108,115,101])=false:=by rw[Jw];exact iw he
 have Tc:(cu.toList == [101,110,100])=false:=by rw[Ov];exact iw hd
 have d9:(jd f ou == 2)=false:=by rw[su];exact hmiss
 have Gn:Hid (stepS (a++[k]) cu=a++[k]):=hide (by
  rw[uh zf];unfold Iz;rw[qg hf0 (by decide),Ae];unfold lineS;rw[qg hf0 (by decide),qg hf0 (by decide),qg hf0 (by decide),qg hf0 (by decide),qg hf0 (by decide),qg hf0 (by decide),ay (fun h9=>hmiss h9.2),qg hf0 (by decide),ay he,ay hd,qg hf0 (by decide)])
 clear hf0 hmiss he hd zf;go_wp2_with fail;refine(uh Dc).mono ?_;rintro e w2 ⟨fg,fc,rfl,o7,Dk,hfl⟩;have x0:=uh Dk 0 (by omega);obtain⟨g,mc,hmv⟩:=E8 (uh o7).1.row;obtain⟨al,hal⟩:∃z,z=a.length:=⟨_,rfl⟩;have Ba:=hide hal
 have hnb:al<=1048577:=by
  have h9:=uh Ci;unfold oq at h9;rw[je] at h9;omega
 rw[←hal] at hmv;clear hal;subst hmv;have m0:=(uh o7).1.box.cell (i:=0) (v:=.slice (some ⟨g,0,none⟩) (al+1) mc) rfl;have hml:mb<w2.heap.size:=(uh o7).1.box.lt;have Bj:=hide (Aa f (.slice (some ⟨fg,0,none⟩) f.length fc) ou w2 (Fh (uh o7).2.1 (uh Af)));obtain⟨c0,c1,c2,c3⟩:=gc al f.length (by omega) (by omega);go_wp2_with fail;refine(uh Bj).mono ?_;rintro e w3 ⟨rfl,hw3⟩;obtain rfl:=hw3.symm;have qc:Hid (Gw W1 mb (stepS (a++[k]) cu) (.slice (some ⟨g,0,none⟩) (al+1) mc) bs w2):=hide (by rw[uh Gn];exact(uh o7).1);generalize jd f ou=pc at *;go_wp2;refine uh HKK _ _ _ _ rfl ?_ ?_ (uh qc)
 ·exact Qc rfl rfl rfl rfl rfl rfl rfl rfl rfl rfl
 ·rfl
set_option maxRecDepth 1000000 in
theorem a6s (cu:dh) (a:List dw) (k:dw) (hf0:fA (wordsOf 32 cu) 0=Qn) (hmiss:(wordsOf 32 cu).length≠2) (he:cu≠Cj) (hd:cu≠Fz):Ji cu (a++[k]):=by
 intro t rb mb lg n lc u q hu hq hn K K1 PO wr W1 mv bs hgs Jj hlz hwq HK hm;have hfz:=(yg 32 cu).1;have hfp:1<=(wordsOf 32 cu).length:=Bg.2 (Aj 32 cu);have Dc:=hide (Du hgs cu hlz);have HKK:=hide HK;have zf:=hide (Dv (a++[k]) cu);have Ol:=hide hgs;have Ug:(q:Int)<(n:Int):=by omega
 have Ci:=hide hwq;clear HK hgs hwq;rw[zh,hu];conv=>arg 2;whnf
 have Af:=hide (zq cu hlz);generalize wordsOf 32 cu=f at *;obtain⟨Df,Jr,Gy,Hu,Ih,Iw,Gs,Em,Lr,Et⟩:=Vg hf0 false false false false false false false false true false (by decide);have Ox:(cu.toList == [101,108,115,101])=false:=by rw[Jw];exact iw he
 have Tc:(cu.toList == [101,110,100])=false:=by rw[Ov];exact iw hd
 have d9:((f.length:Int) == 2)=false:=by rw[su];omega
 have Gn:Hid (stepS (a++[k]) cu=a++[k]):=hide (by
  rw[uh zf];unfold Iz;rw[qg hf0 (by decide),Ae];unfold lineS;rw[qg hf0 (by decide),qg hf0 (by decide),qg hf0 (by decide),qg hf0 (by decide),qg hf0 (by decide),qg hf0 (by decide),qg hf0 (by decide),ay (fun h9=>hmiss h9.2),ay he,ay hd,qg hf0 (by decide)])
 clear hf0 hmiss he hd zf;go_wp2_with fail;refine(uh Dc).mono ?_;rintro e w2 ⟨fg,fc,rfl,o7,Dk,hfl⟩;have x0:=uh Dk 0 (by omega);obtain⟨g,mc,hmv⟩:=E8 (uh o7).1.row;obtain⟨al,hal⟩:∃z,z=a.length:=⟨_,rfl⟩;have Ba:=hide hal
 have hnb:al<=1048577:=by
  have h9:=uh Ci;unfold oq at h9;rw[je] at h9;omega
 rw[←hal] at hmv;clear hal;subst hmv;have m0:=(uh o7).1.box.cell (i:=0) (v:=.slice (some ⟨g,0,none⟩) (al+1) mc) rfl;have hml:mb<w2.heap.size:=(uh o7).1.box.lt;have Bj:=hide (Aa f (.slice (some ⟨fg,0,none⟩) f.length fc) ou w2 (Fh (uh o7).2.1 (uh Af)));obtain⟨c0,c1,c2,c3⟩:=gc al f.length (by omega) (by omega);go_wp2_with fail;refine(uh Bj).mono ?_;rintro e w3 ⟨rfl,hw3⟩;obtain rfl:=hw3.symm;have qc:Hid (Gw W1 mb (stepS (a++[k]) cu) (.slice (some ⟨g,0,none⟩) (al+1) mc) bs w2):=hide (by rw[uh Gn];exact(uh o7).1);generalize jd f ou=pc at *;go_wp2;refine uh HKK _ _ _ _ rfl ?_ ?_ (uh qc)
 ·exact Qc rfl rfl rfl rfl rfl rfl rfl rfl rfl rfl
 ·rfl
set_option maxRecDepth 1000000 in
theorem ayh (cu:dh) (a:List dw) (k:dw) (hf0:fA (wordsOf 32 cu) 0=Ac) (hmiss:¬2<jd (wordsOf 32 cu) ou) (he:cu≠Cj) (hd:cu≠Fz):Ji cu (a++[k]):=by
 intro t rb mb lg n lc u q hu hq hn K K1 PO wr W1 mv bs hgs Jj hlz hwq HK hm;have hfz:=(yg 32 cu).1;have hfp:1<=(wordsOf 32 cu).length:=Bg.2 (Aj 32 cu);have Dc:=hide (Du hgs cu hlz);have HKK:=hide HK;have zf:=hide (Dv (a++[k]) cu);have Ol:=hide hgs;have Ug:(q:Int)<(n:Int):=by omega
 have Ci:=hide hwq;clear HK hgs hwq;rw[zh,hu];conv=>arg 2;whnf
 have Af:=hide (zq cu hlz);generalize wordsOf 32 cu=f at *;obtain⟨Df,Jr,Gy,Hu,Ih,Iw,Gs,Em,Lr,Et⟩:=Vg hf0 false false false false false false false false false true (by decide);have Ox:(cu.toList == [101,108,115,101])=false:=by rw[Jw];exact iw he
 have Tc:(cu.toList == [101,110,100])=false:=by rw[Ov];exact iw hd
 have d9:decide ((2:Int)<jd f ou)=false:=iw hmiss
 have Gn:Hid (stepS (a++[k]) cu=a++[k]):=hide (by
  rw[uh zf];unfold Iz;rw[qg hf0 (by decide),Ae];unfold lineS;rw[qg hf0 (by decide),qg hf0 (by decide),qg hf0 (by decide),qg hf0 (by decide),qg hf0 (by decide),qg hf0 (by decide),qg hf0 (by decide),qg hf0 (by decide),ay he,ay hd,ay (fun h9=>hmiss h9.2)])
 clear hf0 hmiss he hd zf;go_wp2_with fail;refine(uh Dc).mono ?_;rintro e w2 ⟨fg,fc,rfl,o7,Dk,hfl⟩;have x0:=uh Dk 0 (by omega);obtain⟨g,mc,hmv⟩:=E8 (uh o7).1.row;obtain⟨al,hal⟩:∃z,z=a.length:=⟨_,rfl⟩;have Ba:=hide hal
 have hnb:al<=1048577:=by
  have h9:=uh Ci;unfold oq at h9;rw[je] at h9;omega
 rw[←hal] at hmv;clear hal;subst hmv;have m0:=(uh o7).1.box.cell (i:=0) (v:=.slice (some ⟨g,0,none⟩) (al+1) mc) rfl;have hml:mb<w2.heap.size:=(uh o7).1.box.lt;have Bj:=hide (Aa f (.slice (some ⟨fg,0,none⟩) f.length fc) ou w2 (Fh (uh o7).2.1 (uh Af)));obtain⟨c0,c1,c2,c3⟩:=gc al f.length (by omega) (by omega);go_wp2_with fail;refine(uh Bj).mono ?_;rintro e w3 ⟨rfl,hw3⟩;obtain rfl:=hw3.symm;have qc:Hid (Gw W1 mb (stepS (a++[k]) cu) (.slice (some ⟨g,0,none⟩) (al+1) mc) bs w2):=hide (by rw[uh Gn];exact(uh o7).1);generalize jd f ou=pc at *;go_wp2;refine uh HKK _ _ _ _ rfl ?_ ?_ (uh qc)
 ·exact Qc rfl rfl rfl rfl rfl rfl rfl rfl rfl rfl
 ·rfl
end Go.Proofs.YtfeejeflmcapoaaGreatDoor
