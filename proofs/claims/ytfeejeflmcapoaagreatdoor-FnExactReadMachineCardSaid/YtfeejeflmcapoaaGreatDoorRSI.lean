import Derived.Deep.RegionHeld3
import Derived.Deep.QuietTactic
import Derived.BigQuiet
import Derived.Test.YtfeejeflmcapoaaGreatDoorRH1
import Derived.Test.YtfeejeflmcapoaaGreatDoorMI20
set_option linter.unusedSimpArgs false
set_option linter.unusedVariables false
set_option maxHeartbeats 8000000
namespace Go.Proofs.YtfeejeflmcapoaaGreatDoor
open Go.RowKit
set_option maxRecDepth 1000000 in
theorem bc5 (cu:dh) (a:List dw) (k:dw) (hf0:fA (wordsOf 32 cu) 0=Jf) (adi:jd (wordsOf 32 cu) ou=2):Ji cu (a++[k]):=by
 intro t rb mb lg n lc u q hu hq hn K K1 PO wr W1 mv bs hgs Jj hlz hwq HK hm;have hfz:=(yg 32 cu).1;have hfp:1<=(wordsOf 32 cu).length:=Bg.2 (Aj 32 cu);have Dc:=hide (Du hgs cu hlz);have HKK:=hide HK;have zf:=hide (Dv (a++[k]) cu);have Ol:=hide hgs;have Ug:(q:Int)<(n:Int):=by omega
 have Ci:=hide hwq;clear HK hgs hwq;rw[zh,hu];conv=>arg 2;whnf
 have Af:=hide (zq cu hlz);generalize wordsOf 32 cu=f at *;obtain⟨Df,Jr,Gy,Hu,Ih,Iw,Gs,Em,Lr,Et⟩:=Vg hf0 false false false false false false true false false false (by decide);have hl3:3<=f.length:=by have:=Yc f ou;omega
 have Gn:Hid (stepS (a++[k]) cu=a++[Dw k ⟨1,fA f 1,0,[],Dx (f.drop 3),[]⟩]):=hide (by
  rw[uh zf];unfold Iz;rw[qg hf0 (by decide),Ae];unfold lineS;rw[qg hf0 (by decide),qg hf0 (by decide),qg hf0 (by decide),qg hf0 (by decide),qg hf0 (by decide),gu ⟨hf0,adi⟩])
 have hz1:(fA f 1).size<=1048576:=(uh Af).2 (fA f 1) (by rw[←Jo f 1 (by omega)];exact pz _);have HY:Hid (Len ((fA f 1):dh).size∧I64 1∧I64 0):=hide ⟨by unfold Len;omega,by unfold I64;omega,by unfold I64;omega⟩;have d2:(jd f ou == 2)=true:=by rw[adi];rfl
 have Oq:=hide hl3;clear hf0 zf adi hz1;go_wp2_with fail;refine(uh Dc).mono ?_;rintro e w2 ⟨fg,fc,rfl,o7,Dk,hfl⟩;have x0:=uh Dk 0 (by omega);obtain⟨g,mc,hmv⟩:=E8 (uh o7).1.row;obtain⟨al,hal⟩:∃z,z=a.length:=⟨_,rfl⟩;have Ba:=hide hal
 have hnb:al<=1048577:=by
  have h9:=uh Ci;unfold oq at h9;rw[je] at h9;omega
 rw[←hal] at hmv;clear hal;subst hmv;have m0:=(uh o7).1.box.cell (i:=0) (v:=.slice (some ⟨g,0,none⟩) (al+1) mc) rfl;have hml:mb<w2.heap.size:=(uh o7).1.box.lt;have Bj:=hide (Aa f (.slice (some ⟨fg,0,none⟩) f.length fc) ou w2 (Fh (uh o7).2.1 (uh Af)));obtain⟨c0,c1,c2,c3⟩:=gc al f.length (by omega) (by omega);go_wp2_with fail;refine(uh Bj).mono ?_;rintro e w3 ⟨rfl,hw3⟩;obtain rfl:=hw3.symm;have x1:=uh Dk 1 (by have:=uh Oq;omega);have hl1:(1:Int)<(f.length:Int):=by have:=uh Oq;omega
 have aiz:1<f.length:=by have:=uh Oq;omega
 obtain⟨v6,Pn,hc6,ho6,hz9,Ql,hz8⟩:=yh.aev (uh o7).1.row;clear hz9 hz8;obtain⟨ia0,ic0,hv6⟩:=ho6.slice;subst hv6;rw[←uh Ba] at hc6;generalize Pn.length=n10 at hc6
 have hfc:f.length<=fc:=by
  obtain⟨a',c',hv,⟨h2,h3⟩,_⟩:=Fh (uh o7).2.1 (uh Af);simp only[qw] at hv;omega
 have HIT:=hide (fun W hW av hav=>aji (W:=W) (uh o7).1 (uh Ba) hc6 hm (uh Ci) (uh o7).2.1 (uh Af) (uh Oq) hW 1 0 (fA f 1) (uh HY) av hav);have Si:Hid (∀bs' w6,Gw W1 mb (a++[Dw k ⟨1,(fA f 1),0,[],Dx (f.drop 3),[]⟩]) (.slice (some ⟨g,0,none⟩) (al+1) mc) bs' w6->Gw W1 mb (stepS (a++[k]) cu) (.slice (some ⟨g,0,none⟩) (al+1) mc) bs' w6):=hide (fun bs' w6 h=>by rw[uh Gn];exact h);generalize jd f ou=pc at *;have bez:w2.drew.cell? ⟨g,al*7+6,none⟩=some (.slice ia0 n10 ic0):=hc6;have x1d:w2.drew.cell? ⟨fg,1,none⟩=some (.string (fA f 1)):=x1;have h3i:(3:Int)<=(f.length:Int):=by have:=uh Oq;omega
 have h3c:(3:Int)<=(fc:Int):=by have:=uh Oq;omega
 clear ho6;go_wp2_with fail;clear x0 m0;clear Dc Ol Gn Ci HY Dk Ba Df Jr Gy Hu Ih Iw Gs Em Lr Et hml c0 c1 c2 c3 Jj hlz hm hfz hfp Af o7 hu
 go_region_law (first|(go_simp;go_at_call 22;refine(uh HIT _ ((gy _ _).drew) _ (by first|rfl|simp)).mono ?_;rintro e w9 ⟨ca,n9,cc,va,n2,vc,w5,w6,bs',rfl,z1,z2,z3,z4,z5,z6,Dp,z7,z8,z9,Uc,HGN⟩)|(refine ug rfl _ _ 48 48 rfl rfl _ _ _ rfl rfl (uh Dp) ?_))
 all_goals
  rw[←uh Uc];have qc:=hide (uh Si _ _ (uh HGN));clear z1 z2 z5 z6 z7 z8;generalize (if fc=3 then some (⟨fg,0,none⟩:Addr) else some ⟨fg,3,none⟩)=sa;go_wp2;refine uh HKK _ _ _ _ rfl ?_ ?_ (uh qc)
  ·exact Qc rfl rfl rfl rfl rfl rfl rfl rfl rfl rfl
  ·rfl
end Go.Proofs.YtfeejeflmcapoaaGreatDoor
