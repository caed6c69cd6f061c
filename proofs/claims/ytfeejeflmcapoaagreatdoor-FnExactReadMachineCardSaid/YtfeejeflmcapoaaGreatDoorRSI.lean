import Derived.Deep.RegionHeld3
import Derived.Deep.QuietTactic
import Derived.BigQuiet
import Derived.Test.YtfeejeflmcapoaaGreatDoorRS6
import Derived.Test.YtfeejeflmcapoaaGreatDoorMI20
set_option linter.unusedSimpArgs false
set_option linter.unusedVariables false
set_option maxHeartbeats 8000000
set_option maxRecDepth 1000000
namespace Go.Proofs.YtfeejeflmcapoaaGreatDoor
open Go.RowKit
theorem bcg (eu:dh) (a:List dw) (k:dw) (hf0:fA (wordsOf 32 eu) 0=Je) (adg:je (wordsOf 32 eu) ql=2):Qm eu (a++[k]):=by
 intro t rb mb lg n lc u q hu hq hn K K1 PO wr W1 mv bs hgs Qn hlz hwq HK hm;have hfz:=(Au 32 eu).1;have hfp:1<=(wordsOf 32 eu).length:=E5.2 (Ei 32 eu);have Ie:=ak (I4 hgs eu hlz);have HKK:=ak HK;have Ac:=ak (I5 (a++[k]) eu);have Ue:=ak hgs;have hqI:(q:Int)<(n:Int):=by omega
 have Gf:=ak hwq;clear HK hgs hwq;rw[Cj,hu];conv=>arg 2;whnf
 have Bj:=ak (Eb eu hlz);generalize wordsOf 32 eu=f at *;obtain⟨Cb,Jm,Gq,Hg,H8,Io,Gj,Ec,Lp,Ej⟩:=Vb hf0 false false false false false false true false false false (by decide);have hl3:3<=f.length:=by have:=X6 f ql;omega
 have I7:Hid (stepS (a++[k]) eu=a++[Dj k ⟨1,fA f 1,0,[],Dk (f.drop 3),[]⟩]):=ak (by
  rw[uh Ac];unfold Iq;rw[qc hf0 (by decide),Aa];unfold lineS;rw[qc hf0 (by decide),qc hf0 (by decide),qc hf0 (by decide),qc hf0 (by decide),qc hf0 (by decide),gy ⟨hf0,adg⟩])
 have hz1:(fA f 1).size<=1048576:=(uh Bj).2 (fA f 1) (by rw[←Jj f 1 (by omega)];exact o7 _);have HY:Hid (Len ((fA f 1):dh).size/\I64 1/\I64 0):=ak ⟨by unfold Len;omega,by unfold I64;omega,by unfold I64;omega⟩;have d2:(je f ql==2)=true:=by rw[adg];rfl
 have Ol:=ak hl3;clear hf0 Ac adg hz1;go_wp2_with fail;refine(uh Ie).mono ?_;rintro e w2 ⟨fg,fc,rfl,uq,Gs,hfl⟩;have x0:=uh Gs 0 (by omega);obtain⟨g,mc,hmv⟩:=Lh (uh uq).1.row;obtain⟨al,hal⟩:=o8 a.length;have Cm:=ak hal
 have hnb:al<=1048577:=by
  have h9:=uh Gf;unfold pz at h9;rw[jh] at h9;omega
 rw[←hal] at hmv;clear hal;subst hmv;have m0:=(uh uq).1.box.cell (i:=0) (v:=.slice (some ⟨g,0,none⟩) (al+1) mc) rfl;have hml:mb<w2.heap.size:=(uh uq).1.box.lt;have Fa:=ak (D6 f (.slice (some ⟨fg,0,none⟩) f.length fc) ql w2 (J3 (uh uq).2.1 (uh Bj)));obtain⟨c0,c1,c2,c3⟩:=gc al f.length (by omega) (by omega);go_wp2_with fail;refine(uh Fa).mono ?_;rintro e w3 ⟨rfl,hw3⟩;obtain rfl:=hw3.symm;have x1:=uh Gs 1 (by have:=uh Ol;omega);have hl1:(1:Int)<(f.length:Int):=by have:=uh Ol;omega
 have aix:1<f.length:=by have:=uh Ol;omega
 obtain⟨v6,Pe,hc6,ho6,hz9,Qd,hz8⟩:=yj.aes (uh uq).1.row;clear hz9 hz8;obtain⟨ia0,ic0,hv6⟩:=ho6.slice;subst hv6;rw[←uh Cm] at hc6;generalize Pe.length=n10 at hc6
 have hfc:f.length<=fc:=by
  obtain⟨a',c',hv,⟨h2,h3⟩,_⟩:=J3 (uh uq).2.1 (uh Bj);simp only[qw] at hv;omega
 have HIT:=ak (fun W hW av hav=>ajh (W:=W) (uh uq).1 (uh Cm) hc6 hm (uh Gf) (uh uq).2.1 (uh Bj) (uh Ol) hW 1 0 (fA f 1) (uh HY) av hav);have Rq:Hid (∀bs' w6,Jz W1 mb (a++[Dj k ⟨1,(fA f 1),0,[],Dk (f.drop 3),[]⟩]) (.slice (some ⟨g,0,none⟩) (al+1) mc) bs' w6->Jz W1 mb (stepS (a++[k]) eu) (.slice (some ⟨g,0,none⟩) (al+1) mc) bs' w6):=ak (fun bs' w6 h=>by rw[uh I7];exact h);generalize je f ql=pc at *;have bea:w2.drew.cell? ⟨g,al*7+6,none⟩=some (.slice ia0 n10 ic0):=hc6;have x1d:w2.drew.cell? ⟨fg,1,none⟩=some (.string (fA f 1)):=x1;have h3i:(3:Int)<=(f.length:Int):=by have:=uh Ol;omega
 have h3c:(3:Int)<=(fc:Int):=by have:=uh Ol;omega
 clear ho6;go_wp2_with fail;clear x0 m0;clear Ie Ue I7 Gf HY Gs Cm Cb Jm Gq Hg H8 Io Gj Ec Lp Ej hml c0 c1 c2 c3 Qn hlz hm hfz hfp Bj uq hu
 go_region_law (first|(go_simp;go_at_call 22;refine(uh HIT _ ((iq _ _).drew) _ (by first|rfl|simp)).mono ?_;rintro e w9 ⟨ca,n9,cc,va,n2,vc,w5,w6,bs',rfl,z1,z2,z3,z4,z5,z6,Df,z7,z8,z9,Tt,HGN⟩)|(refine uj rfl _ _ 48 48 rfl rfl _ _ _ rfl rfl (uh Df) ?_))
 all_goals
  rw[←uh Tt];have qx:=ak (uh Rq _ _ (uh HGN));clear z1 z2 z5 z6 z7 z8;generalize (if fc=3 then some (⟨fg,0,none⟩:Addr) else some ⟨fg,3,none⟩)=sa;go_wp2;refine uh HKK _ _ _ _ rfl ?_ ?_ (uh qx)
  ·exact V3 rfl rfl rfl rfl rfl rfl rfl rfl rfl rfl
  ·rfl
end Go.Proofs.YtfeejeflmcapoaaGreatDoor
