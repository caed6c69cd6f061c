import Derived.Deep.RegionHeld3
import Derived.Deep.QuietTactic
import Derived.BigQuiet
import Derived.Test.YtfeejeflmcapoaaGreatDoorRS6
import Derived.Test.YtfeejeflmcapoaaGreatDoorMI20
set_option linter.unusedSimpArgs false
set_option linter.unusedVariables false
set_option maxHeartbeats 8000000
set_option maxRecDepth 1000000
namespace Go.Proofs.YtfeejeflmcapoaaGreatDoor
open Go.RowKit
def aff (s:Nat) (a:Act):Nat:=match a.tmps.getD s undef with|.int _ v=>v.toNat|_=>0
def nmF (cs:List dw) (j:Nat):dh:=match cs[j]? with|some k=>k.name|none=>E0
theorem bas (cs:List dw) (nm:dh) (j:Nat) (h:j<cs.length):af6 cs nm j=decide (nmF cs j=nm):=by
 unfold af6 nmF;rw[jy h]
theorem a6h {B g n mc:Nat} {w:cu} {cs:List dw} {bs:List Nat} (h:yj Et Ci B w (.slice (some ⟨g,0,none⟩) n mc) cs bs) (j:Nat) (hj:j<cs.length):w.cell? ⟨g,j*7,none⟩=some (.string (nmF cs j)):=by
 obtain⟨css,subs,ho,hl,h3,_⟩:=h;have hlen:=h3.len;have hj':j<css.length:=by omega
 obtain⟨g',mc',hv,hc⟩:=Zl ho j hj';simp only[qw,uw,Addr.mk.injEq] at hv;obtain⟨⟨rfl,_⟩,_,_⟩:=hv;obtain⟨v1,v2,v3,v4,v5,v6,b1,b2,b3,b4,b5,b6,e,_⟩:=h3.get j hj' hj (by omega);have h9:=hc 0 (.string cs[j].name) (by rw[e];rfl);unfold nmF;rw[jy hj];simpa using h9
theorem bch (eu:dh) (a:List dw) (k:dw) (hf0:fA (wordsOf 32 eu) 0=Eh) (O7:(wordsOf 32 eu).length=2):Qm eu (a++[k]):=by
 intro t rb mb lg n lc u q hu hq hn K K1 PO wr W1 mv bs hgs Qn hlz hwq HK hm;have hfz:=(Au 32 eu).1;have hfp:1<=(wordsOf 32 eu).length:=E5.2 (Ei 32 eu);have Ie:=ak (I4 hgs eu hlz);have HKK:=ak HK;have Ac:=ak (I5 (a++[k]) eu);have Ue:=ak hgs;have hqI:(q:Int)<(n:Int):=by omega
 have Gf:=ak hwq;clear HK hgs hwq;rw[Cj,hu];conv=>arg 2;whnf
 have Bj:=ak (Eb eu hlz);generalize wordsOf 32 eu=f at *;obtain⟨Cb,Jm,Gq,Hg,H8,Io,Gj,Ec,Lp,Ej⟩:=Vb hf0 false false false false false true false false false false (by decide)
 have beb:Hid (∀i:Nat,af5 (a++[k]) (fA f 1)=some i->stepS (a++[k]) eu=a++[{ k with ay:=k.ay++[(i:Int)] }]):=ak (fun i hi=>by
  rw[uh Ac];unfold Iq;rw[qc hf0 (by decide),Aa];unfold lineS;rw[qc hf0 (by decide),qc hf0 (by decide),qc hf0 (by decide),qc hf0 (by decide),gy ⟨hf0,O7⟩,hi])
 have bec:Hid (af5 (a++[k]) (fA f 1)=none->stepS (a++[k]) eu=a++[k]):=ak (fun hi=>by
  rw[uh Ac];unfold Iq;rw[qc hf0 (by decide),Aa];unfold lineS;rw[qc hf0 (by decide),qc hf0 (by decide),qc hf0 (by decide),qc hf0 (by decide),gy ⟨hf0,O7⟩,hi])
 have d2:((f.length:Int)==2)=true:=by rw[O7];rfl
 have HL2:=ak O7;clear hf0 Ac O7;go_wp2_with fail;refine(uh Ie).mono ?_;rintro e w2 ⟨fg,fc,rfl,uq,Gs,hfl⟩;have x0:=uh Gs 0 (by omega);obtain⟨g,mc,hmv⟩:=Lh (uh uq).1.row;obtain⟨al,hal⟩:=o8 a.length;have Cm:=ak hal
 have hnb:al<=1048577:=by
  have h9:=uh Gf;unfold pz at h9;rw[jh] at h9;omega
 rw[←hal] at hmv;clear hal;subst hmv;have m0:=(uh uq).1.box.cell (i:=0) (v:=.slice (some ⟨g,0,none⟩) (al+1) mc) rfl;have hml:mb<w2.heap.size:=(uh uq).1.box.lt;have Fa:=ak (D6 f (.slice (some ⟨fg,0,none⟩) f.length fc) ql w2 (J3 (uh uq).2.1 (uh Bj)));obtain⟨c0,c1,c2,c3⟩:=gc al f.length (by omega) (by omega);go_wp2_with fail;refine(uh Fa).mono ?_;rintro e w3 ⟨rfl,hw3⟩;obtain rfl:=hw3.symm;have x1:=uh Gs 1 (by have:=uh HL2;omega);have hl1:(1:Int)<(f.length:Int):=by have:=uh HL2;omega
 have aix:1<f.length:=by have:=uh HL2;omega
 have HNM:Hid (∀wr,Below w2.heap.size w2 wr->∀j,j<=al->wr.cell? ⟨g,j*7,none⟩=some (.string (nmF (a++[k]) j))):=ak (fun wr hb j hj=>a6h ((uh uq).1.below hb).row j (by rw[jh,←uh Cm];simp;omega));have HUI:Hid (∀j,j<al->af6 (a++[k]) (fA f 1) j=decide (nmF (a++[k]) j=fA f 1)):=ak (fun j hj=>bas _ _ _ (by rw[jh,←uh Cm];simp;omega));generalize je f ql=pc at *;go_wp2;refine wp_loop (fun a' wr=>∃(x:Array Value) (j:Nat),a'=⟨x,[]⟩/\x.size=369/\(∀i,i∈Ph->x.getD i undef=Yv t rb mb lg n lc i undef)/\x.getD 18 undef=.int .i64 (q:Int)/\x.getD 6 undef=.slice (some ⟨fg,0,none⟩) f.length fc/\x.getD 7 undef=.pointer (some ⟨g,al*7,none⟩)/\x.getD 10 undef=.int .i64 (j:Int)/\j<=al/\Hid (Below w2.heap.size w2 wr)/\Hid (∀i,i<j->af6 (a++[k]) (fA f 1) i=false)) (fun a' _=>al-aff 10 a') ?_ ?_
 ·refine⟨_,0,rfl,rfl,?_,rfl,rfl,rfl,rfl,jg _,ak (iq _ _),ak (fun i hi=>absurd hi (yu _))⟩
  intro i hi;unfold Ph at hi;simp only[qj,xq,xu] at hi;rcases hi with rfl|rfl|rfl|rfl|rfl|rfl|rfl|rfl|rfl|rfl<;>rfl
 ·rintro a' wr2 ⟨x,j,rfl,hx1,hx2,hx3,hx4,hx5,hx6,hj,HB,HN⟩
  obtain⟨u',hu',hu2⟩:=acy t rb mb lg n lc x hx1 hx2;have v18:=hu2 18;have v6:=hu2 6;have v7:=hu2 7;have v10:=hu2 10;rw[hx3] at v18;rw[hx4] at v6;rw[hx5] at v7;rw[hx6] at v10;rw[hu',Cj,v18,v6,v7,v10];clear hx1 hx2 hx3 hx4 hx5 hx6 hu' hu2 v18 v6 v7 v10;have y0:=((uh HB).cell (p:=⟨mb,0,none⟩) hml).trans m0;have y1:=((uh HB).cell (p:=⟨fg,1,none⟩) hfl).trans x1;have yn:=uh HNM wr2 (uh HB) j hj;have hgw:=qg hfl (uh HB).size
  by_cases hlt:j<al
  ·have Kq:(j:Int)<(al:Int):=by omega
   have hjI:(j:Int)<(al:Int)+1:=by omega
   have hj7:j<al+1:=by omega
   by_cases hhit:nmF (a++[k]) j=fA f 1
   ·have bft:((nmF (a++[k]) j).toList==(fA f 1).toList)=true:=by rw[hhit];simp
    go_wp2_with fail;go_quiet ((fail));have HBd:Hid (Below w2.heap.size w2 (wr2.drewN nq)):=ak (below_drewN (uh HB) nq);obtain⟨wd,hwd⟩:=o8 (wr2.drewN nq);rw[←hwd] at HBd ⊢;clear y0 y1 yn hgw hwd HB;have HGd:=ak ((uh uq).1.below (uh HBd));have hA:Below wd.heap.size wd (wd.alloc (.cells #[.int .i64 (j:Int)] 3)):=(iq _ _).alloc (gu _) _;have hgA:=(uh HGd).below hA;obtain⟨v1,hc1,ho1,hgl,hgrow⟩:=Qu (a99 _) (by decide) (by decide) hgA.row;rw[←uh Cm] at hc1;have hsm:=Aj (uh Gf);have Ua:=ak ho1;have Qz:Hid ((k.ay.length+1)*8<=140737488355328):=ak (by omega);have Q8:Hid (W1.heap.size<=(wd.alloc (.cells #[.int .i64 (j:Int)] 3)).heap.size):=ak hgA.but.size;have HGA:=ak hgA;have HGW:=ak (fun v' w5 (h1:jq Xv w5 W1.heap.size v' (k.ay++[(j:Int)])) h2 h3=>hgrow v' w5 (j:Int) (by unfold I64;omega) h1 h2 h3 (by omega));obtain⟨ia,ic,hv1⟩:=ho1.slice;obtain⟨n1,hn1⟩:=o8 k.ay.length;rw[←hn1] at hv1;subst hv1
    have Qd:g<wd.heap.size:=by
     obtain⟨abr,Y6,Jc,_⟩:=(uh HGd).row;exact(Az Jc g rfl).2
    have hc0:wd.cell? ⟨g,al*7+5,none⟩=some (.slice ia n1 ic):=(hA.cell (p:=⟨g,_,none⟩) Qd).symm.trans hc1
    have I7:Hid (stepS (a++[k]) eu=a++[{ k with ay:=k.ay++[(j:Int)] }]):=ak (uh beb j (by
     unfold af5;rw[show (a++[k]).length-1=al by rw[jh,←uh Cm];simp,List.find?_range_eq_some];exact⟨by rw[uh HUI j hlt];exact jf hhit,uz.2 hlt,fun i hi=>by rw[uh HN i hi];rfl⟩))
    clear hA hgA ho1 hgrow hsm hn1 hhit;go_wp2_with (at_builtin;go_must (refine La Xv _ rfl _ _ rfl W1.heap.size _ k.ay rfl (uh Ua) wd.heap.size (j:Int) rfl (fun i u hu=>by rw[zu _ _ _ _ rfl];simpa[Xv] using hu) (uh Qz) (uh Q8) ?_));intro v' w5 yh hg5 F9;obtain⟨⟨hc5,Oy⟩,bs',hmk⟩:=uh HGW v' w5 yh (by simpa using hg5) (by simpa using F9);rw[←uh Cm] at hc5 Oy hmk;have Ku:=ak ((uh HGA).put hm (uh Ua) (by decide) (by simpa using hg5) (uh HGA).Y5 hmk);obtain⟨va,vc,hv'⟩:=yh.slice;obtain⟨n2,hn2⟩:=o8 ((k.ay++[(j:Int)]).length);rw[←hn2] at hv';have afb:g<w5.heap.size:=qg hgl hg5.size;subst hv';obtain⟨w6,hw6⟩:=o8 (w5.setCell ⟨g,al*7+5,none⟩ (.slice va n2 vc));rw[←hw6] at Ku;have Tt:=ak hw6;have qx:Hid (Jz W1 mb (stepS (a++[k]) eu) (.slice (some ⟨g,0,none⟩) (al+1) mc) bs' w6):=ak (by rw[uh I7];exact uh Ku);clear yh hg5 F9 hmk hn2 hw6 HGW hc0 hc1;go_wp2;rw[←uh Tt];refine uh HKK _ _ _ _ rfl ?_ ?_ (uh qx)
    ·exact V3 rfl rfl rfl rfl rfl rfl rfl rfl rfl rfl
    ·rfl
   ·have bfu:((nmF (a++[k]) j).toList==(fA f 1).toList)=false:=by rw[zi];exact iy hhit
    have wj:IntKind.i64.wrap ((j:Int)+1)=(j:Int)+1:=by rw[Qw];omega
    go_wp2_with fail;go_quiet ((fail));have HBd:Hid (Below w2.heap.size w2 (wr2.drewN nq)):=ak (below_drewN (uh HB) nq)
    have Zp:Hid (∀i,i<j+1->af6 (a++[k]) (fA f 1) i=false):=ak (fun i hi=>by
     by_cases e:i=j
     ·rw[e,uh HUI j hlt];exact iy hhit
     ·exact uh HN i (by omega))
    obtain⟨wd,hwd⟩:=o8 (wr2.drewN nq);rw[←hwd] at HBd ⊢;clear y0 y1 yn hgw hwd HB hhit;go_wp2;refine⟨⟨_,j+1,rfl,rfl,?_,rfl,rfl,rfl,rfl,by omega,HBd,Zp⟩,?_⟩
    ·exact V3 rfl rfl rfl rfl rfl rfl rfl rfl rfl rfl
    ·show al-((j:Int)+1).toNat<al-((j:Int)).toNat
     omega
  ·have bed:¬(j:Int)<(al:Int):=by omega
   have dge:decide ((j:Int)<(al:Int))=false:=iy bed
   have qx:Hid (Jz W1 mb (stepS (a++[k]) eu) (.slice (some ⟨g,0,none⟩) (al+1) mc) bs wr2):=ak (by
    rw[uh bec (by
     unfold af5;rw[show (a++[k]).length-1=al by rw[jh,←uh Cm];simp,List.find?_eq_none];intro i hi;rw[uh HN i (by have:=uz.1 hi;omega)];decide)]
    exact(uh uq).1.below (uh HB))
   clear yn;go_wp2;refine uh HKK _ _ _ _ rfl ?_ ?_ (uh qx)
   ·exact V3 rfl rfl rfl rfl rfl rfl rfl rfl rfl rfl
   ·rfl
end Go.Proofs.YtfeejeflmcapoaaGreatDoor
