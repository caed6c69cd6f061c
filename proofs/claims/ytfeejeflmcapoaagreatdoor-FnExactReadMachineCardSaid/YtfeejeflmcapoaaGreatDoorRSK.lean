import Derived.Deep.RegionHeld3
import Derived.Deep.QuietTactic
import Derived.BigQuiet
import Derived.Test.YtfeejeflmcapoaaGreatDoorRH1
import Derived.Test.YtfeejeflmcapoaaGreatDoorMI20
set_option linter.unusedSimpArgs false
set_option linter.unusedVariables false
set_option maxHeartbeats 8000000
namespace Go.Proofs.YtfeejeflmcapoaaGreatDoor
open Go.RowKit
def afh (s:Nat) (a:Act):Nat:=match a.tmps.getD s undef with|.int _ v=>v.toNat|_=>0
def nmF (cs:List dw) (j:Nat):dh:=match cs[j]? with|some k=>k.name|none=>E0
theorem bbq (cs:List dw) (nm:dh) (j:Nat) (h:j<cs.length):af8 cs nm j=decide (nmF cs j=nm):=by
 unfold af8 nmF;rw[jy h]
theorem a6v {B g n mc:Nat} {w:bf} {cs:List dw} {bs:List Nat} (h:yh Fa Dj B w (.slice (some ⟨g,0,none⟩) n mc) cs bs) (j:Nat) (hj:j<cs.length):w.cell? ⟨g,j*7,none⟩=some (.string (nmF cs j)):=by
 obtain⟨css,subs,ho,hl,h3,_⟩:=h;have hlen:=h3.len;have hj':j<css.length:=by omega
 obtain⟨g',mc',hv,hc⟩:=Zj ho j hj';simp only[qw,uo,Addr.mk.injEq] at hv;obtain⟨⟨rfl,_⟩,_,_⟩:=hv;obtain⟨v1,v2,v3,v4,v5,v6,b1,b2,b3,b4,b5,b6,e,_⟩:=h3.get j hj' hj (by omega);have h9:=hc 0 (.string cs[j].name) (by rw[e];rfl);unfold nmF;rw[jy hj];simpa using h9
set_option maxRecDepth 1000000 in
theorem bc6 (cu:dh) (a:List dw) (k:dw) (hf0:fA (wordsOf 32 cu) 0=Es) (Ph:(wordsOf 32 cu).length=2):Ji cu (a++[k]):=by
 intro t rb mb lg n lc u q hu hq hn K K1 PO wr W1 mv bs hgs Jj hlz hwq HK hm;have hfz:=(yg 32 cu).1;have hfp:1<=(wordsOf 32 cu).length:=Bg.2 (Aj 32 cu);have Dc:=hide (Du hgs cu hlz);have HKK:=hide HK;have zf:=hide (Dv (a++[k]) cu);have Ol:=hide hgs;have Ug:(q:Int)<(n:Int):=by omega
 have Ci:=hide hwq;clear HK hgs hwq;rw[zh,hu];conv=>arg 2;whnf
 have Af:=hide (zq cu hlz);generalize wordsOf 32 cu=f at *;obtain⟨Df,Jr,Gy,Hu,Ih,Iw,Gs,Em,Lr,Et⟩:=Vg hf0 false false false false false true false false false false (by decide)
 have be0:Hid (∀i:Nat,af7 (a++[k]) (fA f 1)=some i->stepS (a++[k]) cu=a++[{ k with au:=k.au++[(i:Int)] }]):=hide (fun i hi=>by
  rw[uh zf];unfold Iz;rw[qg hf0 (by decide),Ae];unfold lineS;rw[qg hf0 (by decide),qg hf0 (by decide),qg hf0 (by decide),qg hf0 (by decide),gu ⟨hf0,Ph⟩,hi])
 have be1:Hid (af7 (a++[k]) (fA f 1)=none->stepS (a++[k]) cu=a++[k]):=hide (fun hi=>by
  rw[uh zf];unfold Iz;rw[qg hf0 (by decide),Ae];unfold lineS;rw[qg hf0 (by decide),qg hf0 (by decide),qg hf0 (by decide),qg hf0 (by decide),gu ⟨hf0,Ph⟩,hi])
 have d2:((f.length:Int) == 2)=true:=by rw[Ph];rfl
 have HL2:=hide Ph;clear hf0 zf Ph;go_wp2_with fail;refine(uh Dc).mono ?_;rintro e w2 ⟨fg,fc,rfl,o7,Dk,hfl⟩;have x0:=uh Dk 0 (by omega);obtain⟨g,mc,hmv⟩:=E8 (uh o7).1.row;obtain⟨al,hal⟩:∃z,z=a.length:=⟨_,rfl⟩;have Ba:=hide hal
 have hnb:al<=1048577:=by
  have h9:=uh Ci;unfold oq at h9;rw[je] at h9;omega
 rw[←hal] at hmv;clear hal;subst hmv;have m0:=(uh o7).1.box.cell (i:=0) (v:=.slice (some ⟨g,0,none⟩) (al+1) mc) rfl;have hml:mb<w2.heap.size:=(uh o7).1.box.lt;have Bj:=hide (Aa f (.slice (some ⟨fg,0,none⟩) f.length fc) ou w2 (Fh (uh o7).2.1 (uh Af)));obtain⟨c0,c1,c2,c3⟩:=gc al f.length (by omega) (by omega);go_wp2_with fail;refine(uh Bj).mono ?_;rintro e w3 ⟨rfl,hw3⟩;obtain rfl:=hw3.symm;have x1:=uh Dk 1 (by have:=uh HL2;omega);have hl1:(1:Int)<(f.length:Int):=by have:=uh HL2;omega
 have aiz:1<f.length:=by have:=uh HL2;omega
 have HNM:Hid (∀wr,Below w2.heap.size w2 wr->∀j,j<=al->wr.cell? ⟨g,j*7,none⟩=some (.string (nmF (a++[k]) j))):=hide (fun wr hb j hj=>a6v ((uh o7).1.below hb).row j (by rw[je,←uh Ba];simp;omega));have HUI:Hid (∀j,j<al->af8 (a++[k]) (fA f 1) j=decide (nmF (a++[k]) j=fA f 1)):=hide (fun j hj=>bbq _ _ _ (by rw[je,←uh Ba];simp;omega));generalize jd f ou=pc at *;go_wp2;refine wp_loop (fun a' wr=>∃(x:Array Value) (j:Nat),a'=⟨x,[]⟩∧x.size=369∧(∀i,i∈Pq->x.getD i undef=Yw t rb mb lg n lc i undef)∧x.getD 18 undef=.int .i64 (q:Int)∧x.getD 6 undef=.slice (some ⟨fg,0,none⟩) f.length fc∧x.getD 7 undef=.pointer (some ⟨g,al*7,none⟩)∧x.getD 10 undef=.int .i64 (j:Int)∧j<=al∧Hid (Below w2.heap.size w2 wr)∧Hid (∀i,i<j->af8 (a++[k]) (fA f 1) i=false)) (fun a' _=>al-afh 10 a') ?_ ?_
 ·refine⟨_,0,rfl,rfl,?_,rfl,rfl,rfl,rfl,jg _,hide (gy _ _),hide (fun i hi=>absurd hi (yt _))⟩
  intro i hi;unfold Pq at hi;simp only[ql,xg,xk] at hi;rcases hi with rfl|rfl|rfl|rfl|rfl|rfl|rfl|rfl|rfl|rfl<;>rfl
 ·rintro a' wr2 ⟨x,j,rfl,hx1,hx2,hx3,hx4,hx5,hx6,hj,HB,HN⟩
  obtain⟨u',hu',hu2⟩:=ac0 t rb mb lg n lc x hx1 hx2;have v18:=hu2 18;have v6:=hu2 6;have v7:=hu2 7;have v10:=hu2 10;rw[hx3] at v18;rw[hx4] at v6;rw[hx5] at v7;rw[hx6] at v10;rw[hu',zh,v18,v6,v7,v10];clear hx1 hx2 hx3 hx4 hx5 hx6 hu' hu2 v18 v6 v7 v10;have y0:=((uh HB).cell (p:=⟨mb,0,none⟩) hml).trans m0;have y1:=((uh HB).cell (p:=⟨fg,1,none⟩) hfl).trans x1;have yn:=uh HNM wr2 (uh HB) j hj;have hgw:=qj hfl (uh HB).size
  by_cases hlt:j<al
  ·have Ku:(j:Int)<(al:Int):=by omega
   have hjI:(j:Int)<(al:Int)+1:=by omega
   have hj7:j<al+1:=by omega
   by_cases hhit:nmF (a++[k]) j=fA f 1
   ·have bgd:((nmF (a++[k]) j).toList == (fA f 1).toList)=true:=by rw[hhit];simp
    go_wp2_with fail;go_quiet ((fail));have HBd:Hid (Below w2.heap.size w2 (wr2.drewN nq)):=hide (below_drewN (uh HB) nq);obtain⟨wd,hwd⟩:∃z,z=wr2.drewN nq:=⟨_,rfl⟩;rw[←hwd] at HBd ⊢;clear y0 y1 yn hgw hwd HB;have HGd:=hide ((uh o7).1.below (uh HBd));have hA:Below wd.heap.size wd (wd.alloc (.cells #[.int .i64 (j:Int)] 3)):=(gy _ _).alloc (gq _) _;have hgA:=(uh HGd).below hA;obtain⟨v1,hc1,ho1,hgl,hgrow⟩:=Q8 (bam _) (by decide) (by decide) hgA.row;rw[←uh Ba] at hc1;have hsm:=Aq (uh Ci);have Ue:=hide ho1;have Rk:Hid ((k.au.length+1)*8<=140737488355328):=hide (by omega);have Rl:Hid (W1.heap.size<=(wd.alloc (.cells #[.int .i64 (j:Int)] 3)).heap.size):=hide hgA.but.size;have HGA:=hide hgA;have HGW:=hide (fun v' w5 (h1:jm Xy w5 W1.heap.size v' (k.au++[(j:Int)])) h2 h3=>hgrow v' w5 (j:Int) (by unfold I64;omega) h1 h2 h3 (by omega));obtain⟨ia,ic,hv1⟩:=ho1.slice;obtain⟨n1,hn1⟩:∃z,z=k.au.length:=⟨_,rfl⟩;rw[←hn1] at hv1;subst hv1
    have Ql:g<wd.heap.size:=by
     obtain⟨abv,Y8,Jd,_⟩:=(uh HGd).row;exact(Bd Jd g rfl).2
    have hc0:wd.cell? ⟨g,al*7+5,none⟩=some (.slice ia n1 ic):=(hA.cell (p:=⟨g,_,none⟩) Ql).symm.trans hc1
    have Gn:Hid (stepS (a++[k]) cu=a++[{ k with au:=k.au++[(j:Int)] }]):=hide (uh be0 j (by
     unfold af7;rw[show (a++[k]).length-1=al by rw[je,←uh Ba];simp,List.find?_range_eq_some];exact⟨by rw[uh HUI j hlt];exact jf hhit,uw.2 hlt,fun i hi=>by rw[uh HN i hi];rfl⟩))
    clear hA hgA ho1 hgrow hsm hn1 hhit;go_wp2_with (at_builtin;go_must (refine Ld Xy _ rfl _ _ rfl W1.heap.size _ k.au rfl (uh Ue) wd.heap.size (j:Int) rfl (fun i u hu=>by rw[zy _ _ _ _ rfl];simpa[Xy] using hu) (uh Rk) (uh Rl) ?_));intro v' w5 yc hg5 Gm;obtain⟨⟨hc5,O6⟩,bs',hmk⟩:=uh HGW v' w5 yc (by simpa using hg5) (by simpa using Gm);rw[←uh Ba] at hc5 O6 hmk;have Ky:=hide ((uh HGA).put hm (uh Ue) (by decide) (by simpa using hg5) (uh HGA).Y7 hmk);obtain⟨va,vc,hv'⟩:=yc.slice;obtain⟨n2,hn2⟩:∃z,z=(k.au++[(j:Int)]).length:=⟨_,rfl⟩;rw[←hn2] at hv';have aff:g<w5.heap.size:=qj hgl hg5.size;subst hv';obtain⟨w6,hw6⟩:∃z,z=w5.setCell ⟨g,al*7+5,none⟩ (.slice va n2 vc):=⟨_,rfl⟩;rw[←hw6] at Ky;have Uc:=hide hw6;have qc:Hid (Gw W1 mb (stepS (a++[k]) cu) (.slice (some ⟨g,0,none⟩) (al+1) mc) bs' w6):=hide (by rw[uh Gn];exact uh Ky);clear yc hg5 Gm hmk hn2 hw6 HGW hc0 hc1;go_wp2;rw[←uh Uc];refine uh HKK _ _ _ _ rfl ?_ ?_ (uh qc)
    ·exact Qc rfl rfl rfl rfl rfl rfl rfl rfl rfl rfl
    ·rfl
   ·have bge:((nmF (a++[k]) j).toList == (fA f 1).toList)=false:=by rw[zk];exact iw hhit
    have wj:IntKind.i64.wrap ((j:Int)+1)=(j:Int)+1:=by rw[Rf];omega
    go_wp2_with fail;go_quiet ((fail));have HBd:Hid (Below w2.heap.size w2 (wr2.drewN nq)):=hide (below_drewN (uh HB) nq)
    have Zr:Hid (∀i,i<j+1->af8 (a++[k]) (fA f 1) i=false):=hide (fun i hi=>by
     by_cases e:i=j
     ·rw[e,uh HUI j hlt];exact iw hhit
     ·exact uh HN i (by omega))
    obtain⟨wd,hwd⟩:∃z,z=wr2.drewN nq:=⟨_,rfl⟩;rw[←hwd] at HBd ⊢;clear y0 y1 yn hgw hwd HB hhit;go_wp2;refine⟨⟨_,j+1,rfl,rfl,?_,rfl,rfl,rfl,rfl,by omega,HBd,Zr⟩,?_⟩
    ·exact Qc rfl rfl rfl rfl rfl rfl rfl rfl rfl rfl
    ·show al-((j:Int)+1).toNat<al-((j:Int)).toNat
     omega
  ·have be3:¬(j:Int)<(al:Int):=by omega
   have dge:decide ((j:Int)<(al:Int))=false:=iw be3
   have qc:Hid (Gw W1 mb (stepS (a++[k]) cu) (.slice (some ⟨g,0,none⟩) (al+1) mc) bs wr2):=hide (by
    rw[uh be1 (by
     unfold af7;rw[show (a++[k]).length-1=al by rw[je,←uh Ba];simp,List.find?_eq_none];intro i hi;rw[uh HN i (by have:=uw.1 hi;omega)];decide)]
    exact(uh o7).1.below (uh HB))
   clear yn;go_wp2;refine uh HKK _ _ _ _ rfl ?_ ?_ (uh qc)
   ·exact Qc rfl rfl rfl rfl rfl rfl rfl rfl rfl rfl
   ·rfl
end Go.Proofs.YtfeejeflmcapoaaGreatDoor
