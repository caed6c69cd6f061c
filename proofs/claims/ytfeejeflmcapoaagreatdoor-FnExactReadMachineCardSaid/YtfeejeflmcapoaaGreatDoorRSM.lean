import Derived.Deep.RegionHeld3
import Derived.Deep.QuietTactic
import Derived.BigQuiet
import Derived.Test.YtfeejeflmcapoaaGreatDoorRH1
import Derived.Test.YtfeejeflmcapoaaGreatDoorMI20
import Derived.Test.YtfeejeflmcapoaaGreatDoorRSK
set_option linter.unusedSimpArgs false
set_option linter.unusedVariables false
set_option maxHeartbeats 16000000
namespace Go.Proofs.YtfeejeflmcapoaaGreatDoor
open Go.RowKit
set_option maxRecDepth 1000000 in
theorem g_call (cu:dh) (a:List dw) (k:dw) (hf0:fA (wordsOf 32 cu) 0=Ac) (adi:2<jd (wordsOf 32 cu) ou):Ji cu (a++[k]):=by
 intro t rb mb lg n lc u q hu hq hn K K1 PO wr W1 mv bs hgs Jj hlz hwq HK hm;have he:cu≠Cj:=fun e=>by rw[e] at hf0;exact absurd hf0 (by decide)
 have hd:cu≠Fz:=fun e=>by rw[e] at hf0;exact absurd hf0 (by decide)
 have hfz:=(yg 32 cu).1;have hfp:1<=(wordsOf 32 cu).length:=Bg.2 (Aj 32 cu);have Dc:=hide (Du hgs cu hlz);have HKK:=hide HK;have zf:=hide (Dv (a++[k]) cu);have Ol:=hide hgs;have Ug:(q:Int)<(n:Int):=by omega
 have Ci:=hide hwq;clear HK hgs hwq;rw[zh,hu];conv=>arg 2;whnf
 have Af:=hide (zq cu hlz);generalize wordsOf 32 cu=f at *;obtain⟨Df,Jr,Gy,Hu,Ih,Iw,Gs,Em,Lr,Et⟩:=Vg hf0 false false false false false false false false false true (by decide);have Ox:(cu.toList == [101,108,115,101])=false:=by rw[Jw];exact iw he
 have Tc:(cu.toList == [101,110,100])=false:=by rw[Ov];exact iw hd
 obtain⟨c,hc⟩:=H8 (show 0<=jd f ou by omega);have hcl:=Yc f ou;rw[hc] at adi hcl;have hc2:2<c:=by omega
 have hcf:c<f.length:=by omega
 have Gn:Hid (stepS (a++[k]) cu=a++[Dw k ⟨3,E0,Bo (fA f 1),vw f 2 c,[],abm (f.drop (c+1))⟩]):=hide (by
  rw[uh zf];unfold Iz;rw[qg hf0 (by decide),Ae];unfold lineS;rw[qg hf0 (by decide),qg hf0 (by decide),qg hf0 (by decide),qg hf0 (by decide),qg hf0 (by decide),qg hf0 (by decide),qg hf0 (by decide),qg hf0 (by decide),ay he,ay hd,gu ⟨hf0,by rw[hc];omega⟩,hc,En])
 have hz1:(fA f 1).size<=1048576:=(uh Af).2 (fA f 1) (by rw[←Jo f 1 (by omega)];exact pz _);have ai2:=hide (fun W=>aaj (fA f 1) W hz1);have HPC:=hide hc;have HC2:=hide hc2;have Xq:=hide hcf;have dgt:decide ((2:Int)<(c:Int))=true:=jf (by omega);clear hf0 zf hz1 hc hcl adi he hd;go_wp2_with fail;refine(uh Dc).mono ?_;rintro e w2 ⟨fg,fc,rfl,o7,Dk,hfl⟩;have x0:=uh Dk 0 (by omega);obtain⟨g,mc,hmv⟩:=E8 (uh o7).1.row;obtain⟨al,hal⟩:∃z,z=a.length:=⟨_,rfl⟩;have Ba:=hide hal
 have hnb:al<=1048577:=by
  have h9:=uh Ci;unfold oq at h9;rw[je] at h9;omega
 rw[←hal] at hmv;clear hal;subst hmv;have m0:=(uh o7).1.box.cell (i:=0) (v:=.slice (some ⟨g,0,none⟩) (al+1) mc) rfl;have hml:mb<w2.heap.size:=(uh o7).1.box.lt;have Bj:=hide (Aa f (.slice (some ⟨fg,0,none⟩) f.length fc) ou w2 (Fh (uh o7).2.1 (uh Af)));obtain⟨c0,c1,c2,c3⟩:=gc al f.length (by omega) (by omega);go_wp2_with fail;refine(uh Bj).mono ?_;rintro e w3 ⟨rfl,hw3⟩;obtain rfl:=hw3.symm;rw[uh HPC];have x1:=uh Dk 1 (by have:=uh Xq;omega);have hl1:(1:Int)<(f.length:Int):=by have:=uh Xq;omega
 have aiz:1<f.length:=by have:=uh Xq;omega
 have hfc:f.length<=fc:=by
  obtain⟨a',c',hv,⟨h2,h3⟩,_⟩:=Fh (uh o7).2.1 (uh Af);simp only[qw] at hv;omega
 obtain⟨at_,hat⟩:∃z,z=Bo (fA f 1):=⟨_,rfl⟩;rw[←hat] at ai2 Gn;have HAT:Hid (I64 at_):=hide (by have h9:=aea (fA f 1);unfold I64;omega);clear hat Dc Ol;go_wp2_with fail;refine(uh ai2 _).mono ?_;rintro e w8 ⟨rfl,hw8⟩;obtain rfl:=hw8.symm;go_wp2_with fail;obtain⟨sb,hsb⟩:∃z,z=w2.heap.size:=⟨_,rfl⟩;obtain⟨w3,hw3⟩:∃z,z=w2.alloc (.cells #[.int .i64 3,.string ⟨#[]⟩,.int .i64 at_,.slice none 0 0,.slice none 0 0,.slice none 0 0] 60):=⟨_,rfl⟩;have hb3:Below w2.heap.size w2 w3:=by rw[hw3];exact(gy _ _).alloc (gq _) _
 have apt:jc w3 sb 60 #[.int .i64 3,.string ⟨#[]⟩,.int .i64 at_,.slice none 0 0,.slice none 0 0,.slice none 0 0]:=by rw[hw3];exact aa8 hsb
 have ho3:jm ni w3.drew wr.heap.size (.slice (some ⟨fg,0,none⟩) f.length fc) f:=(uh o7).2.1.below hb3.drew;obtain⟨va,vc,w5,hrun,yc,hb5⟩:=azw ho3 c (uh HC2) (Nat.le_of_lt (uh Xq)) (uh Af).1 (fc-2);have aeu:Below w3.heap.size w3 w5:=Below.trans (Below.drew (gy w3.heap.size w3)) hb5;have apu:jc w5 sb 60 #[.int .i64 3,.string ⟨#[]⟩,.int .i64 at_,.slice none 0 0,.slice none 0 0,.slice none 0 0]:=apt.below aeu apt.lt;obtain⟨ov,hov⟩:∃z,z=Value.slice va (c-2) vc:=⟨_,rfl⟩;obtain⟨W4,hW4⟩:∃z,z=w5.setCell ⟨sb,3,none⟩ ov:=⟨_,rfl⟩;have ala:jc W4 sb 60 #[.int .i64 3,.string ⟨#[]⟩,.int .i64 at_,ov,.slice none 0 0,.slice none 0 0]:=by rw[hW4];exact apu.set 3 ov
 have hset:∀b,b≠sb->W4.heap[b]?=w5.heap[b]?:=fun b hb=>by rw[hW4];exact yx _ _ _ _ (fun e=>hb e)
 have hz4:W4.heap.size=w5.heap.size:=by rw[hW4];simp[World.setCell]
 have bbr:Below w2.heap.size w2 w5:=hb3.trans (aeu.mono hb3.size)
 have hb4:Below w2.heap.size w2 W4:=by
  rw[hW4];exact bbr.setCell (by show w2.heap.size<=sb;omega) _
 have be5:sb<w3.heap.size:=apt.lt
 have bbs:jm ni W4 w3.heap.size ov (vw f 2 c):=by
  rw[←hov] at yc;exact yc.Ii (fun b hb=>hset b (by have:=yc.block b hb;have h9:w3.drew.heap.size=w3.heap.size:=rfl;omega))
 have Dp:Hid ((Builtin.append_ #[40,40] 40 #[.slice none 0 0,.slice (some ⟨fg,2,none⟩) (c-2) (fc-2)]).run Tryz.prog w3.drew=.ok ov w5):=hide (by rw[hov];exact hrun);have HW4:=hide hW4;have HM4:=hide (And.intro ala (And.intro hb4 bbs));have z3:w3.drew.cell? ⟨sb,3,none⟩=some (.slice none 0 0):=apt.cell (i:=3) (v:=.slice none 0 0) rfl;have z3':w3.cell? ⟨sb,3,none⟩=some (.slice none 0 0):=z3;have z5:w5.cell? ⟨sb,3,none⟩=some (.slice none 0 0):=apu.cell (i:=3) (v:=.slice none 0 0) rfl;have z6:w5.frozen? ⟨sb,3,none⟩=false:=apu.free 3;have z7:sb<w5.heap.size:=apu.lt;have hcn:¬fc=2:=by have:=uh HC2;omega
 have hcI:(2:Int)<=(c:Int):=by have:=uh HC2;omega
 have hcJ:(c:Int)<=(fc:Int):=by have:=uh Xq;omega
 have hcK:2<=c:=by have:=uh HC2;omega
 have hcL:c<=fc:=by have:=uh Xq;omega
 have hvk:ov.oneCell'=true:=by rw[hov];rfl
 subst hov;rw[←hw3,←hsb];have U7:=hide hsb;clear hsb hw3 apt ala apu bbr aeu hb5 yc hrun ho3 hb3 hset hz4 hW4 bbs hb4 x0
 go_region_law (refine ug rfl _ _ 40 40 rfl rfl _ _ _ rfl rfl (uh Dp) ?_)
 all_goals
  rw[←uh HW4];have wc1:IntKind.i64.wrap ((c:Int)+1)=(c:Int)+1:=by rw[Rf];have:=uh Xq;omega
  have HSW:Hid (sb<W4.heap.size):=hide (uh HM4).1.lt;have HB4:Hid (∀X,But [sb] W4 X->Below w2.heap.size w2 X):=hide (fun X hX=>(uh HM4).2.1.trans (hX.below _ (uh HM4).2.1.size (fun b hb=>by rw[yj] at hb;rw[hb,uh U7];exact gq _)));have Xj:=hide (Md.init (uh HM4).1);have HZ3:Hid (w2.heap.size<=w3.heap.size∧w2.heap.size<=W4.heap.size):=hide ⟨by have:=uh U7;omega,(uh HM4).2.1.size⟩;have HOK:Hid ((∀x,x∈vw f 2 c->okS x)∧(vw f 2 c).length<=2000000):=hide ⟨fun x hx=>by have h9:=(uh Af).2 x (List.mem_of_mem_drop (List.mem_of_mem_take hx));unfold okS Len;omega,by rw[Ru f 2 c (by have:=uh HC2;omega) (by have:=uh Xq;omega)];have:=(uh Af).1;have:=uh Xq;omega⟩;clear z3 z3' z5 z6 z7 be5 hcn hcI hcJ hcK hcL Dp HW4 hvk ai2 Bj x1 m0 HPC;go_wp2
  rename_i K9 HT9
  refine wp_loop (fun a' wr2=>∃(x:Array Value) (i gn gc:Nat) (ga:Option Addr),a'=⟨x,[]⟩∧x.size=369∧(∀i,i∈Pq->x.getD i undef=Yw t rb mb lg n lc i undef)∧x.getD 18 undef=.int .i64 (q:Int)∧x.getD 6 undef=.slice (some ⟨fg,0,none⟩) f.length fc∧x.getD 7 undef=.pointer (some ⟨g,al*7,none⟩)∧x.getD 8 undef=.int .i64 (c:Int)∧x.getD 11 undef=.pointer (some ⟨sb,0,none⟩)∧x.getD 12 undef=.slice ga gn gc∧x.getD 13 undef=.int .i64 (i:Int)∧(c+1<=i∧i<=f.length)∧Hid (∃d cur aa an ac abs,cutAt Cb ((f.drop (c+1)).take (i-(c+1)))=d++[cur]∧Md W4 sb at_ (.slice va (c-2) vc) (d.map Dx) cur (.slice aa an ac) (.slice ga gn gc) abs wr2)) (fun a' _=>f.length-afh 13 a') ?_ ?_
  ·refine⟨_,c+1,0,0,some ⟨W4.heap.size,0,none⟩,rfl,rfl,?_,rfl,rfl,rfl,rfl,rfl,rfl,rfl,⟨gq _,uh Xq⟩,hide ⟨[],[],none,0,0,[],by rw[Nat.sub_self];rfl,uh Xj⟩⟩
   intro i hi;unfold Pq at hi;simp only[ql,xg,xk] at hi;rcases hi with rfl|rfl|rfl|rfl|rfl|rfl|rfl|rfl|rfl|rfl<;>rfl
  ·rintro a' wr2 ⟨x,i,gn,gc,ga,rfl,hx1,hx2,hx3,hx4,hx5,hx6,hx7,hx8,F5,⟨hi1,hi2⟩,HC⟩
   obtain⟨u',hu',hu2⟩:=ac0 t rb mb lg n lc x hx1 hx2;have v18:=hu2 18;have v6:=hu2 6;have v7:=hu2 7;have v8:=hu2 8;have v11:=hu2 11;have v12:=hu2 12;have v13:=hu2 13;rw[hx3] at v18;rw[hx4] at v6;rw[hx5] at v7;rw[hx6] at v8;rw[hx7] at v11;rw[hx8] at v12;rw[F5] at v13;rw[hu',zh,v18,v6,v7,v8,v11,v12,v13];obtain⟨d,cur,aa,an,ac,abs,hcut,hcs⟩:=uh HC;obtain⟨⟨be6,be7⟩,bbt⟩:=cut_small Cb _ _ _ hcut
   have hdl:((f.drop (c+1)).take (i-(c+1))).length<=1048577:=by
    rw[Nq,Dh];have:=(uh Af).1;omega
   have HSM:Hid ((∀p,p∈cur->p.size<=1048576)∧cur.length<=1048577∧(d.map Dx).length<=1048577):=hide ⟨fun p hp=>(uh Af).2 p (List.mem_of_mem_drop (List.mem_of_mem_take (bbt p hp))),by omega,by rw[Ad];omega⟩;have ali:=hide hcut;have Tz:=hide hcs;clear hx1 hx2 hx3 hx4 hx5 hx6 hx7 hx8 F5 hu' hu2 v18 v6 v7 v8 v11 v12 v13 HC hcut hcs be6 be7 bbt hdl Xj;have hbw:=uh HB4 wr2 (uh Tz).but;have z5:=(uh Tz).box.cell (i:=5) (v:=.slice aa an ac) rfl;have z6:sb<wr2.heap.size:=(uh Tz).box.lt
   by_cases hlt:i<f.length
   ·have Ku:(i:Int)<(f.length:Int):=by omega
    have yi:wr2.cell? ⟨fg,i,none⟩=some (.string (fA f i)):=(hbw.cell (p:=⟨fg,i,none⟩) hfl).trans (uh Dk i hlt);have hfw:fg<wr2.heap.size:=qj hfl hbw.size;have wi:IntKind.i64.wrap ((i:Int)+1)=(i:Int)+1:=by rw[Rf];omega
    have HTK:Hid ((f.drop (c+1)).take (i+1-(c+1))=(f.drop (c+1)).take (i-(c+1))++[fA f i]):=hide (by
     have e1:i+1-(c+1)=i-(c+1)+1:=by omega
     have e2:i-(c+1)<(f.drop (c+1)).length:=by rw[Dh];omega
     rw[e1,Fb e2,List.getElem_drop,←Jo f i hlt];congr 3;omega)
    have a4a:((fA f i).toList == [44])=decide (fA f i=Cb):=Ib (fA f i) Cb _ rfl
    by_cases hcom:fA f i=Cb
    ·rw[jf hcom] at a4a
     have be8:=hide hcom;clear hcom;have Og:=hide (ajl Cb _ (fA f i) d cur (uh ali));have HIT:=hide (fun W hW=>al0 (W:=W) (uh Tz) (uh HSW) hW (uh HSM).1 (uh HSM).2.1 (uh HSM).2.2);have z5d:wr2.drew.cell? ⟨sb,5,none⟩=some (.slice aa an ac):=z5;go_wp2_with fail;clear yi
     go_region_law (first|(go_simp;go_at_call 22;refine(uh HIT _ ((gy _ _).drew)).mono ?_;rintro e w9 ⟨ca,cn,cc,va9,n29,vc9,w59,X,alc,rfl,y1,y2,y3,Dp,y4,y5,y6,HX,Kr⟩)|(refine ug rfl _ _ 58 58 rfl rfl _ _ _ rfl rfl (uh Dp) ?_))
     all_goals
      rw[←uh HX];have HF9:=hide (uh Kr).fresh;clear y1 y2 y3 y4 y5 y6 Dp HX z5 z5d HIT;go_wp2;refine⟨⟨_,i+1,0,0,some ⟨X.heap.size,0,none⟩,rfl,rfl,?_,rfl,rfl,rfl,rfl,rfl,rfl,rfl,⟨by omega,hlt⟩,hide ⟨d++[cur],[],va9,n29,vc9,alc,?_,?_⟩⟩,?_⟩
      ·exact Qc rfl rfl rfl rfl rfl rfl rfl rfl rfl rfl
      ·rw[uh HTK,uh Og,gu (uh be8)]
      ·rw[Il]
       exact uh HF9
      ·show f.length-((i:Int)+1).toNat<f.length-((i:Int)).toNat
       omega
    ·rw[iw hcom] at a4a
     have Og:=hide (ajl Cb _ (fA f i) d cur (uh ali));have hA:Below wr2.heap.size wr2 (wr2.alloc (.cells #[.string (fA f i)] 9)):=(gy _ _).alloc (gq _) _;have Ue:=hide ((uh Tz).below hA).cur;have Rk:Hid ((cur.length+1)*16<=140737488355328):=hide (by have:=(uh HSM).2.1;omega);have Rl:Hid (W4.heap.size<=(wr2.alloc (.cells #[.string (fA f i)] 9)).heap.size):=hide ((uh Tz).below hA).but.size;have HA:=hide hA
     have HGL:Hid (gn=cur.length):=hide (by
      obtain⟨a9,c9,h9⟩:=(uh Tz).cur.slice;simp only[qw] at h9;exact h9.2.1)
     clear hA;obtain rfl:=uh HGL;go_wp2_with (at_builtin;go_must (refine Ld ni _ rfl _ _ rfl W4.heap.size _ cur rfl (uh Ue) wr2.heap.size (fA f i) rfl (fun j u hu=>by rw[zy _ _ _ _ rfl];simpa[ni] using hu) (uh Rk) (uh Rl) ?_));intro v' w5 yc hg5 Gm;have HC5:=hide ((uh Tz).arg (uh HA) (by simpa using hg5) yc);obtain⟨ga9,gc9,hv'⟩:=yc.slice;obtain⟨n9,hn9⟩:∃z,z=(cur++[fA f i]).length:=⟨_,rfl⟩;rw[←hn9] at hv';subst hv';clear yc hg5 Gm hn9 Ue Rk Rl HA z5;go_wp2;refine⟨⟨_,i+1,n9,gc9,ga9,rfl,rfl,?_,rfl,rfl,rfl,rfl,rfl,rfl,rfl,⟨by omega,hlt⟩,hide ⟨d,cur++[fA f i],aa,an,ac,abs,?_,uh HC5⟩⟩,?_⟩
     ·exact Qc rfl rfl rfl rfl rfl rfl rfl rfl rfl rfl
     ·rw[uh HTK,uh Og,ay hcom]
     ·show f.length-((i:Int)+1).toNat<f.length-((i:Int)).toNat
      omega
   ·have hge:¬(i:Int)<(f.length:Int):=by omega
    have dge:decide ((i:Int)<(f.length:Int))=false:=iw hge
    have a3e:Hid (c+1<f.length->abm (f.drop (c+1))=d.map Dx++[Dx cur]):=hide (fun h9=>by
     have e1:(f.drop (c+1)).take (i-(c+1))=f.drop (c+1):=Qg (by rw[Dh];omega);have e2:=uh ali;rw[e1] at e2;unfold abm;rw[ay (fun e=>by have h8:=mg List.length e;rw[Dh,A8] at h8;omega),e2,Il];rfl)
    have a3f:Hid (¬c+1<f.length->abm (f.drop (c+1))=d.map Dx):=hide (fun h9=>by
     have e0:f.drop (c+1)=[]:=List.drop_eq_nil_of_le (by omega);have e2:=uh ali;rw[e0,List.take_nil] at e2
     have e3:d=[]:=by
      cases d with
      | nil=>rfl
      | cons x d=>exact absurd (mg List.length e2) (by simp[cutAt])
     rw[e0,e3];rfl)
    by_cases hne:c+1<f.length
    ·have bbu:(c:Int)+1<(f.length:Int):=by omega
     have HIT:=hide (fun W hW=>al0 (W:=W) (uh Tz) (uh HSW) hW (uh HSM).1 (uh HSM).2.1 (uh HSM).2.2);have HAQ:=hide (uh a3e hne);have z5d:wr2.drew.cell? ⟨sb,5,none⟩=some (.slice aa an ac):=z5;clear a3e a3f ali;go_wp2_with fail
     go_region_law (first|(go_simp;go_at_call 22;refine(uh HIT _ ((gy _ _).drew)).mono ?_;rintro e w9 ⟨ca,cn,cc,va9,n29,vc9,w59,X,alc,rfl,y1,y2,y3,Dp,y4,y5,y6,HX,Kr⟩)|(refine ug rfl _ _ 58 58 rfl rfl _ _ _ rfl rfl (uh Dp) ?_))
     all_goals
      rw[←uh HX];clear y1 y2 y3 y4 y5 y6 Dp HX z5 z5d HIT;have hG:=(uh o7).1.below (uh HB4 X (uh Kr).but);have hbd:Below X.heap.size X X.drew:=(gy _ _).drew;obtain⟨hT,hnd,aam⟩:=((uh Kr).below hbd).a8o (uh HM4).1 (uh HM4).2.2 (uh HOK).1 (uh HOK).2 (uh HAT);have apv:=fun b hb=>(ahf _ _ _ _ hT).lt b hb
      obtain⟨ia6,n16,ic6,va6,n26,vc6,w56,bs',h1,h2,h3,h4,h5⟩:=aic (hG.below hbd) (uh Ba) hm (uh Ci) ⟨[.int .i64 3,.string ⟨#[]⟩,.int .i64 at_,.slice va (c-2) vc,.slice none 0 0,.slice va9 n29 vc9],by simp,by intro u hu;simp only[ql,xg,xk] at hu;rcases hu with rfl|rfl|rfl|rfl|rfl|rfl<;>rfl⟩ _ _ hT hnd (fun b hb=>by
       have h9:=aam b hb;have h8:=uh HZ3;have h7:w2.heap.size<=b:=by omega
       exact⟨fun h6=>by have:=((uh o7).1.row.nd.2 b h6).2;omega,jq (uh o7).1.but.size h7⟩) apv
      have hc0:X.cell? ⟨g,al*7+6,none⟩=some (.slice ia6 n16 ic6):=h1;have a3g:X.drew.cell? ⟨g,al*7+6,none⟩=some (.slice ia6 n16 ic6):=h1;have hA6:Below X.heap.size X (X.alloc (.cells #[.int .i64 3,.string ⟨#[]⟩,.int .i64 at_,.slice va (c-2) vc,.slice none 0 0,.slice va9 n29 vc9] 60)).drew:=((gy _ _).alloc (gq _) _).drew;have hcA:=(hA6.cell (p:=⟨g,al*7+6,none⟩) h2).trans hc0;have F5:=(uh Kr).box;have s0:=F5.cell (i:=0) (v:=.int .i64 3) rfl;have s1:=F5.cell (i:=1) (v:=.string ⟨#[]⟩) rfl;have s2:=F5.cell (i:=2) (v:=.int .i64 at_) rfl;have s3:=F5.cell (i:=3) (v:=.slice va (c-2) vc) rfl;have s4:=F5.cell (i:=4) (v:=.slice none 0 0) rfl;have s5:=F5.cell (i:=5) (v:=.slice va9 n29 vc9) rfl;have hsx:sb<X.heap.size:=F5.lt;have h3':(Builtin.append_ #[48,48] 48 #[.slice ia6 n16 ic6,.slice (some ⟨X.heap.size,0,none⟩) 1 1]).run Tryz.prog (X.alloc (.cells #[.int .i64 3,.string ⟨#[]⟩,.int .i64 at_,.slice va (c-2) vc,.slice none 0 0,.slice va9 n29 vc9] 60)).drew=.ok (.slice va6 n26 vc6) w56:=h3;have auw:=hide h3';obtain⟨w66,ai3⟩:∃z,z=w56.setCell ⟨g,al*7+6,none⟩ (.slice va6 n26 vc6):=⟨_,rfl⟩;rw[←ai3] at h5;have a3h:=hide ai3;have qc:Hid (Gw W1 mb (stepS (a++[k]) cu) (.slice (some ⟨g,0,none⟩) (al+1) mc) bs' w66):=hide (by rw[uh Gn,uh HAQ];exact h5);obtain⟨h41,h42,h43⟩:=h4;clear hG hbd hT hnd aam apv h1 h3 h3' h5 ai3 F5 hA6;go_wp2_with fail
      go_region_law (refine ug rfl _ _ 48 48 rfl rfl _ _ _ rfl rfl (uh auw) ?_)
      all_goals
       rw[←uh a3h];clear hc0 a3g hcA s0 s1 s2 s3 s4 s5 h41 h42;go_wp2;refine uh HKK _ _ _ _ rfl ?_ ?_ (uh qc)
       ·exact Qc rfl rfl rfl rfl rfl rfl rfl rfl rfl rfl
       ·rfl
    ·have bbu:¬(c:Int)+1<(f.length:Int):=by omega
     have dne:decide ((c:Int)+1<(f.length:Int))=false:=iw bbu;have HAQ:=hide (uh a3f hne);clear a3e a3f ali z5;have hG:=(uh o7).1.below (uh HB4 wr2 (uh Tz).but);have hbd:Below wr2.heap.size wr2 wr2.drew:=(gy _ _).drew;obtain⟨hT,hnd,aam⟩:=((uh Tz).below hbd).a8o (uh HM4).1 (uh HM4).2.2 (uh HOK).1 (uh HOK).2 (uh HAT);have apv:=fun b hb=>(ahf _ _ _ _ hT).lt b hb
     obtain⟨ia6,n16,ic6,va6,n26,vc6,w56,bs',h1,h2,h3,h4,h5⟩:=aic (hG.below hbd) (uh Ba) hm (uh Ci) ⟨[.int .i64 3,.string ⟨#[]⟩,.int .i64 at_,.slice va (c-2) vc,.slice none 0 0,.slice aa an ac],by simp,by intro u hu;simp only[ql,xg,xk] at hu;rcases hu with rfl|rfl|rfl|rfl|rfl|rfl<;>rfl⟩ _ _ hT hnd (fun b hb=>by
      have h9:=aam b hb;have h8:=uh HZ3;have h7:w2.heap.size<=b:=by omega
      exact⟨fun h6=>by have:=((uh o7).1.row.nd.2 b h6).2;omega,jq (uh o7).1.but.size h7⟩) apv
     have hc0:wr2.cell? ⟨g,al*7+6,none⟩=some (.slice ia6 n16 ic6):=h1;have a3g:wr2.drew.cell? ⟨g,al*7+6,none⟩=some (.slice ia6 n16 ic6):=h1;have hA6:Below wr2.heap.size wr2 (wr2.alloc (.cells #[.int .i64 3,.string ⟨#[]⟩,.int .i64 at_,.slice va (c-2) vc,.slice none 0 0,.slice aa an ac] 60)).drew:=((gy _ _).alloc (gq _) _).drew;have hcA:=(hA6.cell (p:=⟨g,al*7+6,none⟩) h2).trans hc0;have F5:=(uh Tz).box;have s0:=F5.cell (i:=0) (v:=.int .i64 3) rfl;have s1:=F5.cell (i:=1) (v:=.string ⟨#[]⟩) rfl;have s2:=F5.cell (i:=2) (v:=.int .i64 at_) rfl;have s3:=F5.cell (i:=3) (v:=.slice va (c-2) vc) rfl;have s4:=F5.cell (i:=4) (v:=.slice none 0 0) rfl;have s5:=F5.cell (i:=5) (v:=.slice aa an ac) rfl;have hsx:sb<wr2.heap.size:=F5.lt;have h3':(Builtin.append_ #[48,48] 48 #[.slice ia6 n16 ic6,.slice (some ⟨wr2.heap.size,0,none⟩) 1 1]).run Tryz.prog (wr2.alloc (.cells #[.int .i64 3,.string ⟨#[]⟩,.int .i64 at_,.slice va (c-2) vc,.slice none 0 0,.slice aa an ac] 60)).drew=.ok (.slice va6 n26 vc6) w56:=h3;have auw:=hide h3';obtain⟨w66,ai3⟩:∃z,z=w56.setCell ⟨g,al*7+6,none⟩ (.slice va6 n26 vc6):=⟨_,rfl⟩;rw[←ai3] at h5;have a3h:=hide ai3;have qc:Hid (Gw W1 mb (stepS (a++[k]) cu) (.slice (some ⟨g,0,none⟩) (al+1) mc) bs' w66):=hide (by rw[uh Gn,uh HAQ];exact h5);obtain⟨h41,h42,h43⟩:=h4;clear hG hbd hT hnd aam apv h1 h3 h3' h5 ai3 F5 hA6;go_wp2_with fail
     go_region_law (refine ug rfl _ _ 48 48 rfl rfl _ _ _ rfl rfl (uh auw) ?_)
     all_goals
      rw[←uh a3h];clear hc0 a3g hcA s0 s1 s2 s3 s4 s5 h41 h42;go_wp2;refine uh HKK _ _ _ _ rfl ?_ ?_ (uh qc)
      ·exact Qc rfl rfl rfl rfl rfl rfl rfl rfl rfl rfl
      ·rfl
end Go.Proofs.YtfeejeflmcapoaaGreatDoor
