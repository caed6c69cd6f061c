import Derived.Deep.RegionHeld3
import Derived.Deep.QuietTactic
import Derived.BigQuiet
import Derived.Test.YtfeejeflmcapoaaGreatDoorRS6
import Derived.Test.YtfeejeflmcapoaaGreatDoorMI20
import Derived.Test.YtfeejeflmcapoaaGreatDoorRSK
set_option linter.unusedSimpArgs false
set_option linter.unusedVariables false
set_option maxHeartbeats 16000000
set_option maxRecDepth 1000000
namespace Go.Proofs.YtfeejeflmcapoaaGreatDoor
open Go.RowKit
theorem g_call (eu:dh) (a:List dw) (k:dw) (hf0:fA (wordsOf 32 eu) 0=zx) (adg:2<je (wordsOf 32 eu) ql):Qm eu (a++[k]):=by
 intro t rb mb lg n lc u q hu hq hn K K1 PO wr W1 mv bs hgs Qn hlz hwq HK hm;have he:eu≠Fg:=fun e=>by rw[e] at hf0;exact absurd hf0 (by decide)
 have hd:eu≠Iz:=fun e=>by rw[e] at hf0;exact absurd hf0 (by decide)
 have hfz:=(Au 32 eu).1;have hfp:1<=(wordsOf 32 eu).length:=E5.2 (Ei 32 eu);have Ie:=ak (I4 hgs eu hlz);have HKK:=ak HK;have Ac:=ak (I5 (a++[k]) eu);have Ue:=ak hgs;have hqI:(q:Int)<(n:Int):=by omega
 have Gf:=ak hwq;clear HK hgs hwq;rw[Cj,hu];conv=>arg 2;whnf
 have Bj:=ak (Eb eu hlz);generalize wordsOf 32 eu=f at *;obtain⟨Cb,Jm,Gq,Hg,H8,Io,Gj,Ec,Lp,Ej⟩:=Vb hf0 false false false false false false false false false true (by decide);have aa3:(eu.toList==[101,108,115,101])=false:=by rw[Wh];exact iy he
 have afc:(eu.toList==[101,110,100])=false:=by rw[aa4];exact iy hd
 obtain⟨c,hc⟩:=Ht (show 0<=je f ql by omega);have hcl:=X6 f ql;rw[hc] at adg hcl;have hc2:2<c:=by omega
 have hcf:c<f.length:=by omega
 have I7:Hid (stepS (a++[k]) eu=a++[Dj k ⟨3,E0,Bd (fA f 1),wz f 2 c,[],abj (f.drop (c+1))⟩]):=ak (by
  rw[uh Ac];unfold Iq;rw[qc hf0 (by decide),Aa];unfold lineS;rw[qc hf0 (by decide),qc hf0 (by decide),qc hf0 (by decide),qc hf0 (by decide),qc hf0 (by decide),qc hf0 (by decide),qc hf0 (by decide),qc hf0 (by decide),bf he,bf hd,gy ⟨hf0,by rw[hc];omega⟩,hc,Ed])
 have hz1:(fA f 1).size<=1048576:=(uh Bj).2 (fA f 1) (by rw[←Jj f 1 (by omega)];exact o7 _);have ai1:=ak (fun W=>aae (fA f 1) W hz1);have HPC:=ak hc;have HC2:=ak hc2;have Xm:=ak hcf;have dgt:decide ((2:Int)<(c:Int))=true:=jf (by omega);clear hf0 Ac hz1 hc hcl adg he hd;go_wp2_with fail;refine(uh Ie).mono ?_;rintro e w2 ⟨fg,fc,rfl,uq,Gs,hfl⟩;have x0:=uh Gs 0 (by omega);obtain⟨g,mc,hmv⟩:=Lh (uh uq).1.row;obtain⟨al,hal⟩:=o8 a.length;have Cm:=ak hal
 have hnb:al<=1048577:=by
  have h9:=uh Gf;unfold pz at h9;rw[jh] at h9;omega
 rw[←hal] at hmv;clear hal;subst hmv;have m0:=(uh uq).1.box.cell (i:=0) (v:=.slice (some ⟨g,0,none⟩) (al+1) mc) rfl;have hml:mb<w2.heap.size:=(uh uq).1.box.lt;have Fa:=ak (D6 f (.slice (some ⟨fg,0,none⟩) f.length fc) ql w2 (J3 (uh uq).2.1 (uh Bj)));obtain⟨c0,c1,c2,c3⟩:=gc al f.length (by omega) (by omega);go_wp2_with fail;refine(uh Fa).mono ?_;rintro e w3 ⟨rfl,hw3⟩;obtain rfl:=hw3.symm;rw[uh HPC];have x1:=uh Gs 1 (by have:=uh Xm;omega);have hl1:(1:Int)<(f.length:Int):=by have:=uh Xm;omega
 have aix:1<f.length:=by have:=uh Xm;omega
 have hfc:f.length<=fc:=by
  obtain⟨a',c',hv,⟨h2,h3⟩,_⟩:=J3 (uh uq).2.1 (uh Bj);simp only[qw] at hv;omega
 obtain⟨at_,hat⟩:=o8 (Bd (fA f 1));rw[←hat] at ai1 I7;have HAT:Hid (I64 at_):=ak (by have h9:=ad8 (fA f 1);unfold I64;omega);clear hat Ie Ue;go_wp2_with fail;refine(uh ai1 _).mono ?_;rintro e w8 ⟨rfl,hw8⟩;obtain rfl:=hw8.symm;go_wp2_with fail;obtain⟨sb,hsb⟩:=o8 w2.heap.size;obtain⟨w3,hw3⟩:=o8 (w2.alloc (.cells #[.int .i64 3,.string ⟨#[]⟩,.int .i64 at_,.slice none 0 0,.slice none 0 0,.slice none 0 0] 60));have hb3:Below w2.heap.size w2 w3:=by rw[hw3];exact(iq _ _).alloc (gu _) _
 have apq:jd w3 sb 60 #[.int .i64 3,.string ⟨#[]⟩,.int .i64 at_,.slice none 0 0,.slice none 0 0,.slice none 0 0]:=by rw[hw3];exact aa2 hsb
 have ho3:jq ny w3.drew wr.heap.size (.slice (some ⟨fg,0,none⟩) f.length fc) f:=(uh uq).2.1.below hb3.drew;obtain⟨va,vc,w5,hrun,yh,hb5⟩:=azr ho3 c (uh HC2) (Nat.le_of_lt (uh Xm)) (uh Bj).1 (fc-2);have aer:Below w3.heap.size w3 w5:=Below.trans (Below.drew (iq w3.heap.size w3)) hb5;have apr:jd w5 sb 60 #[.int .i64 3,.string ⟨#[]⟩,.int .i64 at_,.slice none 0 0,.slice none 0 0,.slice none 0 0]:=apq.below aer apq.lt;obtain⟨ov,hov⟩:=o8 (Value.slice va (c-2) vc);obtain⟨W4,hW4⟩:=o8 (w5.setCell ⟨sb,3,none⟩ ov);have ak6:jd W4 sb 60 #[.int .i64 3,.string ⟨#[]⟩,.int .i64 at_,ov,.slice none 0 0,.slice none 0 0]:=by rw[hW4];exact apr.set 3 ov
 have hset:∀b,b≠sb->W4.heap[b]?=w5.heap[b]?:=fun b hb=>by rw[hW4];exact zf _ _ _ _ (fun e=>hb e)
 have hz4:W4.heap.size=w5.heap.size:=by rw[hW4];simp[World.setCell]
 have bat:Below w2.heap.size w2 w5:=hb3.trans (aer.mono hb3.size)
 have hb4:Below w2.heap.size w2 W4:=by
  rw[hW4];exact bat.setCell (by show w2.heap.size<=sb;omega) _
 have bee:sb<w3.heap.size:=apq.lt
 have bau:jq ny W4 w3.heap.size ov (wz f 2 c):=by
  rw[←hov] at yh;exact yh.Ia (fun b hb=>hset b (by have:=yh.block b hb;have h9:w3.drew.heap.size=w3.heap.size:=rfl;omega))
 have Df:Hid ((Builtin.append_ #[40,40] 40 #[.slice none 0 0,.slice (some ⟨fg,2,none⟩) (c-2) (fc-2)]).run Tryz.prog w3.drew=.ok ov w5):=ak (by rw[hov];exact hrun);have HW4:=ak hW4;have HM4:=ak (And.intro ak6 (And.intro hb4 bau));have z3:w3.drew.cell? ⟨sb,3,none⟩=some (.slice none 0 0):=apq.cell (i:=3) (v:=.slice none 0 0) rfl;have z3':w3.cell? ⟨sb,3,none⟩=some (.slice none 0 0):=z3;have z5:w5.cell? ⟨sb,3,none⟩=some (.slice none 0 0):=apr.cell (i:=3) (v:=.slice none 0 0) rfl;have z6:w5.frozen? ⟨sb,3,none⟩=false:=apr.free 3;have z7:sb<w5.heap.size:=apr.lt;have hcn:¬fc=2:=by have:=uh HC2;omega
 have hcI:(2:Int)<=(c:Int):=by have:=uh HC2;omega
 have hcJ:(c:Int)<=(fc:Int):=by have:=uh Xm;omega
 have hcK:2<=c:=by have:=uh HC2;omega
 have hcL:c<=fc:=by have:=uh Xm;omega
 have hvk:ov.oneCell'=true:=by rw[hov];rfl
 subst hov;rw[←hw3,←hsb];have U3:=ak hsb;clear hsb hw3 apq ak6 apr bat aer hb5 yh hrun ho3 hb3 hset hz4 hW4 bau hb4 x0
 go_region_law (refine uj rfl _ _ 40 40 rfl rfl _ _ _ rfl rfl (uh Df) ?_)
 all_goals
  rw[←uh HW4];have wc1:IntKind.i64.wrap ((c:Int)+1)=(c:Int)+1:=by rw[Qw];have:=uh Xm;omega
  have HSW:Hid (sb<W4.heap.size):=ak (uh HM4).1.lt;have HB4:Hid (∀X,But [sb] W4 X->Below w2.heap.size w2 X):=ak (fun X hX=>(uh HM4).2.1.trans (hX.below _ (uh HM4).2.1.size (fun b hb=>by rw[yt] at hb;rw[hb,uh U3];exact gu _)));have Xf:=ak (Mc.init (uh HM4).1);have HZ3:Hid (w2.heap.size<=w3.heap.size/\w2.heap.size<=W4.heap.size):=ak ⟨by have:=uh U3;omega,(uh HM4).2.1.size⟩;have HOK:Hid ((∀x,x∈wz f 2 c->okS x)/\(wz f 2 c).length<=2000000):=ak ⟨fun x hx=>by have h9:=(uh Bj).2 x (List.mem_of_mem_drop (List.mem_of_mem_take hx));unfold okS Len;omega,by rw[Rj f 2 c (by have:=uh HC2;omega) (by have:=uh Xm;omega)];have:=(uh Bj).1;have:=uh Xm;omega⟩;clear z3 z3' z5 z6 z7 bee hcn hcI hcJ hcK hcL Df HW4 hvk ai1 Fa x1 m0 HPC;go_wp2
  rename_i K9 HT9
  refine wp_loop (fun a' wr2=>∃(x:Array Value) (i gn gc:Nat) (ga:Option Addr),a'=⟨x,[]⟩/\x.size=369/\(∀i,i∈Ph->x.getD i undef=Yv t rb mb lg n lc i undef)/\x.getD 18 undef=.int .i64 (q:Int)/\x.getD 6 undef=.slice (some ⟨fg,0,none⟩) f.length fc/\x.getD 7 undef=.pointer (some ⟨g,al*7,none⟩)/\x.getD 8 undef=.int .i64 (c:Int)/\x.getD 11 undef=.pointer (some ⟨sb,0,none⟩)/\x.getD 12 undef=.slice ga gn gc/\x.getD 13 undef=.int .i64 (i:Int)/\(c+1<=i/\i<=f.length)/\Hid (∃d cur aa an ac abs,cutAt Bl ((f.drop (c+1)).take (i-(c+1)))=d++[cur]/\Mc W4 sb at_ (.slice va (c-2) vc) (d.map Dk) cur (.slice aa an ac) (.slice ga gn gc) abs wr2)) (fun a' _=>f.length-aff 13 a') ?_ ?_
  ·refine⟨_,c+1,0,0,some ⟨W4.heap.size,0,none⟩,rfl,rfl,?_,rfl,rfl,rfl,rfl,rfl,rfl,rfl,⟨gu _,uh Xm⟩,ak ⟨[],[],none,0,0,[],by rw[Nat.sub_self];rfl,uh Xf⟩⟩
   intro i hi;unfold Ph at hi;simp only[qj,xq,xu] at hi;rcases hi with rfl|rfl|rfl|rfl|rfl|rfl|rfl|rfl|rfl|rfl<;>rfl
  ·rintro a' wr2 ⟨x,i,gn,gc,ga,rfl,hx1,hx2,hx3,hx4,hx5,hx6,hx7,hx8,Fh,⟨hi1,hi2⟩,HC⟩
   obtain⟨u',hu',hu2⟩:=acy t rb mb lg n lc x hx1 hx2;have v18:=hu2 18;have v6:=hu2 6;have v7:=hu2 7;have v8:=hu2 8;have v11:=hu2 11;have v12:=hu2 12;have v13:=hu2 13;rw[hx3] at v18;rw[hx4] at v6;rw[hx5] at v7;rw[hx6] at v8;rw[hx7] at v11;rw[hx8] at v12;rw[Fh] at v13;rw[hu',Cj,v18,v6,v7,v8,v11,v12,v13];obtain⟨d,cur,aa,an,ac,abs,hcut,hcs⟩:=uh HC;obtain⟨⟨bef,beg⟩,bav⟩:=cut_small Bl _ _ _ hcut
   have hdl:((f.drop (c+1)).take (i-(c+1))).length<=1048577:=by
    rw[Nk,Cc];have:=(uh Bj).1;omega
   have HSM:Hid ((∀p,p∈cur->p.size<=1048576)/\cur.length<=1048577/\(d.map Dk).length<=1048577):=ak ⟨fun p hp=>(uh Bj).2 p (List.mem_of_mem_drop (List.mem_of_mem_take (bav p hp))),by omega,by rw[zy];omega⟩;have ale:=ak hcut;have Ti:=ak hcs;clear hx1 hx2 hx3 hx4 hx5 hx6 hx7 hx8 Fh hu' hu2 v18 v6 v7 v8 v11 v12 v13 HC hcut hcs bef beg bav hdl Xf;have hbw:=uh HB4 wr2 (uh Ti).but;have z5:=(uh Ti).box.cell (i:=5) (v:=.slice aa an ac) rfl;have z6:sb<wr2.heap.size:=(uh Ti).box.lt
   by_cases hlt:i<f.length
   ·have Kq:(i:Int)<(f.length:Int):=by omega
    have yi:wr2.cell? ⟨fg,i,none⟩=some (.string (fA f i)):=(hbw.cell (p:=⟨fg,i,none⟩) hfl).trans (uh Gs i hlt);have hfw:fg<wr2.heap.size:=qg hfl hbw.size;have wi:IntKind.i64.wrap ((i:Int)+1)=(i:Int)+1:=by rw[Qw];omega
    have HTK:Hid ((f.drop (c+1)).take (i+1-(c+1))=(f.drop (c+1)).take (i-(c+1))++[fA f i]):=ak (by
     have e1:i+1-(c+1)=i-(c+1)+1:=by omega
     have e2:i-(c+1)<(f.drop (c+1)).length:=by rw[Cc];omega
     rw[e1,Eu e2,List.getElem_drop,←Jj f i hlt];congr 3;omega)
    have a3p:((fA f i).toList==[44])=decide (fA f i=Bl):=Hw (fA f i) Bl _ rfl
    by_cases hcom:fA f i=Bl
    ·rw[jf hcom] at a3p
     have beh:=ak hcom;clear hcom;have Oc:=ak (ajk Bl _ (fA f i) d cur (uh ale));have HIT:=ak (fun W hW=>alz (W:=W) (uh Ti) (uh HSW) hW (uh HSM).1 (uh HSM).2.1 (uh HSM).2.2);have z5d:wr2.drew.cell? ⟨sb,5,none⟩=some (.slice aa an ac):=z5;go_wp2_with fail;clear yi
     go_region_law (first|(go_simp;go_at_call 22;refine(uh HIT _ ((iq _ _).drew)).mono ?_;rintro e w9 ⟨ca,cn,cc,va9,n29,vc9,w59,X,ak8,rfl,y1,y2,y3,Df,y4,y5,y6,HX,J9⟩)|(refine uj rfl _ _ 58 58 rfl rfl _ _ _ rfl rfl (uh Df) ?_))
     all_goals
      rw[←uh HX];have HF9:=ak (uh J9).fresh;clear y1 y2 y3 y4 y5 y6 Df HX z5 z5d HIT;go_wp2;refine⟨⟨_,i+1,0,0,some ⟨X.heap.size,0,none⟩,rfl,rfl,?_,rfl,rfl,rfl,rfl,rfl,rfl,rfl,⟨by omega,hlt⟩,ak ⟨d++[cur],[],va9,n29,vc9,ak8,?_,?_⟩⟩,?_⟩
      ·exact V3 rfl rfl rfl rfl rfl rfl rfl rfl rfl rfl
      ·rw[uh HTK,uh Oc,gy (uh beh)]
      ·rw[Ig]
       exact uh HF9
      ·show f.length-((i:Int)+1).toNat<f.length-((i:Int)).toNat
       omega
    ·rw[iy hcom] at a3p
     have Oc:=ak (ajk Bl _ (fA f i) d cur (uh ale));have hA:Below wr2.heap.size wr2 (wr2.alloc (.cells #[.string (fA f i)] 9)):=(iq _ _).alloc (gu _) _;have Ua:=ak ((uh Ti).below hA).cur;have Qz:Hid ((cur.length+1)*16<=140737488355328):=ak (by have:=(uh HSM).2.1;omega);have Q8:Hid (W4.heap.size<=(wr2.alloc (.cells #[.string (fA f i)] 9)).heap.size):=ak ((uh Ti).below hA).but.size;have HA:=ak hA
     have HGL:Hid (gn=cur.length):=ak (by
      obtain⟨a9,c9,h9⟩:=(uh Ti).cur.slice;simp only[qw] at h9;exact h9.2.1)
     clear hA;obtain rfl:=uh HGL;go_wp2_with (at_builtin;go_must (refine La ny _ rfl _ _ rfl W4.heap.size _ cur rfl (uh Ua) wr2.heap.size (fA f i) rfl (fun j u hu=>by rw[zu _ _ _ _ rfl];simpa[ny] using hu) (uh Qz) (uh Q8) ?_));intro v' w5 yh hg5 F9;have HC5:=ak ((uh Ti).arg (uh HA) (by simpa using hg5) yh);obtain⟨ga9,gc9,hv'⟩:=yh.slice;obtain⟨n9,hn9⟩:=o8 ((cur++[fA f i]).length);rw[←hn9] at hv';subst hv';clear yh hg5 F9 hn9 Ua Qz Q8 HA z5;go_wp2;refine⟨⟨_,i+1,n9,gc9,ga9,rfl,rfl,?_,rfl,rfl,rfl,rfl,rfl,rfl,rfl,⟨by omega,hlt⟩,ak ⟨d,cur++[fA f i],aa,an,ac,abs,?_,uh HC5⟩⟩,?_⟩
     ·exact V3 rfl rfl rfl rfl rfl rfl rfl rfl rfl rfl
     ·rw[uh HTK,uh Oc,bf hcom]
     ·show f.length-((i:Int)+1).toNat<f.length-((i:Int)).toNat
      omega
   ·have hge:¬(i:Int)<(f.length:Int):=by omega
    have dge:decide ((i:Int)<(f.length:Int))=false:=iy hge
    have a2q:Hid (c+1<f.length->abj (f.drop (c+1))=d.map Dk++[Dk cur]):=ak (fun h9=>by
     have e1:(f.drop (c+1)).take (i-(c+1))=f.drop (c+1):=P8 (by rw[Cc];omega);have e2:=uh ale;rw[e1] at e2;unfold abj;rw[bf (fun e=>by have h8:=ni List.length e;rw[Cc,Ar] at h8;omega),e2,Ig];rfl)
    have a2r:Hid (¬c+1<f.length->abj (f.drop (c+1))=d.map Dk):=ak (fun h9=>by
     have e0:f.drop (c+1)=[]:=List.drop_eq_nil_of_le (by omega);have e2:=uh ale;rw[e0,List.take_nil] at e2
     have e3:d=[]:=by
      cases d with
      | nil=>rfl
      | cons x d=>exact absurd (ni List.length e2) (by simp[cutAt])
     rw[e0,e3];rfl)
    by_cases hne:c+1<f.length
    ·have baw:(c:Int)+1<(f.length:Int):=by omega
     have HIT:=ak (fun W hW=>alz (W:=W) (uh Ti) (uh HSW) hW (uh HSM).1 (uh HSM).2.1 (uh HSM).2.2);have HAQ:=ak (uh a2q hne);have z5d:wr2.drew.cell? ⟨sb,5,none⟩=some (.slice aa an ac):=z5;clear a2q a2r ale;go_wp2_with fail
     go_region_law (first|(go_simp;go_at_call 22;refine(uh HIT _ ((iq _ _).drew)).mono ?_;rintro e w9 ⟨ca,cn,cc,va9,n29,vc9,w59,X,ak8,rfl,y1,y2,y3,Df,y4,y5,y6,HX,J9⟩)|(refine uj rfl _ _ 58 58 rfl rfl _ _ _ rfl rfl (uh Df) ?_))
     all_goals
      rw[←uh HX];clear y1 y2 y3 y4 y5 y6 Df HX z5 z5d HIT;have hG:=(uh uq).1.below (uh HB4 X (uh J9).but);have hbd:Below X.heap.size X X.drew:=(iq _ _).drew;obtain⟨hT,hnd,aag⟩:=((uh J9).below hbd).a7z (uh HM4).1 (uh HM4).2.2 (uh HOK).1 (uh HOK).2 (uh HAT);have aps:=fun b hb=>(ahi _ _ _ _ hT).lt b hb
      obtain⟨ia6,n16,ic6,va6,n26,vc6,w56,bs',h1,h2,h3,h4,h5⟩:=aia (hG.below hbd) (uh Cm) hm (uh Gf) ⟨[.int .i64 3,.string ⟨#[]⟩,.int .i64 at_,.slice va (c-2) vc,.slice none 0 0,.slice va9 n29 vc9],by simp,by intro u hu;simp only[qj,xq,xu] at hu;rcases hu with rfl|rfl|rfl|rfl|rfl|rfl<;>rfl⟩ _ _ hT hnd (fun b hb=>by
       have h9:=aag b hb;have h8:=uh HZ3;have h7:w2.heap.size<=b:=by omega
       exact⟨fun h6=>by have:=((uh uq).1.row.nd.2 b h6).2;omega,ku (uh uq).1.but.size h7⟩) aps
      have hc0:X.cell? ⟨g,al*7+6,none⟩=some (.slice ia6 n16 ic6):=h1;have a2s:X.drew.cell? ⟨g,al*7+6,none⟩=some (.slice ia6 n16 ic6):=h1;have hA6:Below X.heap.size X (X.alloc (.cells #[.int .i64 3,.string ⟨#[]⟩,.int .i64 at_,.slice va (c-2) vc,.slice none 0 0,.slice va9 n29 vc9] 60)).drew:=((iq _ _).alloc (gu _) _).drew;have hcA:=(hA6.cell (p:=⟨g,al*7+6,none⟩) h2).trans hc0;have Fh:=(uh J9).box;have s0:=Fh.cell (i:=0) (v:=.int .i64 3) rfl;have s1:=Fh.cell (i:=1) (v:=.string ⟨#[]⟩) rfl;have s2:=Fh.cell (i:=2) (v:=.int .i64 at_) rfl;have s3:=Fh.cell (i:=3) (v:=.slice va (c-2) vc) rfl;have s4:=Fh.cell (i:=4) (v:=.slice none 0 0) rfl;have s5:=Fh.cell (i:=5) (v:=.slice va9 n29 vc9) rfl;have hsx:sb<X.heap.size:=Fh.lt;have h3':(Builtin.append_ #[48,48] 48 #[.slice ia6 n16 ic6,.slice (some ⟨X.heap.size,0,none⟩) 1 1]).run Tryz.prog (X.alloc (.cells #[.int .i64 3,.string ⟨#[]⟩,.int .i64 at_,.slice va (c-2) vc,.slice none 0 0,.slice va9 n29 vc9] 60)).drew=.ok (.slice va6 n26 vc6) w56:=h3;have auu:=ak h3';obtain⟨w66,ai2⟩:=o8 (w56.setCell ⟨g,al*7+6,none⟩ (.slice va6 n26 vc6));rw[←ai2] at h5;have a2t:=ak ai2;have qx:Hid (Jz W1 mb (stepS (a++[k]) eu) (.slice (some ⟨g,0,none⟩) (al+1) mc) bs' w66):=ak (by rw[uh I7,uh HAQ];exact h5);obtain⟨h41,h42,h43⟩:=h4;clear hG hbd hT hnd aag aps h1 h3 h3' h5 ai2 Fh hA6;go_wp2_with fail
      go_region_law (refine uj rfl _ _ 48 48 rfl rfl _ _ _ rfl rfl (uh auu) ?_)
      all_goals
       rw[←uh a2t];clear hc0 a2s hcA s0 s1 s2 s3 s4 s5 h41 h42;go_wp2;refine uh HKK _ _ _ _ rfl ?_ ?_ (uh qx)
       ·exact V3 rfl rfl rfl rfl rfl rfl rfl rfl rfl rfl
       ·rfl
    ·have baw:¬(c:Int)+1<(f.length:Int):=by omega
     have dne:decide ((c:Int)+1<(f.length:Int))=false:=iy baw;have HAQ:=ak (uh a2r hne);clear a2q a2r ale z5;have hG:=(uh uq).1.below (uh HB4 wr2 (uh Ti).but);have hbd:Below wr2.heap.size wr2 wr2.drew:=(iq _ _).drew;obtain⟨hT,hnd,aag⟩:=((uh Ti).below hbd).a7z (uh HM4).1 (uh HM4).2.2 (uh HOK).1 (uh HOK).2 (uh HAT);have aps:=fun b hb=>(ahi _ _ _ _ hT).lt b hb
     obtain⟨ia6,n16,ic6,va6,n26,vc6,w56,bs',h1,h2,h3,h4,h5⟩:=aia (hG.below hbd) (uh Cm) hm (uh Gf) ⟨[.int .i64 3,.string ⟨#[]⟩,.int .i64 at_,.slice va (c-2) vc,.slice none 0 0,.slice aa an ac],by simp,by intro u hu;simp only[qj,xq,xu] at hu;rcases hu with rfl|rfl|rfl|rfl|rfl|rfl<;>rfl⟩ _ _ hT hnd (fun b hb=>by
      have h9:=aag b hb;have h8:=uh HZ3;have h7:w2.heap.size<=b:=by omega
      exact⟨fun h6=>by have:=((uh uq).1.row.nd.2 b h6).2;omega,ku (uh uq).1.but.size h7⟩) aps
     have hc0:wr2.cell? ⟨g,al*7+6,none⟩=some (.slice ia6 n16 ic6):=h1;have a2s:wr2.drew.cell? ⟨g,al*7+6,none⟩=some (.slice ia6 n16 ic6):=h1;have hA6:Below wr2.heap.size wr2 (wr2.alloc (.cells #[.int .i64 3,.string ⟨#[]⟩,.int .i64 at_,.slice va (c-2) vc,.slice none 0 0,.slice aa an ac] 60)).drew:=((iq _ _).alloc (gu _) _).drew;have hcA:=(hA6.cell (p:=⟨g,al*7+6,none⟩) h2).trans hc0;have Fh:=(uh Ti).box;have s0:=Fh.cell (i:=0) (v:=.int .i64 3) rfl;have s1:=Fh.cell (i:=1) (v:=.string ⟨#[]⟩) rfl;have s2:=Fh.cell (i:=2) (v:=.int .i64 at_) rfl;have s3:=Fh.cell (i:=3) (v:=.slice va (c-2) vc) rfl;have s4:=Fh.cell (i:=4) (v:=.slice none 0 0) rfl;have s5:=Fh.cell (i:=5) (v:=.slice aa an ac) rfl;have hsx:sb<wr2.heap.size:=Fh.lt;have h3':(Builtin.append_ #[48,48] 48 #[.slice ia6 n16 ic6,.slice (some ⟨wr2.heap.size,0,none⟩) 1 1]).run Tryz.prog (wr2.alloc (.cells #[.int .i64 3,.string ⟨#[]⟩,.int .i64 at_,.slice va (c-2) vc,.slice none 0 0,.slice aa an ac] 60)).drew=.ok (.slice va6 n26 vc6) w56:=h3;have auu:=ak h3';obtain⟨w66,ai2⟩:=o8 (w56.setCell ⟨g,al*7+6,none⟩ (.slice va6 n26 vc6));rw[←ai2] at h5;have a2t:=ak ai2;have qx:Hid (Jz W1 mb (stepS (a++[k]) eu) (.slice (some ⟨g,0,none⟩) (al+1) mc) bs' w66):=ak (by rw[uh I7,uh HAQ];exact h5);obtain⟨h41,h42,h43⟩:=h4;clear hG hbd hT hnd aag aps h1 h3 h3' h5 ai2 Fh hA6;go_wp2_with fail
     go_region_law (refine uj rfl _ _ 48 48 rfl rfl _ _ _ rfl rfl (uh auu) ?_)
     all_goals
      rw[←uh a2t];clear hc0 a2s hcA s0 s1 s2 s3 s4 s5 h41 h42;go_wp2;refine uh HKK _ _ _ _ rfl ?_ ?_ (uh qx)
      ·exact V3 rfl rfl rfl rfl rfl rfl rfl rfl rfl rfl
      ·rfl
end Go.Proofs.YtfeejeflmcapoaaGreatDoor
