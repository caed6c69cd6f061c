import Derived.Deep.RegionHeld3
import Derived.Deep.QuietTactic
import Derived.BigQuiet
import Derived.BigRegion
import Derived.Deep.Cut
import Derived.Test.YtfeejeflmcapoaaGreatDoorRIA
set_option linter.unusedSimpArgs false
set_option linter.unusedVariables false
set_option maxHeartbeats 8000000
namespace Go.Proofs.YtfeejeflmcapoaaGreatDoor
open Go.RowKit
theorem aru (p:dh):(p.toList==[101,110,100,99,108,97,115,115])=decide (p=Po):=Hw p Po _ rfl
theorem a5x {B rb pb:Nat} {cs:List dw} {mv:Value} {bs:List Nat} {w:cu} (h:IrS B rb pb cs mv bs w) (hrb:rb<B) (hpb:pb<B) (hw:pz qy cs<=1048577) (f:List dh) (v:Value) (hE:Za w) (hv:jc 1 16 xk 0 w v f) (hs:∀p,p∈f->p.size<=1048576) (h1:1<=f.length) (hl:f.length<=1048577) :
  Calls Tryz.prog 12 #[.pointer (some ⟨rb,0,none⟩),v] w (ak9 B rb pb (Va cs f) w):=by
 obtain⟨PO,Gn⟩:=o8 (ak9 B rb pb (Va cs f) w);rw[←Gn];have Dc:=ak Gn;clear Gn;obtain⟨va0,alb,rfl⟩:=hv.shape;obtain⟨b,o,rfl,hbl,x0,_⟩:=ag9 hv 0 h1;rw[ji] at x0
 have hz1:(fA f 1).size<=1048576:=by
  by_cases c:1<f.length
  ·rw[←Jj f 1 c];exact hs _ (o7 c)
  ·rw[agn f 1 c];decide
 have Rf:Hid (∀W,Below w.heap.size w W->jc 1 16 xk 0 W (.slice (some ⟨b,o,none⟩) f.length alb) f):=ak (fun W hW=>hv.stays zk hW);have Vu:Hid (∀W,Below w.heap.size w W->Za W):=ak (fun W hW=>hE.below hW hE.env.three);have hpos:(0:Int)<(f.length:Int):=by omega
 clear hv hE
 by_cases Js:fA f 0=vw
 ·have Cb:((fA f 0).toList==[99,108,97,115,115])=true:=by rw[ab9];exact jf Js
  have HE:Hid (Va cs f=cs++[K0 (fA f 1)]):=ak (by unfold Va;rw[gy Js]);have HNM:=ak (aa0 f _ w 1 (by omega) (uh Rf w (iq _ _)));have HBG:Hid (∀W,Below w.heap.size w W->Calls Tryz.prog 29 #[.pointer (some ⟨rb,0,none⟩),.string (fA f 1)] W (ak9 B rb pb (cs++[K0 (fA f 1)]) W)):=ak (fun W hW=>a15 (h.below hW) hrb hpb hw (fA f 1) hz1);have HSZ:=ak h.size;clear Js h hs Rf Vu;go_enter Tryz.func12,Tryz.ntmps12;go_wp2_with fail;refine(uh HNM).mono ?_;rintro e w1 ⟨rfl,hb1⟩;have HB1:=ak hb1;clear hb1;go_wp2_with fail;refine(uh HBG w1 (uh HB1)).mono ?_;rintro e w2 ⟨⟨v9,rfl⟩,mv',bs',hI,hK⟩;have qx:Hid (∀v,PO (.returned v) w2):=ak (fun v=>by rw[uh Dc,uh HE];exact⟨⟨v,rfl⟩,mv',bs',hI,(Nz.Yt (uh HB1) (uh HSZ)).trans hK⟩);clear hI hK;go_wp2;refine bodyPost_ret (results_none rfl _ _ _) rfl ?_;exact uh qx _
 have Cb:((fA f 0).toList==[99,108,97,115,115])=false:=by rw[ab9];exact iy Js
 rcases List.eq_nil_or_concat cs with hnil|⟨a,k,hcs⟩
 ·subst hnil
  obtain⟨ia,ic,hmv⟩:=h.row.slice;subst hmv;have c0:=h.box.cell (i:=0) (v:=.slice ia 0 ic) rfl
  have qx:Hid (∀v W,Below w.heap.size w W->PO (.returned v) W):=ak (fun v W hW=>by
   rw[uh Dc];have e9:Va [] f=[]:=by unfold Va;rw[bf Js,ak2]
   rw[e9];exact⟨⟨v,rfl⟩,_,bs,h.below hW,Nz.Yt hW h.size⟩)
  clear Js h hs Rf Vu;go_enter Tryz.func12,Tryz.ntmps12;go_wp2;refine bodyPost_ret (results_none rfl _ _ _) rfl ?_;exact uh qx _ _ (iq _ _)
 rw[List.concat_eq_append] at hcs;subst hcs;obtain⟨g,mc,hmv⟩:=Lh h.row;obtain⟨al,hal⟩:=o8 a.length;rw[←hal] at hmv;subst hmv;have Cm:=ak hal
 have hnb:al<=1048577:=by
  unfold pz at hw;rw[jh] at hw;omega
 clear hal;have HST:Hid (Va (a++[k]) f=a++[Jg (a++[k]) f k]):=ak (by unfold Va;rw[bf Js,Aa]);have c0:=h.box.cell (i:=0) (v:=.slice (some ⟨g,0,none⟩) (al+1) mc) rfl;have c1:=h.box.cell (i:=1) (v:=.map (some pb)) rfl;have d0:(((al:Int)+1)==0)=false:=by rw[su];omega
 have d1:IntKind.i64.wrap ((al:Int)+1-1)=(al:Int):=by rw[Qw];omega
 have d2:(al:Int)<(al:Int)+1:=by omega
 have hrl:rb<w.heap.size:=h.box.lt;have hgl:g<w.heap.size:=(apj h.row).2.1;have HI:=ak h;have HW:=ak hw;clear Js h hw
 by_cases J4:fA f 0=Ic
 ·clear hs
  have Jm:((fA f 0).toList==[105,110])=true:=by rw[abk];exact jf J4
  have HE:Jg (a++[k]) f k={ k with ins:=k.ins++[Lj f] }:=by unfold Jg;rw[gy J4]
  rw[HE] at HST;have hok:ade (Lj f):=⟨by unfold Len Lj;simp only;omega,by unfold I64 Lj;simp only;split<;>omega⟩;have HSL:=ak (fun W (hW:Below w.heap.size w W)=>amd f _ W (uh Rf W hW));generalize Lj f=sl at HSL HST hok;obtain⟨ia,n1,ic,hc⟩:=fld (uh HI).row 1 (by omega) (by omega);rw[←uh Cm] at hc
  have HIT:Hid (∀W,Below w.heap.size w W->Calls Tryz.prog 31 #[.slice (some ⟨b,o,none⟩) f.length alb] W (fun e w9=>e=.returned (.agg #[.string sl.name,.int .i64 sl.type])/\Pk (al*7+1) 54 46 #[.string sl.name,.int .i64 sl.type] g ia n1 ic (fun Y=>∀v,PO (.returned v) Y) w9)):=ak (fun W hW=>(uh HSL W hW).mono (by
   rintro e w9 ⟨rfl,yx⟩;rw[uh Dc,uh HST];exact⟨rfl,pack F5 (uh HI) hrb hpb (by simp) hc sl (hW.trans (yx.mono hW.size)) (by decide) (fun hr=>by obtain⟨vj,q1,q2,_,q3⟩:=Qu (a2d _) (by decide) (by decide) hr;rw[←uh Cm] at q1 q3;exact⟨vj,k.ins,q1,q2,(by have:=Aj (uh HW);show (k.ins.length+1)*24<=_;omega),fun Di w5 p1 p2 p3=>q3 Di w5 _ hok p1 p2 p3 (by have:=Aj (uh HW);omega)⟩)⟩))
  clear HSL hok J4 Rf Vu HI HE HST Dc;go_enter Tryz.func12,Tryz.ntmps12;go_wp2_with fail;go_region;go_wp2_with fail
  go_region_law (first|(go_simp;go_at_call 31;refine(uh HIT _ (((iq _ _).drew).drew)).mono ?_;rintro e w9 ⟨rfl,va,n2,vc,w5,Y,y1,y2,y3,Df,y4,y5,y6,HX,J9⟩)|(refine uj rfl _ _ 46 46 rfl rfl _ _ _ rfl rfl (uh Df) ?_))
  all_goals
   rw[←uh HX];go_wp2;go_end0;exact uh J9 _
 by_cases Ip:fA f 0=Dz
 ·clear hs
  have Jm:((fA f 0).toList==[105,110])=false:=by rw[abk];exact iy J4
  have Gq:((fA f 0).toList==[111,117,116])=true:=by rw[aa5];exact jf Ip
  have HE:Jg (a++[k]) f k={ k with au:=k.au++[Lj f] }:=by unfold Jg;rw[bf J4,gy Ip]
  rw[HE] at HST;have hok:ade (Lj f):=⟨by unfold Len Lj;simp only;omega,by unfold I64 Lj;simp only;split<;>omega⟩;have HSL:=ak (fun W (hW:Below w.heap.size w W)=>amd f _ W (uh Rf W hW));generalize Lj f=sl at HSL HST hok;obtain⟨ia,n1,ic,hc⟩:=fld (uh HI).row 2 (by omega) (by omega);rw[←uh Cm] at hc
  have HIT:Hid (∀W,Below w.heap.size w W->Calls Tryz.prog 31 #[.slice (some ⟨b,o,none⟩) f.length alb] W (fun e w9=>e=.returned (.agg #[.string sl.name,.int .i64 sl.type])/\Pk (al*7+2) 54 46 #[.string sl.name,.int .i64 sl.type] g ia n1 ic (fun Y=>∀v,PO (.returned v) Y) w9)):=ak (fun W hW=>(uh HSL W hW).mono (by
   rintro e w9 ⟨rfl,yx⟩;rw[uh Dc,uh HST];exact⟨rfl,pack F5 (uh HI) hrb hpb (by simp) hc sl (hW.trans (yx.mono hW.size)) (by decide) (fun hr=>by obtain⟨vj,q1,q2,_,q3⟩:=Qu (a2e _) (by decide) (by decide) hr;rw[←uh Cm] at q1 q3;exact⟨vj,k.au,q1,q2,(by have:=Aj (uh HW);show (k.au.length+1)*24<=_;omega),fun Di w5 p1 p2 p3=>q3 Di w5 _ hok p1 p2 p3 (by have:=Aj (uh HW);omega)⟩)⟩))
  clear HSL hok J4 Ip Rf Vu HI HE HST Dc;go_enter Tryz.func12,Tryz.ntmps12;go_wp2_with fail;go_region;go_wp2_with fail
  go_region_law (first|(go_simp;go_at_call 31;refine(uh HIT _ (((iq _ _).drew).drew)).mono ?_;rintro e w9 ⟨rfl,va,n2,vc,w5,Y,y1,y2,y3,Df,y4,y5,y6,HX,J9⟩)|(refine uj rfl _ _ 46 46 rfl rfl _ _ _ rfl rfl (uh Df) ?_))
  all_goals
   rw[←uh HX];go_wp2;go_end0;exact uh J9 _
 by_cases J8:fA f 0=Ee
 ·clear hs
  have Jm:((fA f 0).toList==[105,110])=false:=by rw[abk];exact iy J4
  have Gq:((fA f 0).toList==[111,117,116])=false:=by rw[aa5];exact iy Ip
  have Hg:((fA f 0).toList==[108,111,99])=true:=by rw[acd];exact jf J8
  have HE:Jg (a++[k]) f k={ k with iw:=k.iw++[fA f 1] }:=by unfold Jg;rw[bf J4,bf Ip,gy J8]
  rw[HE] at HST;have hok:okS (fA f 1):=by unfold okS Len;omega
  have HSL:=ak (fun W (hW:Below w.heap.size w W)=>aa0 f _ W 1 (by omega) (uh Rf W hW));generalize fA f 1=sl at HSL HST hok;obtain⟨ia,n1,ic,hc⟩:=fld (uh HI).row 3 (by omega) (by omega);rw[←uh Cm] at hc
  have HIT:Hid (∀W,Below w.heap.size w W->Calls Tryz.prog 30 #[.slice (some ⟨b,o,none⟩) f.length alb,.int .i64 1] W (fun e w9=>e=.returned (.string sl)/\Pk (al*7+3) 9 40 #[.string sl] g ia n1 ic (fun Y=>∀v,PO (.returned v) Y) w9)):=ak (fun W hW=>(uh HSL W hW).mono (by
   rintro e w9 ⟨rfl,yx⟩;rw[uh Dc,uh HST];exact⟨rfl,pack ny (uh HI) hrb hpb (by simp) hc sl (hW.trans (yx.mono hW.size)) (by decide) (fun hr=>by obtain⟨vj,q1,q2,_,q3⟩:=Qu (a97 _) (by decide) (by decide) hr;rw[←uh Cm] at q1 q3;exact⟨vj,k.iw,q1,q2,(by have:=Aj (uh HW);show (k.iw.length+1)*16<=_;omega),fun Di w5 p1 p2 p3=>q3 Di w5 _ hok p1 p2 p3 (by have:=Aj (uh HW);omega)⟩)⟩))
  clear HSL hok J4 Ip J8 Rf Vu HI HE HST Dc;go_enter Tryz.func12,Tryz.ntmps12;go_wp2_with fail;go_region;go_wp2_with fail
  go_region_law (first|(go_simp;go_at_call 30;refine(uh HIT _ (((iq _ _).drew).drew)).mono ?_;rintro e w9 ⟨rfl,va,n2,vc,w5,Y,y1,y2,y3,Df,y4,y5,y6,HX,J9⟩)|(refine uj rfl _ _ 40 40 rfl rfl _ _ _ rfl rfl (uh Df) ?_))
  all_goals
   rw[←uh HX];go_wp2;go_end0;exact uh J9 _
 by_cases h_mem:fA f 0=Ef
 ·clear hs
  have Jm:((fA f 0).toList==[105,110])=false:=by rw[abk];exact iy J4
  have Gq:((fA f 0).toList==[111,117,116])=false:=by rw[aa5];exact iy Ip
  have Hg:((fA f 0).toList==[108,111,99])=false:=by rw[acd];exact iy J8
  have H8:((fA f 0).toList==[109,101,109])=true:=by rw[aea];exact jf h_mem
  have HE:Jg (a++[k]) f k={ k with gq:=k.gq++[Om (fA f 1)] }:=by unfold Jg;rw[bf J4,bf Ip,bf J8,gy h_mem]
  rw[HE] at HST;have hok:I64 (Om (fA f 1)):=ad9 _;have HSL:=ak (fun W (hW:Below w.heap.size w W)=>Xr (fA f 1) W (uh Vu W hW) hz1);generalize Om (fA f 1)=sl at HSL HST hok;obtain⟨ia,n1,ic,hc⟩:=fld (uh HI).row 4 (by omega) (by omega);rw[←uh Cm] at hc
  have HIT:Hid (∀W,Below w.heap.size w W->Calls Tryz.prog 32 #[.string (fA f 1)] W (fun e w9=>e=.returned (.int .i64 sl)/\Pk (al*7+4) 3 47 #[.int .i64 sl] g ia n1 ic (fun Y=>∀v,PO (.returned v) Y) w9)):=ak (fun W hW=>(uh HSL W hW).mono (by
   rintro e w9 ⟨rfl,yx⟩;rw[uh Dc,uh HST];exact⟨rfl,pack Xv (uh HI) hrb hpb (by simp) hc sl (hW.trans (yx.mono hW.size)) (by decide) (fun hr=>by obtain⟨vj,q1,q2,_,q3⟩:=Qu (a98 _) (by decide) (by decide) hr;rw[←uh Cm] at q1 q3;exact⟨vj,k.gq,q1,q2,(by have:=Aj (uh HW);show (k.gq.length+1)*8<=_;omega),fun Di w5 p1 p2 p3=>q3 Di w5 _ hok p1 p2 p3 (by have:=Aj (uh HW);omega)⟩)⟩))
  have HPT:=ak (fun W (hW:Below w.heap.size w W)=>Yn f _ W 1 (by omega) (uh Rf W hW));clear HSL hok J4 Ip J8 h_mem Rf Vu HI HE HST Dc;go_enter Tryz.func12,Tryz.ntmps12;go_wp2_with fail;go_region;go_wp2_with fail
  go_region_law (first|(go_simp;go_at_call 33;refine(uh HPT _ (((iq _ _).drew).drew)).mono ?_;rintro e w8 ⟨rfl,hw8⟩;rw[hw8];clear hw8)|(go_simp;go_at_call 32;refine(uh HIT _ (((iq _ _).drew).drew)).mono ?_;rintro e w9 ⟨rfl,va,n2,vc,w5,Y,y1,y2,y3,Df,y4,y5,y6,HX,J9⟩)|(refine uj rfl _ _ 47 47 rfl rfl _ _ _ rfl rfl (uh Df) ?_))
  all_goals
   rw[←uh HX];go_wp2;go_end0;exact uh J9 _
 by_cases Pv:fA f 0=Eh
 ·clear hs
  have Jm:((fA f 0).toList==[105,110])=false:=by rw[abk];exact iy J4
  have Gq:((fA f 0).toList==[111,117,116])=false:=by rw[aa5];exact iy Ip
  have Hg:((fA f 0).toList==[108,111,99])=false:=by rw[acd];exact iy J8
  have H8:((fA f 0).toList==[109,101,109])=false:=by rw[aea];exact iy h_mem
  have Io:((fA f 0).toList==[117,115,101])=true:=by rw[agq];exact jf Pv
  have HE:Jg (a++[k]) f k={ k with ay:=k.ay++[(((Nw (a++[k]) (fA f 1)).getD 0:Nat):Int)] }:=by unfold Jg;rw[bf J4,bf Ip,bf J8,bf h_mem,gy Pv]
  rw[HE] at HST
  have hpl:(Nw (a++[k]) (fA f 1)).getD 0<=2000000:=by
   cases hq:Nw (a++[k]) (fA f 1) with
   | none=>simp
   | some i =>
    have h9:=a1e _ _ _ hq;rw[zy,jh,N9,←uh Cm] at h9;simp only[Kw];omega
  have HLK:=ak (fun W (hW:Below w.heap.size w W)=>((uh HI).map.below hW).look Tryz.underlying9 Tryz.underlying33 (Tryz.zeroValue3 W) (s:=fA f 1) (by unfold maxLen;omega));generalize (Nw (a++[k]) (fA f 1)).getD 0=sl at HLK HST hpl;have hok:I64 (sl:Int):=by unfold I64;omega
  obtain⟨ia,n1,ic,hc⟩:=fld (uh HI).row 5 (by omega) (by omega);rw[←uh Cm] at hc
  have HIT:Hid (∀W,Below w.heap.size w W->Calls Tryz.prog 33 #[.slice (some ⟨b,o,none⟩) f.length alb,.int .i64 1] W (fun e w9=>e=.returned (.string (fA f 1))/\(Instr.lookup 33 (.map (some pb)) (.string (fA f 1)) false).run Tryz.prog w9=.ok (.int .i64 (sl:Int)) w9/\w9.cell? ⟨rb,1,none⟩=some (.map (some pb))/\rb<w9.heap.size/\Pk (al*7+5) 3 47 #[.int .i64 (sl:Int)] g ia n1 ic (fun Y=>∀v,PO (.returned v) Y) w9)):=ak (fun W hW=>(Yn f _ W 1 (by omega) (uh Rf W hW)).mono (by
   rintro e w9 ⟨rfl,Qe⟩;rw[Qe,uh Dc,uh HST];exact⟨rfl,uh HLK W hW,((uh HI).below hW).box.cell (i:=1) (v:=.map (some pb)) rfl,((uh HI).below hW).box.lt,pack Xv (uh HI) hrb hpb (by simp) hc (sl:Int) hW (by decide) (fun hr=>by obtain⟨vj,q1,q2,_,q3⟩:=Qu (a99 _) (by decide) (by decide) hr;rw[←uh Cm] at q1 q3;exact⟨vj,k.ay,q1,q2,(by have:=Aj (uh HW);show (k.ay.length+1)*8<=_;omega),fun Di w5 p1 p2 p3=>q3 Di w5 _ hok p1 p2 p3 (by have:=Aj (uh HW);omega)⟩)⟩))
  clear HLK hpl hok J4 Ip J8 h_mem Pv Rf Vu HI HE HST Dc;go_enter Tryz.func12,Tryz.ntmps12;go_wp2_with fail;go_region;go_wp2_with fail
  go_region_law (first|(go_simp;go_at_call 33;refine(uh HIT _ (((iq _ _).drew).drew)).mono ?_;rintro e w9 ⟨rfl,z1,z2,z3,va,n2,vc,w5,Y,y1,y2,y3,Df,y4,y5,y6,HX,J9⟩)|(refine uj rfl _ _ 47 47 rfl rfl _ _ _ rfl rfl (uh Df) ?_))
  all_goals
   rw[←uh HX];go_wp2;go_end0;exact uh J9 _
 by_cases aeb:fA f 0=Po
 ·clear hs
  have Jm:((fA f 0).toList==[105,110])=false:=by rw[abk];exact iy J4
  have Gq:((fA f 0).toList==[111,117,116])=false:=by rw[aa5];exact iy Ip
  have Hg:((fA f 0).toList==[108,111,99])=false:=by rw[acd];exact iy J8
  have H8:((fA f 0).toList==[109,101,109])=false:=by rw[aea];exact iy h_mem
  have Io:((fA f 0).toList==[117,115,101])=false:=by rw[agq];exact iy Pv
  have bab:((fA f 0).toList==[101,110,100,99,108,97,115,115])=true:=by rw[aru];exact jf aeb
  have HE:Jg (a++[k]) f k=k:=by unfold Jg;rw[bf J4,bf Ip,bf J8,bf h_mem,bf Pv,gy aeb]
  rw[HE] at HST
  have qx:Hid (∀v W,Below w.heap.size w W->PO (.returned v) W):=ak (fun v W hW=>by
   rw[uh Dc,uh HST];exact⟨⟨v,rfl⟩,_,bs,(uh HI).below hW,Nz.Yt hW (uh HI).size⟩)
  clear J4 Ip J8 h_mem Pv aeb Rf Vu HI HE HST Dc;go_enter Tryz.func12,Tryz.ntmps12;go_wp2_with fail;go_region;go_wp2_with fail;go_end0;exact uh qx _ _ ((iq _ _).drew)
 have Jm:((fA f 0).toList==[105,110])=false:=by rw[abk];exact iy J4
 have Gq:((fA f 0).toList==[111,117,116])=false:=by rw[aa5];exact iy Ip
 have Hg:((fA f 0).toList==[108,111,99])=false:=by rw[acd];exact iy J8
 have H8:((fA f 0).toList==[109,101,109])=false:=by rw[aea];exact iy h_mem
 have Io:((fA f 0).toList==[117,115,101])=false:=by rw[agq];exact iy Pv
 have bab:((fA f 0).toList==[101,110,100,99,108,97,115,115])=false:=by rw[aru];exact iy aeb
 have HE:Jg (a++[k]) f k=Dj k (Ny f):=by unfold Jg;rw[bf J4,bf Ip,bf J8,bf h_mem,bf Pv,bf aeb]
 rw[HE] at HST;have HSL:=ak (fun W (hW:Below w.heap.size w W)=>a13 f _ W (uh Vu W hW) (uh Rf W hW) hs h1 hl);generalize Ny f=sl at HSL HST;obtain⟨ia,n1,ic,hc⟩:=fld (uh HI).row 6 (by omega) (by omega);rw[←uh Cm] at hc
 have HIT:Hid (∀W,Below w.heap.size w W->Calls Tryz.prog 34 #[.slice (some ⟨b,o,none⟩) f.length alb] W (fun e w9=>∃oa on oc ca cn cc aa an ac,e=.returned (.agg #[.int .i64 sl.kind,.string sl.name,.int .i64 sl.at_,.slice oa on oc,.slice ca cn cc,.slice aa an ac])/\Pk (al*7+6) 60 48 #[.int .i64 sl.kind,.string sl.name,.int .i64 sl.at_,.slice oa on oc,.slice ca cn cc,.slice aa an ac] g ia n1 ic (fun Y=>∀v,PO (.returned v) Y) w9)):=ak (fun W hW=>(uh HSL W hW).mono (by
  rintro e w9 ⟨oa,on,oc,ca,cn,cc,aa,an,ac,sb,rfl,hT,hnd,hsb,yx⟩;rw[uh Dc,uh HST];refine⟨oa,on,oc,ca,cn,cc,aa,an,ac,rfl,?_⟩;have hW9:=hW.trans (yx.mono hW.size);have hA:Below w9.heap.size w9 (w9.alloc (.cells [.int .i64 sl.kind,.string sl.name,.int .i64 sl.at_,.slice oa on oc,.slice ca cn cc,.slice aa an ac].toArray 60)):=(iq _ _).alloc (gu _) _
  exact pack abq (uh HI) hrb hpb (by simp[Dj]) hc (⟨[.int .i64 sl.kind,.string sl.name,.int .i64 sl.at_,.slice oa on oc,.slice ca cn cc,.slice aa an ac],by simp,by intro u hu;simp only[qj,xq,xu] at hu;rcases hu with rfl|rfl|rfl|rfl|rfl|rfl<;>rfl⟩:Raw 6) hW9 (by decide) (fun hr=>by
   obtain⟨vj,Pe,q1,q2,q4,_,q3⟩:=yj.aes hr;rw[←uh Cm] at q1 q3;have hsm:=Aj (uh HW);refine⟨vj,Pe,q1,q2,by rw[q4];show (k.body.length+1)*104<=_;omega,fun Di w5 p1 p2 p3=>q3 Di w5 _ sl sb (Qs _ _ _ _ _ hT (fun b9 h9=>hA.block b9 (hsb b9 h9).2)) hnd (fun b9 h9=>⟨fun h8=>?_,?_⟩) p1 p2 p3 (by omega)⟩
   ·have h7:=((uh HI).row.nd.2 b9 h8).2
    have h6:=(hsb b9 h9).1;have h5:=hW.size;omega
   ·have h6:=(hsb b9 h9).1
    have h5:=hW.size;have h4:=(uh HI).size;omega)))
 clear HSL J4 Ip J8 h_mem Pv aeb Rf Vu HI HE HST Dc hs;go_enter Tryz.func12,Tryz.ntmps12;go_wp2_with fail;go_region;go_wp2_with fail
 go_region_law (first|(go_simp;go_at_call 34;refine(uh HIT _ (((iq _ _).drew).drew)).mono ?_;rintro e w9 ⟨oa,on,oc,ca,cn,cc,aa,an,ac,rfl,va,n2,vc,w5,Y,y1,y2,y3,Df,y4,y5,y6,HX,J9⟩)|(refine uj rfl _ _ 48 48 rfl rfl _ _ _ rfl rfl (uh Df) ?_))
 all_goals
  rw[←uh HX];go_wp2;go_end0;exact uh J9 _
end Go.Proofs.YtfeejeflmcapoaaGreatDoor
