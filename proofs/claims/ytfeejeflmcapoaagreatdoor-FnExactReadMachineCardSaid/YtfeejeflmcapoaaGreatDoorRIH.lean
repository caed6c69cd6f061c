import Derived.Deep.RegionHeld3
import Derived.Deep.QuietTactic
import Derived.BigQuiet
import Derived.BigRegion
import Derived.Deep.Cut
import Derived.Test.YtfeejeflmcapoaaGreatDoorRIA
set_option linter.unusedSimpArgs false
set_option linter.unusedVariables false
set_option maxHeartbeats 8000000
namespace Go.Proofs.YtfeejeflmcapoaaGreatDoor
open Go.RowKit
theorem ar2 (p:dh):(p.toList == [101,110,100,99,108,97,115,115])=decide (p=Pz):=Ib p Pz _ rfl
theorem a6p {B rb pb:Nat} {cs:List dw} {mv:Value} {bs:List Nat} {w:bf} (h:IrS B rb pb cs mv bs w) (hrb:rb<B) (hpb:pb<B) (hw:oq qx cs<=1048577) (f:List dh) (v:Value) (hE:Zc w) (hv:iy 1 16 wz 0 w v f) (hs:∀p,p∈f->p.size<=1048576) (h1:1<=f.length) (hl:f.length<=1048577) :
  Calls Tryz.prog 12 #[.pointer (some ⟨rb,0,none⟩),v] w (ald B rb pb (Vf cs f) w):=by
 obtain⟨PO,Gv⟩:∃PO:Ending->bf->Prop,PO=ald B rb pb (Vf cs f) w:=⟨_,rfl⟩;rw[←Gv];have Dn:=hide Gv;clear Gv;obtain⟨va0,alf,rfl⟩:=hv.shape;obtain⟨b,o,rfl,hbl,x0,_⟩:=aha hv 0 h1;rw[jh] at x0
 have hz1:(fA f 1).size<=1048576:=by
  by_cases c:1<f.length
  ·rw[←Jo f 1 c];exact hs _ (pz c)
  ·rw[agq f 1 c];decide
 have Rt:Hid (∀W,Below w.heap.size w W->iy 1 16 wz 0 W (.slice (some ⟨b,o,none⟩) f.length alf) f):=hide (fun W hW=>hv.stays zo hW);have Vz:Hid (∀W,Below w.heap.size w W->Zc W):=hide (fun W hW=>hE.below hW hE.env.three);have hpos:(0:Int)<(f.length:Int):=by omega
 clear hv hE
 by_cases Jy:fA f 0=vg
 ·have Df:((fA f 0).toList == [99,108,97,115,115])=true:=by rw[acd];exact jf Jy
  have HE:Hid (Vf cs f=cs++[K0 (fA f 1)]):=hide (by unfold Vf;rw[gu Jy]);have HNM:=hide (aa5 f _ w 1 (by omega) (uh Rt w (gy _ _)));have HBG:Hid (∀W,Below w.heap.size w W->Calls Tryz.prog 29 #[.pointer (some ⟨rb,0,none⟩),.string (fA f 1)] W (ald B rb pb (cs++[K0 (fA f 1)]) W)):=hide (fun W hW=>a2l (h.below hW) hrb hpb hw (fA f 1) hz1);have HSZ:=hide h.size;clear Jy h hs Rt Vz;go_enter Tryz.func12,Tryz.ntmps12;go_wp2_with fail;refine(uh HNM).mono ?_;rintro e w1 ⟨rfl,hb1⟩;have HB1:=hide hb1;clear hb1;go_wp2_with fail;refine(uh HBG w1 (uh HB1)).mono ?_;rintro e w2 ⟨⟨v9,rfl⟩,mv',bs',hI,hK⟩;have qc:Hid (∀v,PO (.returned v) w2):=hide (fun v=>by rw[uh Dn,uh HE];exact⟨⟨v,rfl⟩,mv',bs',hI,(Nh.Ws (uh HB1) (uh HSZ)).trans hK⟩);clear hI hK;go_wp2;refine bodyPost_ret (results_none rfl _ _ _) rfl ?_;exact uh qc _
 have Df:((fA f 0).toList == [99,108,97,115,115])=false:=by rw[acd];exact iw Jy
 rcases List.eq_nil_or_concat cs with hnil|⟨a,k,hcs⟩
 ·subst hnil
  obtain⟨ia,ic,hmv⟩:=h.row.slice;subst hmv;have c0:=h.box.cell (i:=0) (v:=.slice ia 0 ic) rfl
  have qc:Hid (∀v W,Below w.heap.size w W->PO (.returned v) W):=hide (fun v W hW=>by
   rw[uh Dn];have e9:Vf [] f=[]:=by unfold Vf;rw[ay Jy,ak5]
   rw[e9];exact⟨⟨v,rfl⟩,_,bs,h.below hW,Nh.Ws hW h.size⟩)
  clear Jy h hs Rt Vz;go_enter Tryz.func12,Tryz.ntmps12;go_wp2;refine bodyPost_ret (results_none rfl _ _ _) rfl ?_;exact uh qc _ _ (gy _ _)
 rw[List.concat_eq_append] at hcs;subst hcs;obtain⟨g,mc,hmv⟩:=E8 h.row;obtain⟨al,hal⟩:∃z,z=a.length:=⟨_,rfl⟩;rw[←hal] at hmv;subst hmv;have Ba:=hide hal
 have hnb:al<=1048577:=by
  unfold oq at hw;rw[je] at hw;omega
 clear hal;have HST:Hid (Vf (a++[k]) f=a++[Jh (a++[k]) f k]):=hide (by unfold Vf;rw[ay Jy,Ae]);have c0:=h.box.cell (i:=0) (v:=.slice (some ⟨g,0,none⟩) (al+1) mc) rfl;have c1:=h.box.cell (i:=1) (v:=.map (some pb)) rfl;have d0:(((al:Int)+1) == 0)=false:=by rw[su];omega
 have d1:IntKind.i64.wrap ((al:Int)+1-1)=(al:Int):=by rw[Rf];omega
 have d2:(al:Int)<(al:Int)+1:=by omega
 have hrl:rb<w.heap.size:=h.box.lt;have hgl:g<w.heap.size:=(apn h.row).2.1;have HI:=hide h;have HW:=hide hw;clear Jy h hw
 by_cases J7:fA f 0=Ik
 ·clear hs
  have Jr:((fA f 0).toList == [105,110])=true:=by rw[abo];exact jf J7
  have HE:Jh (a++[k]) f k={ k with ins:=k.ins++[Ll f] }:=by unfold Jh;rw[gu J7]
  rw[HE] at HST;have hok:adh (Ll f):=⟨by unfold Len Ll;simp only;omega,by unfold I64 Ll;simp only;split<;>omega⟩;have HSL:=hide (fun W (hW:Below w.heap.size w W)=>ama f _ W (uh Rt W hW));generalize Ll f=sl at HSL HST hok;obtain⟨ia,n1,ic,hc⟩:=fld (uh HI).row 1 (by omega) (by omega);rw[←uh Ba] at hc
  have HIT:Hid (∀W,Below w.heap.size w W->Calls Tryz.prog 31 #[.slice (some ⟨b,o,none⟩) f.length alf] W (fun e w9=>e=.returned (.agg #[.string sl.name,.int .i64 sl.type])∧Pk (al*7+1) 54 46 #[.string sl.name,.int .i64 sl.type] g ia n1 ic (fun Y=>∀v,PO (.returned v) Y) w9)):=hide (fun W hW=>(uh HSL W hW).mono (by
   rintro e w9 ⟨rfl,yu⟩;rw[uh Dn,uh HST];exact⟨rfl,pack Gh (uh HI) hrb hpb (by simp) hc sl (hW.trans (yu.mono hW.size)) (by decide) (fun hr=>by obtain⟨vj,q1,q2,_,q3⟩:=Q8 (a1q _) (by decide) (by decide) hr;rw[←uh Ba] at q1 q3;exact⟨vj,k.ins,q1,q2,(by have:=Aq (uh HW);show (k.ins.length+1)*24<=_;omega),fun Dt w5 p1 p2 p3=>q3 Dt w5 _ hok p1 p2 p3 (by have:=Aq (uh HW);omega)⟩)⟩))
  clear HSL hok J7 Rt Vz HI HE HST Dn;go_enter Tryz.func12,Tryz.ntmps12;go_wp2_with fail;go_region;go_wp2_with fail
  go_region_law (first|(go_simp;go_at_call 31;refine(uh HIT _ (((gy _ _).drew).drew)).mono ?_;rintro e w9 ⟨rfl,va,n2,vc,w5,Y,y1,y2,y3,Dp,y4,y5,y6,HX,Kr⟩)|(refine ug rfl _ _ 46 46 rfl rfl _ _ _ rfl rfl (uh Dp) ?_))
  all_goals
   rw[←uh HX];go_wp2;go_end0;exact uh Kr _
 by_cases Iy:fA f 0=Ee
 ·clear hs
  have Jr:((fA f 0).toList == [105,110])=false:=by rw[abo];exact iw J7
  have Gy:((fA f 0).toList == [111,117,116])=true:=by rw[aa7];exact jf Iy
  have HE:Jh (a++[k]) f k={ k with ak:=k.ak++[Ll f] }:=by unfold Jh;rw[ay J7,gu Iy]
  rw[HE] at HST;have hok:adh (Ll f):=⟨by unfold Len Ll;simp only;omega,by unfold I64 Ll;simp only;split<;>omega⟩;have HSL:=hide (fun W (hW:Below w.heap.size w W)=>ama f _ W (uh Rt W hW));generalize Ll f=sl at HSL HST hok;obtain⟨ia,n1,ic,hc⟩:=fld (uh HI).row 2 (by omega) (by omega);rw[←uh Ba] at hc
  have HIT:Hid (∀W,Below w.heap.size w W->Calls Tryz.prog 31 #[.slice (some ⟨b,o,none⟩) f.length alf] W (fun e w9=>e=.returned (.agg #[.string sl.name,.int .i64 sl.type])∧Pk (al*7+2) 54 46 #[.string sl.name,.int .i64 sl.type] g ia n1 ic (fun Y=>∀v,PO (.returned v) Y) w9)):=hide (fun W hW=>(uh HSL W hW).mono (by
   rintro e w9 ⟨rfl,yu⟩;rw[uh Dn,uh HST];exact⟨rfl,pack Gh (uh HI) hrb hpb (by simp) hc sl (hW.trans (yu.mono hW.size)) (by decide) (fun hr=>by obtain⟨vj,q1,q2,_,q3⟩:=Q8 (a1r _) (by decide) (by decide) hr;rw[←uh Ba] at q1 q3;exact⟨vj,k.ak,q1,q2,(by have:=Aq (uh HW);show (k.ak.length+1)*24<=_;omega),fun Dt w5 p1 p2 p3=>q3 Dt w5 _ hok p1 p2 p3 (by have:=Aq (uh HW);omega)⟩)⟩))
  clear HSL hok J7 Iy Rt Vz HI HE HST Dn;go_enter Tryz.func12,Tryz.ntmps12;go_wp2_with fail;go_region;go_wp2_with fail
  go_region_law (first|(go_simp;go_at_call 31;refine(uh HIT _ (((gy _ _).drew).drew)).mono ?_;rintro e w9 ⟨rfl,va,n2,vc,w5,Y,y1,y2,y3,Dp,y4,y5,y6,HX,Kr⟩)|(refine ug rfl _ _ 46 46 rfl rfl _ _ _ rfl rfl (uh Dp) ?_))
  all_goals
   rw[←uh HX];go_wp2;go_end0;exact uh Kr _
 by_cases Kq:fA f 0=Eo
 ·clear hs
  have Jr:((fA f 0).toList == [105,110])=false:=by rw[abo];exact iw J7
  have Gy:((fA f 0).toList == [111,117,116])=false:=by rw[aa7];exact iw Iy
  have Hu:((fA f 0).toList == [108,111,99])=true:=by rw[ace];exact jf Kq
  have HE:Jh (a++[k]) f k={ k with iq:=k.iq++[fA f 1] }:=by unfold Jh;rw[ay J7,ay Iy,gu Kq]
  rw[HE] at HST;have hok:okS (fA f 1):=by unfold okS Len;omega
  have HSL:=hide (fun W (hW:Below w.heap.size w W)=>aa5 f _ W 1 (by omega) (uh Rt W hW));generalize fA f 1=sl at HSL HST hok;obtain⟨ia,n1,ic,hc⟩:=fld (uh HI).row 3 (by omega) (by omega);rw[←uh Ba] at hc
  have HIT:Hid (∀W,Below w.heap.size w W->Calls Tryz.prog 30 #[.slice (some ⟨b,o,none⟩) f.length alf,.int .i64 1] W (fun e w9=>e=.returned (.string sl)∧Pk (al*7+3) 9 40 #[.string sl] g ia n1 ic (fun Y=>∀v,PO (.returned v) Y) w9)):=hide (fun W hW=>(uh HSL W hW).mono (by
   rintro e w9 ⟨rfl,yu⟩;rw[uh Dn,uh HST];exact⟨rfl,pack ni (uh HI) hrb hpb (by simp) hc sl (hW.trans (yu.mono hW.size)) (by decide) (fun hr=>by obtain⟨vj,q1,q2,_,q3⟩:=Q8 (bai _) (by decide) (by decide) hr;rw[←uh Ba] at q1 q3;exact⟨vj,k.iq,q1,q2,(by have:=Aq (uh HW);show (k.iq.length+1)*16<=_;omega),fun Dt w5 p1 p2 p3=>q3 Dt w5 _ hok p1 p2 p3 (by have:=Aq (uh HW);omega)⟩)⟩))
  clear HSL hok J7 Iy Kq Rt Vz HI HE HST Dn;go_enter Tryz.func12,Tryz.ntmps12;go_wp2_with fail;go_region;go_wp2_with fail
  go_region_law (first|(go_simp;go_at_call 30;refine(uh HIT _ (((gy _ _).drew).drew)).mono ?_;rintro e w9 ⟨rfl,va,n2,vc,w5,Y,y1,y2,y3,Dp,y4,y5,y6,HX,Kr⟩)|(refine ug rfl _ _ 40 40 rfl rfl _ _ _ rfl rfl (uh Dp) ?_))
  all_goals
   rw[←uh HX];go_wp2;go_end0;exact uh Kr _
 by_cases h_mem:fA f 0=Ep
 ·clear hs
  have Jr:((fA f 0).toList == [105,110])=false:=by rw[abo];exact iw J7
  have Gy:((fA f 0).toList == [111,117,116])=false:=by rw[aa7];exact iw Iy
  have Hu:((fA f 0).toList == [108,111,99])=false:=by rw[ace];exact iw Kq
  have Ih:((fA f 0).toList == [109,101,109])=true:=by rw[aed];exact jf h_mem
  have HE:Jh (a++[k]) f k={ k with eu:=k.eu++[Ot (fA f 1)] }:=by unfold Jh;rw[ay J7,ay Iy,ay Kq,gu h_mem]
  rw[HE] at HST;have hok:I64 (Ot (fA f 1)):=aeb _;have HSL:=hide (fun W (hW:Below w.heap.size w W)=>Xw (fA f 1) W (uh Vz W hW) hz1);generalize Ot (fA f 1)=sl at HSL HST hok;obtain⟨ia,n1,ic,hc⟩:=fld (uh HI).row 4 (by omega) (by omega);rw[←uh Ba] at hc
  have HIT:Hid (∀W,Below w.heap.size w W->Calls Tryz.prog 32 #[.string (fA f 1)] W (fun e w9=>e=.returned (.int .i64 sl)∧Pk (al*7+4) 3 47 #[.int .i64 sl] g ia n1 ic (fun Y=>∀v,PO (.returned v) Y) w9)):=hide (fun W hW=>(uh HSL W hW).mono (by
   rintro e w9 ⟨rfl,yu⟩;rw[uh Dn,uh HST];exact⟨rfl,pack Xy (uh HI) hrb hpb (by simp) hc sl (hW.trans (yu.mono hW.size)) (by decide) (fun hr=>by obtain⟨vj,q1,q2,_,q3⟩:=Q8 (baj _) (by decide) (by decide) hr;rw[←uh Ba] at q1 q3;exact⟨vj,k.eu,q1,q2,(by have:=Aq (uh HW);show (k.eu.length+1)*8<=_;omega),fun Dt w5 p1 p2 p3=>q3 Dt w5 _ hok p1 p2 p3 (by have:=Aq (uh HW);omega)⟩)⟩))
  have HPT:=hide (fun W (hW:Below w.heap.size w W)=>Yl f _ W 1 (by omega) (uh Rt W hW));clear HSL hok J7 Iy Kq h_mem Rt Vz HI HE HST Dn;go_enter Tryz.func12,Tryz.ntmps12;go_wp2_with fail;go_region;go_wp2_with fail
  go_region_law (first|(go_simp;go_at_call 33;refine(uh HPT _ (((gy _ _).drew).drew)).mono ?_;rintro e w8 ⟨rfl,hw8⟩;rw[hw8];clear hw8)|(go_simp;go_at_call 32;refine(uh HIT _ (((gy _ _).drew).drew)).mono ?_;rintro e w9 ⟨rfl,va,n2,vc,w5,Y,y1,y2,y3,Dp,y4,y5,y6,HX,Kr⟩)|(refine ug rfl _ _ 47 47 rfl rfl _ _ _ rfl rfl (uh Dp) ?_))
  all_goals
   rw[←uh HX];go_wp2;go_end0;exact uh Kr _
 by_cases P8:fA f 0=Es
 ·clear hs
  have Jr:((fA f 0).toList == [105,110])=false:=by rw[abo];exact iw J7
  have Gy:((fA f 0).toList == [111,117,116])=false:=by rw[aa7];exact iw Iy
  have Hu:((fA f 0).toList == [108,111,99])=false:=by rw[ace];exact iw Kq
  have Ih:((fA f 0).toList == [109,101,109])=false:=by rw[aed];exact iw h_mem
  have Iw:((fA f 0).toList == [117,115,101])=true:=by rw[agn];exact jf P8
  have HE:Jh (a++[k]) f k={ k with au:=k.au++[(((N7 (a++[k]) (fA f 1)).getD 0:Nat):Int)] }:=by unfold Jh;rw[ay J7,ay Iy,ay Kq,ay h_mem,gu P8]
  rw[HE] at HST
  have hpl:(N7 (a++[k]) (fA f 1)).getD 0<=2000000:=by
   cases hq:N7 (a++[k]) (fA f 1) with
   | none=>simp
   | some i =>
    have h9:=a1h _ _ _ hq;rw[Ad,je,Ob,←uh Ba] at h9;simp only[Kz];omega
  have HLK:=hide (fun W (hW:Below w.heap.size w W)=>((uh HI).map.below hW).look Tryz.underlying9 Tryz.underlying33 (Tryz.zeroValue3 W) (s:=fA f 1) (by unfold maxLen;omega));generalize (N7 (a++[k]) (fA f 1)).getD 0=sl at HLK HST hpl;have hok:I64 (sl:Int):=by unfold I64;omega
  obtain⟨ia,n1,ic,hc⟩:=fld (uh HI).row 5 (by omega) (by omega);rw[←uh Ba] at hc
  have HIT:Hid (∀W,Below w.heap.size w W->Calls Tryz.prog 33 #[.slice (some ⟨b,o,none⟩) f.length alf,.int .i64 1] W (fun e w9=>e=.returned (.string (fA f 1))∧(Instr.lookup 33 (.map (some pb)) (.string (fA f 1)) false).run Tryz.prog w9=.ok (.int .i64 (sl:Int)) w9∧w9.cell? ⟨rb,1,none⟩=some (.map (some pb))∧rb<w9.heap.size∧Pk (al*7+5) 3 47 #[.int .i64 (sl:Int)] g ia n1 ic (fun Y=>∀v,PO (.returned v) Y) w9)):=hide (fun W hW=>(Yl f _ W 1 (by omega) (uh Rt W hW)).mono (by
   rintro e w9 ⟨rfl,Qm⟩;rw[Qm,uh Dn,uh HST];exact⟨rfl,uh HLK W hW,((uh HI).below hW).box.cell (i:=1) (v:=.map (some pb)) rfl,((uh HI).below hW).box.lt,pack Xy (uh HI) hrb hpb (by simp) hc (sl:Int) hW (by decide) (fun hr=>by obtain⟨vj,q1,q2,_,q3⟩:=Q8 (bam _) (by decide) (by decide) hr;rw[←uh Ba] at q1 q3;exact⟨vj,k.au,q1,q2,(by have:=Aq (uh HW);show (k.au.length+1)*8<=_;omega),fun Dt w5 p1 p2 p3=>q3 Dt w5 _ hok p1 p2 p3 (by have:=Aq (uh HW);omega)⟩)⟩))
  clear HLK hpl hok J7 Iy Kq h_mem P8 Rt Vz HI HE HST Dn;go_enter Tryz.func12,Tryz.ntmps12;go_wp2_with fail;go_region;go_wp2_with fail
  go_region_law (first|(go_simp;go_at_call 33;refine(uh HIT _ (((gy _ _).drew).drew)).mono ?_;rintro e w9 ⟨rfl,z1,z2,z3,va,n2,vc,w5,Y,y1,y2,y3,Dp,y4,y5,y6,HX,Kr⟩)|(refine ug rfl _ _ 47 47 rfl rfl _ _ _ rfl rfl (uh Dp) ?_))
  all_goals
   rw[←uh HX];go_wp2;go_end0;exact uh Kr _
 by_cases aee:fA f 0=Pz
 ·clear hs
  have Jr:((fA f 0).toList == [105,110])=false:=by rw[abo];exact iw J7
  have Gy:((fA f 0).toList == [111,117,116])=false:=by rw[aa7];exact iw Iy
  have Hu:((fA f 0).toList == [108,111,99])=false:=by rw[ace];exact iw Kq
  have Ih:((fA f 0).toList == [109,101,109])=false:=by rw[aed];exact iw h_mem
  have Iw:((fA f 0).toList == [117,115,101])=false:=by rw[agn];exact iw P8
  have bbk:((fA f 0).toList == [101,110,100,99,108,97,115,115])=true:=by rw[ar2];exact jf aee
  have HE:Jh (a++[k]) f k=k:=by unfold Jh;rw[ay J7,ay Iy,ay Kq,ay h_mem,ay P8,gu aee]
  rw[HE] at HST
  have qc:Hid (∀v W,Below w.heap.size w W->PO (.returned v) W):=hide (fun v W hW=>by
   rw[uh Dn,uh HST];exact⟨⟨v,rfl⟩,_,bs,(uh HI).below hW,Nh.Ws hW (uh HI).size⟩)
  clear J7 Iy Kq h_mem P8 aee Rt Vz HI HE HST Dn;go_enter Tryz.func12,Tryz.ntmps12;go_wp2_with fail;go_region;go_wp2_with fail;go_end0;exact uh qc _ _ ((gy _ _).drew)
 have Jr:((fA f 0).toList == [105,110])=false:=by rw[abo];exact iw J7
 have Gy:((fA f 0).toList == [111,117,116])=false:=by rw[aa7];exact iw Iy
 have Hu:((fA f 0).toList == [108,111,99])=false:=by rw[ace];exact iw Kq
 have Ih:((fA f 0).toList == [109,101,109])=false:=by rw[aed];exact iw h_mem
 have Iw:((fA f 0).toList == [117,115,101])=false:=by rw[agn];exact iw P8
 have bbk:((fA f 0).toList == [101,110,100,99,108,97,115,115])=false:=by rw[ar2];exact iw aee
 have HE:Jh (a++[k]) f k=Dw k (N8 f):=by unfold Jh;rw[ay J7,ay Iy,ay Kq,ay h_mem,ay P8,ay aee]
 rw[HE] at HST;have HSL:=hide (fun W (hW:Below w.heap.size w W)=>a2j f _ W (uh Vz W hW) (uh Rt W hW) hs h1 hl);generalize N8 f=sl at HSL HST;obtain⟨ia,n1,ic,hc⟩:=fld (uh HI).row 6 (by omega) (by omega);rw[←uh Ba] at hc
 have HIT:Hid (∀W,Below w.heap.size w W->Calls Tryz.prog 34 #[.slice (some ⟨b,o,none⟩) f.length alf] W (fun e w9=>∃oa on oc ca cn cc aa an ac,e=.returned (.agg #[.int .i64 sl.kind,.string sl.name,.int .i64 sl.at_,.slice oa on oc,.slice ca cn cc,.slice aa an ac])∧Pk (al*7+6) 60 48 #[.int .i64 sl.kind,.string sl.name,.int .i64 sl.at_,.slice oa on oc,.slice ca cn cc,.slice aa an ac] g ia n1 ic (fun Y=>∀v,PO (.returned v) Y) w9)):=hide (fun W hW=>(uh HSL W hW).mono (by
  rintro e w9 ⟨oa,on,oc,ca,cn,cc,aa,an,ac,sb,rfl,hT,hnd,hsb,yu⟩;rw[uh Dn,uh HST];refine⟨oa,on,oc,ca,cn,cc,aa,an,ac,rfl,?_⟩;have hW9:=hW.trans (yu.mono hW.size);have hA:Below w9.heap.size w9 (w9.alloc (.cells [.int .i64 sl.kind,.string sl.name,.int .i64 sl.at_,.slice oa on oc,.slice ca cn cc,.slice aa an ac].toArray 60)):=(gy _ _).alloc (gq _) _
  exact pack abu (uh HI) hrb hpb (by simp[Dw]) hc (⟨[.int .i64 sl.kind,.string sl.name,.int .i64 sl.at_,.slice oa on oc,.slice ca cn cc,.slice aa an ac],by simp,by intro u hu;simp only[ql,xg,xk] at hu;rcases hu with rfl|rfl|rfl|rfl|rfl|rfl<;>rfl⟩:Raw 6) hW9 (by decide) (fun hr=>by
   obtain⟨vj,Pn,q1,q2,q4,_,q3⟩:=yh.aev hr;rw[←uh Ba] at q1 q3;have hsm:=Aq (uh HW);refine⟨vj,Pn,q1,q2,by rw[q4];show (k.body.length+1)*104<=_;omega,fun Dt w5 p1 p2 p3=>q3 Dt w5 _ sl sb (Qz _ _ _ _ _ hT (fun b9 h9=>hA.block b9 (hsb b9 h9).2)) hnd (fun b9 h9=>⟨fun h8=>?_,?_⟩) p1 p2 p3 (by omega)⟩
   ·have h7:=((uh HI).row.nd.2 b9 h8).2
    have h6:=(hsb b9 h9).1;have h5:=hW.size;omega
   ·have h6:=(hsb b9 h9).1
    have h5:=hW.size;have h4:=(uh HI).size;omega)))
 clear HSL J7 Iy Kq h_mem P8 aee Rt Vz HI HE HST Dn hs;go_enter Tryz.func12,Tryz.ntmps12;go_wp2_with fail;go_region;go_wp2_with fail
 go_region_law (first|(go_simp;go_at_call 34;refine(uh HIT _ (((gy _ _).drew).drew)).mono ?_;rintro e w9 ⟨oa,on,oc,ca,cn,cc,aa,an,ac,rfl,va,n2,vc,w5,Y,y1,y2,y3,Dp,y4,y5,y6,HX,Kr⟩)|(refine ug rfl _ _ 48 48 rfl rfl _ _ _ rfl rfl (uh Dp) ?_))
 all_goals
  rw[←uh HX];go_wp2;go_end0;exact uh Kr _
end Go.Proofs.YtfeejeflmcapoaaGreatDoor
