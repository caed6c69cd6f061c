import Derived.Test.YtfeejeflmcapoaaGreatDoorPS1
import Derived.Test.YtfeejeflmcapoaaGreatDoorRI3
import Derived.Test.YtfeejeflmcapoaaGreatDoorRS6
set_option linter.unusedSimpArgs false
set_option linter.unusedVariables false
set_option maxHeartbeats 8000000
set_option maxRecDepth 20000
namespace Go.Proofs.YtfeejeflmcapoaaGreatDoor
open Go.RowKit
theorem Yj {w w' w1:cu} {o:Obj} (h:Below (w.heap.size+1) (w.alloc o) w') (hb:Below w'.heap.size w' w1):Below (w.heap.size+1) (w.alloc o) w1:=by
 have:=h.size;simp at this;exact h.trans (hb.mono this)
structure anq (s:lu):Prop where
 st:a00 s
 nm:s.name.size<=1048576
 au:s.au.length<=1000/\∀x,x∈s.au->x.size<=1048576
 code:aen s.code
 args:s.args.length<=1000/\∀c,c∈s.args->aen c
theorem aao {c:List l9} (h:aen c):(He c).size<=21000000:=by
 have h1:=a0z c h.pt;have h2:=h.sz;omega
theorem aqf {xs:List dh} (hl:xs.length<=1000) (h:∀x,x∈xs->x.size<=1048576):(Fb Lsp xs).size<=1100000000:=by
 have h1:=ahu Lsp xs 1048576 h;have h2:Lsp.size*xs.length<=1*1000:=Nat.mul_le_mul (by decide) hl;have h3:1048576*xs.length<=1048576*1000:=Nat.mul_le_mul_left _ hl;omega
theorem aqg {Af:List (List l9)} (hl:Af.length<=1000) (h:∀c,c∈Af->aen c):(Fb Wsc (Af.map He)).size<=22000000000:=by
 have h1:=ahu Wsc (Af.map He) 21000000 (fun x hx=>by obtain⟨c,hc,rfl⟩:=List.mem_map.1 hx;exact aao (h c hc));rw[zy] at h1;have h2:Wsc.size*Af.length<=3*1000:=Nat.mul_le_mul (by decide) hl;have h3:21000000*Af.length<=21000000*1000:=Nat.mul_le_mul_left _ hl;omega
theorem a5a:(⟨#[115,101,116,32]⟩:dh)=Je++Lsp:=by decide
theorem a05:(⟨#[115,97,118,101,32]⟩:dh)=Fp++Lsp:=by decide
theorem arh:(⟨#[32,58,32]⟩:dh)=Lsp++(ql++Lsp):=by decide
theorem a06:(⟨#[32,58]⟩:dh)=Lsp++ql:=by decide
theorem a9g:(⟨#[105,102,32]⟩:dh)=Qg++Lsp:=by decide
theorem a07:(⟨#[99,97,108,108,32]⟩:dh)=zx++Lsp:=by decide
theorem aw6 (s:lu) (so sc sa:Value) (w:cu) (h:anq s) (h1:jc 1 16 xk 0 w so s.au) (h2:jc 3 32 Gg 0 w sc s.code) (h3:jc 1 24 Ih 0 w sa s.args) :
  Calls Tryz.prog 26 #[.agg #[.int .i64 s.kind,.string s.name,.int .i64 s.at_,so,sc,sa]] w (Ans (.string (oq (x9 s))) w):=by
 obtain⟨kd,nm,at0,au,code,args⟩:=s;simp only at h1 h2 h3;obtain⟨oa,oc,rfl⟩:=h1.shape;obtain⟨ca,cc,rfl⟩:=h2.shape;obtain⟨aa,ac,rfl⟩:=h3.shape;have hat:=h.st.at_;have hkd:=h.st.kind;have hnm:=h.nm;have hol:=h.au;have hcd:=h.code;have hal:=h.args;have ae7:=h.st.cne;have hone:=h.st.one;simp only at hat hkd hnm hol hcd hal ae7 hone;unfold Oe at hat;have HLC:=ak (awz ⟨kd,nm,at0,au,code,args⟩);have Eo:=ak (a0x ⟨kd,nm,at0,au,code,args⟩);have HLV:=ak (awy ⟨kd,nm,at0,au,code,args⟩);have HLI:=ak (a4q ⟨kd,nm,at0,au,code,args⟩);have HLE:=ak (aw0 ⟨kd,nm,at0,au,code,args⟩);have Ho:=ak (a0y ⟨kd,nm,at0,au,code,args⟩);simp only at HLC Eo HLV HLI;generalize oq (x9 ⟨kd,nm,at0,au,code,args⟩)=ln at *;have hz1:=aao hcd;have hz2:=aqf hol.1 hol.2;have hz3:=aqg hal.1 hal.2;have hz4:=Qh at0 hat;have HB0:Hid (Below (w.heap.size+1) (w.alloc (.cells #[.int .i64 kd,.string nm,.int .i64 at0,.slice oa au.length oc,.slice ca code.length cc,.slice aa args.length ac] 60)) (w.alloc (.cells #[.int .i64 kd,.string nm,.int .i64 at0,.slice oa au.length oc,.slice ca code.length cc,.slice aa args.length ac] 60))):=iq _ _;have aby:Hid (Below (w.heap.size+1) (w.alloc (.cells #[.int .i64 kd,.string nm,.int .i64 at0,.slice oa au.length oc,.slice ca code.length cc,.slice aa args.length ac] 60)) (w.alloc (.cells #[.int .i64 kd,.string nm,.int .i64 at0,.slice oa au.length oc,.slice ca code.length cc,.slice aa args.length ac] 60)).drew):=(uh HB0).drew;have Hz:Hid (∀w1,Below (w.heap.size+1) (w.alloc (.cells #[.int .i64 kd,.string nm,.int .i64 at0,.slice oa au.length oc,.slice ca code.length cc,.slice aa args.length ac] 60)) w1->Below w.heap.size w w1):=fun w1 h=>((iq w.heap.size w).alloc (gu _) _).trans (h.mono (Nat.le_succ _))
 have HCD:Hid (∀w',Hid (Below (w.heap.size+1) (w.alloc (.cells #[.int .i64 kd,.string nm,.int .i64 at0,.slice oa au.length oc,.slice ca code.length cc,.slice aa args.length ac] 60)) w')->Calls Tryz.prog 55 #[.slice ca code.length cc] w' fun e w1=>e=.returned (.string (He code))/\Hid (Below (w.heap.size+1) (w.alloc (.cells #[.int .i64 kd,.string nm,.int .i64 at0,.slice oa au.length oc,.slice ca code.length cc,.slice aa args.length ac] 60)) w1)/\w1.cell? ⟨w.heap.size,1,none⟩=some (.string nm)/\w1.cell? ⟨w.heap.size,2,none⟩=some (.int .i64 at0)/\w1.cell? ⟨w.heap.size,3,none⟩=some (.slice oa au.length oc)/\w1.cell? ⟨w.heap.size,4,none⟩=some (.slice ca code.length cc)):=fun w' hw=>(ama code _ w' (h2.stays Ad (uh Hz _ (uh hw))) hcd).mono (fun e w1 ⟨he,hb⟩=>by
  have H9:=Yj (uh hw) hb;exact⟨he,H9,(Bz (B:=0) H9 1).trans rfl,(Bz (B:=0) H9 2).trans rfl,(Bz (B:=0) H9 3).trans rfl,(Bz (B:=0) H9 4).trans rfl⟩)
 have HDC:Hid (∀w',Hid (Below (w.heap.size+1) (w.alloc (.cells #[.int .i64 kd,.string nm,.int .i64 at0,.slice oa au.length oc,.slice ca code.length cc,.slice aa args.length ac] 60)) w')->Calls Tryz.prog 25 #[.int .i64 at0] w' fun e w1=>e=.returned (.string (qo at0))/\Hid (Below (w.heap.size+1) (w.alloc (.cells #[.int .i64 kd,.string nm,.int .i64 at0,.slice oa au.length oc,.slice ca code.length cc,.slice aa args.length ac] 60)) w1)/\w1.cell? ⟨w.heap.size,1,none⟩=some (.string nm)/\w1.cell? ⟨w.heap.size,2,none⟩=some (.int .i64 at0)/\w1.cell? ⟨w.heap.size,3,none⟩=some (.slice oa au.length oc)/\w1.cell? ⟨w.heap.size,4,none⟩=some (.slice ca code.length cc)):=fun w' hw=>(ab2 at0 hat w').mono (fun e w1 ⟨he,hb⟩=>by
  have H9:=Yj (uh hw) hb;exact⟨he,H9,(Bz (B:=0) H9 1).trans rfl,(Bz (B:=0) H9 2).trans rfl,(Bz (B:=0) H9 3).trans rfl,(Bz (B:=0) H9 4).trans rfl⟩)
 have HDG:Hid (∀w',Calls Tryz.prog 25 #[.int .i64 at0] w' (Ans (.string (qo at0)) w')):=fun w'=>ab2 at0 hat w'
 have HJN:Hid (∀w',Hid (Below (w.heap.size+1) (w.alloc (.cells #[.int .i64 kd,.string nm,.int .i64 at0,.slice oa au.length oc,.slice ca code.length cc,.slice aa args.length ac] 60)) w')->Calls Tryz.prog 56 #[.slice oa au.length oc,.string ⟨#[32]⟩] w' fun e w1=>e=.returned (.string (Fb Lsp au))/\w1=w'):=fun w' hw=>agh Lsp au _ w' (h1.stays zk (uh Hz _ (uh hw))) (by decide) (fun x hx=>by have:=hol.2 x hx;omega) (by omega)
 have H3:=ak h3;have Cm:=ak hal;have bdc:=hal.1;clear h h1 h2 h3 hcd hol hal
 by_cases e1:kd=1
 ·have HF:=ak (uh Eo e1 (ae7 (by omega)))
  have HF2:Hid (ln=⟨#[115,101,116,32]⟩++nm++⟨#[32,58,32]⟩++He code):=by
   refine ak ?_;rw[uh HF,a5a,arh];simp only[Bv]
  clear HF HLC Eo HLV HLI HLE Ho HJN HDG H3 Cm ae7 hone;generalize He code=ct at *;generalize qo at0=dv at *;have q1:¬(9223372036854775807<4+nm.size):=by omega
  have q2:¬(9223372036854775807<4+nm.size+3):=by omega
  have q3:¬(9223372036854775807<4+nm.size+3+ct.size):=by omega
  subst e1;go_enter Tryz.func26,Tryz.ntmps26;go_wp2_with fail
  go_region_held3 (fun w'=>w'.cell? ⟨w.heap.size,1,none⟩=some (.string nm)/\w'.cell? ⟨w.heap.size,4,none⟩=some (.slice ca code.length cc)) (go_keep) (first|(go_at_call 55;refine(uh HCD _ (by first|exact HBn|exact aby)).mono ?_;rintro e wn ⟨rfl,HBn,k1,k2,k3,k4⟩)|(go_at_call 25;refine(uh HDC _ (by first|exact HBn|exact aby)).mono ?_;rintro e wn ⟨rfl,HBn,k1,k2,k3,k4⟩))
  all_goals
   go_wp2;go_ret;exact⟨Bg (uh HF2).symm,uh Hz _ (uh HBn)⟩
 by_cases e2:kd=2
 ·have HF:=ak (uh HLV e2 (ae7 (by omega)))
  have HF2:Hid (ln=⟨#[115,97,118,101,32]⟩++qo at0++⟨#[32,58,32]⟩++He code):=by
   refine ak ?_;rw[uh HF,a05,arh];simp only[Bv]
  clear HF HLC Eo HLV HLI HLE Ho HJN HDG H3 Cm ae7 hone;generalize He code=ct at *;generalize qo at0=dv at *;have q1:¬(9223372036854775807<5+dv.size):=by omega
  have q2:¬(9223372036854775807<5+dv.size+3):=by omega
  have q3:¬(9223372036854775807<5+dv.size+3+ct.size):=by omega
  subst e2;go_enter Tryz.func26,Tryz.ntmps26;go_wp2_with fail
  go_region_held3 (fun w'=>w'.cell? ⟨w.heap.size,2,none⟩=some (.int .i64 at0)/\w'.cell? ⟨w.heap.size,4,none⟩=some (.slice ca code.length cc)) (go_keep) (first|(go_at_call 55;refine(uh HCD _ (by first|exact HBn|exact aby)).mono ?_;rintro e wn ⟨rfl,HBn,k1,k2,k3,k4⟩)|(go_at_call 25;refine(uh HDC _ (by first|exact HBn|exact aby)).mono ?_;rintro e wn ⟨rfl,HBn,k1,k2,k3,k4⟩))
  all_goals
   go_wp2;go_ret;exact⟨Bg (uh HF2).symm,uh Hz _ (uh HBn)⟩
 by_cases e4:kd=4
 ·have HF:=ak (uh HLI e4)
  have HF2:Hid (ln=⟨#[105,102,32]⟩++nm):=by
   refine ak ?_;rw[uh HF,a9g];simp only[Bv]
  clear HF HLC Eo HLV HLI HLE Ho HJN HCD HDC HDG H3 Cm ae7 hone;subst e4;go_enter Tryz.func26,Tryz.ntmps26;go_wp2;go_ret;exact⟨Bg (uh HF2).symm,uh Hz _ (uh HB0)⟩
 by_cases e5:kd=5
 ·have HF:=ak (uh HLE e5)
  clear HLC Eo HLV HLI HLE Ho HJN HCD HDC HDG H3 Cm ae7 hone;subst e5;go_enter Tryz.func26,Tryz.ntmps26;go_wp2;go_ret;exact⟨Bg (uh HF).symm,uh Hz _ (uh HB0)⟩
 by_cases e6:kd=6
 ·have HF:=ak (uh Ho e6)
  clear HLC Eo HLV HLI HLE Ho HJN HCD HDC HDG H3 Cm ae7 hone;subst e6;go_enter Tryz.func26,Tryz.ntmps26;go_wp2;go_ret;exact⟨Bg (uh HF).symm,uh Hz _ (uh HB0)⟩
 have e3:kd=3:=by omega
 have HF:=ak (uh HLC e3 (hone e3).1 (hone e3).2)
 have HF2:Hid (ln=(⟨#[99,97,108,108,32]⟩++qo at0++⟨#[32]⟩++Fb Lsp au++⟨#[32,58]⟩)++(if args.length=0 then ByteArray.empty else ⟨#[32]⟩++Fb Wsc (args.map He))):=by
  refine ak ?_;rw[uh HF,a07,a06];simp only[Bv];rfl
 clear HF HLC Eo HLV HLI HLE Ho HCD HDC ae7 hone hkd e1 e2 e4 e5 e6
 have HO:Hid (jq ny ((w.alloc (.cells #[.int .i64 kd,.string nm,.int .i64 at0,.slice oa au.length oc,.slice ca code.length cc,.slice aa args.length ac] 60)).alloc (.cells #[] 9)) (w.heap.size+1) (.slice (some ⟨w.heap.size+1,0,none⟩) 0 0) []):=by
  have h9:=jq.start (E:=ny) (w.alloc (.cells #[.int .i64 kd,.string nm,.int .i64 at0,.slice oa au.length oc,.slice ca code.length cc,.slice aa args.length ac] 60)) (w.heap.size+1) (by simp);rw[Dy] at h9;exact ak h9
 have HB1:Hid (Below (w.heap.size+1) (w.alloc (.cells #[.int .i64 kd,.string nm,.int .i64 at0,.slice oa au.length oc,.slice ca code.length cc,.slice aa args.length ac] 60)) ((w.alloc (.cells #[.int .i64 kd,.string nm,.int .i64 at0,.slice oa au.length oc,.slice ca code.length cc,.slice aa args.length ac] 60)).alloc (.cells #[] 9))):=(uh HB0).alloc (by simp) _;generalize qo at0=dv at *;generalize Fb Lsp au=jo at *;subst e3;go_enter Tryz.func26,Tryz.ntmps26;go_wp2
 go_loopg [3,43] args.length (fun gh st ix wr=>∃(q:Nat) (sv:Value),q<=args.length/\gh=args.length-q/\ix=.int .i64 q/\st=sv/\Hid (jq ny wr (w.heap.size+1) sv ((args.take q).map He))/\Hid (Below (w.heap.size+1) (w.alloc (.cells #[.int .i64 3,.string nm,.int .i64 at0,.slice oa au.length oc,.slice ca code.length cc,.slice aa args.length ac] 60)) wr))
 case atStart=>exact⟨0,_,jg _,by omega,rfl,rfl,HO,HB1⟩
 case round =>
  obtain⟨q,_,hq,hg,rfl,rfl,HOW,Bc⟩:=hrel;have HG:=ak hg;clear hg;have hws:w.heap.size+1<=wr.heap.size:=by have:=(uh Bc).size;simpa using this
  by_cases hlt:q<args.length
  ·obtain⟨_,_,Dq,_,_,hex⟩:=uh H3
   simp only[qw] at Dq;obtain⟨rfl,_,rfl⟩:=Dq;obtain⟨b,o,cs,rfl,_,hb,hcs,hc,⟨vq,rfl,hvq⟩⟩:=hex q hlt;have hbw:=uh Hz _ (uh Bc)
   have z0:wr.cell? ⟨b,o+q,none⟩=some vq:=by
    have h0:=hc 0 (by simp);rw[jr,ji] at h0;rw[hbw.cell (p:=⟨b,_,none⟩) hb];exact h0
   have HC:=ak (ama args[q] vq wr (hvq.stays Ad hbw) ((uh Cm).2 _ (o7 hlt)))
   have HT:Hid ((args.take (q+1)).map He=(args.take q).map He++[He args[q]]):=by
    refine ak ?_;rw[Eu hlt,Ig];rfl
   have Ho:Hid (((args.take q).map He).length=q):=by
    refine ak ?_;rw[zy,Nk];omega
   have Kq:(q:Int)<(args.length:Int):=by omega
   clear hc hcs hvq hbw hex;generalize He args[q]=pt at *;generalize (args.take q).map He=pre at *;go_wp2_with fail;refine(uh HC).mono ?_;rintro e w1 ⟨rfl,hb1⟩;have Q2:Hid (Below wr.heap.size wr (w1.alloc (.cells #[.string pt] 9))):=hb1.alloc hb1.size _;have Ua:=ak ((uh HOW).below (uh Q2));have HB2:=ak ((uh Bc).trans ((uh Q2).mono hws));have hs1:=hb1.size;clear hb1;go_wp2_with (at_builtin;go_must (refine Am ny _ rfl _ _ rfl (w.heap.size+1) _ pre rfl (uh Ua) w1.heap.size pt rfl (fun j u hu=>by rw[zu _ _ _ _ rfl];simpa[ny] using hu) (by have:=uh Ho;simp[ny];omega) (by simp;omega) ?_));intro v2 w2 hown2 Kt;have HB3:=ak ((uh Ua).grown (uh HB2) Kt (by simp;omega) (gu _));rw[←uh HT] at hown2;have Oh:=ak hown2;clear hown2 Kt;go_wp2
   go_roundg (args.length-(q+1))
   case measure=>have:=uh HG;omega
   case rel=>exact⟨q+1,v2,by omega,rfl,by go_num,rfl,Oh,HB3⟩
  ·have e:q=args.length:=by omega
   have U6:Hid (jq ny wr (w.heap.size+1) u3 (args.map He)):=by
    refine ak ?_;have h8:=uh HOW;rw[e,Dw] at h8;exact h8
   have HBd:Hid (Below (w.heap.size+1) (w.alloc (.cells #[.int .i64 3,.string nm,.int .i64 at0,.slice oa au.length oc,.slice ca code.length cc,.slice aa args.length ac] 60)) wr.drew):=(uh Bc).drew;have k2:wr.cell? ⟨w.heap.size,2,none⟩=some (.int .i64 at0):=(Bz (B:=0) (uh Bc) 2).trans rfl;have k3:wr.cell? ⟨w.heap.size,3,none⟩=some (.slice oa au.length oc):=(Bz (B:=0) (uh Bc) 3).trans rfl;obtain⟨sva,svc,hsv⟩:=(uh U6).slice;rw[zy] at hsv
   have a3k:Hid (∀w',Below wr.heap.size wr w'->jc 1 16 xk 0 w' u3 (args.map He)):=fun w' hb=>(((uh U6).below hb).at (R:=xk) (fun x hx=>⟨rfl,by
    obtain⟨c,hc,rfl⟩:=List.mem_map.1 hx;have:=aao ((uh Cm).2 c hc);unfold Len;omega⟩) (by rw[zy];simp[ny];omega))
   have HJA:Hid (∀w',Below wr.heap.size wr w'->Calls Tryz.prog 56 #[u3,.string ⟨#[32,44,32]⟩] w' fun e w1=>e=.returned (.string (Fb Wsc (args.map He)))/\w1=w'):=fun w' hb=>agh Wsc _ u3 w' (uh a3k w' hb) (by decide) (fun x hx=>by
    obtain⟨c,hc,rfl⟩:=List.mem_map.1 hx;have:=aao ((uh Cm).2 c hc);omega) (by rw[zy];omega)
   have a9h:Hid (∀w',Hid (Below wr.heap.size wr w')->Calls Tryz.prog 25 #[.int .i64 at0] w' fun e w1=>e=.returned (.string dv)/\Hid (Below wr.heap.size wr w1)/\w1.cell? ⟨w.heap.size,2,none⟩=some (.int .i64 at0)/\w1.cell? ⟨w.heap.size,3,none⟩=some (.slice oa au.length oc)):=fun w' hw=>(uh HDG w').mono (fun e w1 ⟨he,hb⟩=>by
    have h9:=(uh hw).trans (hb.mono (uh hw).size);exact⟨he,h9,(h9.cell (p:=⟨w.heap.size,2,none⟩) (show w.heap.size<_ by omega)).trans k2,(h9.cell (p:=⟨w.heap.size,3,none⟩) (show w.heap.size<_ by omega)).trans k3⟩)
   have a9i:Hid (∀w',Hid (Below wr.heap.size wr w')->Calls Tryz.prog 56 #[.slice oa au.length oc,.string ⟨#[32]⟩] w' fun e w1=>e=.returned (.string jo)/\w1=w'):=fun w' hw=>uh HJN w' (ak ((uh Bc).trans ((uh hw).mono hws)))
   have HBr:Hid (Below wr.heap.size wr wr.drew):=(iq _ _).drew;have qx:Hid (∀w',Below wr.heap.size wr w'->Below w.heap.size w w'):=fun w' hb=>uh Hz _ ((uh Bc).trans (hb.mono hws))
   subst hsv;clear e a3k U6 HOW HJN HDG HBd HB0 aby HB1 HO H3
   by_cases e0:args.length=0
   ·have HF3:Hid (ln=⟨#[99,97,108,108,32]⟩++dv++⟨#[32]⟩++jo++⟨#[32,58]⟩):=by
     refine ak ?_;rw[uh HF2,gy e0,afq]
    have eI:decide (0<(args.length:Int))=false:=iy (by omega);have eN:decide (0<args.length)=false:=iy (by omega);clear HF2 HJA e0;generalize args.length=na at *;have q1:¬(9223372036854775807<5+dv.size):=by omega
    have q2:¬(9223372036854775807<5+dv.size+1):=by omega
    have q3:¬(9223372036854775807<5+dv.size+1+jo.size):=by omega
    have q4:¬(9223372036854775807<5+dv.size+1+jo.size+2):=by omega
    go_wp2_with fail
    go_region_held3 (fun w'=>w'.cell? ⟨w.heap.size,2,none⟩=some (.int .i64 at0)/\w'.cell? ⟨w.heap.size,3,none⟩=some (.slice oa au.length oc)) (go_keep) (first|(go_at_call 25;refine(uh a9h _ HBr).mono ?_;rintro e wn ⟨rfl,HBn,k2',k3'⟩)|(go_at_call 56;refine(uh a9i _ (by first|exact HBn|exact HBr)).mono ?_;rintro e wj ⟨rfl,rfl⟩))
    all_goals
     go_wp2;go_ret;exact⟨Bg (uh HF3).symm,uh qx _ (uh HBn)⟩
   ·have HF3:Hid (ln=(⟨#[99,97,108,108,32]⟩++dv++⟨#[32]⟩++jo++⟨#[32,58]⟩)++(⟨#[32]⟩++Fb Wsc (args.map He))):=by
     refine ak ?_;rw[uh HF2,bf e0]
    have eI:decide (0<(args.length:Int))=true:=jf (by omega);have eN:decide (0<args.length)=true:=jf (by omega);clear HF2 e0;generalize Fb Wsc (args.map He)=jA at *;generalize args.length=na at *;have q1:¬(9223372036854775807<5+dv.size):=by omega
    have q2:¬(9223372036854775807<5+dv.size+1):=by omega
    have q3:¬(9223372036854775807<5+dv.size+1+jo.size):=by omega
    have q4:¬(9223372036854775807<5+dv.size+1+jo.size+2):=by omega
    go_wp2_with fail
    go_region_held3 (fun w'=>w'.cell? ⟨w.heap.size,2,none⟩=some (.int .i64 at0)/\w'.cell? ⟨w.heap.size,3,none⟩=some (.slice oa au.length oc)) (go_keep) (first|(go_at_call 25;refine(uh a9h _ HBr).mono ?_;rintro e wn ⟨rfl,HBn,k2',k3'⟩)|(go_at_call 56;refine(uh a9i _ (by first|exact HBn|exact HBr)).mono ?_;rintro e wj ⟨rfl,rfl⟩))
    all_goals
     go_wp2_with fail;refine(uh HJA _ (uh HBn)).mono ?_;rintro e wj ⟨rfl,rfl⟩;go_wp2;go_ret;exact⟨Bg (uh HF3).symm,uh qx _ (uh HBn)⟩
open Go.Shelf
theorem aqh (t:l9) (w:cu) (hE:Env w) (h:ac1 t) (hn:t.name.size<=1048576) :
  Calls Tryz.prog 131 #[.agg #[.int .i64 t.op,.int .i64 t.val,.string t.name]] w (Ans (.string (partT t)) w):=by
 have hA:Below w.heap.size w (w.alloc (.cells #[.int .i64 t.op,.int .i64 t.val,.string t.name] 83)):=(iq _ _).alloc (gu _) _;have hnum:=h.num;have a9j:=h.tru;have HA:=ak hA;have HE:=ak (hE.below hA hE.three);clear h hA hE;obtain⟨op,val,name⟩:=t;simp only at *;have ao3:=ak hnum;have bdh:=ak a9j;clear hnum a9j
 by_cases h1:op=1
 ·have HP:Hid (partT ⟨op,val,name⟩=qo val):=by
   refine ak ?_;unfold partT;simp[h1]
  generalize partT ⟨op,val,name⟩=pt at *;subst h1;have hv:=uh ao3 (by omega);have HC:=ak (ady val hv (w.alloc (.cells #[.int .i64 1,.int .i64 val,.string name] 83)) (uh HE));have hz:=Qh val hv;generalize qo val=dv at *;clear hv;go_enter Tryz.func131,Tryz.ntmps131;go_wp2_with fail;refine(uh HC).mono ?_;rintro e w1 ⟨rfl,hb1⟩;have HB:=ak ((uh HA).trans (hb1.mono (uh HA).size));clear hb1;go_wp2;go_ret;exact⟨Bg (uh HP).symm,uh HB⟩
 by_cases h2:op=2
 ·have HP:Hid (partT ⟨op,val,name⟩=flT val):=by
   refine ak ?_;unfold partT;simp[h2]
  generalize partT ⟨op,val,name⟩=pt at *;subst h2;have HC:=ak (ao5 val (w.alloc (.cells #[.int .i64 2,.int .i64 val,.string name] 83)) (uh bdh rfl));generalize flT val=dv at *;go_enter Tryz.func131,Tryz.ntmps131;go_wp2_with fail;refine(uh HC).mono ?_;rintro e w1 ⟨rfl,rfl⟩;go_wp2;go_ret;exact⟨Bg (uh HP).symm,uh HA⟩
 by_cases h3:op=3
 ·have HP:Hid (partT ⟨op,val,name⟩=Zf++name):=by
   refine ak ?_;unfold partT;simp[h3]
  generalize partT ⟨op,val,name⟩=pt at *;subst h3;go_enter Tryz.func131,Tryz.ntmps131;go_wp2;go_ret;exact⟨Bg (uh HP).symm,uh HA⟩
 by_cases Rt:op=25
 ·have HP:Hid (partT ⟨op,val,name⟩=Wat++qo val):=by
   refine ak ?_;unfold partT;simp[Rt]
  generalize partT ⟨op,val,name⟩=pt at *;subst Rt;have hv:=uh ao3 (by omega);have HC:=ak (ady val hv (w.alloc (.cells #[.int .i64 25,.int .i64 val,.string name] 83)) (uh HE));have hz:=Qh val hv;generalize qo val=dv at *;clear hv;go_enter Tryz.func131,Tryz.ntmps131;go_wp2_with fail;refine(uh HC).mono ?_;rintro e w1 ⟨rfl,hb1⟩;have HB:=ak ((uh HA).trans (hb1.mono (uh HA).size));clear hb1;go_wp2;go_ret;exact⟨Bg (uh HP).symm,uh HB⟩
 by_cases h4:op=4
 ·have HP:Hid (partT ⟨op,val,name⟩=ac8):=by
   refine ak ?_;unfold partT;simp[h4]
  generalize partT ⟨op,val,name⟩=pt at *;subst h4;go_enter Tryz.func131,Tryz.ntmps131;go_wp2;go_ret;exact⟨Bg (uh HP).symm,uh HA⟩
 by_cases h5:op=5
 ·have HP:Hid (partT ⟨op,val,name⟩=ac9):=by
   refine ak ?_;unfold partT;simp[h5]
  generalize partT ⟨op,val,name⟩=pt at *;subst h5;go_enter Tryz.func131,Tryz.ntmps131;go_wp2;go_ret;exact⟨Bg (uh HP).symm,uh HA⟩
 by_cases h20:op=20
 ·have HP:Hid (partT ⟨op,val,name⟩=Wq):=by
   refine ak ?_;unfold partT;simp[h20]
  generalize partT ⟨op,val,name⟩=pt at *;subst h20;go_enter Tryz.func131,Tryz.ntmps131;go_wp2;go_ret;exact⟨Bg (uh HP).symm,uh HA⟩
 have HP:Hid (partT ⟨op,val,name⟩=sgT op):=by
  refine ak ?_;unfold partT;simp[h1,h2,h3,Rt,h4,h5,h20]
 have HC:=ak (aqi op (w.alloc (.cells #[.int .i64 op,.int .i64 val,.string name] 83)) (uh HE).ops);generalize partT ⟨op,val,name⟩=pt at *;generalize sgT op=sg at *;go_enter Tryz.func131,Tryz.ntmps131;go_wp2_with fail;refine(uh HC).mono ?_;rintro e w1 ⟨rfl,hb1⟩;have HB:=ak ((uh HA).trans (hb1.mono (uh HA).size));clear hb1;go_wp2;go_ret;exact⟨Bg (uh HP).symm,uh HB⟩
theorem a5b:(Tryz.prog.info? 9).map (fun i=>(i.zero,i.size,i.bytes))=some (some (.string ByteArray.empty),1,16):=by kernel_rfl
def aq9 (ps:List dh) (w:cu) (e:Ending) (w':cu):Prop:=∃v,e=.returned v/\jc 1 16 xk 0 w' v ps/\Below w.heap.size w w'
theorem abz (c:List l9) (v:Value) (w:cu) (hE:Env w) (hv:jc 3 32 Gg 0 w v c) (hc:aen c) :
  Calls Tryz.prog 102 #[v] w (aq9 (tu c) w):=by
 have Vo:=ak hc;have hl:=hc.len;have HE:=ak hE;obtain⟨a,cap,rfl,_,_,hx⟩:=hv;have HX:=ak hx;have Fa:Hid ((tu c).length=c.length):=Vw c;have HPS:=ak (ada hc);have HPG:Hid (∀k (h:k<c.length),∃h2:k<(tu c).length,(tu c)[k]=partT c[k]):=fun k h=>⟨by rw[Vw];exact h,by simp[tu]⟩
 have hmk:=aaq (P:=Tryz.prog) 40 9 _ _ _ Tryz.underlying40 a5b c.length (by omega) (by omega);clear hx hc hE;generalize tu c=ps at *;go_enter Tryz.func102,Tryz.ntmps102;go_wp2
 go_loopg [11] c.length (fun g i wr=>∃(k:Nat),k<=c.length/\g=c.length-k/\i=.int .i64 k/\Hid (Below w.heap.size w wr)/\Hid (Nc wr w.heap.size c.length)/\Hid (afl 1 xk (w.heap.size+1) wr w.heap.size ps k))
 case atStart=>exact⟨0,jg _,by omega,rfl,(iq _ _).alloc (gu _) _,Nc.made _ _ _ _,au5 _ _ _ _ _ _⟩
 case round =>
  obtain⟨k,hk,hg,rfl,Ae,af4,HF⟩:=hrel;clear hmk;have HG:=ak hg;clear hg
  by_cases hlt:k<c.length
  ·obtain⟨b,o,cs,rfl,_,hb,hcs,hc,hR⟩:=uh HX k hlt
   have hc:∀j (hj:j<cs.length),wr.cell? ⟨b,o+k*3+j,none⟩=some cs[j]:=fun j hj=>by rw[(uh Ae).cell (p:=⟨b,_,none⟩) hb];exact hc j hj
   obtain⟨rfl,hsn,ho,hv⟩:=hR;have c0:=hc 0 (by simp);have c1:=hc 1 (by simp);have c2:=hc 2 (by simp);simp only[jr,ji,og,ou] at c0 c1 c2;have Kq:(k:Int)<(c.length:Int):=by omega
   have hA:Below wr.heap.size wr (wr.alloc (.cells #[.int .i64 c[k].op,.int .i64 c[k].val,.string c[k].name] 83)):=(iq _ _).alloc (gu _) _;have HC:=ak (aqh c[k] (wr.alloc (.cells #[.int .i64 c[k].op,.int .i64 c[k].val,.string c[k].name] 83)) (((uh HE).below (uh Ae) (uh HE).three).below hA (ku (uh HE).three (uh Ae).size)) ((uh Vo).pt _ (o7 hlt)) ((uh Vo).nm _ (o7 hlt)));obtain⟨hk2,hpk⟩:=uh HPG k hlt;have hpz:=uh HPS ps[k] (o7 hk2);rw[hpk] at hpz;have HA:=ak hA;have HPK:=ak hpk;clear hc hcs hsn ho hv hA hpk;generalize partT c[k]=pt at *;generalize c[k]=it at *;obtain⟨op,val,name⟩:=it;simp only at *;go_wp2_with fail;refine(uh HC).mono ?_;rintro e w1 ⟨rfl,hb1⟩;have hQ:Below wr.heap.size wr w1:=(uh HA).trans (hb1.mono (uh HA).size);obtain⟨x0,d0⟩:=((uh af4).below hQ).cell (i:=k) hlt;have f0:=((uh af4).below hQ).frozen k;have step:=au4 zk Xb hk2 (gu _) (uh Ae) (by rw[uh Fa,jr];exact uh af4) (uh HF) hQ rfl (cs:=[.string pt]) (by rw[uh HPK];exact⟨rfl,by unfold Len;omega⟩);rw[uh Fa] at step;simp only[jr] at step;have ST:=ak step;clear step hb1 hQ;go_wp2
   go_roundg (c.length-(k+1))
   case measure=>have:=uh HG;omega
   case rel=>exact⟨k+1,by omega,rfl,by go_num,uh ST⟩
  ·have e:k=c.length:=by omega
   have hb0:=(uh af4).lt
   have D:Hid (jc 1 16 xk 0 wr (.slice (some ⟨w.heap.size,0,none⟩) c.length c.length) ps):=by
    have h8:=au6 (uf:=16) Xb hb0 (by rw[uh Fa];unfold Len;omega) (by rw[uh Fa];unfold Len;omega) (by have:=uh HF;rw[e,←uh Fa] at this;exact this);rw[uh Fa] at h8;exact h8.lower Xb (jg _)
   clear e hb0;go_wp2;go_ret;exact⟨_,rfl,uh D,uh Ae⟩
theorem amc (l:List dh) (v:Value) (s:dh) (w:cu) (hv:jc 1 16 xk 0 w v l) :
  Calls Tryz.prog 93 #[v,.string s] w fun e w'=>e=.returned (.int .i64 (je l s))/\w'=w:=by
 obtain⟨a,cap,rfl,_,hn,hx⟩:=hv;unfold Len at hn;have HX:=ak hx;clear hx;go_enter Tryz.func93,Tryz.ntmps93;go_wp2
 go_loopg [8] l.length (fun g i wr=>∃(k:Nat),k<=l.length/\g=l.length-k/\i=.int .i64 k/\wr=w/\∀j (h:j<l.length),j<k->(l[j].toList==s.toList)=false)
 case atStart=>exact⟨0,by omega,by omega,rfl,rfl,fun j _ h2=>by omega⟩
 case round =>
  obtain⟨k,hk,hg,rfl,rfl,hall⟩:=hrel;have HG:=ak hg;have HA:=ak hall;clear hg hall
  by_cases hlt:k<l.length
  ·obtain⟨b,o,cs,rfl,_,hb,hcs,hc,hR⟩:=uh HX k hlt
   obtain⟨rfl,hsn⟩:=hR;have c0:=hc 0 (by simp);simp only[jr,ji,og,ou] at c0;clear hc hcs;have Kq:(k:Int)<(l.length:Int):=by omega
   have hcomm:(s.toList==l[k].toList)=(l[k].toList==s.toList):=by rw[zi,zi];exact decide_eq_decide.2 ⟨fun e=>e.symm,fun e=>e.symm⟩
   cases he:(l[k].toList==s.toList)
   ·have A':∀j (h:j<l.length),j<k+1->(l[j].toList==s.toList)=false:=by
     intro j h h1
     by_cases e:j=k
     ·subst e;exact he
     ·exact uh HA j h (by omega)
    have HA':=ak A';rw[he] at hcomm;clear A' he;go_wp2
    go_roundg (l.length-(k+1))
    case measure=>have:=uh HG;omega
    case rel=>exact⟨k+1,by omega,rfl,by go_num,rfl,uh HA'⟩
   ·have HF:=ak (aci l k s hlt he (uh HA))
    rw[he] at hcomm;clear he;go_wp2;go_ret;exact⟨Sm (uh HF).symm,rfl⟩
  ·have HF:=ak (ajy l s (fun j hj=>uh HA j hj (by omega)))
   have Kq:¬(k:Int)<(l.length:Int):=by omega
   go_wp2;go_ret;exact⟨Sm (uh HF).symm,rfl⟩
theorem a5c (p:dh):(p.toList==[98,111,111,108])=decide (p=ae3):=Hw p ae3 _ rfl
theorem amd (f:List dh) (v:Value) (w:cu) (hv:jc 1 16 xk 0 w v f):Calls Tryz.prog 31 #[v] w (fun e w'=>e=.returned (.agg #[.string (Lj f).name,.int .i64 (Lj f).type])/\Below w.heap.size w w'):=by
 obtain⟨PO,Gn⟩:∃PO:Ending->cu->Prop,PO=((fun e w'=>e=.returned (.agg #[.string (Lj f).name,.int .i64 (Lj f).type])/\Below w.heap.size w w')):=⟨_,rfl⟩;rw[←Gn];have Dc:=ak Gn;clear Gn;obtain⟨a,cap,rfl⟩:=hv.shape;obtain⟨X,hX⟩:=o8 (w.alloc (.cells #[.string ⟨#[]⟩,.int .i64 0] 54));have hA:Below w.heap.size w X:=by rw[hX];exact(iq _ _).alloc (gu _) _
 have D5:Hid (jd X w.heap.size 54 #[.string ⟨#[]⟩,.int .i64 0]):=ak (by rw[hX];exact oh _ _ _);have HB:=ak hA;have hvX:=hv.stays zk hA;have HP:=ak (Yn f _ X 2 (by omega) hvX);have HN:=ak (aa0 f _ X 1 (by omega) hvX);have HX:=ak hX;clear hX hA hv hvX;go_enter Tryz.func31,Tryz.ntmps31;go_wp2_with fail;rw[←uh HX];refine(uh HP).mono ?_;rintro e w9 ⟨rfl,Qe⟩;obtain rfl:=Qe.symm;have e_b:=a5c (fA f 2)
 by_cases hb:fA f 2=ae3
 ·rw[jf hb] at e_b
  have HE:Hid (Lj f=⟨fA f 1,2⟩):=ak (by unfold Lj;rw[gy hb]);clear hb;go_wp2_with fail;refine(uh HN).mono ?_;rintro e w1 ⟨rfl,hb1⟩;have hk1:=(uh D5).below hb1 (uh D5).lt;have hB1:Below w.heap.size w w1:=(uh HB).trans (hb1.mono (uh HB).size);have hbx:=(hk1.set 0 (.string (fA f 1))).set 1 (.int .i64 2)
  have qx:Hid (PO (.returned (.agg #[.string (fA f 1),.int .i64 2])) ((w1.setCell ⟨w.heap.size,0,none⟩ (.string (fA f 1))).setCell ⟨w.heap.size,1,none⟩ (.int .i64 2))):=ak (by
   rw[uh Dc];exact⟨by rw[uh HE],(hB1.setCell (p:=⟨w.heap.size,0,none⟩) (gu _) _).setCell (p:=⟨w.heap.size,1,none⟩) (gu _) _⟩)
  have Oi:=ak (And.intro (hbx.cell (i:=0) (v:=.string (fA f 1)) rfl) (hbx.cell (i:=1) (v:=.int .i64 2) rfl));have c0:=hk1.cell (i:=0) (v:=.string ⟨#[]⟩) rfl;have c1:=hk1.cell (i:=1) (v:=.int .i64 0) rfl;have g0:=hk1.free 0;have g1:=hk1.free 1;have Ux:=hk1.lt;clear hbx hb1 hk1 hB1;go_wp2;obtain⟨f0,f1⟩:=uh Oi;exact bodyPost_ret (v:=.agg #[.string (fA f 1),.int .i64 2]) (by simp[results,Tryz.results31,go_sem,f0,f1]) rfl (uh qx)
 ·rw[iy hb] at e_b
  have HE:Hid (Lj f=⟨fA f 1,1⟩):=ak (by unfold Lj;rw[bf hb]);clear hb;go_wp2_with fail;refine(uh HN).mono ?_;rintro e w1 ⟨rfl,hb1⟩;have hk1:=(uh D5).below hb1 (uh D5).lt;have hB1:Below w.heap.size w w1:=(uh HB).trans (hb1.mono (uh HB).size);have hbx:=(hk1.set 0 (.string (fA f 1))).set 1 (.int .i64 1)
  have qx:Hid (PO (.returned (.agg #[.string (fA f 1),.int .i64 1])) ((w1.setCell ⟨w.heap.size,0,none⟩ (.string (fA f 1))).setCell ⟨w.heap.size,1,none⟩ (.int .i64 1))):=ak (by
   rw[uh Dc];exact⟨by rw[uh HE],(hB1.setCell (p:=⟨w.heap.size,0,none⟩) (gu _) _).setCell (p:=⟨w.heap.size,1,none⟩) (gu _) _⟩)
  have Oi:=ak (And.intro (hbx.cell (i:=0) (v:=.string (fA f 1)) rfl) (hbx.cell (i:=1) (v:=.int .i64 1) rfl));have c0:=hk1.cell (i:=0) (v:=.string ⟨#[]⟩) rfl;have c1:=hk1.cell (i:=1) (v:=.int .i64 0) rfl;have g0:=hk1.free 0;have g1:=hk1.free 1;have Ux:=hk1.lt;clear hbx hb1 hk1 hB1;go_wp2;obtain⟨f0,f1⟩:=uh Oi;exact bodyPost_ret (v:=.agg #[.string (fA f 1),.int .i64 1]) (by simp[results,Tryz.results31,go_sem,f0,f1]) rfl (uh qx)
theorem aw7 (l:List Value) (a:Nat) (x y z:Value) (h:a+2<l.length):(((l.set a x).set (a+1) y).set (a+2) z).take (a+3)=l.take a++[x,y,z]:=by
 obtain⟨p,r,hl,hp⟩:∃p r,l=p++r/\p.length=a:=⟨l.take a,l.drop a,(O8 a l).symm,by rw[Nk];omega⟩;subst hl hp
 obtain⟨b1,b2,b3,r',rfl⟩:∃b1 b2 b3 r',r=b1::b2::b3::r':=by
  rw[jh] at h
  match r,h with
  | b1::b2::b3::r',_=>exact⟨b1,b2,b3,r',rfl⟩
  | [],h=>simp at h;omega
  | [_],h=>simp at h
  | [_,_],h=>simp at h
 rw[List.set_append_right _ _ (by omega),List.set_append_right _ _ (by omega),List.set_append_right _ _ (by omega),show p.length-p.length=0 by omega,show p.length+1-p.length=1 by omega,show p.length+2-p.length=2 by omega,List.take_append,List.take_append];rw[P8 (show p.length<=p.length+3 by omega),show p.length+3-p.length=3 by omega,P8 (gu _),Nat.sub_self];simp
theorem a08 {w:cu} {base g q cap:Nat} {xs:List l9} (h:jq Gp w base (.slice (some ⟨g,0,none⟩) q cap) xs):q=xs.length/\base<=g/\g<w.heap.size/\∃cur,jd w g 83 cur/\cur.size=cap*3/\cap<=maxLen/\cur.toList.take (xs.length*3)=xs.flatMap Gp.f:=by
 obtain⟨h1,h2⟩:=h;rcases h2 with ⟨e,_⟩|⟨g',cap',cur,e,hb,hg,hn,hm,hs,ht⟩
 ·cases e
 ·simp only[qw,uw,Addr.mk.injEq] at e
  obtain⟨⟨rfl,_⟩,rfl,rfl⟩:=e;exact⟨rfl,hb,(Kv.1 hg).1,cur,hg,hs,hm,ht⟩
theorem a5d {w:cu} {base g cap:Nat} {xs:List l9} (t:l9) (h:jq Gp w base (.slice (some ⟨g,0,none⟩) xs.length cap) xs) (hq:xs.length<cap):(∀j,j<3->(∃u,w.cell? ⟨g,xs.length*3+j,none⟩=some u)/\w.frozen? ⟨g,xs.length*3+j,none⟩=false)/\jq Gp (((w.setCell ⟨g,xs.length*3,none⟩ (.int .i64 t.op)).setCell ⟨g,xs.length*3+1,none⟩ (.int .i64 t.val)).setCell ⟨g,xs.length*3+2,none⟩ (.string t.name)) base (.slice (some ⟨g,0,none⟩) (xs++[t]).length cap) (xs++[t]):=by
 obtain⟨_,hb,hlt,cur,hblk,hs,hm,ht⟩:=a08 h;have h3:=((hblk.set (xs.length*3) (.int .i64 t.op)).set (xs.length*3+1) (.int .i64 t.val)).set (xs.length*3+2) (.string t.name);refine⟨fun j hj=>⟨⟨_,hblk.cell (i:=xs.length*3+j) (v:=cur[xs.length*3+j]'(by rw[hs];omega)) (Array.getElem?_eq_getElem _)⟩,hblk.free _⟩,?_⟩;refine⟨by rw[Rl Gp.f Gp.sz Gp.hf],Or.inr ⟨g,cap,_,rfl,hb,h3,by rw[jh,N9];exact hq,hm,by simp[hs];rfl,?_⟩⟩;rw[jh,N9];have hcl:cur.toList.length=cap*3:=by rw[Array.length_toList];exact hs
 have bdi:xs.length*3+2<cur.toList.length:=by omega
 have e:(xs.length+1)*Gp.sz=xs.length*3+3:=by show (xs.length+1)*3=_;omega
 rw[e,Array.toList_setIfInBounds,Array.toList_setIfInBounds,Array.toList_setIfInBounds,aw7 _ _ _ _ _ bdi,ht,List.flatMap_append];rfl
theorem at7 (ps:List dh) (q:Nat) (hq:q<ps.length):A8 (ps.take (q+1))=A8 (ps.take q)++[Hf ps[q]]:=by
 unfold A8;rw[Eu hq,Ig];rfl
def CdP (ps:List dh) (w:cu) (e:Ending) (w':cu):Prop:=∃v',e=.returned v'/\jq Gp w' w.heap.size v' (A8 ps)/\Below w.heap.size w w'
theorem a5e:(Tryz.prog.info? 83).map (fun i=>(i.zero,i.size,i.bytes))=some (some (.agg #[.int .i64 0,.int .i64 0,.string ByteArray.empty]),3,32):=by kernel_rfl
theorem ame (ps:List dh) (v:Value) (w:cu) (hE:Za w) (hv:jc 1 16 xk 0 w v ps) (hs:∀p,p∈ps->p.size<=1048576) (hl:ps.length<=1048577):Calls Tryz.prog 60 #[v] w (CdP ps w):=by
 obtain⟨PO,Gn⟩:=o8 (CdP ps w);rw[←Gn];have Dc:=ak Gn;clear Gn;obtain⟨a,cap,rfl⟩:=hv.shape;have HS:=ak hv;have HZ:=ak hs;have HE:=ak hE;clear hv hs hE;obtain⟨n,hn⟩:=o8 ps.length;have HN:=ak hn;rw[←hn] at hl ⊢;clear hn;have hmk:=aaq (P:=Tryz.prog) 56 83 _ _ _ Tryz.underlying56 a5e n (by omega) (by omega);have HST:Hid (jq Gp (w.alloc (.cells (madeCells (Value.agg #[.int .i64 0,.int .i64 0,.string ByteArray.empty]).cells (n*3)) 83)) w.heap.size (.slice (some ⟨w.heap.size,0,none⟩) 0 n) []/\Below w.heap.size w (w.alloc (.cells (madeCells (Value.agg #[.int .i64 0,.int .i64 0,.string ByteArray.empty]).cells (n*3)) 83))):=ak ⟨World.ownsRow_made w _ n (gu _) (by simp[maxLen];omega) (size_madeCells _ _),(iq _ _).alloc (gu _) _⟩;go_enter Tryz.func60,Tryz.ntmps60;go_wp2
 go_loopg [11] n (fun gh ix wr=>∃(q:Nat),q<=n/\gh=n-q/\ix=.int .i64 q/\Hid (jq Gp wr w.heap.size (.slice (some ⟨w.heap.size,0,none⟩) q n) (A8 (ps.take q)))/\Hid (Below w.heap.size w wr))
 case atStart=>exact⟨0,jg _,by omega,rfl,ak (uh HST).1,ak (uh HST).2⟩
 case round =>
  obtain⟨q,hq,hg,rfl,HO,HB⟩:=hrel;have HG:=ak hg;clear hg HST hmk
  by_cases hlt:q<n
  ·have hlp:q<ps.length:=by rw[←uh HN];exact hlt
   obtain⟨b,o,hab,hb,hc,_⟩:=ag9 (uh HS) q hlp
   have z0:wr.cell? ⟨b,o+q,none⟩=some (.string (fA ps q)):=by
    rw[(uh HB).cell (p:=⟨b,_,none⟩) hb];exact hc
   have hpz:(fA ps q).size<=1048576:=by rw[←Jj ps q hlp];exact uh HZ _ (o7 hlp)
   have HIT:=ak (aw8 (fA ps q) wr ((uh HE).below (uh HB) (uh HE).env.three) hpz);have HTK:Hid (A8 (ps.take (q+1))=A8 (ps.take q)++[Hf (fA ps q)]):=ak (by rw[at7 ps q hlp,Jj]);have Ho:Hid ((A8 (ps.take q)).length=q):=ak (by unfold A8;rw[zy,Nk];omega);have Kq:(q:Int)<(n:Int):=by omega
   subst hab;generalize fA ps q=p at *;generalize Hf p=t at *;generalize A8 (ps.take q)=pre at *;clear hc hlp;go_wp2_with fail;refine(uh HIT).mono ?_;rintro e w1 ⟨rfl,hb1⟩;have ho1:=(uh HO).below hb1;have a9k:jq Gp w1 w.heap.size (.slice (some ⟨w.heap.size,0,none⟩) pre.length n) pre:=by rw[uh Ho];exact ho1
   obtain⟨hcs,yh⟩:=a5d t a9k (by rw[uh Ho];exact hlt);rw[uh Ho] at hcs yh;obtain⟨⟨u0,c0⟩,f0⟩:=hcs 0 (by omega);obtain⟨⟨u1,c1⟩,f1⟩:=hcs 1 (by omega);obtain⟨⟨u2,c2⟩,f2⟩:=hcs 2 (by omega);rw[ji] at c0 f0;have hgl:w.heap.size<w1.heap.size:=(Az ho1 w.heap.size rfl).2
   have HO5:Hid (jq Gp (((w1.setCell ⟨w.heap.size,q*3,none⟩ (.int .i64 t.op)).setCell ⟨w.heap.size,q*3+1,none⟩ (.int .i64 t.val)).setCell ⟨w.heap.size,q*3+2,none⟩ (.string t.name)) w.heap.size (.slice (some ⟨w.heap.size,0,none⟩) (q+1) n) (A8 (ps.take (q+1)))):=ak (by
    rw[uh HTK];have e9:(pre++[t]).length=q+1:=by rw[jh,uh Ho];rfl
    rw[e9] at yh;exact yh)
   have Gx:Hid (Below w.heap.size w (((w1.setCell ⟨w.heap.size,q*3,none⟩ (.int .i64 t.op)).setCell ⟨w.heap.size,q*3+1,none⟩ (.int .i64 t.val)).setCell ⟨w.heap.size,q*3+2,none⟩ (.string t.name))):=ak (((((uh HB).trans (hb1.mono (uh HB).size)).setCell (p:=⟨w.heap.size,q*3,none⟩) (gu _) _).setCell (p:=⟨w.heap.size,q*3+1,none⟩) (gu _) _).setCell (p:=⟨w.heap.size,q*3+2,none⟩) (gu _) _);clear ho1 a9k yh hcs hb1 z0;go_wp2
   go_roundg (n-(q+1))
   case measure=>have:=uh HG;omega
   case rel=>exact⟨q+1,by omega,rfl,by go_num,HO5,Gx⟩
  ·have hqn:q=n:=by omega
   have Kq:¬(q:Int)<(n:Int):=by omega
   have dlt:decide ((q:Int)<(n:Int))=false:=iy Kq
   have qx:Hid (PO (.returned (.slice (some ⟨w.heap.size,0,none⟩) n n)) wr):=ak (by
    rw[uh Dc];refine⟨_,rfl,?_,uh HB⟩;have h9:=uh HO;rw[hqn,uh HN,Dw] at h9;rw[uh HN];exact h9)
   clear hqn;go_wp2;exact uh qx
theorem amf {B:Nat} {w:cu} {v:Value} {cs:List dw} {bs:List Nat} (h:yj Et Ci B w v cs bs) (hB:B<=w.heap.size):∃css,jq Et w B v css/\css.length=cs.length/\∀(wA w5:cu) (v':Value) (c:Raw 7) (nm:dh),Len nm.size->c.1=[.string nm,.slice none 0 0,.slice none 0 0,.slice none 0 0,.slice none 0 0,.slice none 0 0,.slice none 0 0]->Below w.heap.size w wA->jq Et w5 B v' (css++[c])->wA.grownBy w5 v.ownBlock->(∀b,v'.ownBlock=some b->v.ownBlock=some b\/wA.heap.size<=b)->(cs.length+1)*160<=140737488355328->∃bs',yj Et Ci B w5 v' (cs++[K0 nm]) bs':=by
 obtain⟨css,subs,h1,h2,h3,rfl,h4,h5⟩:=h;have hl:=h3.len;refine⟨css,h1,hl.1,fun wA w5 v' c nm hn hc hA yh hg5 F9 hlen=>⟨_,ajj Iy h1 h3 h4 h5 (iq _ _) hA (c:=c) (y:=K0 nm) (s:=[]) ?_ List.nodup_nil (fun b hb=>by cases hb) hB yh hg5 F9 (by rw[jh,hl.1];exact hlen)⟩⟩;rw[hc];have z:∀{α:Type} (E:Fj Tryz.prog α) (ok:α->Prop),Tn E ok w (.slice none 0 0) [] []:=fun E ok=>⟨jq.nil _ _,(fun x hx=>by cases hx),by simp,rfl⟩
 exact⟨_,_,_,_,_,_,[],[],[],[],[],[],rfl,hn,z _ _,z _ _,z _ _,z _ _,z _ _,⟨[],[],jq.nil _ _,by simp,.nil,rfl⟩,rfl⟩
theorem Jz.cls {W1:cu} {mb:Nat} {cs cs':List dw} {mv v':Value} {bs bs':List Nat} {w wA w5:cu} {css:List (Raw 7)} (h:Jz W1 mb cs mv bs w) (hm:mb<W1.heap.size) (hA:Below w.heap.size w wA) (ho:jq Et w W1.heap.size mv css) (hg:wA.grownBy w5 mv.ownBlock) (hmk:yj Et Ci W1.heap.size w5 v' cs' bs'):Jz W1 mb cs' v' bs' (w5.setCell ⟨mb,0,none⟩ v'):=by
 have Zo:=ho.below hA;have hb5:jd w5 mb 24 #[mv]:=(RwB.Xl Zo hg).blk (h.box.below hA h.box.lt) (by decide);have hset:∀b,b≠mb->(w5.setCell ⟨mb,0,none⟩ v').heap[b]?=w5.heap[b]?:=fun b hb=>zf _ _ _ _ (fun e=>hb e)
 have hz:(w5.setCell ⟨mb,0,none⟩ v').heap.size=w5.heap.size:=by simp[World.setCell]
 refine⟨hb5.set 0 v',hmk.fr Iy (fun b hb=>hset b (by have:=(hmk.nd.2 b hb).1;omega)) (by omega),⟨?_,?_,?_,?_,fun b hb hs=>?_⟩⟩
 ·exact hg.os.trans (hA.os.trans h.but.os)
 ·exact hg.tape.trans (hA.tape.trans h.but.tape)
 ·exact hg.output.trans (hA.output.trans h.but.output)
 ·rw[hz];exact ku h.but.size (ku hA.size hg.size)
 ·have hbw:b<w.heap.size:=qg hb h.but.size
  refine(hset b (by simpa using hs)).trans ((hg.block b (qg hbw hA.size) (fun e=>?_)).trans ((hA.block b hbw).trans (h.but.block b hb hs)));have:=(Az ho b e.symm).1;omega
end Go.Proofs.YtfeejeflmcapoaaGreatDoor
