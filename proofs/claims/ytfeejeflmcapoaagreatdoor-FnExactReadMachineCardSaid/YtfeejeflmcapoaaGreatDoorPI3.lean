import Derived.Test.YtfeejeflmcapoaaGreatDoorPS3
import Derived.Test.YtfeejeflmcapoaaGreatDoorPS4
import Derived.Test.YtfeejeflmcapoaaGreatDoorMI17
set_option linter.unusedSimpArgs false
set_option linter.unusedVariables false
set_option maxHeartbeats 8000000
set_option maxRecDepth 20000
namespace Go.Proofs.YtfeejeflmcapoaaGreatDoor
open Go.RowKit
open Go.Shelf
theorem Yi:∀(w:cu) (cs:List Value) (x:dh),xk 0 w cs x->cs=ny.f x:=fun _ _ _ h=>h.1
theorem Kr (w:cu) (base:Nat) (xs:List dh) (cs:Array Value) (n:Nat) (hb:base<=w.heap.size) (hcs:cs=(xs.map Value.string).toArray) (hn:n=xs.length) (hm:xs.length<=1000000):jq ny (w.alloc (.cells cs 9)) base (.slice (some ⟨w.heap.size,0,none⟩) n n) xs:=by
 subst hcs hn
 have hfl:xs.flatMap ny.f=xs.map Value.string:=by
  clear hm
  induction xs with
  | nil=>rfl
  | cons x xs ih=>rw[List.flatMap_cons,ih];rfl
 refine⟨?_,Or.inr ⟨_,_,_,rfl,hb,Deep.blk_alloc_new _ _,gu _,by unfold maxLen;omega,?_,?_⟩⟩
 ·rw[hfl,zy];show _=_*1;omega
 ·rw[List.size_toArray,zy];show _=_*1;omega
 ·rw[hfl]
  show ((xs.map Value.string)).take (xs.length*1)=_;rw[jr,P8 (by rw[zy];exact gu _)]
theorem bbv {w:cu} {base:Nat} {v:Value} {ps:List dh} (h:jq ny w base v ps) (hs:wo ps<=200000000):jc 1 16 xk 0 w v ps :=
 h.at (R:=xk) (fun x hx=>⟨rfl,by have:=akx ps x hx;unfold Len;omega⟩) (by have:=abm ps;show _*16<=_;omega)
def aot (ps:List dh) (w:cu) (e:Ending) (w':cu):Prop:=∃v base,e=.returned v/\jq ny w' base v ps/\Below w.heap.size w w'
theorem a0n (P0:List dh) (Af:List (List l9)) (q:Nat) (hq:q<=Af.length):wo (P0++vg Af q)<=wo (P0++vg Af Af.length):=by
 obtain⟨d,hd⟩:=Nat.exists_eq_add_of_le hq
 have:∀d,wo (P0++vg Af q)<=wo (P0++vg Af (q+d)):=by
  intro d
  induction d with
  | zero=>exact gu _
  | succ d ih =>
   rw[show q+(d+1)=q+d+1 from by omega,vg];simp only[Ez] at ih ⊢;omega
 rw[hd];exact this d
theorem aou (s:lu) (so sc sa:Value) (w:cu) (hE:Env w) (h:anq s) (h1:jc 1 16 xk 0 w so s.au) (h2:jc 3 32 Gg 0 w sc s.code) (h3:jc 1 24 Ih 0 w sa s.args) (hk3:s.kind=3) (hw:wo (x9 s)<=200000000) :
  Calls Tryz.prog 103 #[.agg #[.int .i64 s.kind,.string s.name,.int .i64 s.at_,so,sc,sa]] w (aot (x9 s) w):=by
 obtain⟨kd,nm,at0,au,code,args⟩:=s;simp only at h1 h2 h3;obtain⟨oa,oc,rfl⟩:=h1.shape;obtain⟨ca,cc,rfl⟩:=h2.shape;obtain⟨aa,ac,rfl⟩:=h3.shape;have hat:=h.st.at_;have hkd:=h.st.kind;have hol:=h.au;have hcd:=h.code;have hal:=h.args;simp only at hat hkd hol hcd hal;have HB0:Hid (Below (w.heap.size+1) (w.alloc (.cells #[.int .i64 kd,.string nm,.int .i64 at0,.slice oa au.length oc,.slice ca code.length cc,.slice aa args.length ac] 60)) (w.alloc (.cells #[.int .i64 kd,.string nm,.int .i64 at0,.slice oa au.length oc,.slice ca code.length cc,.slice aa args.length ac] 60))):=iq _ _;have aby:Hid (Below (w.heap.size+1) (w.alloc (.cells #[.int .i64 kd,.string nm,.int .i64 at0,.slice oa au.length oc,.slice ca code.length cc,.slice aa args.length ac] 60)) (w.alloc (.cells #[.int .i64 kd,.string nm,.int .i64 at0,.slice oa au.length oc,.slice ca code.length cc,.slice aa args.length ac] 60)).drew):=(uh HB0).drew;have Hz:Hid (∀w1,Below (w.heap.size+1) (w.alloc (.cells #[.int .i64 kd,.string nm,.int .i64 at0,.slice oa au.length oc,.slice ca code.length cc,.slice aa args.length ac] 60)) w1->Below w.heap.size w w1):=fun w1 h=>((iq w.heap.size w).alloc (gu _) _).trans (h.mono (Nat.le_succ _))
 have aa9:Hid (∀w1,Below (w.heap.size+1) (w.alloc (.cells #[.int .i64 kd,.string nm,.int .i64 at0,.slice oa au.length oc,.slice ca code.length cc,.slice aa args.length ac] 60)) w1->w1.cell? ⟨w.heap.size,1,none⟩=some (.string nm)/\w1.cell? ⟨w.heap.size,2,none⟩=some (.int .i64 at0)/\w1.cell? ⟨w.heap.size,3,none⟩=some (.slice oa au.length oc)/\w1.cell? ⟨w.heap.size,4,none⟩=some (.slice ca code.length cc)/\w1.cell? ⟨w.heap.size,5,none⟩=some (.slice aa args.length ac)):=fun w1 H9=>⟨(Bz (B:=0) H9 1).trans rfl,(Bz (B:=0) H9 2).trans rfl,(Bz (B:=0) H9 3).trans rfl,(Bz (B:=0) H9 4).trans rfl,(Bz (B:=0) H9 5).trans rfl⟩
 have Wv:Hid (∀w1,Below (w.heap.size+1) (w.alloc (.cells #[.int .i64 kd,.string nm,.int .i64 at0,.slice oa au.length oc,.slice ca code.length cc,.slice aa args.length ac] 60)) w1->Env w1):=fun w1 H9=>hE.below (uh Hz _ H9) hE.three
 have HIT:Hid (∀w',Hid (Below (w.heap.size+1) (w.alloc (.cells #[.int .i64 kd,.string nm,.int .i64 at0,.slice oa au.length oc,.slice ca code.length cc,.slice aa args.length ac] 60)) w')->Calls Tryz.prog 69 #[.int .i64 at0] w' fun e w1=>e=.returned (.string (qo at0))/\Hid (Below (w.heap.size+1) (w.alloc (.cells #[.int .i64 kd,.string nm,.int .i64 at0,.slice oa au.length oc,.slice ca code.length cc,.slice aa args.length ac] 60)) w1)/\Hid (Below w'.heap.size w' w1)/\w1.cell? ⟨w.heap.size,1,none⟩=some (.string nm)/\w1.cell? ⟨w.heap.size,2,none⟩=some (.int .i64 at0)/\w1.cell? ⟨w.heap.size,3,none⟩=some (.slice oa au.length oc)/\w1.cell? ⟨w.heap.size,4,none⟩=some (.slice ca code.length cc)/\w1.cell? ⟨w.heap.size,5,none⟩=some (.slice aa args.length ac)):=fun w' hw=>(ady at0 hat w' (uh Wv _ (uh hw))).mono (fun e w1 ⟨he,hb⟩=>by
  have H9:=Yj (uh hw) hb;exact⟨he,H9,hb,uh aa9 _ H9⟩)
 have HCP:Hid (∀w',Hid (Below (w.heap.size+1) (w.alloc (.cells #[.int .i64 kd,.string nm,.int .i64 at0,.slice oa au.length oc,.slice ca code.length cc,.slice aa args.length ac] 60)) w')->Calls Tryz.prog 102 #[.slice ca code.length cc] w' fun e w1=>∃va vc,e=.returned (.slice va (tu code).length vc)/\Hid (jc 1 16 xk 0 w1 (.slice va (tu code).length vc) (tu code))/\Hid (Below (w.heap.size+1) (w.alloc (.cells #[.int .i64 kd,.string nm,.int .i64 at0,.slice oa au.length oc,.slice ca code.length cc,.slice aa args.length ac] 60)) w1)/\Hid (Below w'.heap.size w' w1)/\w1.cell? ⟨w.heap.size,1,none⟩=some (.string nm)/\w1.cell? ⟨w.heap.size,2,none⟩=some (.int .i64 at0)/\w1.cell? ⟨w.heap.size,3,none⟩=some (.slice oa au.length oc)/\w1.cell? ⟨w.heap.size,4,none⟩=some (.slice ca code.length cc)/\w1.cell? ⟨w.heap.size,5,none⟩=some (.slice aa args.length ac)):=fun w' hw=>(abz code _ w' (uh Wv _ (uh hw)) (h2.stays Ad (uh Hz _ (uh hw))) hcd).mono (fun e w1 ⟨v,he,hS,hb⟩=>by
  have H9:=Yj (uh hw) hb;obtain⟨va,vc,rfl⟩:=hS.shape;exact⟨va,vc,he,hS,H9,hb,uh aa9 _ H9⟩)
 have Y1:Hid (∀(w1 w2:cu) (v:Value) (xs:List dh),Below (w.heap.size+1) (w.alloc (.cells #[.int .i64 kd,.string nm,.int .i64 at0,.slice oa au.length oc,.slice ca code.length cc,.slice aa args.length ac] 60)) w1->jq ny w1 (w.heap.size+1) v xs->w1.grownBy w2 v.ownBlock->Below (w.heap.size+1) (w.alloc (.cells #[.int .i64 kd,.string nm,.int .i64 at0,.slice oa au.length oc,.slice ca code.length cc,.slice aa args.length ac] 60)) w2):=fun w1 w2 v xs hb ho hg=>ho.grown hb hg (by have:=hb.size;simp at this;omega) (gu _)
 have Rn:Hid (∀w1,Below (w.heap.size+1) (w.alloc (.cells #[.int .i64 kd,.string nm,.int .i64 at0,.slice oa au.length oc,.slice ca code.length cc,.slice aa args.length ac] 60)) w1->w.heap.size+1<=w1.heap.size):=fun w1 hb=>by have:=hb.size;simpa using this
 have hst:x9 ⟨kd,nm,at0,au,code,args⟩=[zx,qo at0]++au++[ql]++vg args args.length:=by
  unfold x9;simp only at hk3 ⊢;rw[bf (by omega),bf (by omega),gy hk3]
 rw[hst] at hw ⊢;have HW:=ak hw;have hz4:=Qh at0 hat;have Ua:=ak (fun w' (hb:Below (w.heap.size+1) (w.alloc (.cells #[.int .i64 kd,.string nm,.int .i64 at0,.slice oa au.length oc,.slice ca code.length cc,.slice aa args.length ac] 60)) w')=>h1.stays zk (uh Hz _ hb));have H3:=ak h3;have Cm:=ak hal;have be7:=hol.1;have bdc:=hal.1;have hwl:=abm ([zx,qo at0]++au++[ql]++vg args args.length);have HAP:Hid (∀c v w',c∈args->Below (w.heap.size+1) (w.alloc (.cells #[.int .i64 kd,.string nm,.int .i64 at0,.slice oa au.length oc,.slice ca code.length cc,.slice aa args.length ac] 60)) w'->jc 3 32 Gg 0 w' v c->Calls Tryz.prog 102 #[v] w' (aq9 (tu c) w')):=fun c v w' hm hb hs=>abz c v w' (uh Wv _ hb) hs (hal.2 c hm)
 clear h h1 h2 h3 hcd hol hal hat hst hw HCP hk3 hkd;generalize qo at0=dv at *;go_enter Tryz.func103,Tryz.ntmps103;go_wp2_with fail
 go_region_held3 (fun w'=>w'.cell? ⟨w.heap.size,2,none⟩=some (.int .i64 at0)/\w'.cell? ⟨w.heap.size,3,none⟩=some (.slice oa au.length oc)) (go_keep) (first|(go_at_call 69;refine(uh HIT _ aby).mono ?_;rintro e w1 ⟨rfl,HB1,HQ1,k1,k2,k3,k4,k5⟩;have aky:=ak ((uh HB1).alloc (uh Rn _ (uh HB1)) (.cells #[.string ⟨#[99,97,108,108]⟩,.string dv] 9));have HM:=ak (Kr w1 (w.heap.size+1) [⟨#[99,97,108,108]⟩,dv] _ 2 (uh Rn _ (uh HB1)) rfl rfl (by simp)))|(refine Iw ny Yi _ rfl _ _ rfl (w.heap.size+1) w1.heap.size 2 [⟨#[99,97,108,108]⟩,dv] rfl (uh HM) _ rfl au (uh Ua _ (uh aky)) (by show (2+_)*16<=_;omega) (by simp;have:=uh Rn _ (uh HB1);omega) ?_;intro g2 cap2 w2 ho2 hg2;have HB2:=ak (uh Y1 _ _ _ _ (uh aky) (uh HM) hg2);have Oh:=ak ho2;obtain⟨a1,a2,a3,a4,a5⟩:=uh aa9 _ (uh HB2);clear ho2 hg2))
 all_goals
  have HB3:=ak ((uh HB2).alloc (uh Rn _ (uh HB2)) (.cells #[.string ⟨#[58]⟩] 9));have hz2:=uh Rn _ (uh HB2);have HO3:=ak ((uh Oh).below ((iq w2.heap.size w2).alloc (gu _) (.cells #[.string ⟨#[58]⟩] 9)))
  have a8x:([⟨#[99,97,108,108]⟩,dv]++au).length<=2000:=by
   rw[jh];simp only[ug,Ar];omega
  have a8y:=ak a8x;clear HM aky HB1 HQ1 k1 k2 k3 k4 k5 a1 a2 a4 a8x HIT Ua;go_wp2_with (at_builtin;go_must (refine Am ny _ rfl _ _ rfl (w.heap.size+1) _ ([⟨#[99,97,108,108]⟩,dv]++au) rfl (uh HO3) w2.heap.size ⟨#[58]⟩ rfl (fun j u hu=>by rw[zu _ _ _ _ rfl];simpa[ny] using hu) (by have h9:=uh a8y;show (_+1)*16<=_;omega) (by simp;omega) ?_));intro v4 w4 hown4 a8z;have HB4:=ak (uh Y1 _ _ _ _ (uh HB3) (uh HO3) a8z);obtain⟨P0,hP0⟩:=o8 (⟨#[99,97,108,108]⟩::dv::(au++[⟨#[58]⟩]));rw[←hP0] at hown4;have HO4:=ak hown4;have hne0:P0≠[]:=by rw[hP0];simp
  have bdd:=ak hne0;have HP0:=ak hP0
  have HW0:Hid (wo (P0++vg args args.length)<=200000000):=by
   have h8:=uh HW;rw[hP0];exact h8
  obtain⟨k1,k2,k3,k4,k5⟩:=uh aa9 _ (uh HB4);clear hown4 a8z hP0 hne0 HO3 HB3 Oh HB2 a8y k1 k2 k3 k4 a3 a5 hz2 hwl;go_wp2
  go_loopg [3,19] args.length (fun gh st ix wr=>∃(q:Nat),q<=args.length/\gh=args.length-q/\ix=.int .i64 q/\Hid (jq ny wr (w.heap.size+1) st (P0++vg args q))/\Hid (Below (w.heap.size+1) (w.alloc (.cells #[.int .i64 kd,.string nm,.int .i64 at0,.slice oa au.length oc,.slice ca code.length cc,.slice aa args.length ac] 60)) wr))
  case atStart=>exact⟨0,jg _,by omega,rfl,(by rw[vg,Aq];exact HO4),HB4⟩
  case round =>
   obtain⟨q,hq,hg,rfl,HOW,Bc⟩:=hrel;have HG:=ak hg;clear hg k5;have hws:=uh Rn _ (uh Bc)
   by_cases hlt:q<args.length
   ·obtain⟨_,_,Dq,_,_,hex⟩:=uh H3
    simp only[qw] at Dq;obtain⟨rfl,_,rfl⟩:=Dq;obtain⟨b,o,cs,rfl,_,hb,hcs,hc,⟨vq,rfl,hvq⟩⟩:=hex q hlt;have hbw:=uh Hz _ (uh Bc)
    have z0:wr.cell? ⟨b,o+q,none⟩=some vq:=by
     have h0:=hc 0 (by simp);rw[jr,ji] at h0;rw[hbw.cell (p:=⟨b,_,none⟩) hb];exact h0
    have Rf:=ak hvq
    have HT:Hid (P0++vg args (q+1)=P0++vg args q++(if q=0 then [] else [Bl])++tu args[q]):=by
     refine ak ?_;rw[vg];have h2:args.getD q []=args[q]:=by rw[yw,jy hlt];rfl
     rw[h2,Gl,Gl,Gl]
    have Gf:Hid ((P0++vg args q).length<=200000000/\(tu args[q]).length<=6000):=by
     refine ak ⟨?_,?_⟩
     ·have h8:=a0n P0 args q hq
      have h9:=abm (P0++vg args q);have:=uh HW0;omega
     ·rw[Vw]
      exact((uh Cm).2 _ (o7 hlt)).len
    have HNQ:Hid (P0++vg args q≠[]):=by
     refine ak ?_;intro h9;exact uh bdd (List.append_eq_nil_iff.1 h9).1
    have Yc:=ak (uh HAP args[q] vq · (o7 hlt));have Kq:(q:Int)<(args.length:Int):=by omega
    clear hc hcs hvq hbw hex;generalize tu args[q]=cp at *;generalize args[q]=arg at *;generalize P0++vg args q=pre at *
    by_cases hq0:q=0
    ·rw[gy hq0,Aq] at HT
     have f1:decide (0<(q:Int))=false:=iy (by omega);have f2:decide (0<q)=false:=iy (by omega);have HCB:=ak (uh Yc wr (uh Bc) ((uh Rf).stays Ad (uh Hz _ (uh Bc))))
     obtain⟨g,cap,rfl,hog⟩:∃g cap,u3=.slice (some ⟨g,0,none⟩) pre.length cap/\True:=by
      rcases (uh HOW).shape with ⟨_,h9⟩|⟨g,cap,h9,_⟩
      ·exact absurd h9 (uh HNQ)
      ·exact⟨g,cap,h9,trivial⟩
     have HPN:=ak hq0;clear hq0 hog;go_wp2_with fail;refine(uh HCB).mono ?_;rintro e w5 ⟨v5,rfl,hS5,hb5⟩;have HS5:=ak hS5;have HO5:=ak ((uh HOW).below hb5);have Gx:=ak ((uh Bc).trans (hb5.mono hws));obtain⟨v5a,v5c,rfl⟩:=hS5.shape;have Oy:=uh Rn _ (uh Gx);clear hS5 hb5;go_wp2_with (at_builtin;go_must (refine aaz ny Yi _ rfl _ _ rfl (w.heap.size+1) g cap pre rfl (uh HO5) _ rfl cp (uh HS5) (by have h9:=uh Gf;show (_+_)*16<=_;omega) Oy ?_));intro g6 cap6 w6 hown6 aov;have Wp:=ak (uh Y1 _ _ _ _ (uh Gx) (uh HO5) aov);rw[←uh HT] at hown6;have HO6:=ak hown6;clear hown6 aov;go_wp2
     go_roundg (args.length-(q+1))
     case measure=>have:=uh HG;omega
     case rel=>exact⟨q+1,by omega,rfl,by go_num,HO6,Wp⟩
    ·rw[bf hq0] at HT
     have f1:decide (0<(q:Int))=true:=jf (by omega);have f2:decide (0<q)=true:=jf (by omega);have Ov:=(iq wr.heap.size wr).alloc (gu _) (.cells #[.string ⟨#[44]⟩] 9);have HOA:=ak ((uh HOW).below Ov);have Ws:=ak ((uh Bc).trans (Ov.mono hws));clear Ov;go_wp2_with (at_builtin;go_must (refine Am ny _ rfl _ _ rfl (w.heap.size+1) _ pre rfl (uh HOA) wr.heap.size ⟨#[44]⟩ rfl (fun j u hu=>by rw[zu _ _ _ _ rfl];simpa[ny] using hu) (by have h9:=uh Gf;show (_+1)*16<=_;omega) (by simp;omega) ?_));intro v7 w7 J6 Sv;have Zn:=ak (uh Y1 _ _ _ _ (uh Ws) (uh HOA) Sv);have Xd:=ak J6;have hz7:=uh Rn _ (uh Zn);have HCB:=ak (uh Yc w7 (uh Zn) ((uh Rf).stays Ad (uh Hz _ (uh Zn))))
     obtain⟨g,cap,rfl,hog⟩:∃g cap,v7=.slice (some ⟨g,0,none⟩) (pre++[(⟨#[44]⟩:dh)]).length cap/\True:=by
      rcases (uh Xd).shape with ⟨_,h9⟩|⟨g,cap,h9,_⟩
      ·exact absurd h9 (by simp)
      ·exact⟨g,cap,h9,trivial⟩
     obtain⟨pre2,hp2⟩:∃p2:List dh,p2=pre++[(⟨#[44]⟩:dh)]:=⟨_,rfl⟩
     have hT2:P0++vg args (q+1)=pre2++cp:=by
      rw[uh HT,hp2];rfl
     have hl2:pre2.length<=200000001:=by
      have h9:=uh Gf;rw[hp2,jh];simp only[ug,Ar];omega
     rw[←hp2] at Xd ⊢;have HT2:=ak hT2;have HL2:=ak hl2;have HQ0:=ak hq0;clear J6 Sv hog hp2 hT2 hl2 hq0;go_wp2_with fail;refine(uh HCB).mono ?_;rintro e w5 ⟨v5,rfl,hS5,hb5⟩;have HS5:=ak hS5;have HO5:=ak ((uh Xd).below hb5);have Gx:=ak ((uh Zn).trans (hb5.mono hz7));obtain⟨v5a,v5c,rfl⟩:=hS5.shape;have Oy:=uh Rn _ (uh Gx);clear hS5 hb5;go_wp2_with (at_builtin;go_must (refine aaz ny Yi _ rfl _ _ rfl (w.heap.size+1) g cap pre2 rfl (uh HO5) _ rfl cp (uh HS5) (by have h9:=uh Gf;have h8:=uh HL2;show (_+_)*16<=_;omega) Oy ?_));intro g6 cap6 w6 hown6 aov;have Wp:=ak (uh Y1 _ _ _ _ (uh Gx) (uh HO5) aov);rw[←uh HT2] at hown6;have HO6:=ak hown6;clear hown6 aov;go_wp2
     go_roundg (args.length-(q+1))
     case measure=>have:=uh HG;omega
     case rel=>exact⟨q+1,by omega,rfl,by go_num,HO6,Wp⟩
   ·have e:q=args.length:=by omega
    have HF:Hid (jq ny wr (w.heap.size+1) u3 ([zx,dv]++au++[ql]++vg args args.length)):=by
     have h8:=uh HOW;rw[e,uh HP0] at h8;exact h8
    have HFB:=ak (uh Hz _ (uh Bc));clear e;go_wp2;go_ret;exact⟨_,_,rfl,uh HF,uh HFB⟩
theorem aqd (s:lu) (so sc sa:Value) (w:cu) (hE:Env w) (h:anq s) (h1:jc 1 16 xk 0 w so s.au) (h2:jc 3 32 Gg 0 w sc s.code) (h3:jc 1 24 Ih 0 w sa s.args) (hw:wo (x9 s)<=200000000) :
  Calls Tryz.prog 70 #[.agg #[.int .i64 s.kind,.string s.name,.int .i64 s.at_,so,sc,sa]] w (aot (x9 s) w):=by
 obtain⟨kd,nm,at0,au,code,args⟩:=s;simp only at h1 h2 h3;obtain⟨oa,oc,rfl⟩:=h1.shape;obtain⟨ca,cc,rfl⟩:=h2.shape;obtain⟨aa,ac,rfl⟩:=h3.shape;have hat:=h.st.at_;have hkd:=h.st.kind;have hol:=h.au;have hcd:=h.code;have hal:=h.args;simp only at hat hkd hol hcd hal;have HB0:Hid (Below (w.heap.size+1) (w.alloc (.cells #[.int .i64 kd,.string nm,.int .i64 at0,.slice oa au.length oc,.slice ca code.length cc,.slice aa args.length ac] 60)) (w.alloc (.cells #[.int .i64 kd,.string nm,.int .i64 at0,.slice oa au.length oc,.slice ca code.length cc,.slice aa args.length ac] 60))):=iq _ _;have aby:Hid (Below (w.heap.size+1) (w.alloc (.cells #[.int .i64 kd,.string nm,.int .i64 at0,.slice oa au.length oc,.slice ca code.length cc,.slice aa args.length ac] 60)) (w.alloc (.cells #[.int .i64 kd,.string nm,.int .i64 at0,.slice oa au.length oc,.slice ca code.length cc,.slice aa args.length ac] 60)).drew):=(uh HB0).drew;have Hz:Hid (∀w1,Below (w.heap.size+1) (w.alloc (.cells #[.int .i64 kd,.string nm,.int .i64 at0,.slice oa au.length oc,.slice ca code.length cc,.slice aa args.length ac] 60)) w1->Below w.heap.size w w1):=fun w1 h=>((iq w.heap.size w).alloc (gu _) _).trans (h.mono (Nat.le_succ _))
 have aa9:Hid (∀w1,Below (w.heap.size+1) (w.alloc (.cells #[.int .i64 kd,.string nm,.int .i64 at0,.slice oa au.length oc,.slice ca code.length cc,.slice aa args.length ac] 60)) w1->w1.cell? ⟨w.heap.size,1,none⟩=some (.string nm)/\w1.cell? ⟨w.heap.size,2,none⟩=some (.int .i64 at0)/\w1.cell? ⟨w.heap.size,3,none⟩=some (.slice oa au.length oc)/\w1.cell? ⟨w.heap.size,4,none⟩=some (.slice ca code.length cc)/\w1.cell? ⟨w.heap.size,5,none⟩=some (.slice aa args.length ac)):=fun w1 H9=>⟨(Bz (B:=0) H9 1).trans rfl,(Bz (B:=0) H9 2).trans rfl,(Bz (B:=0) H9 3).trans rfl,(Bz (B:=0) H9 4).trans rfl,(Bz (B:=0) H9 5).trans rfl⟩
 have Wv:Hid (∀w1,Below (w.heap.size+1) (w.alloc (.cells #[.int .i64 kd,.string nm,.int .i64 at0,.slice oa au.length oc,.slice ca code.length cc,.slice aa args.length ac] 60)) w1->Env w1):=fun w1 H9=>hE.below (uh Hz _ H9) hE.three
 have HIT:Hid (∀w',Hid (Below (w.heap.size+1) (w.alloc (.cells #[.int .i64 kd,.string nm,.int .i64 at0,.slice oa au.length oc,.slice ca code.length cc,.slice aa args.length ac] 60)) w')->Calls Tryz.prog 69 #[.int .i64 at0] w' fun e w1=>e=.returned (.string (qo at0))/\Hid (Below (w.heap.size+1) (w.alloc (.cells #[.int .i64 kd,.string nm,.int .i64 at0,.slice oa au.length oc,.slice ca code.length cc,.slice aa args.length ac] 60)) w1)/\Hid (Below w'.heap.size w' w1)/\w1.cell? ⟨w.heap.size,1,none⟩=some (.string nm)/\w1.cell? ⟨w.heap.size,2,none⟩=some (.int .i64 at0)/\w1.cell? ⟨w.heap.size,3,none⟩=some (.slice oa au.length oc)/\w1.cell? ⟨w.heap.size,4,none⟩=some (.slice ca code.length cc)/\w1.cell? ⟨w.heap.size,5,none⟩=some (.slice aa args.length ac)):=fun w' hw=>(ady at0 hat w' (uh Wv _ (uh hw))).mono (fun e w1 ⟨he,hb⟩=>by
  have H9:=Yj (uh hw) hb;exact⟨he,H9,hb,uh aa9 _ H9⟩)
 have HCP:Hid (∀w',Hid (Below (w.heap.size+1) (w.alloc (.cells #[.int .i64 kd,.string nm,.int .i64 at0,.slice oa au.length oc,.slice ca code.length cc,.slice aa args.length ac] 60)) w')->Calls Tryz.prog 102 #[.slice ca code.length cc] w' fun e w1=>∃va vc,e=.returned (.slice va (tu code).length vc)/\Hid (jc 1 16 xk 0 w1 (.slice va (tu code).length vc) (tu code))/\Hid (Below (w.heap.size+1) (w.alloc (.cells #[.int .i64 kd,.string nm,.int .i64 at0,.slice oa au.length oc,.slice ca code.length cc,.slice aa args.length ac] 60)) w1)/\Hid (Below w'.heap.size w' w1)/\w1.cell? ⟨w.heap.size,1,none⟩=some (.string nm)/\w1.cell? ⟨w.heap.size,2,none⟩=some (.int .i64 at0)/\w1.cell? ⟨w.heap.size,3,none⟩=some (.slice oa au.length oc)/\w1.cell? ⟨w.heap.size,4,none⟩=some (.slice ca code.length cc)/\w1.cell? ⟨w.heap.size,5,none⟩=some (.slice aa args.length ac)):=fun w' hw=>(abz code _ w' (uh Wv _ (uh hw)) (h2.stays Ad (uh Hz _ (uh hw))) hcd).mono (fun e w1 ⟨v,he,hS,hb⟩=>by
  have H9:=Yj (uh hw) hb;obtain⟨va,vc,rfl⟩:=hS.shape;exact⟨va,vc,he,hS,H9,hb,uh aa9 _ H9⟩)
 have Y1:Hid (∀(w1 w2:cu) (v:Value) (xs:List dh),Below (w.heap.size+1) (w.alloc (.cells #[.int .i64 kd,.string nm,.int .i64 at0,.slice oa au.length oc,.slice ca code.length cc,.slice aa args.length ac] 60)) w1->jq ny w1 (w.heap.size+1) v xs->w1.grownBy w2 v.ownBlock->Below (w.heap.size+1) (w.alloc (.cells #[.int .i64 kd,.string nm,.int .i64 at0,.slice oa au.length oc,.slice ca code.length cc,.slice aa args.length ac] 60)) w2):=fun w1 w2 v xs hb ho hg=>ho.grown hb hg (by have:=hb.size;simp at this;omega) (gu _)
 have Rn:Hid (∀w1,Below (w.heap.size+1) (w.alloc (.cells #[.int .i64 kd,.string nm,.int .i64 at0,.slice oa au.length oc,.slice ca code.length cc,.slice aa args.length ac] 60)) w1->w.heap.size+1<=w1.heap.size):=fun w1 hb=>by have:=hb.size;simpa using this
 have HST:Hid (x9 ⟨kd,nm,at0,au,code,args⟩=if kd=1 then [Je,nm,ql]++tu code else if kd=2 then [Fp,qo at0,ql]++tu code else if kd=3 then [zx,qo at0]++au++[ql]++vg args args.length else if kd=4 then [Qg,nm] else if kd=5 then [Fg] else [Iz]):=rfl;have HW:=ak hw;have hz4:=Qh at0 hat;have Qb:Hid (kd=3->Calls Tryz.prog 103 #[.agg #[.int .i64 kd,.string nm,.int .i64 at0,.slice oa au.length oc,.slice ca code.length cc,.slice aa args.length ac]] (w.alloc (.cells #[.int .i64 kd,.string nm,.int .i64 at0,.slice oa au.length oc,.slice ca code.length cc,.slice aa args.length ac] 60)) (aot (x9 ⟨kd,nm,at0,au,code,args⟩) (w.alloc (.cells #[.int .i64 kd,.string nm,.int .i64 at0,.slice oa au.length oc,.slice ca code.length cc,.slice aa args.length ac] 60)))):=fun e3=>aou ⟨kd,nm,at0,au,code,args⟩ _ _ _ _ (uh Wv _ (uh HB0)) h (h1.stays zk (uh Hz _ (uh HB0))) (h2.stays Ad (uh Hz _ (uh HB0))) (h3.stays I8 (uh Hz _ (uh HB0))) e3 hw
 have Fa:Hid ((tu code).length<=6000):=by
  refine ak ?_;rw[Vw];exact hcd.len
 have hnm:=h.nm;simp only at hnm;clear h h1 h2 h3 hcd hol hal hat hw;generalize x9 ⟨kd,nm,at0,au,code,args⟩=ps at *;generalize qo at0=dv at *;generalize tu code=cp at *
 by_cases e1:kd=1
 ·have HF:Hid (ps=[⟨#[115,101,116]⟩,nm,⟨#[58]⟩]++cp):=by
   refine ak ?_;rw[uh HST,gy e1];rfl
  clear HST Qb HIT;subst e1;have HMA:=ak (Kr (w.alloc (.cells #[.int .i64 1,.string nm,.int .i64 at0,.slice oa au.length oc,.slice ca code.length cc,.slice aa args.length ac] 60)) (w.heap.size+1) [⟨#[115,101,116]⟩,nm,⟨#[58]⟩] _ 3 (by simp) rfl rfl (by simp));have Ws:Hid (Below (w.heap.size+1) (w.alloc (.cells #[.int .i64 1,.string nm,.int .i64 at0,.slice oa au.length oc,.slice ca code.length cc,.slice aa args.length ac] 60)) ((w.alloc (.cells #[.int .i64 1,.string nm,.int .i64 at0,.slice oa au.length oc,.slice ca code.length cc,.slice aa args.length ac] 60)).alloc (.cells #[.string ⟨#[115,101,116]⟩,.string nm,.string ⟨#[58]⟩] 9)).drew):=((uh HB0).alloc (by simp) _).drew;rw[Dy] at HMA;go_enter Tryz.func70,Tryz.ntmps70;go_wp2_with fail
  go_region_held3 (fun w'=>w'.cell? ⟨w.heap.size,1,none⟩=some (.string nm)/\w'.cell? ⟨w.heap.size,4,none⟩=some (.slice ca code.length cc)) (go_keep) (first|(go_at_call 102;refine(uh HCP _ (by first|exact aby|exact Ws)).mono ?_;rintro e w1 ⟨va,vc,rfl,Ub,HB1,HQ1,k1,k2,k3,k4,k5⟩;have HM:=ak (Kr w1 (w.heap.size+1) [⟨#[115,101,116]⟩,nm,⟨#[58]⟩] _ 3 (uh Rn _ (uh HB1)) rfl rfl (by simp));have aky:=ak ((uh HB1).alloc (uh Rn _ (uh HB1)) (.cells #[.string ⟨#[115,101,116]⟩,.string nm,.string ⟨#[58]⟩] 9)))|(refine Iw ny Yi _ rfl _ _ rfl (w.heap.size+1) (w.heap.size+1) 3 [⟨#[115,101,116]⟩,nm,⟨#[58]⟩] rfl (((uh HMA).below (iq _ _).drew).below (uh HQ1)) _ rfl cp (uh Ub) (by have:=uh Fa;show (3+_)*16<=_;omega) (uh Rn _ (uh HB1)) ?_;intro g2 cap2 w2 ho2 hg2;have HB2:=ak (uh Y1 _ _ _ _ (uh HB1) (((uh HMA).below (iq _ _).drew).below (uh HQ1)) hg2);have Oh:=ak ho2;obtain⟨a1,a2,a3,a4,a5⟩:=uh aa9 _ (uh HB2);clear ho2 hg2)|(refine Iw ny Yi _ rfl _ _ rfl (w.heap.size+1) w1.heap.size 3 [⟨#[115,101,116]⟩,nm,⟨#[58]⟩] rfl (uh HM) _ rfl cp ((uh Ub).stays zk ((iq _ _).alloc (gu _) _)) (by have:=uh Fa;show (3+_)*16<=_;omega) (uh Rn _ (uh aky)) ?_;intro g2 cap2 w2 ho2 hg2;have HB2:=ak (uh Y1 _ _ _ _ (uh aky) (uh HM) hg2);have Oh:=ak ho2;obtain⟨a1,a2,a3,a4,a5⟩:=uh aa9 _ (uh HB2);clear ho2 hg2))
  all_goals
   have Bj:Hid (jq ny w2 (w.heap.size+1) (.slice (some ⟨g2,0,none⟩) ([⟨#[115,101,116]⟩,nm,⟨#[58]⟩].length+cp.length) cap2) ps):=by
    rw[uh HF];exact uh Oh
   have HFB:=ak (uh Hz _ (uh HB2));go_wp2;go_ret;exact⟨_,_,rfl,uh Bj,uh HFB⟩
 by_cases e2:kd=2
 ·have HF:Hid (ps=[⟨#[115,97,118,101]⟩,dv,⟨#[58]⟩]++cp):=by
   refine ak ?_;rw[uh HST,bf e1,gy e2];rfl
  clear HST Qb;subst e2;go_enter Tryz.func70,Tryz.ntmps70;go_wp2_with fail
  go_region_held3 (fun w'=>w'.cell? ⟨w.heap.size,2,none⟩=some (.int .i64 at0)/\w'.cell? ⟨w.heap.size,4,none⟩=some (.slice ca code.length cc)) (go_keep) (first|(go_at_call 69;refine(uh HIT _ (by first|exact HBc|exact aby)).mono ?_;rintro e wi ⟨rfl,HBi,HQi,j1,j2,j3,j4,j5⟩;have HMi:=ak (Kr wi (w.heap.size+1) [⟨#[115,97,118,101]⟩,dv,⟨#[58]⟩] _ 3 (uh Rn _ (uh HBi)) rfl rfl (by simp));have a0o:=ak ((uh HBi).alloc (uh Rn _ (uh HBi)) (.cells #[.string ⟨#[115,97,118,101]⟩,.string dv,.string ⟨#[58]⟩] 9)))|(go_at_call 102;refine(uh HCP _ (by first|exact a0o|exact HBi|exact aby)).mono ?_;rintro e wc ⟨va,vc,rfl,HSc,HBc,HQc,k1,k2,k3,k4,k5⟩;have HMc:=ak (Kr wc (w.heap.size+1) [⟨#[115,97,118,101]⟩,dv,⟨#[58]⟩] _ 3 (uh Rn _ (uh HBc)) rfl rfl (by simp));have a81:=ak ((uh HBc).alloc (uh Rn _ (uh HBc)) (.cells #[.string ⟨#[115,97,118,101]⟩,.string dv,.string ⟨#[58]⟩] 9)))|(refine Iw ny Yi _ rfl _ _ rfl (w.heap.size+1) wi.heap.size 3 [⟨#[115,97,118,101]⟩,dv,⟨#[58]⟩] rfl ((uh HMi).below (uh HQc)) _ rfl cp (uh HSc) (by have:=uh Fa;show (3+_)*16<=_;omega) (uh Rn _ (uh HBc)) ?_;intro g2 cap2 w2 ho2 hg2;have HB2:=ak (uh Y1 _ _ _ _ (uh HBc) ((uh HMi).below (uh HQc)) hg2);have Oh:=ak ho2;obtain⟨a1,a2,a3,a4,a5⟩:=uh aa9 _ (uh HB2);clear ho2 hg2)|(refine Iw ny Yi _ rfl _ _ rfl (w.heap.size+1) wc.heap.size 3 [⟨#[115,97,118,101]⟩,dv,⟨#[58]⟩] rfl (uh HMc) _ rfl cp ((uh HSc).stays zk ((iq _ _).alloc (gu _) _)) (by have:=uh Fa;show (3+_)*16<=_;omega) (uh Rn _ (uh a81)) ?_;intro g2 cap2 w2 ho2 hg2;have HB2:=ak (uh Y1 _ _ _ _ (uh a81) (uh HMc) hg2);have Oh:=ak ho2;obtain⟨a1,a2,a3,a4,a5⟩:=uh aa9 _ (uh HB2);clear ho2 hg2)|(refine Iw ny Yi _ rfl _ _ rfl (w.heap.size+1) wi.heap.size 3 [⟨#[115,97,118,101]⟩,dv,⟨#[58]⟩] rfl (uh HMi) _ rfl cp (((uh HSc).stays zk (uh HQi)).stays zk ((iq _ _).alloc (gu _) _)) (by have:=uh Fa;show (3+_)*16<=_;omega) (uh Rn _ (uh a0o)) ?_;intro g2 cap2 w2 ho2 hg2;have HB2:=ak (uh Y1 _ _ _ _ (uh a0o) (uh HMi) hg2);have Oh:=ak ho2;obtain⟨a1,a2,a3,a4,a5⟩:=uh aa9 _ (uh HB2);clear ho2 hg2))
  all_goals
   have Bj:Hid (jq ny w2 (w.heap.size+1) (.slice (some ⟨g2,0,none⟩) ([⟨#[115,97,118,101]⟩,dv,⟨#[58]⟩].length+cp.length) cap2) ps):=by
    rw[uh HF];exact uh Oh
   have HFB:=ak (uh Hz _ (uh HB2));go_wp2;go_ret;exact⟨_,_,rfl,uh Bj,uh HFB⟩
 by_cases e3:kd=3
 ·have HC:=ak (uh Qb e3)
  clear Qb HST HIT HCP Y1 e1 e2 hkd;subst e3;go_enter Tryz.func70,Tryz.ntmps70;go_wp2_with fail;refine(uh HC).mono ?_;rintro e w1 ⟨v1,ba1,rfl,hS1,hb1⟩;have Ub:=ak hS1;have HFB:=ak (uh Hz _ (aje hb1));clear hS1 hb1;go_wp2;go_ret;exact⟨_,_,rfl,uh Ub,uh HFB⟩
 by_cases e4:kd=4
 ·have HF:Hid (ps=[⟨#[105,102]⟩,nm]):=by
   refine ak ?_;rw[uh HST,bf e1,bf e2,bf e3,gy e4];rfl
  clear HST Qb HIT HCP Y1;subst e4;have HM:=ak (Kr (w.alloc (.cells #[.int .i64 4,.string nm,.int .i64 at0,.slice oa au.length oc,.slice ca code.length cc,.slice aa args.length ac] 60)) (w.heap.size+1) [⟨#[105,102]⟩,nm] _ 2 (by simp) rfl rfl (by simp));rw[Dy] at HM
  have Bj:Hid (jq ny ((w.alloc (.cells #[.int .i64 4,.string nm,.int .i64 at0,.slice oa au.length oc,.slice ca code.length cc,.slice aa args.length ac] 60)).alloc (.cells #[.string ⟨#[105,102]⟩,.string nm] 9)) (w.heap.size+1) (.slice (some ⟨w.heap.size+1,0,none⟩) 2 2) ps):=by
   rw[uh HF];exact uh HM
  have HFB:=ak (uh Hz _ ((uh HB0).alloc (by simp) (.cells #[.string ⟨#[105,102]⟩,.string nm] 9)));clear HM;go_enter Tryz.func70,Tryz.ntmps70;go_wp2;go_ret;exact⟨_,_,rfl,uh Bj,uh HFB⟩
 by_cases e5:kd=5
 ·have HF:Hid (ps=[⟨#[101,108,115,101]⟩]):=by
   refine ak ?_;rw[uh HST,bf e1,bf e2,bf e3,bf e4,gy e5];rfl
  clear HST Qb HIT HCP Y1;subst e5;have HM:=ak (Kr (w.alloc (.cells #[.int .i64 5,.string nm,.int .i64 at0,.slice oa au.length oc,.slice ca code.length cc,.slice aa args.length ac] 60)) (w.heap.size+1) [⟨#[101,108,115,101]⟩] _ 1 (by simp) rfl rfl (by simp));rw[Dy] at HM
  have Bj:Hid (jq ny ((w.alloc (.cells #[.int .i64 5,.string nm,.int .i64 at0,.slice oa au.length oc,.slice ca code.length cc,.slice aa args.length ac] 60)).alloc (.cells #[.string ⟨#[101,108,115,101]⟩] 9)) (w.heap.size+1) (.slice (some ⟨w.heap.size+1,0,none⟩) 1 1) ps):=by
   rw[uh HF];exact uh HM
  have HFB:=ak (uh Hz _ ((uh HB0).alloc (by simp) (.cells #[.string ⟨#[101,108,115,101]⟩] 9)));clear HM;go_enter Tryz.func70,Tryz.ntmps70;go_wp2;go_ret;exact⟨_,_,rfl,uh Bj,uh HFB⟩
 have e6:kd=6:=by omega
 have HF:Hid (ps=[⟨#[101,110,100]⟩]):=by
  refine ak ?_;rw[uh HST,bf e1,bf e2,bf e3,bf e4,bf e5];rfl
 clear HST Qb HIT HCP Y1;subst e6;have HM:=ak (Kr (w.alloc (.cells #[.int .i64 6,.string nm,.int .i64 at0,.slice oa au.length oc,.slice ca code.length cc,.slice aa args.length ac] 60)) (w.heap.size+1) [⟨#[101,110,100]⟩] _ 1 (by simp) rfl rfl (by simp));rw[Dy] at HM
 have Bj:Hid (jq ny ((w.alloc (.cells #[.int .i64 6,.string nm,.int .i64 at0,.slice oa au.length oc,.slice ca code.length cc,.slice aa args.length ac] 60)).alloc (.cells #[.string ⟨#[101,110,100]⟩] 9)) (w.heap.size+1) (.slice (some ⟨w.heap.size+1,0,none⟩) 1 1) ps):=by
  rw[uh HF];exact uh HM
 have HFB:=ak (uh Hz _ ((uh HB0).alloc (by simp) (.cells #[.string ⟨#[101,110,100]⟩] 9)));clear HM;go_enter Tryz.func70,Tryz.ntmps70;go_wp2;go_ret;exact⟨_,_,rfl,uh Bj,uh HFB⟩
structure St (w0:cu) (b:Nat) (s:dh) (w:cu):Prop where
 old:Below w0.heap.size w0 w
 bld:Lib.IsBuilderF 73 5 w0.heap.size b (Lib.strCells s) w
abbrev Zd (b:Nat) (w w':cu):Prop:=Lib.OthersKept 5 (some b) w w'
theorem ajx {b:Nat} {w w':cu} (h:Below w.heap.size w w'):Zd b w w':=by
 intro k o hk _ _;rw[h.block k (Kv.1 hk).1];exact hk
theorem aho {B b:Nat} {p:Value} {bs:List Value} {w w':cu} (h:Lib.BuilderAtF 73 5 B b p bs w) (hb:Below w.heap.size w w'):Lib.BuilderAtF 73 5 B b p bs w':=by
 have hk:∀k o,w.heap[k]?=some o->w'.heap[k]?=some o:=fun k o ho=>(hb.block k (Kv.1 ho).1).trans ho
 obtain⟨h1,v,h2,⟨h3,h4⟩,h5⟩:=h;refine⟨h1,v,hk _ _ h2,⟨h3,?_⟩,h5⟩;rcases h4 with h4|⟨g,cap,cur,fz,q1,q2,q3,q4⟩
 ·exact .inl h4
 ·exact .inr ⟨g,cap,cur,fz,q1,q2,hk _ _ q3,q4⟩
theorem St.on {w0 w w':cu} {b:Nat} {s:dh} (h:St w0 b s w) (hb:Below w.heap.size w w'):St w0 b s w' :=
 ⟨h.old.trans (hb.mono h.old.size),h.bld.elim (fun x=>.inl (aho x hb)) (fun x=>.inr (aho x hb))⟩
theorem St.blk {w0 w:cu} {b:Nat} {s:dh} (h:St w0 b s w):∃p v,jd w b 73 #[p,v]:=by
 rcases h.bld with ⟨_,v,h2,_⟩|⟨_,v,h2,_⟩
 ·exact⟨_,v,h2⟩
 ·exact⟨_,v,h2⟩
theorem jd.kept {w0 w w':cu} {b g:Nat} {s:dh} {e:TypeId} {cs:Array Value} (h:jd w g e cs) (hs:St w0 b s w) (hk:Zd b w w') (he:e≠5/\e≠73):jd w' g e cs:=by
 obtain⟨p,v,hb⟩:=hs.blk;refine hk g _ h (fun hgb=>?_) (fun c fz hc=>?_)
 ·obtain rfl:=Gv hgb
  unfold jd at h hb;rw[h] at hb;injection hb with hb;injection hb with _ hb _;exact he.2 hb
 ·injection hc with _ hc _
  exact he.1 hc
theorem jq.at1 {w0 w w':cu} {b base:Nat} {s:dh} {v:Value} {ps:List dh} (h:jq ny w base v ps) (hs:St w0 b s w) (hk:Zd b w w'):jq ny w' base v ps:=by
 obtain⟨h1,h2⟩:=h;refine⟨h1,?_⟩;rcases h2 with h2|⟨g,cap,cur,rfl,hb,hh,r⟩
 ·exact Or.inl h2
 ·have h9:jd w g ny.T cur:=hh
  exact Or.inr ⟨g,cap,cur,rfl,hb,h9.kept hs hk (by decide),r⟩
theorem adz {w0 w:cu} {b:Nat} {s:dh} (t:dh) (h:St w0 b s w) (hlen:s.size+t.size<=140737488355328) :
  Calls Tryz.prog 100 #[.pointer (some ⟨b,0,none⟩),.string t] w fun e w'=>e=.returned (.tuple #[.int .i64 t.size,.nilIface])/\St w0 b (s++t) w'/\Zd b w w':=by
 refine Calls.mono (Any.Builder_WriteString_k Tryz.lays166 Tryz.pmExtra w0.heap.size b (Lib.strCells s) t w h.bld (by rw[Lib.strCells_length];exact hlen) h.old.size) ?_;rintro e w' ⟨rfl,h1,h2,h3⟩;exact⟨rfl,⟨h.old.trans h2,.inr (by rw[Xu];exact h1)⟩,h3⟩
theorem aga {w0 w:cu} {b:Nat} {s:dh} (t:dh) (c:Int) (hc:Lib.strCells t=[.int .u8 c]) (h:St w0 b s w) (hlen:s.size+1<=140737488355328) :
  Calls Tryz.prog 99 #[.pointer (some ⟨b,0,none⟩),.int .u8 c] w fun e w'=>e=.returned .nilIface/\St w0 b (s++t) w'/\Zd b w w':=by
 refine Calls.mono (Any.Builder_WriteByte_k Tryz.lays167 Tryz.pmExtra w0.heap.size b (Lib.strCells s) c w h.bld (by rw[Lib.strCells_length];exact hlen) h.old.size) ?_;rintro e w' ⟨rfl,h1,h2,h3⟩;exact⟨rfl,⟨h.old.trans h2,.inr (by rw[Xu,hc];exact h1)⟩,h3⟩
theorem a4p (ps:List dh) (q:Nat) (h:q<ps.length):Fb Lsp (ps.take (q+1))=Fb Lsp (ps.take q)++((if q=0 then ByteArray.empty else Lsp)++ps[q]):=by
 by_cases e:q=0
 ·subst e
  rw[Eu h,Nj,Gm,Ou,agy,gy rfl,adl,adl]
 ·rw[ahv _ _ _ h (by omega),bf e,Bv]
theorem a88 (ps:List dh) (q:Nat):(Fb Lsp (ps.take q)).size<=wo ps:=by
 have h1:=aow (ps.take q);unfold oq at h1;have h2:wo ps=wo (ps.take q)+wo (ps.drop q):=by rw[←Ez,O8]
 omega
def ano (w0:cu) (b:Nat) (s:dh) (w:cu) (e:Ending) (w':cu):Prop:=e=.returned (.tuple #[])/\St w0 b s w'/\Zd b w w'
theorem Oj (w0:cu) (b base:Nat) (ps:List dh) (v:Value) (w:cu) (s:dh) (hst:St w0 b s w) (ho:jq ny w base v ps) (hs:s.size<=1000000000) (hp:wo ps<=200000000) :
  Calls Tryz.prog 67 #[.pointer (some ⟨b,0,none⟩),v] w (ano w0 b (s++(oq ps++Wnl)) w):=by
 have Ho:Hid (oq ps=Fb Lsp (ps.take ps.length)):=by
  refine ak ?_;rw[Dw];rfl
 have HTK:=ak (a4p ps);have HTZ:=ak (a88 ps);have bde:=ak (akx ps);have hpl:=abm ps;have HST:=ak hst;have HOW:=ak ho;obtain⟨va,vc,rfl⟩:=ho.slice;generalize oq ps=ln at *;clear hst ho;go_enter Tryz.func67,Tryz.ntmps67;go_wp2
 go_loopg [8] ps.length (fun gh ix wr=>∃(q:Nat) (t:dh),q<=ps.length/\gh=ps.length-q/\ix=.int .i64 q/\Hid (t=s++Fb Lsp (ps.take q))/\Hid (St w0 b t wr)/\Hid (Zd b w wr)/\Hid (jq ny wr base (.slice va ps.length vc) ps))
 case atStart=>exact⟨0,s,jg _,by omega,rfl,(by refine ak ?_;rw[Nj,agy,afq]),HST,Lib.OthersKept.refl _ _ _,HOW⟩
 case round =>
  obtain⟨q,t,hq,hg,rfl,HT,HS,HK,HO⟩:=hrel;have HG:=ak hg
  have htz:t.size<=1200000000:=by
   have h1:=uh HTZ q;rw[uh HT,Kz];omega
  clear hg
  by_cases hlt:q<ps.length
  ·have hsl:=bbv (uh HO) hp
   obtain⟨_,_,Dq,_,_,hex⟩:=hsl;simp only[qw] at Dq;obtain⟨rfl,_,rfl⟩:=Dq;obtain⟨pb,po,cs,rfl,_,hb,hcs,hc,⟨rfl,_⟩⟩:=hex q hlt
   have z0:wr.cell? ⟨pb,po+q,none⟩=some (.string ps[q]):=by
    have h0:=hc 0 (by simp);rw[jr,ji] at h0;exact h0
   have hpz:=uh bde ps[q] (o7 hlt);have Kq:(q:Int)<(ps.length:Int):=by omega
   have HTQ:Hid (s++Fb Lsp (ps.take (q+1))=t++((if q=0 then ByteArray.empty else Lsp)++ps[q])):=by
    refine ak ?_;rw[uh HTK q hlt,uh HT,Bv]
   clear hex hc hcs;generalize ps[q]=x at *
   by_cases hq0:q=0
   ·rw[gy hq0,adl] at HTQ
    have f1:decide (0<(q:Int))=false:=iy (by omega);have f2:decide (0<q)=false:=iy (by omega);have HC:=ak (adz x (uh HS) (by omega));have HQ0:=ak hq0;clear hq0;go_wp2_with fail;refine(uh HC).mono ?_;rintro e w2 ⟨rfl,hst2,hk2⟩;have Oh:=ak ((uh HO).at1 (uh HS) hk2);have HS2:=ak hst2;have Rx:=ak ((uh HK).trans hk2);clear hst2 hk2;go_wp2
    go_roundg (ps.length-(q+1))
    case measure=>have:=uh HG;omega
    case rel=>exact⟨q+1,t++x,by omega,rfl,by go_num,ak (uh HTQ).symm,HS2,Rx,Oh⟩
   ·rw[bf hq0] at HTQ
    have f1:decide (0<(q:Int))=true:=jf (by omega);have f2:decide (0<q)=true:=jf (by omega);have HC:=ak (aga Lsp 32 rfl (uh HS) (by omega));have HQ0:=ak hq0;clear hq0;go_wp2_with fail;refine(uh HC).mono ?_;rintro e w2 ⟨rfl,hst2,hk2⟩;have Oh:=ak ((uh HO).at1 (uh HS) hk2);have HS2:=ak hst2;have Rx:=ak ((uh HK).trans hk2);have HC2:=ak (adz x hst2 (by rw[Kz];have:Lsp.size=1:=rfl;omega));clear hst2 hk2;go_wp2_with fail;refine(uh HC2).mono ?_;rintro e w3 ⟨rfl,hst3,hk3⟩;have HO3:=ak ((uh Oh).at1 (uh HS2) hk3);have Vj:=ak hst3;have HK3:=ak ((uh Rx).trans hk3);clear hst3 hk3;go_wp2
    go_roundg (ps.length-(q+1))
    case measure=>have:=uh HG;omega
    case rel=>exact⟨q+1,t++Lsp++x,by omega,rfl,by go_num,(by refine ak ?_;rw[uh HTQ,Bv]),Vj,HK3,HO3⟩
  ·have e:q=ps.length:=by omega
   have HTE:Hid (t++Wnl=s++(ln++Wnl)):=by
    refine ak ?_;rw[uh HT,uh Ho,e,Bv]
   have HC:=ak (aga Wnl 10 rfl (uh HS) (by omega));clear e;go_wp2_with fail;refine(uh HC).mono ?_;rintro e w2 ⟨rfl,hst2,hk2⟩;rw[uh HTE] at hst2;have HS2:=ak hst2;have Rx:=ak ((uh HK).trans hk2);clear hst2 hk2;go_wp2;go_end0;exact⟨rfl,uh HS2,uh Rx⟩
end Go.Proofs.YtfeejeflmcapoaaGreatDoor
