import Derived.Test.YtfeejeflmcapoaaGreatDoorPI2
import Derived.Test.YtfeejeflmcapoaaGreatDoorPS4
import Derived.Test.YtfeejeflmcapoaaGreatDoorMI17
set_option linter.unusedSimpArgs false
set_option linter.unusedVariables false
set_option maxHeartbeats 8000000
namespace Go.Proofs.YtfeejeflmcapoaaGreatDoor
open Go.RowKit
open Go.Shelf
theorem Ym:∀(w:bf) (cs:List Value) (x:dh),wz 0 w cs x->cs=ni.f x:=fun _ _ _ h=>h.1
theorem Kv (w:bf) (base:Nat) (xs:List dh) (cs:Array Value) (n:Nat) (hb:base<=w.heap.size) (hcs:cs=(xs.map Value.string).toArray) (hn:n=xs.length) (hm:xs.length<=1000000):jm ni (w.alloc (.cells cs 9)) base (.slice (some ⟨w.heap.size,0,none⟩) n n) xs:=by
 subst hcs hn
 have hfl:xs.flatMap ni.f=xs.map Value.string:=by
  clear hm
  induction xs with
  | nil=>rfl
  | cons x xs ih=>rw[List.flatMap_cons,ih];rfl
 refine⟨?_,Or.inr ⟨_,_,_,rfl,hb,Deep.blk_alloc_new _ _,gq _,by unfold maxLen;omega,?_,?_⟩⟩
 ·rw[hfl,Ad];show _=_*1;omega
 ·rw[List.size_toArray,Ad];show _=_*1;omega
 ·rw[hfl]
  show ((xs.map Value.string)).take (xs.length*1)=_;rw[jr,Qg (by rw[Ad];exact gq _)]
theorem bcj {w:bf} {base:Nat} {v:Value} {ps:List dh} (h:jm ni w base v ps) (hs:vk ps<=200000000):iy 1 16 wz 0 w v ps :=
 h.at (R:=wz) (fun x hx=>⟨rfl,by have:=ak0 ps x hx;unfold Len;omega⟩) (by have:=abp ps;show _*16<=_;omega)
def aoy (ps:List dh) (w:bf) (e:Ending) (w':bf):Prop:=∃v base,e=.returned v∧jm ni w' base v ps∧Below w.heap.size w w'
theorem a0u (P0:List dh) (Ai:List (List ku)) (q:Nat) (hq:q<=Ai.length):vk (P0++uy Ai q)<=vk (P0++uy Ai Ai.length):=by
 obtain⟨d,hd⟩:=Nat.exists_eq_add_of_le hq
 have:∀d,vk (P0++uy Ai q)<=vk (P0++uy Ai (q+d)):=by
  intro d
  induction d with
  | zero=>exact gq _
  | succ d ih =>
   rw[show q+(d+1)=q+d+1 from by omega,uy];simp only[Fj] at ih ⊢;omega
 rw[hd];exact this d
set_option maxRecDepth 20000 in
theorem aoz (s:lu) (so sc sa:Value) (w:bf) (hE:Env w) (h:anr s) (h1:iy 1 16 wz 0 w so s.ak) (h2:iy 3 32 Gp 0 w sc s.code) (h3:iy 1 24 Io 0 w sa s.args) (hk3:s.kind=3) (hw:vk (xu s)<=200000000) :
  Calls Tryz.prog 103 #[.agg #[.int .i64 s.kind,.string s.name,.int .i64 s.at_,so,sc,sa]] w (aoy (xu s) w):=by
 obtain⟨kd,nm,at0,ak,code,args⟩:=s;simp only at h1 h2 h3;obtain⟨oa,oc,rfl⟩:=h1.shape;obtain⟨ca,cc,rfl⟩:=h2.shape;obtain⟨aa,ac,rfl⟩:=h3.shape;have hat:=h.st.at_;have hkd:=h.st.kind;have hol:=h.ak;have hcd:=h.code;have hal:=h.args;simp only at hat hkd hol hcd hal;have HB0:Hid (Below (w.heap.size+1) (w.alloc (.cells #[.int .i64 kd,.string nm,.int .i64 at0,.slice oa ak.length oc,.slice ca code.length cc,.slice aa args.length ac] 60)) (w.alloc (.cells #[.int .i64 kd,.string nm,.int .i64 at0,.slice oa ak.length oc,.slice ca code.length cc,.slice aa args.length ac] 60))):=gy _ _;have ab3:Hid (Below (w.heap.size+1) (w.alloc (.cells #[.int .i64 kd,.string nm,.int .i64 at0,.slice oa ak.length oc,.slice ca code.length cc,.slice aa args.length ac] 60)) (w.alloc (.cells #[.int .i64 kd,.string nm,.int .i64 at0,.slice oa ak.length oc,.slice ca code.length cc,.slice aa args.length ac] 60)).drew):=(uh HB0).drew;have Ie:Hid (∀w1,Below (w.heap.size+1) (w.alloc (.cells #[.int .i64 kd,.string nm,.int .i64 at0,.slice oa ak.length oc,.slice ca code.length cc,.slice aa args.length ac] 60)) w1->Below w.heap.size w w1):=fun w1 h=>((gy w.heap.size w).alloc (gq _) _).trans (h.mono (Nat.le_succ _))
 have abe:Hid (∀w1,Below (w.heap.size+1) (w.alloc (.cells #[.int .i64 kd,.string nm,.int .i64 at0,.slice oa ak.length oc,.slice ca code.length cc,.slice aa args.length ac] 60)) w1->w1.cell? ⟨w.heap.size,1,none⟩=some (.string nm)∧w1.cell? ⟨w.heap.size,2,none⟩=some (.int .i64 at0)∧w1.cell? ⟨w.heap.size,3,none⟩=some (.slice oa ak.length oc)∧w1.cell? ⟨w.heap.size,4,none⟩=some (.slice ca code.length cc)∧w1.cell? ⟨w.heap.size,5,none⟩=some (.slice aa args.length ac)):=fun w1 H9=>⟨(C9 (B:=0) H9 1).trans rfl,(C9 (B:=0) H9 2).trans rfl,(C9 (B:=0) H9 3).trans rfl,(C9 (B:=0) H9 4).trans rfl,(C9 (B:=0) H9 5).trans rfl⟩
 have Xa:Hid (∀w1,Below (w.heap.size+1) (w.alloc (.cells #[.int .i64 kd,.string nm,.int .i64 at0,.slice oa ak.length oc,.slice ca code.length cc,.slice aa args.length ac] 60)) w1->Env w1):=fun w1 H9=>hE.below (uh Ie _ H9) hE.three
 have HIT:Hid (∀w',Hid (Below (w.heap.size+1) (w.alloc (.cells #[.int .i64 kd,.string nm,.int .i64 at0,.slice oa ak.length oc,.slice ca code.length cc,.slice aa args.length ac] 60)) w')->Calls Tryz.prog 69 #[.int .i64 at0] w' fun e w1=>e=.returned (.string (qm at0))∧Hid (Below (w.heap.size+1) (w.alloc (.cells #[.int .i64 kd,.string nm,.int .i64 at0,.slice oa ak.length oc,.slice ca code.length cc,.slice aa args.length ac] 60)) w1)∧Hid (Below w'.heap.size w' w1)∧w1.cell? ⟨w.heap.size,1,none⟩=some (.string nm)∧w1.cell? ⟨w.heap.size,2,none⟩=some (.int .i64 at0)∧w1.cell? ⟨w.heap.size,3,none⟩=some (.slice oa ak.length oc)∧w1.cell? ⟨w.heap.size,4,none⟩=some (.slice ca code.length cc)∧w1.cell? ⟨w.heap.size,5,none⟩=some (.slice aa args.length ac)):=fun w' hw=>(ad1 at0 hat w' (uh Xa _ (uh hw))).mono (fun e w1 ⟨he,hb⟩=>by
  have H9:=Yn (uh hw) hb;exact⟨he,H9,hb,uh abe _ H9⟩)
 have HCP:Hid (∀w',Hid (Below (w.heap.size+1) (w.alloc (.cells #[.int .i64 kd,.string nm,.int .i64 at0,.slice oa ak.length oc,.slice ca code.length cc,.slice aa args.length ac] 60)) w')->Calls Tryz.prog 102 #[.slice ca code.length cc] w' fun e w1=>∃va vc,e=.returned (.slice va (tu code).length vc)∧Hid (iy 1 16 wz 0 w1 (.slice va (tu code).length vc) (tu code))∧Hid (Below (w.heap.size+1) (w.alloc (.cells #[.int .i64 kd,.string nm,.int .i64 at0,.slice oa ak.length oc,.slice ca code.length cc,.slice aa args.length ac] 60)) w1)∧Hid (Below w'.heap.size w' w1)∧w1.cell? ⟨w.heap.size,1,none⟩=some (.string nm)∧w1.cell? ⟨w.heap.size,2,none⟩=some (.int .i64 at0)∧w1.cell? ⟨w.heap.size,3,none⟩=some (.slice oa ak.length oc)∧w1.cell? ⟨w.heap.size,4,none⟩=some (.slice ca code.length cc)∧w1.cell? ⟨w.heap.size,5,none⟩=some (.slice aa args.length ac)):=fun w' hw=>(ab2 code _ w' (uh Xa _ (uh hw)) (h2.stays Ag (uh Ie _ (uh hw))) hcd).mono (fun e w1 ⟨v,he,hS,hb⟩=>by
  have H9:=Yn (uh hw) hb;obtain⟨va,vc,rfl⟩:=hS.shape;exact⟨va,vc,he,hS,H9,hb,uh abe _ H9⟩)
 have Y3:Hid (∀(w1 w2:bf) (v:Value) (xs:List dh),Below (w.heap.size+1) (w.alloc (.cells #[.int .i64 kd,.string nm,.int .i64 at0,.slice oa ak.length oc,.slice ca code.length cc,.slice aa args.length ac] 60)) w1->jm ni w1 (w.heap.size+1) v xs->w1.grownBy w2 v.ownBlock->Below (w.heap.size+1) (w.alloc (.cells #[.int .i64 kd,.string nm,.int .i64 at0,.slice oa ak.length oc,.slice ca code.length cc,.slice aa args.length ac] 60)) w2):=fun w1 w2 v xs hb ho hg=>ho.grown hb hg (by have:=hb.size;simp at this;omega) (gq _)
 have Ry:Hid (∀w1,Below (w.heap.size+1) (w.alloc (.cells #[.int .i64 kd,.string nm,.int .i64 at0,.slice oa ak.length oc,.slice ca code.length cc,.slice aa args.length ac] 60)) w1->w.heap.size+1<=w1.heap.size):=fun w1 hb=>by have:=hb.size;simpa using this
 have hst:xu ⟨kd,nm,at0,ak,code,args⟩=[Ac,qm at0]++ak++[ou]++uy args args.length:=by
  unfold xu;simp only at hk3 ⊢;rw[ay (by omega),ay (by omega),gu hk3]
 rw[hst] at hw ⊢;have HW:=hide hw;have hz4:=Qo at0 hat;have Ue:=hide (fun w' (hb:Below (w.heap.size+1) (w.alloc (.cells #[.int .i64 kd,.string nm,.int .i64 at0,.slice oa ak.length oc,.slice ca code.length cc,.slice aa args.length ac] 60)) w')=>h1.stays zo (uh Ie _ hb));have H3:=hide h3;have Ba:=hide hal;have bfs:=hol.1;have bdz:=hal.1;have hwl:=abp ([Ac,qm at0]++ak++[ou]++uy args args.length);have HAP:Hid (∀c v w',c∈args->Below (w.heap.size+1) (w.alloc (.cells #[.int .i64 kd,.string nm,.int .i64 at0,.slice oa ak.length oc,.slice ca code.length cc,.slice aa args.length ac] 60)) w'->iy 3 32 Gp 0 w' v c->Calls Tryz.prog 102 #[v] w' (arh (tu c) w')):=fun c v w' hm hb hs=>ab2 c v w' (uh Xa _ hb) hs (hal.2 c hm)
 clear h h1 h2 h3 hcd hol hal hat hst hw HCP hk3 hkd;generalize qm at0=dv at *;go_enter Tryz.func103,Tryz.ntmps103;go_wp2_with fail
 go_region_held3 (fun w'=>w'.cell? ⟨w.heap.size,2,none⟩=some (.int .i64 at0)∧w'.cell? ⟨w.heap.size,3,none⟩=some (.slice oa ak.length oc)) (go_keep) (first|(go_at_call 69;refine(uh HIT _ ab3).mono ?_;rintro e w1 ⟨rfl,HB1,HQ1,k1,k2,k3,k4,k5⟩;have ak1:=hide ((uh HB1).alloc (uh Ry _ (uh HB1)) (.cells #[.string ⟨#[99,97,108,108]⟩,.string dv] 9));have HM:=hide (Kv w1 (w.heap.size+1) [⟨#[99,97,108,108]⟩,dv] _ 2 (uh Ry _ (uh HB1)) rfl rfl (by simp)))|(refine I7 ni Ym _ rfl _ _ rfl (w.heap.size+1) w1.heap.size 2 [⟨#[99,97,108,108]⟩,dv] rfl (uh HM) _ rfl ak (uh Ue _ (uh ak1)) (by show (2+_)*16<=_;omega) (by simp;have:=uh Ry _ (uh HB1);omega) ?_;intro g2 cap2 w2 ho2 hg2;have HB2:=hide (uh Y3 _ _ _ _ (uh ak1) (uh HM) hg2);have Oj:=hide ho2;obtain⟨a1,a2,a3,a4,a5⟩:=uh abe _ (uh HB2);clear ho2 hg2))
 all_goals
  have HB3:=hide ((uh HB2).alloc (uh Ry _ (uh HB2)) (.cells #[.string ⟨#[58]⟩] 9));have hz2:=uh Ry _ (uh HB2);have HO3:=hide ((uh Oj).below ((gy w2.heap.size w2).alloc (gq _) (.cells #[.string ⟨#[58]⟩] 9)))
  have a9w:([⟨#[99,97,108,108]⟩,dv]++ak).length<=2000:=by
   rw[je];simp only[uf,A8];omega
  have a9x:=hide a9w;clear HM ak1 HB1 HQ1 k1 k2 k3 k4 k5 a1 a2 a4 a9w HIT Ue;go_wp2_with (at_builtin;go_must (refine Au ni _ rfl _ _ rfl (w.heap.size+1) _ ([⟨#[99,97,108,108]⟩,dv]++ak) rfl (uh HO3) w2.heap.size ⟨#[58]⟩ rfl (fun j u hu=>by rw[zy _ _ _ _ rfl];simpa[ni] using hu) (by have h9:=uh a9x;show (_+1)*16<=_;omega) (by simp;omega) ?_));intro v4 w4 hown4 a9y;have HB4:=hide (uh Y3 _ _ _ _ (uh HB3) (uh HO3) a9y);obtain⟨P0,hP0⟩:∃P0,P0=⟨#[99,97,108,108]⟩::dv::(ak++[⟨#[58]⟩]):=⟨_,rfl⟩;rw[←hP0] at hown4;have HO4:=hide hown4;have hne0:P0≠[]:=by rw[hP0];simp
  have bd0:=hide hne0;have HP0:=hide hP0
  have HW0:Hid (vk (P0++uy args args.length)<=200000000):=by
   have h8:=uh HW;rw[hP0];exact h8
  obtain⟨k1,k2,k3,k4,k5⟩:=uh abe _ (uh HB4);clear hown4 a9y hP0 hne0 HO3 HB3 Oj HB2 a9x k1 k2 k3 k4 a3 a5 hz2 hwl;go_wp2
  go_loopg [3,19] args.length (fun gh st ix wr=>∃(q:Nat),q<=args.length∧gh=args.length-q∧ix=.int .i64 q∧Hid (jm ni wr (w.heap.size+1) st (P0++uy args q))∧Hid (Below (w.heap.size+1) (w.alloc (.cells #[.int .i64 kd,.string nm,.int .i64 at0,.slice oa ak.length oc,.slice ca code.length cc,.slice aa args.length ac] 60)) wr))
  case atStart=>exact⟨0,jg _,by omega,rfl,(by rw[uy,Az];exact HO4),HB4⟩
  case round =>
   obtain⟨q,hq,hg,rfl,HOW,Bl⟩:=hrel;have HG:=hide hg;clear hg k5;have hws:=uh Ry _ (uh Bl)
   by_cases hlt:q<args.length
   ·obtain⟨_,_,D6,_,_,hex⟩:=uh H3
    simp only[qw] at D6;obtain⟨rfl,_,rfl⟩:=D6;obtain⟨b,o,cs,rfl,_,hb,hcs,hc,⟨vq,rfl,hvq⟩⟩:=hex q hlt;have hbw:=uh Ie _ (uh Bl)
    have z0:wr.cell? ⟨b,o+q,none⟩=some vq:=by
     have h0:=hc 0 (by simp);rw[jr,jh] at h0;rw[hbw.cell (p:=⟨b,_,none⟩) hb];exact h0
    have Rt:=hide hvq
    have HT:Hid (P0++uy args (q+1)=P0++uy args q++(if q=0 then [] else [Cb])++tu args[q]):=by
     refine hide ?_;rw[uy];have h2:args.getD q []=args[q]:=by rw[yw,jy hlt];rfl
     rw[h2,Gt,Gt,Gt]
    have Ci:Hid ((P0++uy args q).length<=200000000∧(tu args[q]).length<=6000):=by
     refine hide ⟨?_,?_⟩
     ·have h8:=a0u P0 args q hq
      have h9:=abp (P0++uy args q);have:=uh HW0;omega
     ·rw[V3]
      exact((uh Ba).2 _ (pz hlt)).len
    have HNQ:Hid (P0++uy args q≠[]):=by
     refine hide ?_;intro h9;exact uh bd0 (List.append_eq_nil_iff.1 h9).1
    have Yf:=hide (uh HAP args[q] vq · (pz hlt));have Ku:(q:Int)<(args.length:Int):=by omega
    clear hc hcs hvq hbw hex;generalize tu args[q]=cp at *;generalize args[q]=arg at *;generalize P0++uy args q=pre at *
    by_cases hq0:q=0
    ·rw[gu hq0,Az] at HT
     have f1:decide (0<(q:Int))=false:=iw (by omega);have f2:decide (0<q)=false:=iw (by omega);have HCB:=hide (uh Yf wr (uh Bl) ((uh Rt).stays Ag (uh Ie _ (uh Bl))))
     obtain⟨g,cap,rfl,hog⟩:∃g cap,u3=.slice (some ⟨g,0,none⟩) pre.length cap∧True:=by
      rcases (uh HOW).shape with ⟨_,h9⟩|⟨g,cap,h9,_⟩
      ·exact absurd h9 (uh HNQ)
      ·exact⟨g,cap,h9,trivial⟩
     have HPN:=hide hq0;clear hq0 hog;go_wp2_with fail;refine(uh HCB).mono ?_;rintro e w5 ⟨v5,rfl,hS5,hb5⟩;have HS5:=hide hS5;have HO5:=hide ((uh HOW).below hb5);have Hf:=hide ((uh Bl).trans (hb5.mono hws));obtain⟨v5a,v5c,rfl⟩:=hS5.shape;have O6:=uh Ry _ (uh Hf);clear hS5 hb5;go_wp2_with (at_builtin;go_must (refine aa6 ni Ym _ rfl _ _ rfl (w.heap.size+1) g cap pre rfl (uh HO5) _ rfl cp (uh HS5) (by have h9:=uh Ci;show (_+_)*16<=_;omega) O6 ?_));intro g6 cap6 w6 hown6 ao0;have Wx:=hide (uh Y3 _ _ _ _ (uh Hf) (uh HO5) ao0);rw[←uh HT] at hown6;have HO6:=hide hown6;clear hown6 ao0;go_wp2
     go_roundg (args.length-(q+1))
     case measure=>have:=uh HG;omega
     case rel=>exact⟨q+1,by omega,rfl,by go_num,HO6,Wx⟩
    ·rw[ay hq0] at HT
     have f1:decide (0<(q:Int))=true:=jf (by omega);have f2:decide (0<q)=true:=jf (by omega);have O4:=(gy wr.heap.size wr).alloc (gq _) (.cells #[.string ⟨#[44]⟩] 9);have HOA:=hide ((uh HOW).below O4);have Wy:=hide ((uh Bl).trans (O4.mono hws));clear O4;go_wp2_with (at_builtin;go_must (refine Au ni _ rfl _ _ rfl (w.heap.size+1) _ pre rfl (uh HOA) wr.heap.size ⟨#[44]⟩ rfl (fun j u hu=>by rw[zy _ _ _ _ rfl];simpa[ni] using hu) (by have h9:=uh Ci;show (_+1)*16<=_;omega) (by simp;omega) ?_));intro v7 w7 J9 Ti;have Zp:=hide (uh Y3 _ _ _ _ (uh Wy) (uh HOA) Ti);have Xh:=hide J9;have hz7:=uh Ry _ (uh Zp);have HCB:=hide (uh Yf w7 (uh Zp) ((uh Rt).stays Ag (uh Ie _ (uh Zp))))
     obtain⟨g,cap,rfl,hog⟩:∃g cap,v7=.slice (some ⟨g,0,none⟩) (pre++[(⟨#[44]⟩:dh)]).length cap∧True:=by
      rcases (uh Xh).shape with ⟨_,h9⟩|⟨g,cap,h9,_⟩
      ·exact absurd h9 (by simp)
      ·exact⟨g,cap,h9,trivial⟩
     obtain⟨pre2,hp2⟩:∃p2:List dh,p2=pre++[(⟨#[44]⟩:dh)]:=⟨_,rfl⟩
     have hT2:P0++uy args (q+1)=pre2++cp:=by
      rw[uh HT,hp2];rfl
     have hl2:pre2.length<=200000001:=by
      have h9:=uh Ci;rw[hp2,je];simp only[uf,A8];omega
     rw[←hp2] at Xh ⊢;have HT2:=hide hT2;have HL2:=hide hl2;have HQ0:=hide hq0;clear J9 Ti hog hp2 hT2 hl2 hq0;go_wp2_with fail;refine(uh HCB).mono ?_;rintro e w5 ⟨v5,rfl,hS5,hb5⟩;have HS5:=hide hS5;have HO5:=hide ((uh Xh).below hb5);have Hf:=hide ((uh Zp).trans (hb5.mono hz7));obtain⟨v5a,v5c,rfl⟩:=hS5.shape;have O6:=uh Ry _ (uh Hf);clear hS5 hb5;go_wp2_with (at_builtin;go_must (refine aa6 ni Ym _ rfl _ _ rfl (w.heap.size+1) g cap pre2 rfl (uh HO5) _ rfl cp (uh HS5) (by have h9:=uh Ci;have h8:=uh HL2;show (_+_)*16<=_;omega) O6 ?_));intro g6 cap6 w6 hown6 ao0;have Wx:=hide (uh Y3 _ _ _ _ (uh Hf) (uh HO5) ao0);rw[←uh HT2] at hown6;have HO6:=hide hown6;clear hown6 ao0;go_wp2
     go_roundg (args.length-(q+1))
     case measure=>have:=uh HG;omega
     case rel=>exact⟨q+1,by omega,rfl,by go_num,HO6,Wx⟩
   ·have e:q=args.length:=by omega
    have HF:Hid (jm ni wr (w.heap.size+1) u3 ([Ac,dv]++ak++[ou]++uy args args.length)):=by
     have h8:=uh HOW;rw[e,uh HP0] at h8;exact h8
    have HFB:=hide (uh Ie _ (uh Bl));clear e;go_wp2;go_ret;exact⟨_,_,rfl,uh HF,uh HFB⟩
set_option maxRecDepth 20000 in
theorem aqg (s:lu) (so sc sa:Value) (w:bf) (hE:Env w) (h:anr s) (h1:iy 1 16 wz 0 w so s.ak) (h2:iy 3 32 Gp 0 w sc s.code) (h3:iy 1 24 Io 0 w sa s.args) (hw:vk (xu s)<=200000000) :
  Calls Tryz.prog 70 #[.agg #[.int .i64 s.kind,.string s.name,.int .i64 s.at_,so,sc,sa]] w (aoy (xu s) w):=by
 obtain⟨kd,nm,at0,ak,code,args⟩:=s;simp only at h1 h2 h3;obtain⟨oa,oc,rfl⟩:=h1.shape;obtain⟨ca,cc,rfl⟩:=h2.shape;obtain⟨aa,ac,rfl⟩:=h3.shape;have hat:=h.st.at_;have hkd:=h.st.kind;have hol:=h.ak;have hcd:=h.code;have hal:=h.args;simp only at hat hkd hol hcd hal;have HB0:Hid (Below (w.heap.size+1) (w.alloc (.cells #[.int .i64 kd,.string nm,.int .i64 at0,.slice oa ak.length oc,.slice ca code.length cc,.slice aa args.length ac] 60)) (w.alloc (.cells #[.int .i64 kd,.string nm,.int .i64 at0,.slice oa ak.length oc,.slice ca code.length cc,.slice aa args.length ac] 60))):=gy _ _;have ab3:Hid (Below (w.heap.size+1) (w.alloc (.cells #[.int .i64 kd,.string nm,.int .i64 at0,.slice oa ak.length oc,.slice ca code.length cc,.slice aa args.length ac] 60)) (w.alloc (.cells #[.int .i64 kd,.string nm,.int .i64 at0,.slice oa ak.length oc,.slice ca code.length cc,.slice aa args.length ac] 60)).drew):=(uh HB0).drew;have Ie:Hid (∀w1,Below (w.heap.size+1) (w.alloc (.cells #[.int .i64 kd,.string nm,.int .i64 at0,.slice oa ak.length oc,.slice ca code.length cc,.slice aa args.length ac] 60)) w1->Below w.heap.size w w1):=fun w1 h=>((gy w.heap.size w).alloc (gq _) _).trans (h.mono (Nat.le_succ _))
 have abe:Hid (∀w1,Below (w.heap.size+1) (w.alloc (.cells #[.int .i64 kd,.string nm,.int .i64 at0,.slice oa ak.length oc,.slice ca code.length cc,.slice aa args.length ac] 60)) w1->w1.cell? ⟨w.heap.size,1,none⟩=some (.string nm)∧w1.cell? ⟨w.heap.size,2,none⟩=some (.int .i64 at0)∧w1.cell? ⟨w.heap.size,3,none⟩=some (.slice oa ak.length oc)∧w1.cell? ⟨w.heap.size,4,none⟩=some (.slice ca code.length cc)∧w1.cell? ⟨w.heap.size,5,none⟩=some (.slice aa args.length ac)):=fun w1 H9=>⟨(C9 (B:=0) H9 1).trans rfl,(C9 (B:=0) H9 2).trans rfl,(C9 (B:=0) H9 3).trans rfl,(C9 (B:=0) H9 4).trans rfl,(C9 (B:=0) H9 5).trans rfl⟩
 have Xa:Hid (∀w1,Below (w.heap.size+1) (w.alloc (.cells #[.int .i64 kd,.string nm,.int .i64 at0,.slice oa ak.length oc,.slice ca code.length cc,.slice aa args.length ac] 60)) w1->Env w1):=fun w1 H9=>hE.below (uh Ie _ H9) hE.three
 have HIT:Hid (∀w',Hid (Below (w.heap.size+1) (w.alloc (.cells #[.int .i64 kd,.string nm,.int .i64 at0,.slice oa ak.length oc,.slice ca code.length cc,.slice aa args.length ac] 60)) w')->Calls Tryz.prog 69 #[.int .i64 at0] w' fun e w1=>e=.returned (.string (qm at0))∧Hid (Below (w.heap.size+1) (w.alloc (.cells #[.int .i64 kd,.string nm,.int .i64 at0,.slice oa ak.length oc,.slice ca code.length cc,.slice aa args.length ac] 60)) w1)∧Hid (Below w'.heap.size w' w1)∧w1.cell? ⟨w.heap.size,1,none⟩=some (.string nm)∧w1.cell? ⟨w.heap.size,2,none⟩=some (.int .i64 at0)∧w1.cell? ⟨w.heap.size,3,none⟩=some (.slice oa ak.length oc)∧w1.cell? ⟨w.heap.size,4,none⟩=some (.slice ca code.length cc)∧w1.cell? ⟨w.heap.size,5,none⟩=some (.slice aa args.length ac)):=fun w' hw=>(ad1 at0 hat w' (uh Xa _ (uh hw))).mono (fun e w1 ⟨he,hb⟩=>by
  have H9:=Yn (uh hw) hb;exact⟨he,H9,hb,uh abe _ H9⟩)
 have HCP:Hid (∀w',Hid (Below (w.heap.size+1) (w.alloc (.cells #[.int .i64 kd,.string nm,.int .i64 at0,.slice oa ak.length oc,.slice ca code.length cc,.slice aa args.length ac] 60)) w')->Calls Tryz.prog 102 #[.slice ca code.length cc] w' fun e w1=>∃va vc,e=.returned (.slice va (tu code).length vc)∧Hid (iy 1 16 wz 0 w1 (.slice va (tu code).length vc) (tu code))∧Hid (Below (w.heap.size+1) (w.alloc (.cells #[.int .i64 kd,.string nm,.int .i64 at0,.slice oa ak.length oc,.slice ca code.length cc,.slice aa args.length ac] 60)) w1)∧Hid (Below w'.heap.size w' w1)∧w1.cell? ⟨w.heap.size,1,none⟩=some (.string nm)∧w1.cell? ⟨w.heap.size,2,none⟩=some (.int .i64 at0)∧w1.cell? ⟨w.heap.size,3,none⟩=some (.slice oa ak.length oc)∧w1.cell? ⟨w.heap.size,4,none⟩=some (.slice ca code.length cc)∧w1.cell? ⟨w.heap.size,5,none⟩=some (.slice aa args.length ac)):=fun w' hw=>(ab2 code _ w' (uh Xa _ (uh hw)) (h2.stays Ag (uh Ie _ (uh hw))) hcd).mono (fun e w1 ⟨v,he,hS,hb⟩=>by
  have H9:=Yn (uh hw) hb;obtain⟨va,vc,rfl⟩:=hS.shape;exact⟨va,vc,he,hS,H9,hb,uh abe _ H9⟩)
 have Y3:Hid (∀(w1 w2:bf) (v:Value) (xs:List dh),Below (w.heap.size+1) (w.alloc (.cells #[.int .i64 kd,.string nm,.int .i64 at0,.slice oa ak.length oc,.slice ca code.length cc,.slice aa args.length ac] 60)) w1->jm ni w1 (w.heap.size+1) v xs->w1.grownBy w2 v.ownBlock->Below (w.heap.size+1) (w.alloc (.cells #[.int .i64 kd,.string nm,.int .i64 at0,.slice oa ak.length oc,.slice ca code.length cc,.slice aa args.length ac] 60)) w2):=fun w1 w2 v xs hb ho hg=>ho.grown hb hg (by have:=hb.size;simp at this;omega) (gq _)
 have Ry:Hid (∀w1,Below (w.heap.size+1) (w.alloc (.cells #[.int .i64 kd,.string nm,.int .i64 at0,.slice oa ak.length oc,.slice ca code.length cc,.slice aa args.length ac] 60)) w1->w.heap.size+1<=w1.heap.size):=fun w1 hb=>by have:=hb.size;simpa using this
 have HST:Hid (xu ⟨kd,nm,at0,ak,code,args⟩=if kd=1 then [Jf,nm,ou]++tu code else if kd=2 then [F8,qm at0,ou]++tu code else if kd=3 then [Ac,qm at0]++ak++[ou]++uy args args.length else if kd=4 then [Qn,nm] else if kd=5 then [Cj] else [Fz]):=rfl;have HW:=hide hw;have hz4:=Qo at0 hat;have Qj:Hid (kd=3->Calls Tryz.prog 103 #[.agg #[.int .i64 kd,.string nm,.int .i64 at0,.slice oa ak.length oc,.slice ca code.length cc,.slice aa args.length ac]] (w.alloc (.cells #[.int .i64 kd,.string nm,.int .i64 at0,.slice oa ak.length oc,.slice ca code.length cc,.slice aa args.length ac] 60)) (aoy (xu ⟨kd,nm,at0,ak,code,args⟩) (w.alloc (.cells #[.int .i64 kd,.string nm,.int .i64 at0,.slice oa ak.length oc,.slice ca code.length cc,.slice aa args.length ac] 60)))):=fun e3=>aoz ⟨kd,nm,at0,ak,code,args⟩ _ _ _ _ (uh Xa _ (uh HB0)) h (h1.stays zo (uh Ie _ (uh HB0))) (h2.stays Ag (uh Ie _ (uh HB0))) (h3.stays I9 (uh Ie _ (uh HB0))) e3 hw
 have Bj:Hid ((tu code).length<=6000):=by
  refine hide ?_;rw[V3];exact hcd.len
 have hnm:=h.nm;simp only at hnm;clear h h1 h2 h3 hcd hol hal hat hw;generalize xu ⟨kd,nm,at0,ak,code,args⟩=ps at *;generalize qm at0=dv at *;generalize tu code=cp at *
 by_cases e1:kd=1
 ·have HF:Hid (ps=[⟨#[115,101,116]⟩,nm,⟨#[58]⟩]++cp):=by
   refine hide ?_;rw[uh HST,gu e1];rfl
  clear HST Qj HIT;subst e1;have HMA:=hide (Kv (w.alloc (.cells #[.int .i64 1,.string nm,.int .i64 at0,.slice oa ak.length oc,.slice ca code.length cc,.slice aa args.length ac] 60)) (w.heap.size+1) [⟨#[115,101,116]⟩,nm,⟨#[58]⟩] _ 3 (by simp) rfl rfl (by simp));have Wy:Hid (Below (w.heap.size+1) (w.alloc (.cells #[.int .i64 1,.string nm,.int .i64 at0,.slice oa ak.length oc,.slice ca code.length cc,.slice aa args.length ac] 60)) ((w.alloc (.cells #[.int .i64 1,.string nm,.int .i64 at0,.slice oa ak.length oc,.slice ca code.length cc,.slice aa args.length ac] 60)).alloc (.cells #[.string ⟨#[115,101,116]⟩,.string nm,.string ⟨#[58]⟩] 9)).drew):=((uh HB0).alloc (by simp) _).drew;rw[Ed] at HMA;go_enter Tryz.func70,Tryz.ntmps70;go_wp2_with fail
  go_region_held3 (fun w'=>w'.cell? ⟨w.heap.size,1,none⟩=some (.string nm)∧w'.cell? ⟨w.heap.size,4,none⟩=some (.slice ca code.length cc)) (go_keep) (first|(go_at_call 102;refine(uh HCP _ (by first|exact ab3|exact Wy)).mono ?_;rintro e w1 ⟨va,vc,rfl,Uf,HB1,HQ1,k1,k2,k3,k4,k5⟩;have HM:=hide (Kv w1 (w.heap.size+1) [⟨#[115,101,116]⟩,nm,⟨#[58]⟩] _ 3 (uh Ry _ (uh HB1)) rfl rfl (by simp));have ak1:=hide ((uh HB1).alloc (uh Ry _ (uh HB1)) (.cells #[.string ⟨#[115,101,116]⟩,.string nm,.string ⟨#[58]⟩] 9)))|(refine I7 ni Ym _ rfl _ _ rfl (w.heap.size+1) (w.heap.size+1) 3 [⟨#[115,101,116]⟩,nm,⟨#[58]⟩] rfl (((uh HMA).below (gy _ _).drew).below (uh HQ1)) _ rfl cp (uh Uf) (by have:=uh Bj;show (3+_)*16<=_;omega) (uh Ry _ (uh HB1)) ?_;intro g2 cap2 w2 ho2 hg2;have HB2:=hide (uh Y3 _ _ _ _ (uh HB1) (((uh HMA).below (gy _ _).drew).below (uh HQ1)) hg2);have Oj:=hide ho2;obtain⟨a1,a2,a3,a4,a5⟩:=uh abe _ (uh HB2);clear ho2 hg2)|(refine I7 ni Ym _ rfl _ _ rfl (w.heap.size+1) w1.heap.size 3 [⟨#[115,101,116]⟩,nm,⟨#[58]⟩] rfl (uh HM) _ rfl cp ((uh Uf).stays zo ((gy _ _).alloc (gq _) _)) (by have:=uh Bj;show (3+_)*16<=_;omega) (uh Ry _ (uh ak1)) ?_;intro g2 cap2 w2 ho2 hg2;have HB2:=hide (uh Y3 _ _ _ _ (uh ak1) (uh HM) hg2);have Oj:=hide ho2;obtain⟨a1,a2,a3,a4,a5⟩:=uh abe _ (uh HB2);clear ho2 hg2))
  all_goals
   have Af:Hid (jm ni w2 (w.heap.size+1) (.slice (some ⟨g2,0,none⟩) ([⟨#[115,101,116]⟩,nm,⟨#[58]⟩].length+cp.length) cap2) ps):=by
    rw[uh HF];exact uh Oj
   have HFB:=hide (uh Ie _ (uh HB2));go_wp2;go_ret;exact⟨_,_,rfl,uh Af,uh HFB⟩
 by_cases e2:kd=2
 ·have HF:Hid (ps=[⟨#[115,97,118,101]⟩,dv,⟨#[58]⟩]++cp):=by
   refine hide ?_;rw[uh HST,ay e1,gu e2];rfl
  clear HST Qj;subst e2;go_enter Tryz.func70,Tryz.ntmps70;go_wp2_with fail
  go_region_held3 (fun w'=>w'.cell? ⟨w.heap.size,2,none⟩=some (.int .i64 at0)∧w'.cell? ⟨w.heap.size,4,none⟩=some (.slice ca code.length cc)) (go_keep) (first|(go_at_call 69;refine(uh HIT _ (by first|exact HBc|exact ab3)).mono ?_;rintro e wi ⟨rfl,HBi,HQi,j1,j2,j3,j4,j5⟩;have HMi:=hide (Kv wi (w.heap.size+1) [⟨#[115,97,118,101]⟩,dv,⟨#[58]⟩] _ 3 (uh Ry _ (uh HBi)) rfl rfl (by simp));have a0v:=hide ((uh HBi).alloc (uh Ry _ (uh HBi)) (.cells #[.string ⟨#[115,97,118,101]⟩,.string dv,.string ⟨#[58]⟩] 9)))|(go_at_call 102;refine(uh HCP _ (by first|exact a0v|exact HBi|exact ab3)).mono ?_;rintro e wc ⟨va,vc,rfl,HSc,HBc,HQc,k1,k2,k3,k4,k5⟩;have HMc:=hide (Kv wc (w.heap.size+1) [⟨#[115,97,118,101]⟩,dv,⟨#[58]⟩] _ 3 (uh Ry _ (uh HBc)) rfl rfl (by simp));have a9z:=hide ((uh HBc).alloc (uh Ry _ (uh HBc)) (.cells #[.string ⟨#[115,97,118,101]⟩,.string dv,.string ⟨#[58]⟩] 9)))|(refine I7 ni Ym _ rfl _ _ rfl (w.heap.size+1) wi.heap.size 3 [⟨#[115,97,118,101]⟩,dv,⟨#[58]⟩] rfl ((uh HMi).below (uh HQc)) _ rfl cp (uh HSc) (by have:=uh Bj;show (3+_)*16<=_;omega) (uh Ry _ (uh HBc)) ?_;intro g2 cap2 w2 ho2 hg2;have HB2:=hide (uh Y3 _ _ _ _ (uh HBc) ((uh HMi).below (uh HQc)) hg2);have Oj:=hide ho2;obtain⟨a1,a2,a3,a4,a5⟩:=uh abe _ (uh HB2);clear ho2 hg2)|(refine I7 ni Ym _ rfl _ _ rfl (w.heap.size+1) wc.heap.size 3 [⟨#[115,97,118,101]⟩,dv,⟨#[58]⟩] rfl (uh HMc) _ rfl cp ((uh HSc).stays zo ((gy _ _).alloc (gq _) _)) (by have:=uh Bj;show (3+_)*16<=_;omega) (uh Ry _ (uh a9z)) ?_;intro g2 cap2 w2 ho2 hg2;have HB2:=hide (uh Y3 _ _ _ _ (uh a9z) (uh HMc) hg2);have Oj:=hide ho2;obtain⟨a1,a2,a3,a4,a5⟩:=uh abe _ (uh HB2);clear ho2 hg2)|(refine I7 ni Ym _ rfl _ _ rfl (w.heap.size+1) wi.heap.size 3 [⟨#[115,97,118,101]⟩,dv,⟨#[58]⟩] rfl (uh HMi) _ rfl cp (((uh HSc).stays zo (uh HQi)).stays zo ((gy _ _).alloc (gq _) _)) (by have:=uh Bj;show (3+_)*16<=_;omega) (uh Ry _ (uh a0v)) ?_;intro g2 cap2 w2 ho2 hg2;have HB2:=hide (uh Y3 _ _ _ _ (uh a0v) (uh HMi) hg2);have Oj:=hide ho2;obtain⟨a1,a2,a3,a4,a5⟩:=uh abe _ (uh HB2);clear ho2 hg2))
  all_goals
   have Af:Hid (jm ni w2 (w.heap.size+1) (.slice (some ⟨g2,0,none⟩) ([⟨#[115,97,118,101]⟩,dv,⟨#[58]⟩].length+cp.length) cap2) ps):=by
    rw[uh HF];exact uh Oj
   have HFB:=hide (uh Ie _ (uh HB2));go_wp2;go_ret;exact⟨_,_,rfl,uh Af,uh HFB⟩
 by_cases e3:kd=3
 ·have HC:=hide (uh Qj e3)
  clear Qj HST HIT HCP Y3 e1 e2 hkd;subst e3;go_enter Tryz.func70,Tryz.ntmps70;go_wp2_with fail;refine(uh HC).mono ?_;rintro e w1 ⟨v1,ba1,rfl,hS1,hb1⟩;have Uf:=hide hS1;have HFB:=hide (uh Ie _ (ajf hb1));clear hS1 hb1;go_wp2;go_ret;exact⟨_,_,rfl,uh Uf,uh HFB⟩
 by_cases e4:kd=4
 ·have HF:Hid (ps=[⟨#[105,102]⟩,nm]):=by
   refine hide ?_;rw[uh HST,ay e1,ay e2,ay e3,gu e4];rfl
  clear HST Qj HIT HCP Y3;subst e4;have HM:=hide (Kv (w.alloc (.cells #[.int .i64 4,.string nm,.int .i64 at0,.slice oa ak.length oc,.slice ca code.length cc,.slice aa args.length ac] 60)) (w.heap.size+1) [⟨#[105,102]⟩,nm] _ 2 (by simp) rfl rfl (by simp));rw[Ed] at HM
  have Af:Hid (jm ni ((w.alloc (.cells #[.int .i64 4,.string nm,.int .i64 at0,.slice oa ak.length oc,.slice ca code.length cc,.slice aa args.length ac] 60)).alloc (.cells #[.string ⟨#[105,102]⟩,.string nm] 9)) (w.heap.size+1) (.slice (some ⟨w.heap.size+1,0,none⟩) 2 2) ps):=by
   rw[uh HF];exact uh HM
  have HFB:=hide (uh Ie _ ((uh HB0).alloc (by simp) (.cells #[.string ⟨#[105,102]⟩,.string nm] 9)));clear HM;go_enter Tryz.func70,Tryz.ntmps70;go_wp2;go_ret;exact⟨_,_,rfl,uh Af,uh HFB⟩
 by_cases e5:kd=5
 ·have HF:Hid (ps=[⟨#[101,108,115,101]⟩]):=by
   refine hide ?_;rw[uh HST,ay e1,ay e2,ay e3,ay e4,gu e5];rfl
  clear HST Qj HIT HCP Y3;subst e5;have HM:=hide (Kv (w.alloc (.cells #[.int .i64 5,.string nm,.int .i64 at0,.slice oa ak.length oc,.slice ca code.length cc,.slice aa args.length ac] 60)) (w.heap.size+1) [⟨#[101,108,115,101]⟩] _ 1 (by simp) rfl rfl (by simp));rw[Ed] at HM
  have Af:Hid (jm ni ((w.alloc (.cells #[.int .i64 5,.string nm,.int .i64 at0,.slice oa ak.length oc,.slice ca code.length cc,.slice aa args.length ac] 60)).alloc (.cells #[.string ⟨#[101,108,115,101]⟩] 9)) (w.heap.size+1) (.slice (some ⟨w.heap.size+1,0,none⟩) 1 1) ps):=by
   rw[uh HF];exact uh HM
  have HFB:=hide (uh Ie _ ((uh HB0).alloc (by simp) (.cells #[.string ⟨#[101,108,115,101]⟩] 9)));clear HM;go_enter Tryz.func70,Tryz.ntmps70;go_wp2;go_ret;exact⟨_,_,rfl,uh Af,uh HFB⟩
 have e6:kd=6:=by omega
 have HF:Hid (ps=[⟨#[101,110,100]⟩]):=by
  refine hide ?_;rw[uh HST,ay e1,ay e2,ay e3,ay e4,ay e5];rfl
 clear HST Qj HIT HCP Y3;subst e6;have HM:=hide (Kv (w.alloc (.cells #[.int .i64 6,.string nm,.int .i64 at0,.slice oa ak.length oc,.slice ca code.length cc,.slice aa args.length ac] 60)) (w.heap.size+1) [⟨#[101,110,100]⟩] _ 1 (by simp) rfl rfl (by simp));rw[Ed] at HM
 have Af:Hid (jm ni ((w.alloc (.cells #[.int .i64 6,.string nm,.int .i64 at0,.slice oa ak.length oc,.slice ca code.length cc,.slice aa args.length ac] 60)).alloc (.cells #[.string ⟨#[101,110,100]⟩] 9)) (w.heap.size+1) (.slice (some ⟨w.heap.size+1,0,none⟩) 1 1) ps):=by
  rw[uh HF];exact uh HM
 have HFB:=hide (uh Ie _ ((uh HB0).alloc (by simp) (.cells #[.string ⟨#[101,110,100]⟩] 9)));clear HM;go_enter Tryz.func70,Tryz.ntmps70;go_wp2;go_ret;exact⟨_,_,rfl,uh Af,uh HFB⟩
structure St (w0:bf) (b:Nat) (s:dh) (w:bf):Prop where
 old:Below w0.heap.size w0 w
 bld:Lib.IsBuilderF 73 5 w0.heap.size b (Lib.strCells s) w
abbrev Zg (b:Nat) (w w':bf):Prop:=Lib.OthersKept 5 (some b) w w'
theorem aj1 {b:Nat} {w w':bf} (h:Below w.heap.size w w'):Zg b w w':=by
 intro k o hk _ _;rw[h.block k (Jk.1 hk).1];exact hk
theorem ahq {B b:Nat} {p:Value} {bs:List Value} {w w':bf} (h:Lib.BuilderAtF 73 5 B b p bs w) (hb:Below w.heap.size w w'):Lib.BuilderAtF 73 5 B b p bs w':=by
 have hk:∀k o,w.heap[k]?=some o->w'.heap[k]?=some o:=fun k o ho=>(hb.block k (Jk.1 ho).1).trans ho
 obtain⟨h1,v,h2,⟨h3,h4⟩,h5⟩:=h;refine⟨h1,v,hk _ _ h2,⟨h3,?_⟩,h5⟩;rcases h4 with h4|⟨g,cap,cur,fz,q1,q2,q3,q4⟩
 ·exact .inl h4
 ·exact .inr ⟨g,cap,cur,fz,q1,q2,hk _ _ q3,q4⟩
theorem St.on {w0 w w':bf} {b:Nat} {s:dh} (h:St w0 b s w) (hb:Below w.heap.size w w'):St w0 b s w' :=
 ⟨h.old.trans (hb.mono h.old.size),h.bld.elim (fun x=>.inl (ahq x hb)) (fun x=>.inr (ahq x hb))⟩
theorem St.blk {w0 w:bf} {b:Nat} {s:dh} (h:St w0 b s w):∃p v,jc w b 73 #[p,v]:=by
 rcases h.bld with ⟨_,v,h2,_⟩|⟨_,v,h2,_⟩
 ·exact⟨_,v,h2⟩
 ·exact⟨_,v,h2⟩
theorem jc.kept {w0 w w':bf} {b g:Nat} {s:dh} {e:TypeId} {cs:Array Value} (h:jc w g e cs) (hs:St w0 b s w) (hk:Zg b w w') (he:e≠5∧e≠73):jc w' g e cs:=by
 obtain⟨p,v,hb⟩:=hs.blk;refine hk g _ h (fun hgb=>?_) (fun c fz hc=>?_)
 ·obtain rfl:=G9 hgb
  unfold jc at h hb;rw[h] at hb;injection hb with hb;injection hb with _ hb _;exact he.2 hb
 ·injection hc with _ hc _
  exact he.1 hc
theorem jm.aua {w0 w w':bf} {b base:Nat} {s:dh} {v:Value} {ps:List dh} (h:jm ni w base v ps) (hs:St w0 b s w) (hk:Zg b w w'):jm ni w' base v ps:=by
 obtain⟨h1,h2⟩:=h;refine⟨h1,?_⟩;rcases h2 with h2|⟨g,cap,cur,rfl,hb,hh,r⟩
 ·exact Or.inl h2
 ·have h9:jc w g ni.T cur:=hh
  exact Or.inr ⟨g,cap,cur,rfl,hb,h9.kept hs hk (by decide),r⟩
theorem ad2 {w0 w:bf} {b:Nat} {s:dh} (t:dh) (h:St w0 b s w) (hlen:s.size+t.size<=140737488355328) :
  Calls Tryz.prog 100 #[.pointer (some ⟨b,0,none⟩),.string t] w fun e w'=>e=.returned (.tuple #[.int .i64 t.size,.nilIface])∧St w0 b (s++t) w'∧Zg b w w':=by
 refine Calls.mono (Any.Builder_WriteString_k Tryz.lays166 Tryz.pmExtra w0.heap.size b (Lib.strCells s) t w h.bld (by rw[Lib.strCells_length];exact hlen) h.old.size) ?_;rintro e w' ⟨rfl,h1,h2,h3⟩;exact⟨rfl,⟨h.old.trans h2,.inr (by rw[Xz];exact h1)⟩,h3⟩
theorem agc {w0 w:bf} {b:Nat} {s:dh} (t:dh) (c:Int) (hc:Lib.strCells t=[.int .u8 c]) (h:St w0 b s w) (hlen:s.size+1<=140737488355328) :
  Calls Tryz.prog 99 #[.pointer (some ⟨b,0,none⟩),.int .u8 c] w fun e w'=>e=.returned .nilIface∧St w0 b (s++t) w'∧Zg b w w':=by
 refine Calls.mono (Any.Builder_WriteByte_k Tryz.lays167 Tryz.pmExtra w0.heap.size b (Lib.strCells s) c w h.bld (by rw[Lib.strCells_length];exact hlen) h.old.size) ?_;rintro e w' ⟨rfl,h1,h2,h3⟩;exact⟨rfl,⟨h.old.trans h2,.inr (by rw[Xz,hc];exact h1)⟩,h3⟩
theorem a5f (ps:List dh) (q:Nat) (h:q<ps.length):Fq Lsp (ps.take (q+1))=Fq Lsp (ps.take q)++((if q=0 then ByteArray.empty else Lsp)++ps[q]):=by
 by_cases e:q=0
 ·subst e
  rw[Fb h,Np,Gu,O1,ag0,gu rfl,ado,ado]
 ·rw[ahx _ _ _ h (by omega),ay e,Cm]
theorem a90 (ps:List dh) (q:Nat):(Fq Lsp (ps.take q)).size<=vk ps:=by
 have h1:=ao1 (ps.take q);unfold oh at h1;have h2:vk ps=vk (ps.take q)+vk (ps.drop q):=by rw[←Fj,Pj]
 omega
def anp (w0:bf) (b:Nat) (s:dh) (w:bf) (e:Ending) (w':bf):Prop:=e=.returned (.tuple #[])∧St w0 b s w'∧Zg b w w'
theorem Oo (w0:bf) (b base:Nat) (ps:List dh) (v:Value) (w:bf) (s:dh) (hst:St w0 b s w) (ho:jm ni w base v ps) (hs:s.size<=1000000000) (hp:vk ps<=200000000) :
  Calls Tryz.prog 67 #[.pointer (some ⟨b,0,none⟩),v] w (anp w0 b (s++(oh ps++Wnl)) w):=by
 have Hy:Hid (oh ps=Fq Lsp (ps.take ps.length)):=by
  refine hide ?_;rw[Eb];rfl
 have HTK:=hide (a5f ps);have HTZ:=hide (a90 ps);have bd1:=hide (ak0 ps);have hpl:=abp ps;have HST:=hide hst;have HOW:=hide ho;obtain⟨va,vc,rfl⟩:=ho.slice;generalize oh ps=ln at *;clear hst ho;go_enter Tryz.func67,Tryz.ntmps67;go_wp2
 go_loopg [8] ps.length (fun gh ix wr=>∃(q:Nat) (t:dh),q<=ps.length∧gh=ps.length-q∧ix=.int .i64 q∧Hid (t=s++Fq Lsp (ps.take q))∧Hid (St w0 b t wr)∧Hid (Zg b w wr)∧Hid (jm ni wr base (.slice va ps.length vc) ps))
 case atStart=>exact⟨0,s,jg _,by omega,rfl,(by refine hide ?_;rw[Np,ag0,afs]),HST,Lib.OthersKept.refl _ _ _,HOW⟩
 case round =>
  obtain⟨q,t,hq,hg,rfl,HT,HS,HK,HO⟩:=hrel;have HG:=hide hg
  have htz:t.size<=1200000000:=by
   have h1:=uh HTZ q;rw[uh HT,Lc];omega
  clear hg
  by_cases hlt:q<ps.length
  ·have hsl:=bcj (uh HO) hp
   obtain⟨_,_,D6,_,_,hex⟩:=hsl;simp only[qw] at D6;obtain⟨rfl,_,rfl⟩:=D6;obtain⟨pb,po,cs,rfl,_,hb,hcs,hc,⟨rfl,_⟩⟩:=hex q hlt
   have z0:wr.cell? ⟨pb,po+q,none⟩=some (.string ps[q]):=by
    have h0:=hc 0 (by simp);rw[jr,jh] at h0;exact h0
   have hpz:=uh bd1 ps[q] (pz hlt);have Ku:(q:Int)<(ps.length:Int):=by omega
   have HTQ:Hid (s++Fq Lsp (ps.take (q+1))=t++((if q=0 then ByteArray.empty else Lsp)++ps[q])):=by
    refine hide ?_;rw[uh HTK q hlt,uh HT,Cm]
   clear hex hc hcs;generalize ps[q]=x at *
   by_cases hq0:q=0
   ·rw[gu hq0,ado] at HTQ
    have f1:decide (0<(q:Int))=false:=iw (by omega);have f2:decide (0<q)=false:=iw (by omega);have HC:=hide (ad2 x (uh HS) (by omega));have HQ0:=hide hq0;clear hq0;go_wp2_with fail;refine(uh HC).mono ?_;rintro e w2 ⟨rfl,hst2,hk2⟩;have Oj:=hide ((uh HO).aua (uh HS) hk2);have HS2:=hide hst2;have Sr:=hide ((uh HK).trans hk2);clear hst2 hk2;go_wp2
    go_roundg (ps.length-(q+1))
    case measure=>have:=uh HG;omega
    case rel=>exact⟨q+1,t++x,by omega,rfl,by go_num,hide (uh HTQ).symm,HS2,Sr,Oj⟩
   ·rw[ay hq0] at HTQ
    have f1:decide (0<(q:Int))=true:=jf (by omega);have f2:decide (0<q)=true:=jf (by omega);have HC:=hide (agc Lsp 32 rfl (uh HS) (by omega));have HQ0:=hide hq0;clear hq0;go_wp2_with fail;refine(uh HC).mono ?_;rintro e w2 ⟨rfl,hst2,hk2⟩;have Oj:=hide ((uh HO).aua (uh HS) hk2);have HS2:=hide hst2;have Sr:=hide ((uh HK).trans hk2);have HC2:=hide (ad2 x hst2 (by rw[Lc];have:Lsp.size=1:=rfl;omega));clear hst2 hk2;go_wp2_with fail;refine(uh HC2).mono ?_;rintro e w3 ⟨rfl,hst3,hk3⟩;have HO3:=hide ((uh Oj).aua (uh HS2) hk3);have Vo:=hide hst3;have HK3:=hide ((uh Sr).trans hk3);clear hst3 hk3;go_wp2
    go_roundg (ps.length-(q+1))
    case measure=>have:=uh HG;omega
    case rel=>exact⟨q+1,t++Lsp++x,by omega,rfl,by go_num,(by refine hide ?_;rw[uh HTQ,Cm]),Vo,HK3,HO3⟩
  ·have e:q=ps.length:=by omega
   have HTE:Hid (t++Wnl=s++(ln++Wnl)):=by
    refine hide ?_;rw[uh HT,uh Hy,e,Cm]
   have HC:=hide (agc Wnl 10 rfl (uh HS) (by omega));clear e;go_wp2_with fail;refine(uh HC).mono ?_;rintro e w2 ⟨rfl,hst2,hk2⟩;rw[uh HTE] at hst2;have HS2:=hide hst2;have Sr:=hide ((uh HK).trans hk2);clear hst2 hk2;go_wp2;go_end0;exact⟨rfl,uh HS2,uh Sr⟩
end Go.Proofs.YtfeejeflmcapoaaGreatDoor
