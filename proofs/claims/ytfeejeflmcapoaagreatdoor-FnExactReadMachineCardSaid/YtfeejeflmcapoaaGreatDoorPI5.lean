import Derived.Test.YtfeejeflmcapoaaGreatDoorPI3
set_option linter.unusedSimpArgs false
set_option linter.unusedVariables false
set_option maxHeartbeats 16000000
set_option maxRecDepth 20000
namespace Go.Proofs.YtfeejeflmcapoaaGreatDoor
open Go.RowKit
open Go.Shelf
structure CI (w0 w:cu) (b cb:Nat) (cells:Array Value) (s:dh) (wr:cu) (ls:List dh):Prop where
 st:St w0 b (s++F6 ls) wr
 blk:jd wr cb 50 cells
 kp:Zd b w wr
theorem CI.on {w0 w wr w1:cu} {b cb:Nat} {cells:Array Value} {s:dh} {ls:List dh} (h:CI w0 w b cb cells s wr ls) (hb:Below wr.heap.size wr w1):CI w0 w b cb cells s w1 ls :=
 ⟨h.st.on hb,h.blk.below hb h.blk.lt,h.kp.trans (ajx hb)⟩
theorem CI.app {w0 w wr w2:cu} {b cb:Nat} {cells:Array Value} {s ln:dh} {ls:List dh} (h:CI w0 w b cb cells s wr ls) (hs:St w0 b (s++F6 ls++(ln++Wnl)) w2) (hk:Zd b wr w2):CI w0 w b cb cells s w2 (ls++[ln]):=by
 refine⟨?_,h.blk.kept h.st hk (by decide),h.kp.trans hk⟩;rw[akf,ara,←Bv];exact hs
theorem Yk {α:Type} (f:α->dh) (A:List dh) (xs:List α) (q:Nat):wo (A++(xs.take q).map f)<=wo A+wo (xs.map f):=by
 have h2:wo (xs.map f)=wo ((xs.take q).map f)+wo ((xs.drop q).map f):=by rw[←Ez,←Ig,O8]
 rw[Ez];omega
theorem acs (s:dh) (ls:List dh):(s++F6 ls).size=s.size+wo ls:=by rw[Kz,ah2]
theorem a9a (ks:List dw) (k:dw) (h:k∈ks):wo (Hu ks k)<=wo (G8 ks):=by
 have:∀l:List dw,k∈l->wo (Hu ks k)<=wo (l.flatMap (Hu ks)):=by
  intro l hl
  induction l with
  | nil=>cases hl
  | cons y l ih =>
   rw[List.flatMap_cons,Ez];rcases qj.1 hl with rfl|hl
   ·omega
   ·have:=ih hl
    omega
 exact this ks h
theorem amr (w0:cu) (b:Nat) (hE:Env w0) (ks:List dw) (k:dw) (a9b:Value) (hall:jc 7 160 C9 0 w0 a9b ks) (hkm:k∈ks) (hpr:aso ks) (a0p:∀s,s∈k.body->Nr s<=1048576) (cs0:List Value) (hR0:C9 0 w0 cs0 k) (w:cu) (s:dh) (hst:St w0 b s w) (hs:s.size<=300000000) :
  Calls Tryz.prog 38 #[.pointer (some ⟨b,0,none⟩),.agg cs0.toArray,a9b] w (ano w0 b (s++F6 (Hu ks k)) w):=by
 have hcl:=hpr.cls _ hkm;have hln:=hpr.ln _ hkm;have hnm:=hpr.nm _ hkm;have hlen:=hpr.len _ hkm;have hfew:=hcl.few;have htot:wo (Hu ks k)<=200000000:=ku (a9a ks k hkm) hpr.all;have Wv:Hid (∀w1,Below w0.heap.size w0 w1->Env w1):=fun w1 hb=>hE.below hb hE.three
 obtain⟨nm,ins,au,iw,gq,ay,body⟩:=k;obtain⟨f1,f2,f3,f4,f5,f6,rfl,hnl,q1,q2,q3,q4,q5,q6⟩:=hR0;simp only at hnl q1 q2 q3 q4 q5 q6 a0p;obtain⟨b1,c1,rfl⟩:=q1.shape;obtain⟨b2,c2,rfl⟩:=q2.shape;obtain⟨b3,c3,rfl⟩:=q3.shape;obtain⟨b4,c4,rfl⟩:=q4.shape;obtain⟨b5,c5,rfl⟩:=q5.shape;obtain⟨b6,c6,rfl⟩:=q6.shape;obtain⟨aa,ac,rfl⟩:=hall.shape
 have hkl:ks.length<=140737488355328:=by
  obtain⟨_,_,_,_,h,_⟩:=hall;exact h
 obtain⟨_,_,Dq,_,_,hx⟩:=hall;simp only[qw] at Dq;obtain⟨rfl,_,rfl⟩:=Dq;have HX:=ak hx;have Ub:=ak q1;have HS2:=ak q2;have Vj:=ak q3;have Q8:=ak q4;have HS5:=ak q5;have HS6:=ak q6;have a0q:=ak hnm.2.1;have a0r:=ak hnm.2.2.1;have a0s:=ak hnm.2.2.2;have bbw:=ak hcl.ty.1;have bbx:=ak hcl.ty.2;have Qb:=ak hcl;have a0t:=ak hln;have bdf:=ak a0p;have hnz:=hnm.1;simp only at hnz hlen hfew;obtain⟨hl1,hl2,hl3,hl6⟩:=hlen;obtain⟨hl4,hl5⟩:=hfew
 have HB0:Hid (CI w0 w b w.heap.size #[.string nm,.slice b1 ins.length c1,.slice b2 au.length c2,.slice b3 iw.length c3,.slice b4 gq.length c4,.slice b5 ay.length c5,.slice b6 body.length c6] s ((w.alloc (.cells #[.string nm,.slice b1 ins.length c1,.slice b2 au.length c2,.slice b3 iw.length c3,.slice b4 gq.length c4,.slice b5 ay.length c5,.slice b6 body.length c6] 50)).alloc (.cells #[.string ⟨#[99,108,97,115,115]⟩,.string nm] 9)) ([])):=by
  have hb8:=((iq w.heap.size w).alloc (gu _) (.cells #[.string nm,.slice b1 ins.length c1,.slice b2 au.length c2,.slice b3 iw.length c3,.slice b4 gq.length c4,.slice b5 ay.length c5,.slice b6 body.length c6] 50)).alloc (by simp) (.cells #[.string ⟨#[99,108,97,115,115]⟩,.string nm] 9);refine ak ⟨?_,?_,ajx hb8⟩
  ·rw[F6,afq]
   exact hst.on hb8
  ·exact(oh w #[.string nm,.slice b1 ins.length c1,.slice b2 au.length c2,.slice b3 iw.length c3,.slice b4 gq.length c4,.slice b5 ay.length c5,.slice b6 body.length c6] 50).below ((iq (w.heap.size+1) _).alloc (by simp) _) (Sl _)
 have HM:=Kr (w.alloc (.cells #[.string nm,.slice b1 ins.length c1,.slice b2 au.length c2,.slice b3 iw.length c3,.slice b4 gq.length c4,.slice b5 ay.length c5,.slice b6 body.length c6] 50)) 0 [⟨#[99,108,97,115,115]⟩,nm] _ 2 (jg _) rfl rfl (by simp);rw[Dy] at HM;have HC:=ak (Oj w0 b 0 [⟨#[99,108,97,115,115]⟩,nm] _ _ _ (uh HB0).st HM (by rw[acs];have z0:wo []=0:=rfl;omega) (by simp only[G9];have z0:wo []=0:=rfl;have z9:(⟨#[99,108,97,115,115]⟩:dh).size=5:=rfl;omega))
 have Uk:Hid (wo ([]++[oq [⟨#[99,108,97,115,115]⟩,nm]])+wo (ins.map (fun s:jw=>oq [Ic,s.name,Bf s.type]))+wo (au.map (fun s:jw=>oq [Dz,s.name,Bf s.type]))+wo (iw.map (fun x:dh=>oq [Ee,x]))+wo (gq.map (fun v:Int=>oq [Ef,qo v]))+wo (ay.map (fun g:Int=>oq [Eh,Lm ks g]))+wo (body.map (fun s:lu=>oq (x9 s)))<=200000000):=by
  refine ak ?_;unfold Hu at htot;simp only[Ez] at htot ⊢;have z0:wo []=0:=rfl;rw[z0,Ba];have e9:wo [oq [⟨#[99,108,97,115,115]⟩,nm]]=wo [oq [vw,nm]]:=rfl;omega
 obtain⟨TX,hTX⟩:=o8 (F6 (Hu ks ⟨nm,ins,au,iw,gq,ay,body⟩));have HTX:=ak hTX.symm;rw[←hTX];clear q1 q2 q3 q4 q5 q6 hx hcl hln hnl hst HM htot hkm hpr hnm hE a0p hTX;go_enter Tryz.func38,Tryz.ntmps38;go_wp2_with fail;refine(uh HC).mono ?_;rintro e w2 ⟨rfl,hst2,hk2⟩;have HLa:=ak ((uh HB0).app hst2 hk2);obtain⟨A1,hA1⟩:=o8 ([]++[oq [⟨#[99,108,97,115,115]⟩,nm]]);rw[←hA1] at HLa Uk;have HA1:=ak hA1;have HLn:=HLa
 have HN1:Hid (wo A1+wo (ins.map (fun s:jw=>oq [Ic,s.name,Bf s.type]))<=200000000):=by
  refine ak ?_;have h1:=uh Uk;omega
 have k1:w2.cell? ⟨w.heap.size,1,none⟩=some (.slice b1 ins.length c1):=(uh HLn).blk.cell (v:=.slice b1 ins.length c1) rfl;clear hst2 hk2 hA1 HC HB0;go_wp2
 go_loopg [26] ins.length (fun gh ix wr=>∃(q:Nat),q<=ins.length/\gh=ins.length-q/\ix=.int .i64 q/\Hid (CI w0 w b w.heap.size #[.string nm,.slice b1 ins.length c1,.slice b2 au.length c2,.slice b3 iw.length c3,.slice b4 gq.length c4,.slice b5 ay.length c5,.slice b6 body.length c6] s wr (A1++(ins.take q).map (fun s:jw=>oq [Ic,s.name,Bf s.type]))))
 case atStart=>exact⟨0,jg _,by omega,rfl,(by rw[Nj,Fv,Aq];exact HLn)⟩
 case round =>
  obtain⟨q,hq,hg,rfl,HL⟩:=hrel;have HG:=ak hg;clear hg
  by_cases hlt:q<ins.length
  ·have hbw:=(uh HL).st.old
   obtain⟨_,_,Dq,_,_,hex⟩:=uh Ub;simp only[qw] at Dq;obtain⟨rfl,_,rfl⟩:=Dq;obtain⟨b',o,cs,rfl,_,hb,hcs,hc,hR⟩:=hex q hlt;have hc:∀j (hj:j<cs.length),wr.cell? ⟨b',o+q*2+j,none⟩=some cs[j]:=fun j hj=>by rw[hbw.cell (p:=⟨b',_,none⟩) hb];exact hc j hj
   obtain⟨rfl,hsn,hty⟩:=hR;have z0:=hc 0 (by simp);have z1:=hc 1 (by simp);simp only[jr,ji,og,ou] at z0 z1;have Kq:(q:Int)<(ins.length:Int):=by omega
   have HT:=ak (map_take (fun s:jw=>oq [Ic,s.name,Bf s.type]) (A1) ins q hlt)
   have Ze:Hid (wo (A1++(ins.take q).map (fun s:jw=>oq [Ic,s.name,Bf s.type]))<=200000000):=by
    refine ak ?_;have h8:=Yk (fun s:jw=>oq [Ic,s.name,Bf s.type]) (A1) ins q;have:=uh HN1;omega
   have hmem:=o7 hlt;clear hc hcs hex;generalize A1++(ins.take q).map (fun s:jw=>oq [Ic,s.name,Bf s.type])=pre at HL HT Ze;have HNS:=ak (uh a0q _ hmem);have aox:=uh bbw _ hmem;have hzt:=ad1 ins[q].type;have HTY:=ak (ahp ins[q].type · aox);generalize Bf ins[q].type=tx at *;generalize ins[q]=sl at *;obtain⟨sn,sty⟩:=sl;simp only at *;have ae2:=uh HNS;have Ov:Below wr.heap.size wr ((wr.alloc (.cells #[.string sn,.int .i64 sty] 54)).alloc (.cells #[.string ⟨#[105,110]⟩,.string sn,.string tx] 9)).drew:=(((iq wr.heap.size wr).alloc (gu _) (.cells #[.string sn,.int .i64 sty] 54)).alloc (by simp) (.cells #[.string ⟨#[105,110]⟩,.string sn,.string tx] 9)).drew;have Hq:=ak ((uh HL).on Ov);have U3:Hid (jd ((wr.alloc (.cells #[.string sn,.int .i64 sty] 54)).alloc (.cells #[.string ⟨#[105,110]⟩,.string sn,.string tx] 9)).drew wr.heap.size 54 #[.string sn,.int .i64 sty]):=(oh wr #[.string sn,.int .i64 sty] 54).below (((iq (wr.heap.size+1) _).alloc (by simp) _).drew) (Sl _);have HM:=Kr (wr.alloc (.cells #[.string sn,.int .i64 sty] 54)) 0 [⟨#[105,110]⟩,sn,tx] _ 3 (jg _) rfl rfl (by simp);rw[Dy] at HM;have HC:=ak (Oj w0 b 0 [⟨#[105,110]⟩,sn,tx] (.slice (some ⟨wr.heap.size+1,0,none⟩) 3 3) ((wr.alloc (.cells #[.string sn,.int .i64 sty] 54)).alloc (.cells #[.string ⟨#[105,110]⟩,.string sn,.string tx] 9)).drew _ (uh Hq).st (HM.below (iq _ _).drew) (by have h9:=uh Ze;rw[acs];omega) (by simp only[G9];have z0:wo []=0:=rfl;have z9:(⟨#[105,110]⟩:dh).size<=8:=(by decide);omega))
   have k0:(wr.alloc (.cells #[.string sn,.int .i64 sty] 54)).drew.cell? ⟨wr.heap.size,0,none⟩=some (.string sn):=by
    show (wr.alloc (.cells #[.string sn,.int .i64 sty] 54)).cell? _=_;rw[zu _ _ _ _ rfl];rfl
   have k1:(wr.alloc (.cells #[.string sn,.int .i64 sty] 54)).drew.cell? ⟨wr.heap.size,1,none⟩=some (.int .i64 sty):=by
    show (wr.alloc (.cells #[.string sn,.int .i64 sty] 54)).cell? _=_;rw[zu _ _ _ _ rfl];rfl
   clear hmem hsn hty Ov HM aox;go_wp2_with fail
   go_region_held3 (fun w'=>w'.cell? ⟨wr.heap.size,0,none⟩=some (.string sn)/\w'.cell? ⟨wr.heap.size,1,none⟩=some (.int .i64 sty)) (go_keep) (first|(go_at_call 68;refine(uh HTY _).mono ?_;rintro e wj ⟨rfl,rfl⟩)|(go_at_call 67;refine(uh HC).mono ?_;rintro e w2 ⟨rfl,hst2,hk2⟩;have HL2:=ak ((uh Hq).app hst2 hk2);have ab1:=ak ((uh U3).kept (uh Hq).st hk2 (by decide));have k0:w2.cell? ⟨wr.heap.size,0,none⟩=some (.string sn):=jd.cell (uh ab1) (v:=.string sn) rfl;have k1:w2.cell? ⟨wr.heap.size,1,none⟩=some (.int .i64 sty):=jd.cell (uh ab1) (v:=.int .i64 sty) rfl;clear hst2 hk2))
   go_wp2
   go_roundg (ins.length-(q+1))
   case measure=>have:=uh HG;omega
   case rel=>exact⟨q+1,by omega,rfl,by go_num,(by rw[uh HT];exact HL2)⟩
  ·have e:q=ins.length:=by omega
   have HLn:Hid (CI w0 w b w.heap.size #[.string nm,.slice b1 ins.length c1,.slice b2 au.length c2,.slice b3 iw.length c3,.slice b4 gq.length c4,.slice b5 ay.length c5,.slice b6 body.length c6] s wr (A1++ins.map (fun s:jw=>oq [Ic,s.name,Bf s.type]))):=by
    have h8:=uh HL;rw[e,Dw] at h8;exact h8
   clear e HL HG;obtain⟨A2,hA2⟩:=o8 (A1++ins.map (fun s:jw=>oq [Ic,s.name,Bf s.type]));rw[←hA2] at HLn;have HA2:=ak hA2
   have Wj:Hid (wo A2=wo A1+wo (ins.map (fun s:jw=>oq [Ic,s.name,Bf s.type]))):=by
    refine ak ?_;rw[hA2,Ez]
   clear hA2
   have Zp:Hid (wo A2+wo (au.map (fun s:jw=>oq [Dz,s.name,Bf s.type]))<=200000000):=by
    refine ak ?_;have h1:=uh Uk;have e2:=uh Wj;omega
   have k2:wr.cell? ⟨w.heap.size,2,none⟩=some (.slice b2 au.length c2):=(uh HLn).blk.cell (v:=.slice b2 au.length c2) rfl;go_wp2
   go_loopg [42] au.length (fun gh ix wr=>∃(q:Nat),q<=au.length/\gh=au.length-q/\ix=.int .i64 q/\Hid (CI w0 w b w.heap.size #[.string nm,.slice b1 ins.length c1,.slice b2 au.length c2,.slice b3 iw.length c3,.slice b4 gq.length c4,.slice b5 ay.length c5,.slice b6 body.length c6] s wr (A2++(au.take q).map (fun s:jw=>oq [Dz,s.name,Bf s.type]))))
   case atStart=>exact⟨0,jg _,by omega,rfl,(by rw[Nj,Fv,Aq];exact HLn)⟩
   case round =>
    obtain⟨q,hq,hg,rfl,HL⟩:=hrel;have HG:=ak hg;clear hg
    by_cases hlt:q<au.length
    ·have hbw:=(uh HL).st.old
     obtain⟨_,_,Dq,_,_,hex⟩:=uh HS2;simp only[qw] at Dq;obtain⟨rfl,_,rfl⟩:=Dq;obtain⟨b',o,cs,rfl,_,hb,hcs,hc,hR⟩:=hex q hlt;have hc:∀j (hj:j<cs.length),wr.cell? ⟨b',o+q*2+j,none⟩=some cs[j]:=fun j hj=>by rw[hbw.cell (p:=⟨b',_,none⟩) hb];exact hc j hj
     obtain⟨rfl,hsn,hty⟩:=hR;have z0:=hc 0 (by simp);have z1:=hc 1 (by simp);simp only[jr,ji,og,ou] at z0 z1;have Kq:(q:Int)<(au.length:Int):=by omega
     have HT:=ak (map_take (fun s:jw=>oq [Dz,s.name,Bf s.type]) (A2) au q hlt)
     have Ze:Hid (wo (A2++(au.take q).map (fun s:jw=>oq [Dz,s.name,Bf s.type]))<=200000000):=by
      refine ak ?_;have h8:=Yk (fun s:jw=>oq [Dz,s.name,Bf s.type]) (A2) au q;have:=uh Zp;omega
     have hmem:=o7 hlt;clear hc hcs hex;generalize A2++(au.take q).map (fun s:jw=>oq [Dz,s.name,Bf s.type])=pre at HL HT Ze;have HNS:=ak (uh a0r _ hmem);have aox:=uh bbx _ hmem;have hzt:=ad1 au[q].type;have HTY:=ak (ahp au[q].type · aox);generalize Bf au[q].type=tx at *;generalize au[q]=sl at *;obtain⟨sn,sty⟩:=sl;simp only at *;have ae2:=uh HNS;have Ov:Below wr.heap.size wr ((wr.alloc (.cells #[.string sn,.int .i64 sty] 54)).alloc (.cells #[.string ⟨#[111,117,116]⟩,.string sn,.string tx] 9)).drew:=(((iq wr.heap.size wr).alloc (gu _) (.cells #[.string sn,.int .i64 sty] 54)).alloc (by simp) (.cells #[.string ⟨#[111,117,116]⟩,.string sn,.string tx] 9)).drew;have Hq:=ak ((uh HL).on Ov);have U3:Hid (jd ((wr.alloc (.cells #[.string sn,.int .i64 sty] 54)).alloc (.cells #[.string ⟨#[111,117,116]⟩,.string sn,.string tx] 9)).drew wr.heap.size 54 #[.string sn,.int .i64 sty]):=(oh wr #[.string sn,.int .i64 sty] 54).below (((iq (wr.heap.size+1) _).alloc (by simp) _).drew) (Sl _);have HM:=Kr (wr.alloc (.cells #[.string sn,.int .i64 sty] 54)) 0 [⟨#[111,117,116]⟩,sn,tx] _ 3 (jg _) rfl rfl (by simp);rw[Dy] at HM;have HC:=ak (Oj w0 b 0 [⟨#[111,117,116]⟩,sn,tx] (.slice (some ⟨wr.heap.size+1,0,none⟩) 3 3) ((wr.alloc (.cells #[.string sn,.int .i64 sty] 54)).alloc (.cells #[.string ⟨#[111,117,116]⟩,.string sn,.string tx] 9)).drew _ (uh Hq).st (HM.below (iq _ _).drew) (by have h9:=uh Ze;rw[acs];omega) (by simp only[G9];have z0:wo []=0:=rfl;have z9:(⟨#[111,117,116]⟩:dh).size<=8:=(by decide);omega))
     have k0:(wr.alloc (.cells #[.string sn,.int .i64 sty] 54)).drew.cell? ⟨wr.heap.size,0,none⟩=some (.string sn):=by
      show (wr.alloc (.cells #[.string sn,.int .i64 sty] 54)).cell? _=_;rw[zu _ _ _ _ rfl];rfl
     have k1:(wr.alloc (.cells #[.string sn,.int .i64 sty] 54)).drew.cell? ⟨wr.heap.size,1,none⟩=some (.int .i64 sty):=by
      show (wr.alloc (.cells #[.string sn,.int .i64 sty] 54)).cell? _=_;rw[zu _ _ _ _ rfl];rfl
     clear hmem hsn hty Ov HM aox;go_wp2_with fail
     go_region_held3 (fun w'=>w'.cell? ⟨wr.heap.size,0,none⟩=some (.string sn)/\w'.cell? ⟨wr.heap.size,1,none⟩=some (.int .i64 sty)) (go_keep) (first|(go_at_call 68;refine(uh HTY _).mono ?_;rintro e wj ⟨rfl,rfl⟩)|(go_at_call 67;refine(uh HC).mono ?_;rintro e w2 ⟨rfl,hst2,hk2⟩;have HL2:=ak ((uh Hq).app hst2 hk2);have ab1:=ak ((uh U3).kept (uh Hq).st hk2 (by decide));have k0:w2.cell? ⟨wr.heap.size,0,none⟩=some (.string sn):=jd.cell (uh ab1) (v:=.string sn) rfl;have k1:w2.cell? ⟨wr.heap.size,1,none⟩=some (.int .i64 sty):=jd.cell (uh ab1) (v:=.int .i64 sty) rfl;clear hst2 hk2))
     go_wp2
     go_roundg (au.length-(q+1))
     case measure=>have:=uh HG;omega
     case rel=>exact⟨q+1,by omega,rfl,by go_num,(by rw[uh HT];exact HL2)⟩
    ·have e:q=au.length:=by omega
     have HLn:Hid (CI w0 w b w.heap.size #[.string nm,.slice b1 ins.length c1,.slice b2 au.length c2,.slice b3 iw.length c3,.slice b4 gq.length c4,.slice b5 ay.length c5,.slice b6 body.length c6] s wr (A2++au.map (fun s:jw=>oq [Dz,s.name,Bf s.type]))):=by
      have h8:=uh HL;rw[e,Dw] at h8;exact h8
     clear e HL HG;obtain⟨A3,hA3⟩:=o8 (A2++au.map (fun s:jw=>oq [Dz,s.name,Bf s.type]));rw[←hA3] at HLn;have HA3:=ak hA3
     have HQ3:Hid (wo A3=wo A2+wo (au.map (fun s:jw=>oq [Dz,s.name,Bf s.type]))):=by
      refine ak ?_;rw[hA3,Ez]
     clear hA3
     have HN3:Hid (wo A3+wo (iw.map (fun x:dh=>oq [Ee,x]))<=200000000):=by
      refine ak ?_;have h1:=uh Uk;have e2:=uh Wj;have e3:=uh HQ3;omega
     have k3:wr.cell? ⟨w.heap.size,3,none⟩=some (.slice b3 iw.length c3):=(uh HLn).blk.cell (v:=.slice b3 iw.length c3) rfl;go_wp2
     go_loopg [58] iw.length (fun gh ix wr=>∃(q:Nat),q<=iw.length/\gh=iw.length-q/\ix=.int .i64 q/\Hid (CI w0 w b w.heap.size #[.string nm,.slice b1 ins.length c1,.slice b2 au.length c2,.slice b3 iw.length c3,.slice b4 gq.length c4,.slice b5 ay.length c5,.slice b6 body.length c6] s wr (A3++(iw.take q).map (fun x:dh=>oq [Ee,x]))))
     case atStart=>exact⟨0,jg _,by omega,rfl,(by rw[Nj,Fv,Aq];exact HLn)⟩
     case round =>
      obtain⟨q,hq,hg,rfl,HL⟩:=hrel;have HG:=ak hg;clear hg
      by_cases hlt:q<iw.length
      ·have hbw:=(uh HL).st.old
       obtain⟨_,_,Dq,_,_,hex⟩:=uh Vj;simp only[qw] at Dq;obtain⟨rfl,_,rfl⟩:=Dq;obtain⟨b',o,cs,rfl,_,hb,hcs,hc,hR⟩:=hex q hlt;have hc:∀j (hj:j<cs.length),wr.cell? ⟨b',o+q*1+j,none⟩=some cs[j]:=fun j hj=>by rw[hbw.cell (p:=⟨b',_,none⟩) hb];exact hc j hj
       obtain⟨rfl,hsn⟩:=hR;have z0:=hc 0 (by simp);simp only[jr,ji,og,ou] at z0;have Kq:(q:Int)<(iw.length:Int):=by omega
       have HT:=ak (map_take (fun x:dh=>oq [Ee,x]) (A3) iw q hlt)
       have Ze:Hid (wo (A3++(iw.take q).map (fun x:dh=>oq [Ee,x]))<=200000000):=by
        refine ak ?_;have h8:=Yk (fun x:dh=>oq [Ee,x]) (A3) iw q;have:=uh HN3;omega
       have hmem:=o7 hlt;clear hc hcs hex;generalize A3++(iw.take q).map (fun x:dh=>oq [Ee,x])=pre at HL HT Ze;have HNS:=ak (uh a0s _ hmem);generalize iw[q]=x at *;have ae2:=uh HNS;have Hq:=ak ((uh HL).on ((iq wr.heap.size wr).alloc (gu _) (.cells #[.string ⟨#[108,111,99]⟩,.string x] 9)));clear hmem hsn;have HC:=ak (Oj w0 b 0 [⟨#[108,111,99]⟩,x] (.slice (some ⟨wr.heap.size,0,none⟩) 2 2) (wr.alloc (.cells #[.string ⟨#[108,111,99]⟩,.string x] 9)) _ (uh Hq).st (Kr wr 0 [⟨#[108,111,99]⟩,x] _ 2 (jg _) rfl rfl (by simp)) (by have h9:=uh Ze;rw[acs];omega) (by simp only[G9];have z0:wo []=0:=rfl;have z9:(⟨#[108,111,99]⟩:dh).size=3:=rfl;omega));go_wp2_with fail;refine(uh HC).mono ?_;rintro e w2 ⟨rfl,hst2,hk2⟩;have HL2:=ak ((uh Hq).app hst2 hk2);clear hst2 hk2;go_wp2
       go_roundg (iw.length-(q+1))
       case measure=>have:=uh HG;omega
       case rel=>exact⟨q+1,by omega,rfl,by go_num,(by rw[uh HT];exact HL2)⟩
      ·have e:q=iw.length:=by omega
       have HLn:Hid (CI w0 w b w.heap.size #[.string nm,.slice b1 ins.length c1,.slice b2 au.length c2,.slice b3 iw.length c3,.slice b4 gq.length c4,.slice b5 ay.length c5,.slice b6 body.length c6] s wr (A3++iw.map (fun x:dh=>oq [Ee,x]))):=by
        have h8:=uh HL;rw[e,Dw] at h8;exact h8
       clear e HL HG;obtain⟨A4,hA4⟩:=o8 (A3++iw.map (fun x:dh=>oq [Ee,x]));rw[←hA4] at HLn;have HA4:=ak hA4
       have HQ4:Hid (wo A4=wo A3+wo (iw.map (fun x:dh=>oq [Ee,x]))):=by
        refine ak ?_;rw[hA4,Ez]
       clear hA4
       have HN4:Hid (wo A4+wo (gq.map (fun v:Int=>oq [Ef,qo v]))<=200000000):=by
        refine ak ?_;have h1:=uh Uk;have e2:=uh Wj;have e3:=uh HQ3;have e4:=uh HQ4;omega
       have k4:wr.cell? ⟨w.heap.size,4,none⟩=some (.slice b4 gq.length c4):=(uh HLn).blk.cell (v:=.slice b4 gq.length c4) rfl;go_wp2
       go_loopg [70] gq.length (fun gh ix wr=>∃(q:Nat),q<=gq.length/\gh=gq.length-q/\ix=.int .i64 q/\Hid (CI w0 w b w.heap.size #[.string nm,.slice b1 ins.length c1,.slice b2 au.length c2,.slice b3 iw.length c3,.slice b4 gq.length c4,.slice b5 ay.length c5,.slice b6 body.length c6] s wr (A4++(gq.take q).map (fun v:Int=>oq [Ef,qo v]))))
       case atStart=>exact⟨0,jg _,by omega,rfl,(by rw[Nj,Fv,Aq];exact HLn)⟩
       case round =>
        obtain⟨q,hq,hg,rfl,HL⟩:=hrel;have HG:=ak hg;clear hg
        by_cases hlt:q<gq.length
        ·have hbw:=(uh HL).st.old
         obtain⟨_,_,Dq,_,_,hex⟩:=uh Q8;simp only[qw] at Dq;obtain⟨rfl,_,rfl⟩:=Dq;obtain⟨b',o,cs,rfl,_,hb,hcs,hc,hR⟩:=hex q hlt;have hc:∀j (hj:j<cs.length),wr.cell? ⟨b',o+q*1+j,none⟩=some cs[j]:=fun j hj=>by rw[hbw.cell (p:=⟨b',_,none⟩) hb];exact hc j hj
         obtain⟨rfl,hsn⟩:=hR;have z0:=hc 0 (by simp);simp only[jr,ji,og,ou] at z0;have Kq:(q:Int)<(gq.length:Int):=by omega
         have HT:=ak (map_take (fun v:Int=>oq [Ef,qo v]) (A4) gq q hlt)
         have Ze:Hid (wo (A4++(gq.take q).map (fun v:Int=>oq [Ef,qo v]))<=200000000):=by
          refine ak ?_;have h8:=Yk (fun v:Int=>oq [Ef,qo v]) (A4) gq q;have:=uh HN4;omega
         have hmem:=o7 hlt;clear hc hcs hex;generalize A4++(gq.take q).map (fun v:Int=>oq [Ef,qo v])=pre at HL HT Ze;have hv32:=(uh Qb).gq _ hmem;have HDC:=ak (ady gq[q] hv32 wr (uh Wv _ hbw));have hdz:=Qh gq[q] hv32;generalize qo gq[q]=dv at *;generalize gq[q]=x at *;clear hmem hsn hv32;go_wp2_with fail;refine(uh HDC).mono ?_;rintro e w9 ⟨rfl,yx⟩;have Hq:=ak ((uh HL).on (yx.alloc yx.size (.cells #[.string ⟨#[109,101,109]⟩,.string dv] 9)));clear yx;have HC:=ak (Oj w0 b 0 [⟨#[109,101,109]⟩,dv] (.slice (some ⟨w9.heap.size,0,none⟩) 2 2) (w9.alloc (.cells #[.string ⟨#[109,101,109]⟩,.string dv] 9)) _ (uh Hq).st (Kr w9 0 [⟨#[109,101,109]⟩,dv] _ 2 (jg _) rfl rfl (by simp)) (by have h9:=uh Ze;rw[acs];omega) (by simp only[G9];have z0:wo []=0:=rfl;have z9:(⟨#[109,101,109]⟩:dh).size=3:=rfl;omega));go_wp2_with fail;refine(uh HC).mono ?_;rintro e w2 ⟨rfl,hst2,hk2⟩;have HL2:=ak ((uh Hq).app hst2 hk2);clear hst2 hk2;go_wp2
         go_roundg (gq.length-(q+1))
         case measure=>have:=uh HG;omega
         case rel=>exact⟨q+1,by omega,rfl,by go_num,(by rw[uh HT];exact HL2)⟩
        ·have e:q=gq.length:=by omega
         have HLn:Hid (CI w0 w b w.heap.size #[.string nm,.slice b1 ins.length c1,.slice b2 au.length c2,.slice b3 iw.length c3,.slice b4 gq.length c4,.slice b5 ay.length c5,.slice b6 body.length c6] s wr (A4++gq.map (fun v:Int=>oq [Ef,qo v]))):=by
          have h8:=uh HL;rw[e,Dw] at h8;exact h8
         clear e HL HG;obtain⟨A5,hA5⟩:=o8 (A4++gq.map (fun v:Int=>oq [Ef,qo v]));rw[←hA5] at HLn;have HA5:=ak hA5
         have HQ5:Hid (wo A5=wo A4+wo (gq.map (fun v:Int=>oq [Ef,qo v]))):=by
          refine ak ?_;rw[hA5,Ez]
         clear hA5
         have HN5:Hid (wo A5+wo (ay.map (fun g:Int=>oq [Eh,Lm ks g]))<=200000000):=by
          refine ak ?_;have h1:=uh Uk;have e2:=uh Wj;have e3:=uh HQ3;have e4:=uh HQ4;have e5:=uh HQ5;omega
         have k5:wr.cell? ⟨w.heap.size,5,none⟩=some (.slice b5 ay.length c5):=(uh HLn).blk.cell (v:=.slice b5 ay.length c5) rfl;go_wp2
         go_loopg [83] ay.length (fun gh ix wr=>∃(q:Nat),q<=ay.length/\gh=ay.length-q/\ix=.int .i64 q/\Hid (CI w0 w b w.heap.size #[.string nm,.slice b1 ins.length c1,.slice b2 au.length c2,.slice b3 iw.length c3,.slice b4 gq.length c4,.slice b5 ay.length c5,.slice b6 body.length c6] s wr (A5++(ay.take q).map (fun g:Int=>oq [Eh,Lm ks g]))))
         case atStart=>exact⟨0,jg _,by omega,rfl,(by rw[Nj,Fv,Aq];exact HLn)⟩
         case round =>
          obtain⟨q,hq,hg,rfl,HL⟩:=hrel;have HG:=ak hg;clear hg
          by_cases hlt:q<ay.length
          ·have hbw:=(uh HL).st.old
           obtain⟨_,_,Dq,_,_,hex⟩:=uh HS5;simp only[qw] at Dq;obtain⟨rfl,_,rfl⟩:=Dq;obtain⟨b',o,cs,rfl,_,hb,hcs,hc,hR⟩:=hex q hlt;have hc:∀j (hj:j<cs.length),wr.cell? ⟨b',o+q*1+j,none⟩=some cs[j]:=fun j hj=>by rw[hbw.cell (p:=⟨b',_,none⟩) hb];exact hc j hj
           obtain⟨rfl,hsn⟩:=hR;have z0:=hc 0 (by simp);simp only[jr,ji,og,ou] at z0;have Kq:(q:Int)<(ay.length:Int):=by omega
           have HT:=ak (map_take (fun g:Int=>oq [Eh,Lm ks g]) (A5) ay q hlt)
           have Ze:Hid (wo (A5++(ay.take q).map (fun g:Int=>oq [Eh,Lm ks g]))<=200000000):=by
            refine ak ?_;have h8:=Yk (fun g:Int=>oq [Eh,Lm ks g]) (A5) ay q;have:=uh HN5;omega
           have hmem:=o7 hlt;clear hc hcs hex;generalize A5++(ay.take q).map (fun g:Int=>oq [Eh,Lm ks g])=pre at HL HT Ze;obtain⟨hg0,hg1⟩:=(uh Qb).ins _ hmem;have hgn:=(uh Qb).nm _ hmem;obtain⟨gi,hgi⟩:=Ht hg0;have hgk:gi<ks.length:=by omega
           have akz:Lm ks ay[q]=ks[gi].name:=by
            unfold Lm;rw[hgi];show (match ks[gi]? with|some k=>k.name|none=>ByteArray.empty)=_
            rw[jy hgk]
           rw[akz] at HT hgn;obtain⟨gb,go,gcs,aoc,_,hgb,a0u,hgc,hgR⟩:=uh HX gi hgk;subst aoc
           have g0:wr.cell? ⟨gb,go+gi*7,none⟩=some (.string ks[gi].name):=by
            rw[hbw.cell (p:=⟨gb,_,none⟩) hgb];obtain⟨_,_,_,_,_,_,rfl,_⟩:=hgR;exact hgc 0 (by simp)
           have bdg:(gi:Int)<(ks.length:Int):=by omega
           rw[hgi] at z0;generalize ks[gi].name=x at *;have Hq:=ak ((uh HL).on ((iq wr.heap.size wr).alloc (gu _) (.cells #[.string ⟨#[117,115,101]⟩,.string x] 9)));clear hmem hsn hg0 hg1 hgi akz a0u hgc hgR;have HC:=ak (Oj w0 b 0 [⟨#[117,115,101]⟩,x] (.slice (some ⟨wr.heap.size,0,none⟩) 2 2) (wr.alloc (.cells #[.string ⟨#[117,115,101]⟩,.string x] 9)) _ (uh Hq).st (Kr wr 0 [⟨#[117,115,101]⟩,x] _ 2 (jg _) rfl rfl (by simp)) (by have h9:=uh Ze;rw[acs];omega) (by simp only[G9];have z0:wo []=0:=rfl;have z9:(⟨#[117,115,101]⟩:dh).size=3:=rfl;omega));go_wp2_with fail;refine(uh HC).mono ?_;rintro e w2 ⟨rfl,hst2,hk2⟩;have HL2:=ak ((uh Hq).app hst2 hk2);clear hst2 hk2;go_wp2
           go_roundg (ay.length-(q+1))
           case measure=>have:=uh HG;omega
           case rel=>exact⟨q+1,by omega,rfl,by go_num,(by rw[uh HT];exact HL2)⟩
          ·have e:q=ay.length:=by omega
           have HLn:Hid (CI w0 w b w.heap.size #[.string nm,.slice b1 ins.length c1,.slice b2 au.length c2,.slice b3 iw.length c3,.slice b4 gq.length c4,.slice b5 ay.length c5,.slice b6 body.length c6] s wr (A5++ay.map (fun g:Int=>oq [Eh,Lm ks g]))):=by
            have h8:=uh HL;rw[e,Dw] at h8;exact h8
           clear e HL HG;obtain⟨A6,hA6⟩:=o8 (A5++ay.map (fun g:Int=>oq [Eh,Lm ks g]));rw[←hA6] at HLn;have HA6:=ak hA6
           have HQ6:Hid (wo A6=wo A5+wo (ay.map (fun g:Int=>oq [Eh,Lm ks g]))):=by
            refine ak ?_;rw[hA6,Ez]
           clear hA6
           have HN6:Hid (wo A6+wo (body.map (fun s:lu=>oq (x9 s)))<=200000000):=by
            refine ak ?_;have h1:=uh Uk;have e2:=uh Wj;have e3:=uh HQ3;have e4:=uh HQ4;have e5:=uh HQ5;have e6:=uh HQ6;omega
           have k6:wr.cell? ⟨w.heap.size,6,none⟩=some (.slice b6 body.length c6):=(uh HLn).blk.cell (v:=.slice b6 body.length c6) rfl;go_wp2
           go_loopg [99] body.length (fun gh ix wr=>∃(q:Nat),q<=body.length/\gh=body.length-q/\ix=.int .i64 q/\Hid (CI w0 w b w.heap.size #[.string nm,.slice b1 ins.length c1,.slice b2 au.length c2,.slice b3 iw.length c3,.slice b4 gq.length c4,.slice b5 ay.length c5,.slice b6 body.length c6] s wr (A6++(body.take q).map (fun s:lu=>oq (x9 s)))))
           case atStart=>exact⟨0,jg _,by omega,rfl,(by rw[Nj,Fv,Aq];exact HLn)⟩
           case round =>
            obtain⟨q,hq,hg,rfl,HL⟩:=hrel;have HG:=ak hg;clear hg
            by_cases hlt:q<body.length
            ·have hbw:=(uh HL).st.old
             obtain⟨_,_,Dq,_,_,hex⟩:=uh HS6;simp only[qw] at Dq;obtain⟨rfl,_,rfl⟩:=Dq;obtain⟨b',o,cs,rfl,_,hb,hcs,hc,hR⟩:=hex q hlt;have hc:∀j (hj:j<cs.length),wr.cell? ⟨b',o+q*6+j,none⟩=some cs[j]:=fun j hj=>by rw[hbw.cell (p:=⟨b',_,none⟩) hb];exact hc j hj
             obtain⟨s1,s2,s3,rfl,hsn,hk1,hk2,g1,g2,g3⟩:=hR;have z0:=hc 0 (by simp);have z1:=hc 1 (by simp);have z2:=hc 2 (by simp);have z3:=hc 3 (by simp);have z4:=hc 4 (by simp);have z5:=hc 5 (by simp);simp only[jr,ji,og,ou] at z0 z1 z2 z3 z4 z5;have Kq:(q:Int)<(body.length:Int):=by omega
             have HT:=ak (map_take (fun s:lu=>oq (x9 s)) (A6) body q hlt)
             have Ze:Hid (wo (A6++(body.take q).map (fun s:lu=>oq (x9 s)))<=200000000):=by
              refine ak ?_;have h8:=Yk (fun s:lu=>oq (x9 s)) (A6) body q;have:=uh HN6;omega
             have hmem:=o7 hlt;clear hc hcs hex;generalize A6++(body.take q).map (fun s:lu=>oq (x9 s))=pre at HL HT Ze;have ak0:=uh a0t _ hmem
             have a0v:wo (x9 body[q])<=200000000:=by
              have h8:=arb _ ak0.st;have h9:=uh bdf _ hmem;omega
             have hA9:Below wr.heap.size wr (wr.alloc (.cells #[.int .i64 body[q].kind,.string body[q].name,.int .i64 body[q].at_,s1,s2,s3] 60)):=(iq _ _).alloc (gu _) _;have aoy:=hbw.trans (hA9.mono hbw.size);have HLQ:=ak (aqd body[q] s1 s2 s3 (wr.alloc (.cells #[.int .i64 body[q].kind,.string body[q].name,.int .i64 body[q].at_,s1,s2,s3] 60)) (uh Wv _ aoy) ak0 (g1.stays zk aoy) (g2.stays Ad aoy) (g3.stays I8 aoy) a0v);have P1:=ak hA9;have a0w:=ak a0v;generalize x9 body[q]=ps at *;generalize body[q]=st at *;obtain⟨oa,oc,rfl⟩:=g1.shape;obtain⟨ca,cc,rfl⟩:=g2.shape;obtain⟨aa,ac,rfl⟩:=g3.shape;obtain⟨kd,snm,at0,bby,code,args⟩:=st;simp only at *;clear hmem ak0 g1 g2 g3 hk1 hk2 hsn hA9 aoy a0v;go_wp2_with fail;refine(uh HLQ).mono ?_;rintro e w9 ⟨v9,ba9,rfl,hO9,yx⟩;have Q1:Hid (Below wr.heap.size wr w9):=(uh P1).trans (yx.mono (uh P1).size);have Hq:=ak ((uh HL).on (uh Q1));have HC:=ak (Oj w0 b ba9 ps v9 w9 _ (uh Hq).st hO9 (by have h9:=uh Ze;rw[acs];omega) (uh a0w));clear yx hO9;go_wp2_with fail;refine(uh HC).mono ?_;rintro e w2 ⟨rfl,hst2,hk2⟩;have HL2:=ak ((uh Hq).app hst2 hk2);clear hst2 hk2;go_wp2
             go_roundg (body.length-(q+1))
             case measure=>have:=uh HG;omega
             case rel=>exact⟨q+1,by omega,rfl,by go_num,(by rw[uh HT];exact HL2)⟩
            ·have e:q=body.length:=by omega
             have HLn:Hid (CI w0 w b w.heap.size #[.string nm,.slice b1 ins.length c1,.slice b2 au.length c2,.slice b3 iw.length c3,.slice b4 gq.length c4,.slice b5 ay.length c5,.slice b6 body.length c6] s wr (A6++body.map (fun s:lu=>oq (x9 s)))):=by
              have h8:=uh HL;rw[e,Dw] at h8;exact h8
             clear e HL HG;obtain⟨A7,hA7⟩:=o8 (A6++body.map (fun s:lu=>oq (x9 s)));rw[←hA7] at HLn;have HA7:=ak hA7
             have HQ7:Hid (wo A7=wo A6+wo (body.map (fun s:lu=>oq (x9 s)))):=by
              refine ak ?_;rw[hA7,Ez]
             clear hA7;have Hq:=ak ((uh HLn).on ((iq wr.heap.size wr).alloc (gu _) (.cells #[.string ⟨#[101,110,100,99,108,97,115,115]⟩] 9)))
             have Ze:Hid (wo A7<=200000000):=by
              refine ak ?_;have h1:=uh Uk;have e2:=uh Wj;have e3:=uh HQ3;have e4:=uh HQ4;have e5:=uh HQ5;have e6:=uh HQ6;have e7:=uh HQ7;omega
             have HC:=ak (Oj w0 b 0 [⟨#[101,110,100,99,108,97,115,115]⟩] (.slice (some ⟨wr.heap.size,0,none⟩) 1 1) (wr.alloc (.cells #[.string ⟨#[101,110,100,99,108,97,115,115]⟩] 9)) _ (uh Hq).st (Kr wr 0 [⟨#[101,110,100,99,108,97,115,115]⟩] _ 1 (jg _) rfl rfl (by simp)) (by have h9:=uh Ze;rw[acs];omega) (by simp only[G9];have z0:wo []=0:=rfl;have z9:(⟨#[101,110,100,99,108,97,115,115]⟩:dh).size=8:=rfl;omega));go_wp2_with fail;refine(uh HC).mono ?_;rintro e w2 ⟨rfl,hst2,hk2⟩;have HL2:=ak ((uh Hq).app hst2 hk2);clear hst2 hk2
             have qx:Hid (A7++[oq [⟨#[101,110,100,99,108,97,115,115]⟩]]=Hu ks ⟨nm,ins,au,iw,gq,ay,body⟩):=by
              refine ak ?_;rw[uh HA7,uh HA6,uh HA5,uh HA4,uh HA3,uh HA2,uh HA1];rfl
             have HS9:Hid (St w0 b (s++TX) w2):=by
              have h8:=(uh HL2).st;rw[uh qx,uh HTX] at h8;exact h8
             have HK9:=ak (uh HL2).kp;clear HL2 qx;go_wp2;go_end0;exact⟨rfl,uh HS9,uh HK9⟩
end Go.Proofs.YtfeejeflmcapoaaGreatDoor
