import Derived.Test.YtfeejeflmcapoaaGreatDoorPI3
set_option linter.unusedSimpArgs false
set_option linter.unusedVariables false
set_option maxHeartbeats 16000000
namespace Go.Proofs.YtfeejeflmcapoaaGreatDoor
open Go.RowKit
open Go.Shelf
structure CI (w0 w:bf) (b cb:Nat) (cells:Array Value) (s:dh) (wr:bf) (ls:List dh):Prop where
 st:St w0 b (s++Gi ls) wr
 blk:jc wr cb 50 cells
 kp:Zg b w wr
theorem CI.on {w0 w wr w1:bf} {b cb:Nat} {cells:Array Value} {s:dh} {ls:List dh} (h:CI w0 w b cb cells s wr ls) (hb:Below wr.heap.size wr w1):CI w0 w b cb cells s w1 ls :=
 ⟨h.st.on hb,h.blk.below hb h.blk.lt,h.kp.trans (aj1 hb)⟩
theorem CI.app {w0 w wr w2:bf} {b cb:Nat} {cells:Array Value} {s ln:dh} {ls:List dh} (h:CI w0 w b cb cells s wr ls) (hs:St w0 b (s++Gi ls++(ln++Wnl)) w2) (hk:Zg b wr w2):CI w0 w b cb cells s w2 (ls++[ln]):=by
 refine⟨?_,h.blk.kept h.st hk (by decide),h.kp.trans hk⟩;rw[akh,ari,←Cm];exact hs
theorem Yo {α:Type} (f:α->dh) (A:List dh) (xs:List α) (q:Nat):vk (A++(xs.take q).map f)<=vk A+vk (xs.map f):=by
 have h2:vk (xs.map f)=vk ((xs.take q).map f)+vk ((xs.drop q).map f):=by rw[←Fj,←Il,Pj]
 rw[Fj];omega
theorem acw (s:dh) (ls:List dh):(s++Gi ls).size=s.size+vk ls:=by rw[Lc,ah4]
theorem a94 (ks:List dw) (k:dw) (h:k∈ks):vk (Ia ks k)<=vk (Ho ks):=by
 have:∀l:List dw,k∈l->vk (Ia ks k)<=vk (l.flatMap (Ia ks)):=by
  intro l hl
  induction l with
  | nil=>cases hl
  | cons y l ih =>
   rw[List.flatMap_cons,Fj];rcases ql.1 hl with rfl|hl
   ·omega
   ·have:=ih hl
    omega
 exact this ks h
set_option maxRecDepth 20000 in
theorem ams (w0:bf) (b:Nat) (hE:Env w0) (ks:List dw) (k:dw) (a95:Value) (hall:iy 7 160 Dl 0 w0 a95 ks) (hkm:k∈ks) (hpr:asr ks) (a0w:∀s,s∈k.body->Nv s<=1048576) (cs0:List Value) (hR0:Dl 0 w0 cs0 k) (w:bf) (s:dh) (hst:St w0 b s w) (hs:s.size<=300000000) :
  Calls Tryz.prog 38 #[.pointer (some ⟨b,0,none⟩),.agg cs0.toArray,a95] w (anp w0 b (s++Gi (Ia ks k)) w):=by
 have hcl:=hpr.cls _ hkm;have hln:=hpr.ln _ hkm;have hnm:=hpr.nm _ hkm;have hlen:=hpr.len _ hkm;have hfew:=hcl.few;have htot:vk (Ia ks k)<=200000000:=jq (a94 ks k hkm) hpr.all;have Xa:Hid (∀w1,Below w0.heap.size w0 w1->Env w1):=fun w1 hb=>hE.below hb hE.three
 obtain⟨nm,ins,ak,iq,eu,au,body⟩:=k;obtain⟨f1,f2,f3,f4,f5,f6,rfl,hnl,q1,q2,q3,q4,q5,q6⟩:=hR0;simp only at hnl q1 q2 q3 q4 q5 q6 a0w;obtain⟨b1,c1,rfl⟩:=q1.shape;obtain⟨b2,c2,rfl⟩:=q2.shape;obtain⟨b3,c3,rfl⟩:=q3.shape;obtain⟨b4,c4,rfl⟩:=q4.shape;obtain⟨b5,c5,rfl⟩:=q5.shape;obtain⟨b6,c6,rfl⟩:=q6.shape;obtain⟨aa,ac,rfl⟩:=hall.shape
 have hkl:ks.length<=140737488355328:=by
  obtain⟨_,_,_,_,h,_⟩:=hall;exact h
 obtain⟨_,_,D6,_,_,hx⟩:=hall;simp only[qw] at D6;obtain⟨rfl,_,rfl⟩:=D6;have HX:=hide hx;have Uf:=hide q1;have HS2:=hide q2;have Vo:=hide q3;have Rl:=hide q4;have HS5:=hide q5;have HS6:=hide q6;have a0x:=hide hnm.2.1;have a0y:=hide hnm.2.2.1;have a0z:=hide hnm.2.2.2;have bck:=hide hcl.ty.1;have bcl:=hide hcl.ty.2;have Qj:=hide hcl;have a00:=hide hln;have bd2:=hide a0w;have hnz:=hnm.1;simp only at hnz hlen hfew;obtain⟨hl1,hl2,hl3,hl6⟩:=hlen;obtain⟨hl4,hl5⟩:=hfew
 have HB0:Hid (CI w0 w b w.heap.size #[.string nm,.slice b1 ins.length c1,.slice b2 ak.length c2,.slice b3 iq.length c3,.slice b4 eu.length c4,.slice b5 au.length c5,.slice b6 body.length c6] s ((w.alloc (.cells #[.string nm,.slice b1 ins.length c1,.slice b2 ak.length c2,.slice b3 iq.length c3,.slice b4 eu.length c4,.slice b5 au.length c5,.slice b6 body.length c6] 50)).alloc (.cells #[.string ⟨#[99,108,97,115,115]⟩,.string nm] 9)) ([])):=by
  have hb8:=((gy w.heap.size w).alloc (gq _) (.cells #[.string nm,.slice b1 ins.length c1,.slice b2 ak.length c2,.slice b3 iq.length c3,.slice b4 eu.length c4,.slice b5 au.length c5,.slice b6 body.length c6] 50)).alloc (by simp) (.cells #[.string ⟨#[99,108,97,115,115]⟩,.string nm] 9);refine hide ⟨?_,?_,aj1 hb8⟩
  ·rw[Gi,afs]
   exact hst.on hb8
  ·exact(og w #[.string nm,.slice b1 ins.length c1,.slice b2 ak.length c2,.slice b3 iq.length c3,.slice b4 eu.length c4,.slice b5 au.length c5,.slice b6 body.length c6] 50).below ((gy (w.heap.size+1) _).alloc (by simp) _) (Ri _)
 have HM:=Kv (w.alloc (.cells #[.string nm,.slice b1 ins.length c1,.slice b2 ak.length c2,.slice b3 iq.length c3,.slice b4 eu.length c4,.slice b5 au.length c5,.slice b6 body.length c6] 50)) 0 [⟨#[99,108,97,115,115]⟩,nm] _ 2 (jg _) rfl rfl (by simp);rw[Ed] at HM;have HC:=hide (Oo w0 b 0 [⟨#[99,108,97,115,115]⟩,nm] _ _ _ (uh HB0).st HM (by rw[acw];have z0:vk []=0:=rfl;omega) (by simp only[Hr];have z0:vk []=0:=rfl;have z9:(⟨#[99,108,97,115,115]⟩:dh).size=5:=rfl;omega))
 have Uo:Hid (vk ([]++[oh [⟨#[99,108,97,115,115]⟩,nm]])+vk (ins.map (fun s:jw=>oh [Ik,s.name,Bq s.type]))+vk (ak.map (fun s:jw=>oh [Ee,s.name,Bq s.type]))+vk (iq.map (fun x:dh=>oh [Eo,x]))+vk (eu.map (fun v:Int=>oh [Ep,qm v]))+vk (au.map (fun g:Int=>oh [Es,Lp ks g]))+vk (body.map (fun s:lu=>oh (xu s)))<=200000000):=by
  refine hide ?_;unfold Ia at htot;simp only[Fj] at htot ⊢;have z0:vk []=0:=rfl;rw[z0,Bh];have e9:vk [oh [⟨#[99,108,97,115,115]⟩,nm]]=vk [oh [vg,nm]]:=rfl;omega
 obtain⟨TX,hTX⟩:∃TX,TX=Gi (Ia ks ⟨nm,ins,ak,iq,eu,au,body⟩):=⟨_,rfl⟩;have HTX:=hide hTX.symm;rw[←hTX];clear q1 q2 q3 q4 q5 q6 hx hcl hln hnl hst HM htot hkm hpr hnm hE a0w hTX;go_enter Tryz.func38,Tryz.ntmps38;go_wp2_with fail;refine(uh HC).mono ?_;rintro e w2 ⟨rfl,hst2,hk2⟩;have HLa:=hide ((uh HB0).app hst2 hk2);obtain⟨A1,hA1⟩:∃A1,A1=[]++[oh [⟨#[99,108,97,115,115]⟩,nm]]:=⟨_,rfl⟩;rw[←hA1] at HLa Uo;have HA1:=hide hA1;have HLn:=HLa
 have HN1:Hid (vk A1+vk (ins.map (fun s:jw=>oh [Ik,s.name,Bq s.type]))<=200000000):=by
  refine hide ?_;have h1:=uh Uo;omega
 have k1:w2.cell? ⟨w.heap.size,1,none⟩=some (.slice b1 ins.length c1):=(uh HLn).blk.cell (v:=.slice b1 ins.length c1) rfl;clear hst2 hk2 hA1 HC HB0;go_wp2
 go_loopg [26] ins.length (fun gh ix wr=>∃(q:Nat),q<=ins.length∧gh=ins.length-q∧ix=.int .i64 q∧Hid (CI w0 w b w.heap.size #[.string nm,.slice b1 ins.length c1,.slice b2 ak.length c2,.slice b3 iq.length c3,.slice b4 eu.length c4,.slice b5 au.length c5,.slice b6 body.length c6] s wr (A1++(ins.take q).map (fun s:jw=>oh [Ik,s.name,Bq s.type]))))
 case atStart=>exact⟨0,jg _,by omega,rfl,(by rw[Np,Gf,Az];exact HLn)⟩
 case round =>
  obtain⟨q,hq,hg,rfl,HL⟩:=hrel;have HG:=hide hg;clear hg
  by_cases hlt:q<ins.length
  ·have hbw:=(uh HL).st.old
   obtain⟨_,_,D6,_,_,hex⟩:=uh Uf;simp only[qw] at D6;obtain⟨rfl,_,rfl⟩:=D6;obtain⟨b',o,cs,rfl,_,hb,hcs,hc,hR⟩:=hex q hlt;have hc:∀j (hj:j<cs.length),wr.cell? ⟨b',o+q*2+j,none⟩=some cs[j]:=fun j hj=>by rw[hbw.cell (p:=⟨b',_,none⟩) hb];exact hc j hj
   obtain⟨rfl,hsn,hty⟩:=hR;have z0:=hc 0 (by simp);have z1:=hc 1 (by simp);simp only[jr,jh,ny,o8] at z0 z1;have Ku:(q:Int)<(ins.length:Int):=by omega
   have HT:=hide (map_take (fun s:jw=>oh [Ik,s.name,Bq s.type]) (A1) ins q hlt)
   have Zh:Hid (vk (A1++(ins.take q).map (fun s:jw=>oh [Ik,s.name,Bq s.type]))<=200000000):=by
    refine hide ?_;have h8:=Yo (fun s:jw=>oh [Ik,s.name,Bq s.type]) (A1) ins q;have:=uh HN1;omega
   have hmem:=pz hlt;clear hc hcs hex;generalize A1++(ins.take q).map (fun s:jw=>oh [Ik,s.name,Bq s.type])=pre at HL HT Zh;have HNS:=hide (uh a0x _ hmem);have ao2:=uh bck _ hmem;have hzt:=ad3 ins[q].type;have HTY:=hide (ahr ins[q].type · ao2);generalize Bq ins[q].type=tx at *;generalize ins[q]=sl at *;obtain⟨sn,sty⟩:=sl;simp only at *;have ae6:=uh HNS;have O4:Below wr.heap.size wr ((wr.alloc (.cells #[.string sn,.int .i64 sty] 54)).alloc (.cells #[.string ⟨#[105,110]⟩,.string sn,.string tx] 9)).drew:=(((gy wr.heap.size wr).alloc (gq _) (.cells #[.string sn,.int .i64 sty] 54)).alloc (by simp) (.cells #[.string ⟨#[105,110]⟩,.string sn,.string tx] 9)).drew;have Hz:=hide ((uh HL).on O4);have U7:Hid (jc ((wr.alloc (.cells #[.string sn,.int .i64 sty] 54)).alloc (.cells #[.string ⟨#[105,110]⟩,.string sn,.string tx] 9)).drew wr.heap.size 54 #[.string sn,.int .i64 sty]):=(og wr #[.string sn,.int .i64 sty] 54).below (((gy (wr.heap.size+1) _).alloc (by simp) _).drew) (Ri _);have HM:=Kv (wr.alloc (.cells #[.string sn,.int .i64 sty] 54)) 0 [⟨#[105,110]⟩,sn,tx] _ 3 (jg _) rfl rfl (by simp);rw[Ed] at HM;have HC:=hide (Oo w0 b 0 [⟨#[105,110]⟩,sn,tx] (.slice (some ⟨wr.heap.size+1,0,none⟩) 3 3) ((wr.alloc (.cells #[.string sn,.int .i64 sty] 54)).alloc (.cells #[.string ⟨#[105,110]⟩,.string sn,.string tx] 9)).drew _ (uh Hz).st (HM.below (gy _ _).drew) (by have h9:=uh Zh;rw[acw];omega) (by simp only[Hr];have z0:vk []=0:=rfl;have z9:(⟨#[105,110]⟩:dh).size<=8:=(by decide);omega))
   have k0:(wr.alloc (.cells #[.string sn,.int .i64 sty] 54)).drew.cell? ⟨wr.heap.size,0,none⟩=some (.string sn):=by
    show (wr.alloc (.cells #[.string sn,.int .i64 sty] 54)).cell? _=_;rw[zy _ _ _ _ rfl];rfl
   have k1:(wr.alloc (.cells #[.string sn,.int .i64 sty] 54)).drew.cell? ⟨wr.heap.size,1,none⟩=some (.int .i64 sty):=by
    show (wr.alloc (.cells #[.string sn,.int .i64 sty] 54)).cell? _=_;rw[zy _ _ _ _ rfl];rfl
   clear hmem hsn hty O4 HM ao2;go_wp2_with fail
   go_region_held3 (fun w'=>w'.cell? ⟨wr.heap.size,0,none⟩=some (.string sn)∧w'.cell? ⟨wr.heap.size,1,none⟩=some (.int .i64 sty)) (go_keep) (first|(go_at_call 68;refine(uh HTY _).mono ?_;rintro e wj ⟨rfl,rfl⟩)|(go_at_call 67;refine(uh HC).mono ?_;rintro e w2 ⟨rfl,hst2,hk2⟩;have HL2:=hide ((uh Hz).app hst2 hk2);have ab4:=hide ((uh U7).kept (uh Hz).st hk2 (by decide));have k0:w2.cell? ⟨wr.heap.size,0,none⟩=some (.string sn):=jc.cell (uh ab4) (v:=.string sn) rfl;have k1:w2.cell? ⟨wr.heap.size,1,none⟩=some (.int .i64 sty):=jc.cell (uh ab4) (v:=.int .i64 sty) rfl;clear hst2 hk2))
   go_wp2
   go_roundg (ins.length-(q+1))
   case measure=>have:=uh HG;omega
   case rel=>exact⟨q+1,by omega,rfl,by go_num,(by rw[uh HT];exact HL2)⟩
  ·have e:q=ins.length:=by omega
   have HLn:Hid (CI w0 w b w.heap.size #[.string nm,.slice b1 ins.length c1,.slice b2 ak.length c2,.slice b3 iq.length c3,.slice b4 eu.length c4,.slice b5 au.length c5,.slice b6 body.length c6] s wr (A1++ins.map (fun s:jw=>oh [Ik,s.name,Bq s.type]))):=by
    have h8:=uh HL;rw[e,Eb] at h8;exact h8
   clear e HL HG;obtain⟨A2,hA2⟩:∃A,A=A1++ins.map (fun s:jw=>oh [Ik,s.name,Bq s.type]):=⟨_,rfl⟩;rw[←hA2] at HLn;have HA2:=hide hA2
   have Wu:Hid (vk A2=vk A1+vk (ins.map (fun s:jw=>oh [Ik,s.name,Bq s.type]))):=by
    refine hide ?_;rw[hA2,Fj]
   clear hA2
   have Zr:Hid (vk A2+vk (ak.map (fun s:jw=>oh [Ee,s.name,Bq s.type]))<=200000000):=by
    refine hide ?_;have h1:=uh Uo;have e2:=uh Wu;omega
   have k2:wr.cell? ⟨w.heap.size,2,none⟩=some (.slice b2 ak.length c2):=(uh HLn).blk.cell (v:=.slice b2 ak.length c2) rfl;go_wp2
   go_loopg [42] ak.length (fun gh ix wr=>∃(q:Nat),q<=ak.length∧gh=ak.length-q∧ix=.int .i64 q∧Hid (CI w0 w b w.heap.size #[.string nm,.slice b1 ins.length c1,.slice b2 ak.length c2,.slice b3 iq.length c3,.slice b4 eu.length c4,.slice b5 au.length c5,.slice b6 body.length c6] s wr (A2++(ak.take q).map (fun s:jw=>oh [Ee,s.name,Bq s.type]))))
   case atStart=>exact⟨0,jg _,by omega,rfl,(by rw[Np,Gf,Az];exact HLn)⟩
   case round =>
    obtain⟨q,hq,hg,rfl,HL⟩:=hrel;have HG:=hide hg;clear hg
    by_cases hlt:q<ak.length
    ·have hbw:=(uh HL).st.old
     obtain⟨_,_,D6,_,_,hex⟩:=uh HS2;simp only[qw] at D6;obtain⟨rfl,_,rfl⟩:=D6;obtain⟨b',o,cs,rfl,_,hb,hcs,hc,hR⟩:=hex q hlt;have hc:∀j (hj:j<cs.length),wr.cell? ⟨b',o+q*2+j,none⟩=some cs[j]:=fun j hj=>by rw[hbw.cell (p:=⟨b',_,none⟩) hb];exact hc j hj
     obtain⟨rfl,hsn,hty⟩:=hR;have z0:=hc 0 (by simp);have z1:=hc 1 (by simp);simp only[jr,jh,ny,o8] at z0 z1;have Ku:(q:Int)<(ak.length:Int):=by omega
     have HT:=hide (map_take (fun s:jw=>oh [Ee,s.name,Bq s.type]) (A2) ak q hlt)
     have Zh:Hid (vk (A2++(ak.take q).map (fun s:jw=>oh [Ee,s.name,Bq s.type]))<=200000000):=by
      refine hide ?_;have h8:=Yo (fun s:jw=>oh [Ee,s.name,Bq s.type]) (A2) ak q;have:=uh Zr;omega
     have hmem:=pz hlt;clear hc hcs hex;generalize A2++(ak.take q).map (fun s:jw=>oh [Ee,s.name,Bq s.type])=pre at HL HT Zh;have HNS:=hide (uh a0y _ hmem);have ao2:=uh bcl _ hmem;have hzt:=ad3 ak[q].type;have HTY:=hide (ahr ak[q].type · ao2);generalize Bq ak[q].type=tx at *;generalize ak[q]=sl at *;obtain⟨sn,sty⟩:=sl;simp only at *;have ae6:=uh HNS;have O4:Below wr.heap.size wr ((wr.alloc (.cells #[.string sn,.int .i64 sty] 54)).alloc (.cells #[.string ⟨#[111,117,116]⟩,.string sn,.string tx] 9)).drew:=(((gy wr.heap.size wr).alloc (gq _) (.cells #[.string sn,.int .i64 sty] 54)).alloc (by simp) (.cells #[.string ⟨#[111,117,116]⟩,.string sn,.string tx] 9)).drew;have Hz:=hide ((uh HL).on O4);have U7:Hid (jc ((wr.alloc (.cells #[.string sn,.int .i64 sty] 54)).alloc (.cells #[.string ⟨#[111,117,116]⟩,.string sn,.string tx] 9)).drew wr.heap.size 54 #[.string sn,.int .i64 sty]):=(og wr #[.string sn,.int .i64 sty] 54).below (((gy (wr.heap.size+1) _).alloc (by simp) _).drew) (Ri _);have HM:=Kv (wr.alloc (.cells #[.string sn,.int .i64 sty] 54)) 0 [⟨#[111,117,116]⟩,sn,tx] _ 3 (jg _) rfl rfl (by simp);rw[Ed] at HM;have HC:=hide (Oo w0 b 0 [⟨#[111,117,116]⟩,sn,tx] (.slice (some ⟨wr.heap.size+1,0,none⟩) 3 3) ((wr.alloc (.cells #[.string sn,.int .i64 sty] 54)).alloc (.cells #[.string ⟨#[111,117,116]⟩,.string sn,.string tx] 9)).drew _ (uh Hz).st (HM.below (gy _ _).drew) (by have h9:=uh Zh;rw[acw];omega) (by simp only[Hr];have z0:vk []=0:=rfl;have z9:(⟨#[111,117,116]⟩:dh).size<=8:=(by decide);omega))
     have k0:(wr.alloc (.cells #[.string sn,.int .i64 sty] 54)).drew.cell? ⟨wr.heap.size,0,none⟩=some (.string sn):=by
      show (wr.alloc (.cells #[.string sn,.int .i64 sty] 54)).cell? _=_;rw[zy _ _ _ _ rfl];rfl
     have k1:(wr.alloc (.cells #[.string sn,.int .i64 sty] 54)).drew.cell? ⟨wr.heap.size,1,none⟩=some (.int .i64 sty):=by
      show (wr.alloc (.cells #[.string sn,.int .i64 sty] 54)).cell? _=_;rw[zy _ _ _ _ rfl];rfl
     clear hmem hsn hty O4 HM ao2;go_wp2_with fail
     go_region_held3 (fun w'=>w'.cell? ⟨wr.heap.size,0,none⟩=some (.string sn)∧w'.cell? ⟨wr.heap.size,1,none⟩=some (.int .i64 sty)) (go_keep) (first|(go_at_call 68;refine(uh HTY _).mono ?_;rintro e wj ⟨rfl,rfl⟩)|(go_at_call 67;refine(uh HC).mono ?_;rintro e w2 ⟨rfl,hst2,hk2⟩;have HL2:=hide ((uh Hz).app hst2 hk2);have ab4:=hide ((uh U7).kept (uh Hz).st hk2 (by decide));have k0:w2.cell? ⟨wr.heap.size,0,none⟩=some (.string sn):=jc.cell (uh ab4) (v:=.string sn) rfl;have k1:w2.cell? ⟨wr.heap.size,1,none⟩=some (.int .i64 sty):=jc.cell (uh ab4) (v:=.int .i64 sty) rfl;clear hst2 hk2))
     go_wp2
     go_roundg (ak.length-(q+1))
     case measure=>have:=uh HG;omega
     case rel=>exact⟨q+1,by omega,rfl,by go_num,(by rw[uh HT];exact HL2)⟩
    ·have e:q=ak.length:=by omega
     have HLn:Hid (CI w0 w b w.heap.size #[.string nm,.slice b1 ins.length c1,.slice b2 ak.length c2,.slice b3 iq.length c3,.slice b4 eu.length c4,.slice b5 au.length c5,.slice b6 body.length c6] s wr (A2++ak.map (fun s:jw=>oh [Ee,s.name,Bq s.type]))):=by
      have h8:=uh HL;rw[e,Eb] at h8;exact h8
     clear e HL HG;obtain⟨A3,hA3⟩:∃A,A=A2++ak.map (fun s:jw=>oh [Ee,s.name,Bq s.type]):=⟨_,rfl⟩;rw[←hA3] at HLn;have HA3:=hide hA3
     have HQ3:Hid (vk A3=vk A2+vk (ak.map (fun s:jw=>oh [Ee,s.name,Bq s.type]))):=by
      refine hide ?_;rw[hA3,Fj]
     clear hA3
     have HN3:Hid (vk A3+vk (iq.map (fun x:dh=>oh [Eo,x]))<=200000000):=by
      refine hide ?_;have h1:=uh Uo;have e2:=uh Wu;have e3:=uh HQ3;omega
     have k3:wr.cell? ⟨w.heap.size,3,none⟩=some (.slice b3 iq.length c3):=(uh HLn).blk.cell (v:=.slice b3 iq.length c3) rfl;go_wp2
     go_loopg [58] iq.length (fun gh ix wr=>∃(q:Nat),q<=iq.length∧gh=iq.length-q∧ix=.int .i64 q∧Hid (CI w0 w b w.heap.size #[.string nm,.slice b1 ins.length c1,.slice b2 ak.length c2,.slice b3 iq.length c3,.slice b4 eu.length c4,.slice b5 au.length c5,.slice b6 body.length c6] s wr (A3++(iq.take q).map (fun x:dh=>oh [Eo,x]))))
     case atStart=>exact⟨0,jg _,by omega,rfl,(by rw[Np,Gf,Az];exact HLn)⟩
     case round =>
      obtain⟨q,hq,hg,rfl,HL⟩:=hrel;have HG:=hide hg;clear hg
      by_cases hlt:q<iq.length
      ·have hbw:=(uh HL).st.old
       obtain⟨_,_,D6,_,_,hex⟩:=uh Vo;simp only[qw] at D6;obtain⟨rfl,_,rfl⟩:=D6;obtain⟨b',o,cs,rfl,_,hb,hcs,hc,hR⟩:=hex q hlt;have hc:∀j (hj:j<cs.length),wr.cell? ⟨b',o+q*1+j,none⟩=some cs[j]:=fun j hj=>by rw[hbw.cell (p:=⟨b',_,none⟩) hb];exact hc j hj
       obtain⟨rfl,hsn⟩:=hR;have z0:=hc 0 (by simp);simp only[jr,jh,ny,o8] at z0;have Ku:(q:Int)<(iq.length:Int):=by omega
       have HT:=hide (map_take (fun x:dh=>oh [Eo,x]) (A3) iq q hlt)
       have Zh:Hid (vk (A3++(iq.take q).map (fun x:dh=>oh [Eo,x]))<=200000000):=by
        refine hide ?_;have h8:=Yo (fun x:dh=>oh [Eo,x]) (A3) iq q;have:=uh HN3;omega
       have hmem:=pz hlt;clear hc hcs hex;generalize A3++(iq.take q).map (fun x:dh=>oh [Eo,x])=pre at HL HT Zh;have HNS:=hide (uh a0z _ hmem);generalize iq[q]=x at *;have ae6:=uh HNS;have Hz:=hide ((uh HL).on ((gy wr.heap.size wr).alloc (gq _) (.cells #[.string ⟨#[108,111,99]⟩,.string x] 9)));clear hmem hsn;have HC:=hide (Oo w0 b 0 [⟨#[108,111,99]⟩,x] (.slice (some ⟨wr.heap.size,0,none⟩) 2 2) (wr.alloc (.cells #[.string ⟨#[108,111,99]⟩,.string x] 9)) _ (uh Hz).st (Kv wr 0 [⟨#[108,111,99]⟩,x] _ 2 (jg _) rfl rfl (by simp)) (by have h9:=uh Zh;rw[acw];omega) (by simp only[Hr];have z0:vk []=0:=rfl;have z9:(⟨#[108,111,99]⟩:dh).size=3:=rfl;omega));go_wp2_with fail;refine(uh HC).mono ?_;rintro e w2 ⟨rfl,hst2,hk2⟩;have HL2:=hide ((uh Hz).app hst2 hk2);clear hst2 hk2;go_wp2
       go_roundg (iq.length-(q+1))
       case measure=>have:=uh HG;omega
       case rel=>exact⟨q+1,by omega,rfl,by go_num,(by rw[uh HT];exact HL2)⟩
      ·have e:q=iq.length:=by omega
       have HLn:Hid (CI w0 w b w.heap.size #[.string nm,.slice b1 ins.length c1,.slice b2 ak.length c2,.slice b3 iq.length c3,.slice b4 eu.length c4,.slice b5 au.length c5,.slice b6 body.length c6] s wr (A3++iq.map (fun x:dh=>oh [Eo,x]))):=by
        have h8:=uh HL;rw[e,Eb] at h8;exact h8
       clear e HL HG;obtain⟨A4,hA4⟩:∃A,A=A3++iq.map (fun x:dh=>oh [Eo,x]):=⟨_,rfl⟩;rw[←hA4] at HLn;have HA4:=hide hA4
       have HQ4:Hid (vk A4=vk A3+vk (iq.map (fun x:dh=>oh [Eo,x]))):=by
        refine hide ?_;rw[hA4,Fj]
       clear hA4
       have HN4:Hid (vk A4+vk (eu.map (fun v:Int=>oh [Ep,qm v]))<=200000000):=by
        refine hide ?_;have h1:=uh Uo;have e2:=uh Wu;have e3:=uh HQ3;have e4:=uh HQ4;omega
       have k4:wr.cell? ⟨w.heap.size,4,none⟩=some (.slice b4 eu.length c4):=(uh HLn).blk.cell (v:=.slice b4 eu.length c4) rfl;go_wp2
       go_loopg [70] eu.length (fun gh ix wr=>∃(q:Nat),q<=eu.length∧gh=eu.length-q∧ix=.int .i64 q∧Hid (CI w0 w b w.heap.size #[.string nm,.slice b1 ins.length c1,.slice b2 ak.length c2,.slice b3 iq.length c3,.slice b4 eu.length c4,.slice b5 au.length c5,.slice b6 body.length c6] s wr (A4++(eu.take q).map (fun v:Int=>oh [Ep,qm v]))))
       case atStart=>exact⟨0,jg _,by omega,rfl,(by rw[Np,Gf,Az];exact HLn)⟩
       case round =>
        obtain⟨q,hq,hg,rfl,HL⟩:=hrel;have HG:=hide hg;clear hg
        by_cases hlt:q<eu.length
        ·have hbw:=(uh HL).st.old
         obtain⟨_,_,D6,_,_,hex⟩:=uh Rl;simp only[qw] at D6;obtain⟨rfl,_,rfl⟩:=D6;obtain⟨b',o,cs,rfl,_,hb,hcs,hc,hR⟩:=hex q hlt;have hc:∀j (hj:j<cs.length),wr.cell? ⟨b',o+q*1+j,none⟩=some cs[j]:=fun j hj=>by rw[hbw.cell (p:=⟨b',_,none⟩) hb];exact hc j hj
         obtain⟨rfl,hsn⟩:=hR;have z0:=hc 0 (by simp);simp only[jr,jh,ny,o8] at z0;have Ku:(q:Int)<(eu.length:Int):=by omega
         have HT:=hide (map_take (fun v:Int=>oh [Ep,qm v]) (A4) eu q hlt)
         have Zh:Hid (vk (A4++(eu.take q).map (fun v:Int=>oh [Ep,qm v]))<=200000000):=by
          refine hide ?_;have h8:=Yo (fun v:Int=>oh [Ep,qm v]) (A4) eu q;have:=uh HN4;omega
         have hmem:=pz hlt;clear hc hcs hex;generalize A4++(eu.take q).map (fun v:Int=>oh [Ep,qm v])=pre at HL HT Zh;have hv32:=(uh Qj).eu _ hmem;have HDC:=hide (ad1 eu[q] hv32 wr (uh Xa _ hbw));have hdz:=Qo eu[q] hv32;generalize qm eu[q]=dv at *;generalize eu[q]=x at *;clear hmem hsn hv32;go_wp2_with fail;refine(uh HDC).mono ?_;rintro e w9 ⟨rfl,yu⟩;have Hz:=hide ((uh HL).on (yu.alloc yu.size (.cells #[.string ⟨#[109,101,109]⟩,.string dv] 9)));clear yu;have HC:=hide (Oo w0 b 0 [⟨#[109,101,109]⟩,dv] (.slice (some ⟨w9.heap.size,0,none⟩) 2 2) (w9.alloc (.cells #[.string ⟨#[109,101,109]⟩,.string dv] 9)) _ (uh Hz).st (Kv w9 0 [⟨#[109,101,109]⟩,dv] _ 2 (jg _) rfl rfl (by simp)) (by have h9:=uh Zh;rw[acw];omega) (by simp only[Hr];have z0:vk []=0:=rfl;have z9:(⟨#[109,101,109]⟩:dh).size=3:=rfl;omega));go_wp2_with fail;refine(uh HC).mono ?_;rintro e w2 ⟨rfl,hst2,hk2⟩;have HL2:=hide ((uh Hz).app hst2 hk2);clear hst2 hk2;go_wp2
         go_roundg (eu.length-(q+1))
         case measure=>have:=uh HG;omega
         case rel=>exact⟨q+1,by omega,rfl,by go_num,(by rw[uh HT];exact HL2)⟩
        ·have e:q=eu.length:=by omega
         have HLn:Hid (CI w0 w b w.heap.size #[.string nm,.slice b1 ins.length c1,.slice b2 ak.length c2,.slice b3 iq.length c3,.slice b4 eu.length c4,.slice b5 au.length c5,.slice b6 body.length c6] s wr (A4++eu.map (fun v:Int=>oh [Ep,qm v]))):=by
          have h8:=uh HL;rw[e,Eb] at h8;exact h8
         clear e HL HG;obtain⟨A5,hA5⟩:∃A,A=A4++eu.map (fun v:Int=>oh [Ep,qm v]):=⟨_,rfl⟩;rw[←hA5] at HLn;have HA5:=hide hA5
         have HQ5:Hid (vk A5=vk A4+vk (eu.map (fun v:Int=>oh [Ep,qm v]))):=by
          refine hide ?_;rw[hA5,Fj]
         clear hA5
         have HN5:Hid (vk A5+vk (au.map (fun g:Int=>oh [Es,Lp ks g]))<=200000000):=by
          refine hide ?_;have h1:=uh Uo;have e2:=uh Wu;have e3:=uh HQ3;have e4:=uh HQ4;have e5:=uh HQ5;omega
         have k5:wr.cell? ⟨w.heap.size,5,none⟩=some (.slice b5 au.length c5):=(uh HLn).blk.cell (v:=.slice b5 au.length c5) rfl;go_wp2
         go_loopg [83] au.length (fun gh ix wr=>∃(q:Nat),q<=au.length∧gh=au.length-q∧ix=.int .i64 q∧Hid (CI w0 w b w.heap.size #[.string nm,.slice b1 ins.length c1,.slice b2 ak.length c2,.slice b3 iq.length c3,.slice b4 eu.length c4,.slice b5 au.length c5,.slice b6 body.length c6] s wr (A5++(au.take q).map (fun g:Int=>oh [Es,Lp ks g]))))
         case atStart=>exact⟨0,jg _,by omega,rfl,(by rw[Np,Gf,Az];exact HLn)⟩
         case round =>
          obtain⟨q,hq,hg,rfl,HL⟩:=hrel;have HG:=hide hg;clear hg
          by_cases hlt:q<au.length
          ·have hbw:=(uh HL).st.old
           obtain⟨_,_,D6,_,_,hex⟩:=uh HS5;simp only[qw] at D6;obtain⟨rfl,_,rfl⟩:=D6;obtain⟨b',o,cs,rfl,_,hb,hcs,hc,hR⟩:=hex q hlt;have hc:∀j (hj:j<cs.length),wr.cell? ⟨b',o+q*1+j,none⟩=some cs[j]:=fun j hj=>by rw[hbw.cell (p:=⟨b',_,none⟩) hb];exact hc j hj
           obtain⟨rfl,hsn⟩:=hR;have z0:=hc 0 (by simp);simp only[jr,jh,ny,o8] at z0;have Ku:(q:Int)<(au.length:Int):=by omega
           have HT:=hide (map_take (fun g:Int=>oh [Es,Lp ks g]) (A5) au q hlt)
           have Zh:Hid (vk (A5++(au.take q).map (fun g:Int=>oh [Es,Lp ks g]))<=200000000):=by
            refine hide ?_;have h8:=Yo (fun g:Int=>oh [Es,Lp ks g]) (A5) au q;have:=uh HN5;omega
           have hmem:=pz hlt;clear hc hcs hex;generalize A5++(au.take q).map (fun g:Int=>oh [Es,Lp ks g])=pre at HL HT Zh;obtain⟨hg0,hg1⟩:=(uh Qj).ins _ hmem;have hgn:=(uh Qj).nm _ hmem;obtain⟨gi,hgi⟩:=H8 hg0;have hgk:gi<ks.length:=by omega
           have ak2:Lp ks au[q]=ks[gi].name:=by
            unfold Lp;rw[hgi];show (match ks[gi]? with|some k=>k.name|none=>ByteArray.empty)=_
            rw[jy hgk]
           rw[ak2] at HT hgn;obtain⟨gb,go,gcs,aod,_,hgb,a01,hgc,hgR⟩:=uh HX gi hgk;subst aod
           have g0:wr.cell? ⟨gb,go+gi*7,none⟩=some (.string ks[gi].name):=by
            rw[hbw.cell (p:=⟨gb,_,none⟩) hgb];obtain⟨_,_,_,_,_,_,rfl,_⟩:=hgR;exact hgc 0 (by simp)
           have bd3:(gi:Int)<(ks.length:Int):=by omega
           rw[hgi] at z0;generalize ks[gi].name=x at *;have Hz:=hide ((uh HL).on ((gy wr.heap.size wr).alloc (gq _) (.cells #[.string ⟨#[117,115,101]⟩,.string x] 9)));clear hmem hsn hg0 hg1 hgi ak2 a01 hgc hgR;have HC:=hide (Oo w0 b 0 [⟨#[117,115,101]⟩,x] (.slice (some ⟨wr.heap.size,0,none⟩) 2 2) (wr.alloc (.cells #[.string ⟨#[117,115,101]⟩,.string x] 9)) _ (uh Hz).st (Kv wr 0 [⟨#[117,115,101]⟩,x] _ 2 (jg _) rfl rfl (by simp)) (by have h9:=uh Zh;rw[acw];omega) (by simp only[Hr];have z0:vk []=0:=rfl;have z9:(⟨#[117,115,101]⟩:dh).size=3:=rfl;omega));go_wp2_with fail;refine(uh HC).mono ?_;rintro e w2 ⟨rfl,hst2,hk2⟩;have HL2:=hide ((uh Hz).app hst2 hk2);clear hst2 hk2;go_wp2
           go_roundg (au.length-(q+1))
           case measure=>have:=uh HG;omega
           case rel=>exact⟨q+1,by omega,rfl,by go_num,(by rw[uh HT];exact HL2)⟩
          ·have e:q=au.length:=by omega
           have HLn:Hid (CI w0 w b w.heap.size #[.string nm,.slice b1 ins.length c1,.slice b2 ak.length c2,.slice b3 iq.length c3,.slice b4 eu.length c4,.slice b5 au.length c5,.slice b6 body.length c6] s wr (A5++au.map (fun g:Int=>oh [Es,Lp ks g]))):=by
            have h8:=uh HL;rw[e,Eb] at h8;exact h8
           clear e HL HG;obtain⟨A6,hA6⟩:∃A,A=A5++au.map (fun g:Int=>oh [Es,Lp ks g]):=⟨_,rfl⟩;rw[←hA6] at HLn;have HA6:=hide hA6
           have HQ6:Hid (vk A6=vk A5+vk (au.map (fun g:Int=>oh [Es,Lp ks g]))):=by
            refine hide ?_;rw[hA6,Fj]
           clear hA6
           have HN6:Hid (vk A6+vk (body.map (fun s:lu=>oh (xu s)))<=200000000):=by
            refine hide ?_;have h1:=uh Uo;have e2:=uh Wu;have e3:=uh HQ3;have e4:=uh HQ4;have e5:=uh HQ5;have e6:=uh HQ6;omega
           have k6:wr.cell? ⟨w.heap.size,6,none⟩=some (.slice b6 body.length c6):=(uh HLn).blk.cell (v:=.slice b6 body.length c6) rfl;go_wp2
           go_loopg [99] body.length (fun gh ix wr=>∃(q:Nat),q<=body.length∧gh=body.length-q∧ix=.int .i64 q∧Hid (CI w0 w b w.heap.size #[.string nm,.slice b1 ins.length c1,.slice b2 ak.length c2,.slice b3 iq.length c3,.slice b4 eu.length c4,.slice b5 au.length c5,.slice b6 body.length c6] s wr (A6++(body.take q).map (fun s:lu=>oh (xu s)))))
           case atStart=>exact⟨0,jg _,by omega,rfl,(by rw[Np,Gf,Az];exact HLn)⟩
           case round =>
            obtain⟨q,hq,hg,rfl,HL⟩:=hrel;have HG:=hide hg;clear hg
            by_cases hlt:q<body.length
            ·have hbw:=(uh HL).st.old
             obtain⟨_,_,D6,_,_,hex⟩:=uh HS6;simp only[qw] at D6;obtain⟨rfl,_,rfl⟩:=D6;obtain⟨b',o,cs,rfl,_,hb,hcs,hc,hR⟩:=hex q hlt;have hc:∀j (hj:j<cs.length),wr.cell? ⟨b',o+q*6+j,none⟩=some cs[j]:=fun j hj=>by rw[hbw.cell (p:=⟨b',_,none⟩) hb];exact hc j hj
             obtain⟨s1,s2,s3,rfl,hsn,hk1,hk2,g1,g2,g3⟩:=hR;have z0:=hc 0 (by simp);have z1:=hc 1 (by simp);have z2:=hc 2 (by simp);have z3:=hc 3 (by simp);have z4:=hc 4 (by simp);have z5:=hc 5 (by simp);simp only[jr,jh,ny,o8] at z0 z1 z2 z3 z4 z5;have Ku:(q:Int)<(body.length:Int):=by omega
             have HT:=hide (map_take (fun s:lu=>oh (xu s)) (A6) body q hlt)
             have Zh:Hid (vk (A6++(body.take q).map (fun s:lu=>oh (xu s)))<=200000000):=by
              refine hide ?_;have h8:=Yo (fun s:lu=>oh (xu s)) (A6) body q;have:=uh HN6;omega
             have hmem:=pz hlt;clear hc hcs hex;generalize A6++(body.take q).map (fun s:lu=>oh (xu s))=pre at HL HT Zh;have ak3:=uh a00 _ hmem
             have a02:vk (xu body[q])<=200000000:=by
              have h8:=arj _ ak3.st;have h9:=uh bd2 _ hmem;omega
             have hA9:Below wr.heap.size wr (wr.alloc (.cells #[.int .i64 body[q].kind,.string body[q].name,.int .i64 body[q].at_,s1,s2,s3] 60)):=(gy _ _).alloc (gq _) _;have ao3:=hbw.trans (hA9.mono hbw.size);have HLQ:=hide (aqg body[q] s1 s2 s3 (wr.alloc (.cells #[.int .i64 body[q].kind,.string body[q].name,.int .i64 body[q].at_,s1,s2,s3] 60)) (uh Xa _ ao3) ak3 (g1.stays zo ao3) (g2.stays Ag ao3) (g3.stays I9 ao3) a02);have P1:=hide hA9;have a03:=hide a02;generalize xu body[q]=ps at *;generalize body[q]=st at *;obtain⟨oa,oc,rfl⟩:=g1.shape;obtain⟨ca,cc,rfl⟩:=g2.shape;obtain⟨aa,ac,rfl⟩:=g3.shape;obtain⟨kd,snm,at0,bcm,code,args⟩:=st;simp only at *;clear hmem ak3 g1 g2 g3 hk1 hk2 hsn hA9 ao3 a02;go_wp2_with fail;refine(uh HLQ).mono ?_;rintro e w9 ⟨v9,ba9,rfl,hO9,yu⟩;have Q1:Hid (Below wr.heap.size wr w9):=(uh P1).trans (yu.mono (uh P1).size);have Hz:=hide ((uh HL).on (uh Q1));have HC:=hide (Oo w0 b ba9 ps v9 w9 _ (uh Hz).st hO9 (by have h9:=uh Zh;rw[acw];omega) (uh a03));clear yu hO9;go_wp2_with fail;refine(uh HC).mono ?_;rintro e w2 ⟨rfl,hst2,hk2⟩;have HL2:=hide ((uh Hz).app hst2 hk2);clear hst2 hk2;go_wp2
             go_roundg (body.length-(q+1))
             case measure=>have:=uh HG;omega
             case rel=>exact⟨q+1,by omega,rfl,by go_num,(by rw[uh HT];exact HL2)⟩
            ·have e:q=body.length:=by omega
             have HLn:Hid (CI w0 w b w.heap.size #[.string nm,.slice b1 ins.length c1,.slice b2 ak.length c2,.slice b3 iq.length c3,.slice b4 eu.length c4,.slice b5 au.length c5,.slice b6 body.length c6] s wr (A6++body.map (fun s:lu=>oh (xu s)))):=by
              have h8:=uh HL;rw[e,Eb] at h8;exact h8
             clear e HL HG;obtain⟨A7,hA7⟩:∃A,A=A6++body.map (fun s:lu=>oh (xu s)):=⟨_,rfl⟩;rw[←hA7] at HLn;have HA7:=hide hA7
             have HQ7:Hid (vk A7=vk A6+vk (body.map (fun s:lu=>oh (xu s)))):=by
              refine hide ?_;rw[hA7,Fj]
             clear hA7;have Hz:=hide ((uh HLn).on ((gy wr.heap.size wr).alloc (gq _) (.cells #[.string ⟨#[101,110,100,99,108,97,115,115]⟩] 9)))
             have Zh:Hid (vk A7<=200000000):=by
              refine hide ?_;have h1:=uh Uo;have e2:=uh Wu;have e3:=uh HQ3;have e4:=uh HQ4;have e5:=uh HQ5;have e6:=uh HQ6;have e7:=uh HQ7;omega
             have HC:=hide (Oo w0 b 0 [⟨#[101,110,100,99,108,97,115,115]⟩] (.slice (some ⟨wr.heap.size,0,none⟩) 1 1) (wr.alloc (.cells #[.string ⟨#[101,110,100,99,108,97,115,115]⟩] 9)) _ (uh Hz).st (Kv wr 0 [⟨#[101,110,100,99,108,97,115,115]⟩] _ 1 (jg _) rfl rfl (by simp)) (by have h9:=uh Zh;rw[acw];omega) (by simp only[Hr];have z0:vk []=0:=rfl;have z9:(⟨#[101,110,100,99,108,97,115,115]⟩:dh).size=8:=rfl;omega));go_wp2_with fail;refine(uh HC).mono ?_;rintro e w2 ⟨rfl,hst2,hk2⟩;have HL2:=hide ((uh Hz).app hst2 hk2);clear hst2 hk2
             have qc:Hid (A7++[oh [⟨#[101,110,100,99,108,97,115,115]⟩]]=Ia ks ⟨nm,ins,ak,iq,eu,au,body⟩):=by
              refine hide ?_;rw[uh HA7,uh HA6,uh HA5,uh HA4,uh HA3,uh HA2,uh HA1];rfl
             have HS9:Hid (St w0 b (s++TX) w2):=by
              have h8:=(uh HL2).st;rw[uh qc,uh HTX] at h8;exact h8
             have HK9:=hide (uh HL2).kp;clear HL2 qc;go_wp2;go_end0;exact⟨rfl,uh HS9,uh HK9⟩
end Go.Proofs.YtfeejeflmcapoaaGreatDoor
