import Derived.Test.YtflcnhfakcgkeaaGreatCS27
import Derived.Test.YtflcnhfakcgkeaaGreatWgtD
namespace Go.Proofs.YtflcnhfakcgkeaaGreat
open Go.RowKit
set_option linter.unusedSimpArgs false
set_option linter.unusedVariables false
theorem abo {c:List eu} (h:Df c=true):Po c:=by
 unfold Df at h
 simp only[Bool.and_eq_true,decide_eq_true_iff] at h
 exact⟨fun t ht=>List.all_eq_true.1 h.1.2 t ht,h.2,by omega⟩
theorem awz {vs:List gy} {s:ByteArray} (h:¬jc vs s<vs.length):uq vs s<0:=by
 unfold uq
 rw[if_neg h]
 decide
theorem asy {vs:List gy} {c:List eu} (hc:Po c) (h0:Nc vs c≠0):∀t,t∈c->t.op=3∨t.op=23∨t.op=24->jc vs t.name<vs.length:=by
 intro t ht hop
 rcases Nat.lt_or_ge (jc vs t.name) vs.length with h9|h9
 ·exact h9
 exfalso
 apply h0
 obtain⟨k,hk,rfl⟩:=List.mem_iff_getElem.1 ht
 obtain⟨ss,hf,hw,_⟩:=aiy (ny vs) hc.2.1 (k+1) hk
 obtain⟨_,m,s1,us,hss,_,_,_⟩:=hf.top
 have hit:=((zo c[k]).1 (hc.1 _ ht)).2.2
 have hnz:¬c[k].name.size=0:=by
  intro h
  simp only[Lc,hop,if_true] at hit
  simp[nameB,yt,Ad,h] at hit
 have hz:ny vs c[k] us=0:=by
  unfold ny
  rw[if_neg hnz,if_pos (awz (by omega))]
 refine al5 vs c hc.1 _ (apl vs c hc.2.1) (c.length-(k+1)) (k+1) (by omega) ss hf hw ?_
 rw[hss,hz]
 simp
theorem aap {vs:List gy} {e:Int}:∀{ns:List ByteArray} {G:List Int},(zu vs G ns e).2=true->∀s,s∈ns->jc vs s<vs.length:=by
 intro ns
 induction ns with
 | nil=>intro G _ s hs;cases hs
 | cons n r ih =>
  intro G h s hs
  unfold zu at h
  by_cases c:jc vs n<vs.length∧G.getD (jc vs n) 0 = -1
  ·rw[if_pos c] at h
   rcases List.mem_cons.1 hs with rfl|h9
   ·exact c.1
   ·exact ih h s h9
  ·rw[if_neg c] at h
   cases h
def eqV (ns:List ay) (i:Nat) (vs:List gy) (e:qg) (G:List Int) (q:Nat):Int :=
 if (zu vs G e.lhs q).2=false then 4 else if H9 ns i e=false then 5 else if Kr ns i vs e=false then 6 else if Sv vs e=false then 7 else 0
theorem agj {ns:List ay} {i:Nat} {x:ay} {e:qg} (hnb:∀n,n∈ns->qw n=true) (hxb:qw x=true) (heb:Eb e=true) (hlh:∀s,s∈e.lhs->jc (aj x) s<(aj x).length) (hc:H9 ns i e=true) (ht:Kr ns i (aj x) e=true):∀c,c∈dw e->∀t,t∈c->t.op=3∨t.op=23∨t.op=24->jc (aj x) t.name<(aj x).length:=by
 have hvt:∀v,Nh v=true->v.type≠0:=fun v hv=>by
  have h9:=((S9 v).1 hv).2.1
  omega
 have hcd:=Pv e heb
 intro c hcm
 have hcc:=abo (hcd c hcm)
 refine asy hcc ?_
 unfold Kr at ht
 unfold dw at hcm
 by_cases g:e.call.size=0
 ·rw[if_pos g] at ht hcm
  rw[List.mem_singleton] at hcm
  rw[beq_iff_eq] at ht
  rw[hcm,ht]
  have hl1:1<=e.lhs.length:=by
   unfold Eb at heb
   simp only[Bool.and_eq_true,decide_eq_true_iff] at heb
   exact heb.1.1.1
  have hm:e.lhs.headD ⟨#[]⟩∈e.lhs:=by
   cases hq:e.lhs with
   | nil=>rw[hq] at hl1;simp at hl1
   | cons a r=>simp
  have hl:=hlh _ hm
  unfold uj jg
  rw[dif_pos hl]
  exact hvt _ (Nj hxb _ (List.getElem_mem _))
 ·rw[if_neg g] at ht hcm
  unfold H9 at hc
  rw[if_neg g] at hc
  cases hq:ns[(jh ns i e.call).toNat]? with
  | none=>rw[hq] at hc;cases hc
  | some gn =>
   rw[hq] at hc ht
   simp only[decide_eq_true_iff] at hc
   rw[Bool.and_eq_true] at ht
   obtain⟨k,hk,rfl⟩:=List.mem_iff_getElem.1 hcm
   have hkg:k<gn.ins.length:=by omega
   have hty:Nc (aj x) e.args[k]=(gn.ins.map (·.type))[k]'(by rw[List.length_map];exact hkg):=by
    rcases Classical.em (Nc (aj x) e.args[k]=(gn.ins.map (·.type))[k]'(by rw[List.length_map];exact hkg)) with h9|h9
    ·exact h9
    ·have h8:=adx (aj x) e.args (gn.ins.map (·.type)) k hk (by rw[List.length_map];exact hkg) h9
     rw[h8] at ht
     cases ht.1
   rw[hty,List.getElem_map]
   have hgn:=hnb gn (List.mem_of_getElem? hq)
   exact hvt _ (((Y3 _).1 (List.all_eq_true.1 ((yg gn).1 hgn).2.2.1 _ (List.getElem_mem hkg))).2)
set_option maxRecDepth 20000 in
set_option maxHeartbeats 8000000 in
theorem ak9 (W w:World) (ns:List ay) (i:Nat) (x:ay) (b o cb EB:Nat) (G:List Int) (sb vb:Nat) (ov:Value) (D:List Nat) (C L:List cu->Option Nat) (N:Nat) (h:Ck W w ns i x b o cb EB G sb vb ov D C L N) (Yd:G.length=(aj x).length) (hin:i<=ns.length) (hns:∀j (hj:j<ns.length),At 5 o7 W b (o+j*5) ns[j]) (hnb:∀n,n∈ns->qw n=true) (hxb:qw x=true) (q:Nat) (hq:q<x.eqs.length) (hN:N<=100000000000) :
  Calls Tryz.prog 109 #[.pointer (some ⟨cb,0,none⟩),.int .i64 (q:Int)] w (ad6 W ns i x b o cb EB (zu (aj x) G x.eqs[q].lhs q).1 sb vb ov D L (N+6000000) (.int .i64 (eqV ns i (aj x) x.eqs[q] G q)) w):=by
 have c0:=h.blk.cell (i:=0) (v:=.pointer (some ⟨sb,0,none⟩)) rfl
 have s0:=h.sc.tq.cell (i:=0) (v:=.pointer (some ⟨b,o+i*5,none⟩)) rfl
 have hold:=h.sc.old
 obtain⟨hbl,cs,hl,hc,v1,v2,v3,v4,rfl,hs,_,_,_,Lm⟩:=h.node
 obtain⟨eb,eo,aiz,hv4,hat⟩:=Lm.at' q hq
 subst hv4
 have k4:=(hold.cell (p:=⟨b,_,none⟩) hbl).trans (hc 4 (by simp))
 simp only[List.getElem_cons_zero,List.getElem_cons_succ] at k4
 have heb:Eb x.eqs[q]=true:=List.all_eq_true.1 ((yg x).1 hxb).2.2.2.2.2 _ (List.getElem_mem hq)
 have anj:=((yg x).1 hxb).1.2.2.2
 have HQ:=hide hq
 have hat:At 4 Dt W eb (eo+q*4) x.eqs[q]:=hat
 generalize hee:x.eqs[q]=e at hat heb ⊢
 have Tc:=heb
 unfold Eb at Tc
 simp only[Bool.and_eq_true,decide_eq_true_iff] at Tc
 obtain⟨⟨⟨hl1,hl5,ha5⟩,_⟩,hrest⟩:=Tc
 have O1:(dw e).length<=500:=by
  unfold dw
  by_cases g:e.call.size=0
  ·rw[if_pos g];simp
  ·rw[if_neg g];exact ha5
 obtain⟨O4,qcs,hql,hqc,x1,x2,x3,hx0,ayn,g1,g2,g3⟩:=hat
 have HAT:Hid (At 4 Dt W eb (eo+q*4) e):=⟨O4,qcs,hql,hqc,x1,x2,x3,hx0,ayn,g1,g2,g3⟩
 subst hx0
 have e0:=(hold.cell (p:=⟨eb,_,none⟩) O4).trans (hqc 0 (by simp))
 simp only[List.getElem_cons_zero,Nat.add_zero] at e0
 have ayo:=hide (ank W w ns i x b o cb EB G sb vb ov D C L N h Yd e.lhs x1 g1 (q:Int))
 obtain⟨la,lc,rfl⟩:=g1.shape
 have HV:Hid (eqV ns i (aj x) e G q=if (zu (aj x) G e.lhs q).2=false then 4 else if H9 ns i e=false then 5 else if Kr ns i (aj x) e=false then 6 else if Sv (aj x) e=false then 7 else 0):=hide rfl
 have Zq:Hid ((zu (aj x) G e.lhs q).2=true->∀s,s∈e.lhs->jc (aj x) s<(aj x).length):=aap
 generalize eqV ns i (aj x) e G q=R at *
 obtain⟨PO,l7⟩:∃PO:Ending->World->Prop,PO=ad6 W ns i x b o cb EB (zu (aj x) G e.lhs q).1 sb vb ov D L (N+6000000) (.int .i64 R) w:=⟨_,rfl⟩
 rw[←l7]
 have qy:=hide l7
 generalize zu (aj x) G e.lhs q=GD at *
 obtain⟨G1,d⟩:=GD
 simp only at *
 have a4b:=hide hold.size
 have hqI:(q:Int)<(x.eqs.length:Int):=by omega
 have hq0:(0:Int)<=(q:Int):=by omega
 have Gl:=hide hnb
 have HXB:=hide hxb
 have HEB:=hide heb
 have anl:Hid (i<=ns.length∧∀j (hj:j<ns.length),At 5 o7 W b (o+j*5) ns[j]):=⟨hin,hns⟩
 clear l7 h hc hl hs Lm hqc hql ayn g1 g2 g3 hold hns hnb hxb heb hee hrest Yd O4 hbl hin
 go_enter Tryz.func109,Tryz.ntmps109
 go_wp2_with fail
 refine(uh ayo).mono ?_
 rintro e9 w1 ⟨rfl,hck1,anm⟩
 clear c0 s0 k4 e0 ayo
 cases d
 ·have gq:Hid (PO (.returned (.int .i64 4)) w1):=by
   have hR:=uh HV
   rw[if_pos rfl] at hR
   rw[uh qy,hR]
   exact hide ⟨rfl,C,L,N,hck1,by omega,anm⟩
  clear hck1 anm
  go_wp2
  exact uh gq
 have hlk:=uh Zq rfl
 have ano:=hide hlk
 have Ak:=hide hck1
 have HT1:=hide anm
 have HCF:=hide (ala W w1 ns i x b o cb EB G1 sb vb ov D C L N hck1 (uh anl).1 (uh anl).2 e eb (eo+q*4) (uh HAT))
 clear hck1 anm Zq hlk
 go_wp2_with fail
 refine(uh HCF).mono ?_
 rintro e9 w2 ⟨rfl,hb2⟩
 have HB2:=hide hb2
 clear HCF
 obtain⟨cF,hcF⟩:∃z,z=H9 ns i e:=⟨_,rfl⟩
 have ayp:=hide hcF
 rw[←hcF] at HV ⊢
 clear hcF
 cases cF
 ·have gq:Hid (PO (.returned (.int .i64 5)) w2):=by
   have hR:=uh HV
   rw[if_neg (by simp),if_pos rfl] at hR
   rw[uh qy,hR]
   exact hide ⟨rfl,C,L,N,(uh Ak).below hb2,by omega,(uh HT1).trans (Turn.of_below hb2 (uh Ak).sc.old.size)⟩
  clear hb2
  go_wp2
  exact uh gq
 have HC2:=hide ((uh Ak).below hb2)
 have HT2:=hide ((uh HT1).trans (Turn.of_below hb2 (uh Ak).sc.old.size))
 have HTF:Hid (Calls Tryz.prog 136 #[.pointer (some ⟨cb,0,none⟩),.pointer (some ⟨eb,eo+q*4,none⟩)] w2 (Ans (.bool (Kr ns i (aj x) e)) w2)):=by
  have Y4:=Pv e (uh HEB)
  unfold dw at Y4
  by_cases g:e.call.size=0
  ·rw[if_pos g] at Y4
   exact hide (agx W w2 ns i x b o cb EB G1 sb vb ov D C L N (uh HC2) e eb (eo+q*4) (uh HAT) g (by omega) (uh ano) (abo (Y4 _ (List.mem_singleton.2 rfl))))
  ·rw[if_neg g] at Y4
   exact hide (ag1 W w2 ns i x b o cb EB G1 sb vb ov D C L N (uh HC2) (uh anl).1 (uh anl).2 e eb (eo+q*4) (uh HAT) g (uh ayp).symm (uh ano) (fun c hc=>abo (Y4 c hc)) ⟨by omega,by omega⟩)
 clear HB2 hb2 Ak HT1
 go_wp2_with fail
 refine(uh HTF).mono ?_
 rintro e9 w3 ⟨rfl,hb3⟩
 clear HTF
 obtain⟨tF,htF⟩:∃z,z=Kr ns i (aj x) e:=⟨_,rfl⟩
 have a2f:=hide htF
 rw[←htF] at HV ⊢
 clear htF
 cases tF
 ·have gq:Hid (PO (.returned (.int .i64 6)) w3):=by
   have hR:=uh HV
   rw[if_neg (by simp),if_neg (by simp),if_pos rfl] at hR
   rw[uh qy,hR]
   exact hide ⟨rfl,C,L,N,(uh HC2).below hb3,by omega,(uh HT2).trans (Turn.of_below hb3 (uh HC2).sc.old.size)⟩
  clear hb3
  go_wp2
  exact uh gq
 have Ot:=hide ((uh HC2).below hb3)
 have HT3:=hide ((uh HT2).trans (Turn.of_below hb3 (uh HC2).sc.old.size))
 have HKF:=hide (aiu W w3 ns i x b o cb EB G1 sb vb ov D C L N (uh Ot) e eb (eo+q*4) (uh HAT) (by omega) (uh ano) (fun c hc=>abo (Pv e (uh HEB) c hc)) (agj (uh Gl) (uh HXB) (uh HEB) (uh ano) (uh ayp).symm (uh a2f).symm) (X5 (uh HXB) _) ⟨by omega,by omega⟩ hN)
 clear hb3 HC2 HT2
 go_wp2_with fail
 refine(uh HKF).mono ?_
 rintro e9 w4 ⟨rfl,C2,L2,N2,ayq,hn4,ht4⟩
 clear HKF
 obtain⟨kF,hkF⟩:∃z,z=Sv (aj x) e:=⟨_,rfl⟩
 rw[←hkF] at HV ⊢
 clear hkF
 have gq:Hid (PO (.returned (.int .i64 R)) w4):=by
  rw[uh qy]
  exact hide ⟨rfl,C2,L2,N2,ayq,by omega,(uh HT3).trans ht4⟩
 clear ayq hn4 ht4
 cases kF
 ·have hR:=uh HV
  rw[if_neg (by simp),if_neg (by simp),if_neg (by simp),if_pos rfl] at hR
  rw[hR] at gq
  clear HV hR
  go_wp2
  exact uh gq
 ·have hR:=uh HV
  rw[if_neg (by simp),if_neg (by simp),if_neg (by simp),if_neg (by simp)] at hR
  rw[hR] at gq
  clear HV hR
  go_wp2
  first
   | exact uh gq
   | (go_ret;exact uh gq)
def ru (x:ay) (G:List Int):Nat->List Int
 | 0=>G
 | k+1=>match x.eqs[k]? with|some e=>(zu (aj x) (ru x G k) e.lhs k).1|none=>ru x G k
theorem ad7 {a b c k M:Nat} (h1:b<=a+M*k) (h2:c<=b+M):c<=a+M*(k+1):=by
 rw[Nat.mul_add,Nat.mul_one]
 omega
theorem asz {a b k n M:Nat} (h1:b<=a+M*k) (h2:k<=n):b<=a+M*n:=by
 have:=Nat.mul_le_mul_left M h2
 omega
theorem agk (x:ay) (G:List Int) (k:Nat):(ru x G k).length=G.length:=by
 induction k with
 | zero=>rfl
 | succ k ih =>
  unfold ru
  cases x.eqs[k]? with
  | none=>exact ih
  | some e=>simp only;rw[ai0,ih]
def Lp (ns:List ay) (i:Nat) (x:ay) (G:List Int) (k:Nat):Int:=match x.eqs[k]? with|some e=>eqV ns i (aj x) e (ru x G k) k|none=>0
def Xk (ns:List ay) (i:Nat) (x:ay) (G:List Int):Int × Int:=match firstTo (fun k=>Lp ns i x G k != 0) x.eqs.length with
 | some k=>(Lp ns i x G k,(k:Int))
 | none=>(0,0)
def CeP (W:World) (ns:List ay) (i:Nat) (x:ay) (b o cb EB:Nat) (G:List Int) (sb vb:Nat) (ov:Value) (D:List Nat) (M:Nat) (r:Int × Int) (e:Ending) (w':World):Prop :=
 e=.returned (.tuple #[.int .i64 r.1,.int .i64 r.2])∧∃(G':List Int) (C' L':List cu->Option Nat) (N':Nat),Ck W w' ns i x b o cb EB G' sb vb ov D C' L' N'∧N'<=M∧(r.1=0->G'=G)
set_option maxRecDepth 20000 in
set_option maxHeartbeats 8000000 in
theorem ai1 (W w:World) (ns:List ay) (i:Nat) (x:ay) (b o cb EB:Nat) (G:List Int) (sb vb:Nat) (ov:Value) (D:List Nat) (C L:List cu->Option Nat) (N:Nat) (h:Ck W w ns i x b o cb EB G sb vb ov D C L N) (Yd:G.length=(aj x).length) (hin:i<=ns.length) (hns:∀j (hj:j<ns.length),At 5 o7 W b (o+j*5) ns[j]) (hnb:∀n,n∈ns->qw n=true) (hxb:qw x=true) (hN:N<=1000000000) :
  Calls Tryz.prog 79 #[.pointer (some ⟨cb,0,none⟩)] w (CeP W ns i x b o cb EB (ru x G x.eqs.length) sb vb ov D (N+6000000*x.eqs.length) (Xk ns i x G)):=by
 have c0:=h.blk.cell (i:=0) (v:=.pointer (some ⟨sb,0,none⟩)) rfl
 have s0:=h.sc.tq.cell (i:=0) (v:=.pointer (some ⟨b,o+i*5,none⟩)) rfl
 have hold:=h.sc.old
 obtain⟨hbl,cs,hl,hc,v1,v2,v3,v4,rfl,hs,_,_,_,Lm⟩:=h.node
 obtain⟨ea,ec,hv4⟩:=Lm.shape
 subst hv4
 have k4:=(hold.cell (p:=⟨b,_,none⟩) hbl).trans (hc 4 (by simp))
 simp only[List.getElem_cons_zero,List.getElem_cons_succ] at k4
 have anj:=((yg x).1 hxb).1.2.2.2
 have HH:=hide h
 have X7:=hide (fun (w:World) (G:List Int) (C L:List cu->Option Nat) (N:Nat) (h:Ck W w ns i x b o cb EB G sb vb ov D C L N) (Yd:G.length=(aj x).length) (q:Nat) (hq:q<x.eqs.length) (hN:N<=100000000000)=>ak9 W w ns i x b o cb EB G sb vb ov D C L N h Yd hin hns hnb hxb q hq hN)
 have HGL:=hide Yd
 obtain⟨PO,l7⟩:∃PO:Ending->World->Prop,PO=CeP W ns i x b o cb EB (ru x G x.eqs.length) sb vb ov D (N+6000000*x.eqs.length) (Xk ns i x G):=⟨_,rfl⟩
 rw[←l7]
 have qy:=hide l7
 clear l7 h hc hl hs Lm hold hns hnb hxb Yd hbl hin
 go_enter Tryz.func79,Tryz.ntmps79
 go_wp2
 clear c0 s0 k4
 go_loopg [17] x.eqs.length (fun gm iv wr=>∃(k:Nat) (C' L':List cu->Option Nat) (N':Nat),k<=x.eqs.length∧gm=x.eqs.length-k∧iv=.int .i64 k∧Ck W wr ns i x b o cb EB (ru x G k) sb vb ov D C' L' N'∧N'<=N+6000000*k∧∀j,j<k->(Lp ns i x G j != 0)=false)
 case atStart=>exact⟨0,C,L,N,Nat.zero_le _,by omega,rfl,uh HH,by omega,fun j hj=>absurd hj (Nat.not_lt_zero _)⟩
 case round =>
  obtain⟨k,C',L',N',hk,hgm,rfl,hck,hNk,hno⟩:=hrel
  rename World=>wr
  have HG:=hide hgm
  have jo:=hide hno
  have E5:=hide hck
  clear hgm hno
  by_cases hlt:k<x.eqs.length
  case neg =>
   have hke:k=x.eqs.length:=by omega
   have gq:Hid (PO (.returned (.tuple #[.int .i64 0,.int .i64 0])) wr):=by
    rw[uh qy]
    unfold Xk
    rw[zk (fun j hj=>uh jo j (by omega)),←hke]
    exact hide ⟨rfl,_,C',L',N',hck,hNk,fun _=>rfl⟩
   have Ec:¬(k:Int)<(x.eqs.length:Int):=by omega
   clear hke hck hlt
   go_wp2
   exact uh gq
  have Ec:(k:Int)<(x.eqs.length:Int):=by omega
  have hgx:ru x G (k+1)=(zu (aj x) (ru x G k) x.eqs[k].lhs k).1:=by
   rw[ru,List.getElem?_eq_getElem hlt]
  have hex:Lp ns i x G k=eqV ns i (aj x) x.eqs[k] (ru x G k) k:=by
   unfold Lp
   rw[List.getElem?_eq_getElem hlt]
  have HE:=hide (uh X7 wr (ru x G k) C' L' N' hck (by rw[agk];exact uh HGL) k hlt (by omega))
  rw[←hgx,←hex] at HE
  have yw:=hide hlt
  have Td:Hid ((Lp ns i x G k != 0)=true->∀w' G2 C2 L2 N2,Ck W w' ns i x b o cb EB G2 sb vb ov D C2 L2 N2->N2<=N+6000000*x.eqs.length->PO (.returned (.tuple #[.int .i64 (Lp ns i x G k),.int .i64 (k:Int)])) w'):=fun h9 w' G2 C2 L2 N2 g1 g2=>by
   rw[uh qy]
   unfold Xk
   rw[Fe hlt h9 (uh jo)]
   refine⟨rfl,G2,C2,L2,N2,g1,g2,fun h8=>?_⟩
   simp only at h8
   rw[h8] at h9
   cases h9
  have Lr:Hid ((Lp ns i x G k != 0)=false->∀j,j<k+1->(Lp ns i x G j != 0)=false):=fun h9 j hj=>by
   by_cases c:j<k
   ·exact uh jo j c
   ·have e:j=k:=by omega
    rw[e]
    exact h9
  generalize Lp ns i x G k=ev at HE Td Lr
  clear hex hgx hck hlt
  by_cases he:ev=0
  ·have U6:=hide (uh Lr (by rw[he];rfl))
   subst he
   clear Td Lr
   go_wp2_with fail
   refine(uh HE).mono ?_
   rintro e9 w2 ⟨rfl,C2,L2,N2,ai3,hn2,ht2⟩
   have HC2:=hide ai3
   have hN2:N2<=N+6000000*(k+1):=ad7 hNk hn2
   have Gy:=hide hN2
   clear hN2
   clear ai3 hn2 ht2 HE
   go_wp2
   go_roundg (x.eqs.length-(k+1))
   case measure =>
    have h8:=uh yw
    have h9:=uh HG
    omega
   case rel=>exact⟨k+1,C2,L2,N2,uh yw,rfl,by go_num,uh HC2,uh Gy,uh U6⟩
  ·have hne:(ev == 0)=false:=by rw[beq_eq_false_iff_ne];exact he
   have hnn:(ev != 0)=true:=by rw[bne_iff_ne];exact he
   have HF:=hide (uh Td hnn)
   clear Td Lr he
   go_wp2_with fail
   refine(uh HE).mono ?_
   rintro e9 w2 ⟨rfl,C2,L2,N2,ai3,hn2,ht2⟩
   have HE2:=hide (uh HF w2 _ C2 L2 N2 ai3 (asz (ad7 hNk hn2) (uh yw)))
   clear ai3 hn2 ht2 HE HF
   go_wp2
   exact uh HE2
end Go.Proofs.YtflcnhfakcgkeaaGreat
