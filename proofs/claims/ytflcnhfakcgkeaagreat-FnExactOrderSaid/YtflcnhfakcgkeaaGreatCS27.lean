import Derived.Test.YtflcnhfakcgkeaaGreatCS26
import Derived.Test.YtflcnhfakcgkeaaGreatCE1
namespace Go.Proofs.YtflcnhfakcgkeaaGreat
open Go.RowKit
set_option linter.unusedSimpArgs false
set_option linter.unusedVariables false
def ad6 (W:World) (ns:List ay) (i:Nat) (x:ay) (b o cb EB:Nat) (G:List Int) (sb vb:Nat) (ov:Value) (D:List Nat) (L:List cu->Option Nat) (M:Nat) (R:Value) (w:World) (e:Ending) (w':World):Prop :=
 e=.returned R∧∃(C' L':List cu->Option Nat) (N':Nat),Ck W w' ns i x b o cb EB G sb vb ov D C' L' N'∧N'<=M∧Turn W.heap.size w L w' L'
def Sv (vs:List gy) (e:qg):Bool:=Em vs e.lhs (uj vs e).clock e.lhs.length&&E8 vs (dw e) (uj vs e).clock (dw e).length
theorem ayk (w:World):(binOp .eql 201 (.slice none 0 0) (.slice none 0 0)).run Tryz.prog w=.ok (.bool true) w:=by kernel_rfl
theorem awy (a:Addr) (n c:Nat) (w:World):(binOp .eql 201 (.slice (some a) n c) (.slice none 0 0)).run Tryz.prog w=.ok (.bool false) w:=by kernel_rfl
theorem Ck.grow {W w w':World} {ns:List ay} {i:Nat} {x:ay} {b o cb EB:Nat} {G:List Int} {sb vb:Nat} {ov:Value} {D:List Nat} {C L C' L':List cu->Option Nat} {N N':Nat} (h:Ck W w ns i x b o cb EB G sb vb ov D C L N) (g:Grow W.heap.size w C L w' C' L') (s:Sc W w' (.pointer (some ⟨b,o+i*5,none⟩)) .nilFunc (aj x) G sb vb ov D C' L' N'):Ck W w' ns i x b o cb EB G sb vb ov D C' L' N' :=
 ⟨s,g.asn h.sc.trie h.blk (by decide),h.lib,h.node,h.clo⟩
set_option maxRecDepth 20000 in
set_option maxHeartbeats 8000000 in
theorem aiu (W w:World) (ns:List ay) (i:Nat) (x:ay) (b o cb EB:Nat) (G:List Int) (sb vb:Nat) (ov:Value) (D:List Nat) (C L:List cu->Option Nat) (N:Nat) (h:Ck W w ns i x b o cb EB G sb vb ov D C L N) (e:qg) (qb qo:Nat) (he:At 4 Dt W qb qo e) (hlh:0<e.lhs.length) (hlk:∀s,s∈e.lhs->jc (aj x) s<(aj x).length)
  (hcd:∀c,c∈dw e->Po c) (hnm:∀c,c∈dw e->∀t,t∈c->t.op=3∨t.op=23∨t.op=24->jc (aj x) t.name<(aj x).length) (hkl:(uj (aj x) e).clock.length<=8) (hlen:e.lhs.length<=1000∧(dw e).length<=1000) (hN:N<=100000000000) :
  Calls Tryz.prog 137 #[.pointer (some ⟨cb,0,none⟩),.pointer (some ⟨qb,qo,none⟩)] w (ad6 W ns i x b o cb EB G sb vb ov D L (N+12000*(dw e).length) (.bool (Sv (aj x) e)) w):=by
 have c0:=h.blk.cell (i:=0) (v:=.pointer (some ⟨sb,0,none⟩)) rfl
 have hold:=h.sc.old
 have hhd:(e.lhs.headD ⟨#[]⟩)∈e.lhs:=by
  cases hq:e.lhs with
  | nil=>rw[hq] at hlh;simp at hlh
  | cons a r=>simp
 obtain⟨p,hp⟩:∃p,C (uj (aj x) e).clock=some p:=by
  have hl0:=hlk _ hhd
  obtain⟨cv,p,_,hp,_⟩:=h.sc.decl _ hl0
  refine⟨p,?_⟩
  unfold uj jg
  rw[dif_pos hl0]
  exact hp
 have HCO:=hide (aam W w _ (aj x) G sb vb ov D C L N h.sc e qb qo he hlh hlk p hp)
 have HEX:=hide (fun w' (hb:Below w.heap.size w w')=>Yc e qb qo W w' (hold.trans (hb.mono hold.size)) he)
 obtain⟨ck,hck⟩:∃z,z=(uj (aj x) e).clock:=⟨_,rfl⟩
 obtain⟨codes,O1⟩:∃z,z=dw e:=⟨_,rfl⟩
 unfold Sv
 rw[←O1] at HEX hcd hnm hlen ⊢
 rw[←hck] at hp hkl ⊢
 obtain⟨PO,l7⟩:∃PO:Ending->World->Prop,PO=ad6 W ns i x b o cb EB G sb vb ov D L (N+12000*codes.length) (.bool (Em (aj x) e.lhs ck e.lhs.length&&E8 (aj x) codes ck codes.length)) w:=⟨_,rfl⟩
 rw[←l7]
 have qy:=hide l7
 clear l7 hck O1
 obtain⟨lhs,code,s,args⟩:=e
 obtain⟨hbl,cs,hl,hc,x1,x2,x3,rfl,hs,h1,h2,h3⟩:=he
 simp only at *
 obtain⟨b1,Zm,rfl⟩:=h1.shape
 have k0:=(hold.cell (p:=⟨qb,_,none⟩) hbl).trans (hc 0 (by simp))
 simp only[List.getElem_cons_zero,List.getElem_cons_succ,Nat.add_zero] at k0
 have HH:=hide h
 have H1:=hide h1
 have HP:=hide hp
 have Zq:=hide hlk
 have Ov:=hide hcd
 have HNM:=hide hnm
 have HKL:=hide hkl
 have HN:=hide hN
 have a5t:=hlen.1
 have asu:=hlen.2
 have Kv:Hid (∀w',Below w.heap.size w w'->w'.cell? ⟨cb,0,none⟩=some (.pointer (some ⟨sb,0,none⟩))∧w'.cell? ⟨qb,qo,none⟩=some (.slice b1 lhs.length Zm)):=fun w' hb=>by
  have hk:∀{p:Addr} {v:Value},w.cell? p=some v->w'.cell? p=some v:=fun {p v} h9=>(hb.cell (World.block_lt_of_cell? w _ h9)).trans h9
  exact⟨hk c0,hk k0⟩
 clear h hc hl hs h1 h2 h3 hlk hcd hnm hkl hN hlen hp hhd hbl hlh hold k0
 go_enter Tryz.func137,Tryz.ntmps137
 go_wp2_with fail
 refine(uh HCO).mono ?_
 rintro e9 w1 ⟨rfl,hb1⟩
 have HB1:=hide hb1
 obtain⟨_,k0⟩:=uh Kv w1 hb1
 clear hb1 c0 HCO
 go_wp2
 clear k0
 go_loopg [21] lhs.length (fun gm iv wr=>∃k:Nat,k<=lhs.length∧gm=lhs.length-k∧iv=.int .i64 k∧Below w.heap.size w wr∧Em (aj x) lhs ck k=true)
 case atStart=>exact⟨0,Nat.zero_le _,by omega,rfl,uh HB1,rfl⟩
 case round =>
  obtain⟨k,hk,hgm,rfl,hb,hty⟩:=hrel
  rename World=>wr
  have HG:=hide hgm
  have HB:=hide hb
  have oh:=hide hty
  clear hgm hty HB1
  by_cases hlt:k<lhs.length
  case neg =>
   have hke:k=lhs.length:=by omega
   rw[hke] at oh
   have Ec:¬(k:Int)<(lhs.length:Int):=by omega
   have Na:=hide (uh HEX wr hb)
   clear hke hb HEX hlt
   go_wp2_with fail
   refine(uh Na).mono ?_
   rintro e9 w2 ⟨vv,rfl,hcs,hb2⟩
   have HB2:=hide ((uh HB).trans (hb2.mono (uh HB).size))
   obtain⟨va,vc,hvv⟩:∃a c,vv=.slice a codes.length c:=by
    obtain⟨a,c,h9,_⟩:=hcs
    exact⟨a,c,h9⟩
   subst hvv
   have HCS:=hide hcs
   clear hb2 hcs Na HG Ec
   go_wp2
   go_loopg [43] codes.length (fun gm iv wr=>∃(k:Nat) (C' L':List cu->Option Nat) (N':Nat),k<=codes.length∧gm=codes.length-k∧iv=.int .i64 k∧Ck W wr ns i x b o cb EB G sb vb ov D C' L' N'∧Grow W.heap.size w C L wr C' L'∧Bl W wr (.slice va codes.length vc) codes∧N'<=N+12000*k∧E8 (aj x) codes ck k=true)
   case atStart=>exact⟨0,C,L,N,Nat.zero_le _,by omega,rfl,(uh HH).below (uh HB2),Grow.of_below (uh HB2) (uh HH).sc.old.size,uh HCS,by omega,rfl⟩
   case round =>
    clear HB HCS hk
    obtain⟨k,C',L',N',hk,hgm,rfl,Sz,hgr,asv,hNr,hfr⟩:=hrel
    rename World=>wr
    have HG:=hide hgm
    have aiv:=hide Sz
    have HGR:=hide hgr
    have HNR:=hide hNr
    have HFR:=hide hfr
    clear hgm hfr
    by_cases hlt:k<codes.length
    case neg =>
     have hke:k=codes.length:=by omega
     have gq:Hid (PO (.returned (.bool true)) wr):=by
      rw[uh qy,uh oh,←hke,uh HFR]
      exact hide ⟨rfl,C',L',N',Sz,hNr,Turn.al9 hgr⟩
     have Ec:¬(k:Int)<(codes.length:Int):=by omega
     clear hke Sz hgr asv hNr hlt
     go_wp2
     exact uh gq
    have Ec:(k:Int)<(codes.length:Int):=by omega
    have a2d:=hide asv
    obtain⟨_,_,Qh,Qi⟩:=asv
    simp only[Value.slice.injEq] at Qh
    obtain⟨rfl,H8,rfl⟩:=Qh
    clear H8
    obtain⟨g,go_,cv,rfl,l0,hcv,_⟩:=Qi k hlt
    have z0:=Sz.blk.cell (i:=0) (v:=.pointer (some ⟨sb,0,none⟩)) rfl
    have hNN:=uh HN
    have aan:=uh Ov _ (List.getElem_mem hlt)
    have h6:=aan.2.2
    have HCX:=hide (ak7 W wr _ (aj x) G sb vb ov D C' L' N' Sz.sc codes[k] cv hcv aan (uh HNM _ (List.getElem_mem hlt)) ck p (hgr.c _ _ (uh HP)) (uh HKL) (by unfold maxLen;omega))
    obtain⟨ca,cc,rfl⟩:=hcv.shape
    have jo:Hid (Ol (aj x) codes[k] ck=false->E8 (aj x) codes ck codes.length=false):=ae4 (aj x) codes ck k hlt
    have V7:Hid (Ol (aj x) codes[k] ck=true->E8 (aj x) codes ck (k+1)=true):=acn (aj x) codes ck k hlt (uh HFR)
    have HC6:=hide h6
    have yw:=hide hlt
    generalize Ol (aj x) codes[k] ck=fv at *
    generalize codes[k].length=ckl at *
    clear Qi hcv aan h6 Sz hgr hNr hlt hNN
    cases fv
    ·have gq:Hid (∀w' C2 L2 N2,Ck W w' ns i x b o cb EB G sb vb ov D C2 L2 N2->N2<=N+12000*codes.length->Grow W.heap.size w C L w' C2 L2->PO (.returned (.bool false)) w'):=fun w' C2 L2 N2 g1 g2 g3=>by
      rw[uh qy,uh jo rfl,Bool.and_false]
      exact⟨rfl,C2,L2,N2,g1,g2,Turn.al9 g3⟩
     clear jo V7
     go_wp2_with fail
     refine(uh HCX).mono ?_
     rintro e9 w3 ⟨v9,C2,L2,N2,rfl,hs2,hn2,hg2,_,hv2⟩
     have I8:=hv2 rfl
     subst I8
     have HE:=hide (uh gq w3 C2 L2 N2 ((uh aiv).grow hg2 hs2) (by
      have a1:=uh HNR
      have a2:=uh HC6
      have a3:=uh yw
      omega) ((uh HGR).trans hg2))
     have hsl:=ayk w3
     clear hs2 hn2 hg2 hv2 gq HCX
     go_wp2
     exact uh HE
    ·have ac8:=hide (uh V7 rfl)
     clear jo V7
     go_wp2_with fail
     refine(uh HCX).mono ?_
     rintro e9 w3 ⟨v9,C2,L2,N2,rfl,hs2,hn2,hg2,hv2,_⟩
     obtain⟨fb9,I8⟩:=hv2 rfl
     subst I8
     have HE:Hid (Ck W w3 ns i x b o cb EB G sb vb ov D C2 L2 N2∧Grow W.heap.size w C L w3 C2 L2∧Bl W w3 (.slice (some ⟨g,go_,none⟩) codes.length vc) codes∧N2<=N+12000*(k+1)):=hide ⟨(uh aiv).grow hg2 hs2,(uh HGR).trans hg2,(uh a2d).grow hg2 (uh aiv).sc.trie,by
      have a1:=uh HNR
      have a2:=uh HC6
      omega⟩
     have hsl:=awy ⟨fb9,0,none⟩ ckl ckl w3
     clear hs2 hn2 hg2 hv2 HCX
     go_wp2
     go_roundg (codes.length-(k+1))
     case measure =>
      have h8:=uh yw
      have h9:=uh HG
      omega
     case rel=>exact⟨k+1,C2,L2,N2,uh yw,rfl,by go_num,(uh HE).1,(uh HE).2.1,(uh HE).2.2.1,(uh HE).2.2.2,uh ac8⟩
  have Ec:(k:Int)<(lhs.length:Int):=by omega
  have Sz:=(uh HH).below hb
  have hold:=Sz.sc.old
  obtain⟨z0,_⟩:=uh Kv wr hb
  obtain⟨_,_,hv8,_,_,Wx⟩:=(uh H1).stays uw hold
  simp only[Value.slice.injEq] at hv8
  obtain⟨rfl,H8,rfl⟩:=hv8
  clear H8
  obtain⟨lb2,lo2,ls2,rfl,_,V8,aiw,aao,rfl,ayl⟩:=Wx k hlt
  have l0:=aao 0 (by simp)
  simp only[Nat.mul_one,Nat.add_zero,List.getElem_cons_zero,List.getElem_cons_succ] at l0
  have aym:lhs[k].size<=maxLen:=by unfold Len at ayl;unfold maxLen;omega
  obtain⟨dk,p1,cv,Bg,hdb,hp1⟩:=Sz.sc.var lhs[k] aym (uh Zq _ (List.getElem_mem _))
  have d3:=hdb.cell (i:=3) (v:=.pointer (some ⟨p1,0,none⟩)) rfl
  have s2:=Sz.sc.tq.cell (i:=2) (v:=.map (some vb)) rfl
  have hlk2:(Instr.lookup 76 (.map (some vb)) (.string lhs[k]) false).run Tryz.prog wr=.ok (.pointer (some ⟨dk,0,none⟩)) wr:=Bg wr (Below.refl _ _)
  have hneq:=Sz.sc.trie.neq hp1 (uh HP)
  have jo:Hid (qj (jv (aj x) lhs[k]) ck=false->Em (aj x) lhs ck lhs.length=false):=abk (aj x) lhs ck k hlt
  have V7:Hid (qj (jv (aj x) lhs[k]) ck=true->Em (aj x) lhs ck (k+1)=true):=acj (aj x) lhs ck k hlt (uh oh)
  have yw:=hide hlt
  have aiv:=hide Sz
  generalize qj (jv (aj x) lhs[k]) ck=sv at *
  generalize lhs[k]=nm at *
  clear Bg hdb Wx aao aiw hold Sz hb hp1 V8 ayl aym hlt
  cases sv
  ·have gq:Hid (PO (.returned (.bool false)) wr):=by
    rw[uh qy,uh jo rfl,Bool.false_and]
    exact hide ⟨rfl,C,L,N,uh aiv,by omega,Turn.of_below (uh HB) (uh HH).sc.old.size⟩
   clear jo V7
   simp only[Bool.not_false] at hneq
   go_wp2
   exact uh gq
  ·have ac8:=hide (uh V7 rfl)
   clear jo V7
   simp only[Bool.not_true] at hneq
   go_wp2
   go_roundg (lhs.length-(k+1))
   case measure =>
    have h8:=uh yw
    have h9:=uh HG
    omega
   case rel=>exact⟨k+1,uh yw,rfl,by go_num,uh HB,uh ac8⟩
set_option maxRecDepth 20000 in
set_option maxHeartbeats 8000000 in
theorem ag1 (W w:World) (ns:List ay) (i:Nat) (x:ay) (b o cb EB:Nat) (G:List Int) (sb vb:Nat) (ov:Value) (D:List Nat) (C L:List cu->Option Nat) (N:Nat) (h:Ck W w ns i x b o cb EB G sb vb ov D C L N) (hin:i<=ns.length) (hns:∀j (hj:j<ns.length),At 5 o7 W b (o+j*5) ns[j]) (e:qg) (qb qo:Nat) (he:At 4 Dt W qb qo e)
  (hg:¬e.call.size=0) (hcb:H9 ns i e=true) (hlk:∀s,s∈e.lhs->jc (aj x) s<(aj x).length) (hcd:∀c,c∈e.args->Po c) (hal:e.args.length<=1000∧e.lhs.length<=1000) :
  Calls Tryz.prog 136 #[.pointer (some ⟨cb,0,none⟩),.pointer (some ⟨qb,qo,none⟩)] w (Ans (.bool (Kr ns i (aj x) e)) w):=by
 have c0:=h.blk.cell (i:=0) (v:=.pointer (some ⟨sb,0,none⟩)) rfl
 have c1:=h.blk.cell (i:=1) (v:=.map (some EB)) rfl
 have s2:=h.sc.tq.cell (i:=2) (v:=.map (some vb)) rfl
 have hold:=h.sc.old
 obtain⟨lhs,code,s,args⟩:=e
 obtain⟨hbl,cs,hl,hc,x1,x2,x3,rfl,hs,h1,h2,h3⟩:=he
 simp only at *
 have hsm:s.size<=maxLen:=by unfold Len at hs;unfold maxLen;omega
 rcases h.called hin hns s hsm with ⟨hf,hlk⟩|⟨j,hj,m,hf,hlb,m0,a1,cc4,a2,cc5,n1,n2,hi1,hi2⟩
 ·exfalso
  unfold H9 at hcb
  rw[if_neg hg] at hcb
  cases hq:ns[(jh ns i s).toNat]? with
  | none=>rw[hq] at hcb;cases hcb
  | some g=>rw[hq] at hcb;simp[hf] at hcb
 have hcb2:ns[j].ins.length=args.length∧ns[j].outs.length=lhs.length:=by
  unfold H9 at hcb
  rw[if_neg hg] at hcb
  simp only[hf,Int.toNat_natCast,List.getElem?_eq_getElem hj,decide_eq_true_iff] at hcb
  omega
 have HRR:Hid (Kr ns i (aj x) ⟨lhs,code,s,args⟩=(Ei (aj x) args (ns[j].ins.map (·.type)) args.length&&Cm (aj x) lhs (ns[j].outs.map (·.type)) lhs.length)):=by
  refine hide ?_
  unfold Kr
  rw[if_neg hg]
  simp only[hf,Int.toNat_natCast,List.getElem?_eq_getElem hj]
 generalize ns[j].ins=gi at *
 generalize ns[j].outs=go at *
 obtain⟨e1,e2⟩:=hcb2
 have E1:=hide e1
 have E2:=hide e2
 rw[e1] at n1 hi1
 rw[e2] at n2 hi2
 obtain⟨b1,Zm,rfl⟩:=h1.shape
 obtain⟨b3,cc3,rfl⟩:=h3.shape
 have k0:=(hold.cell (p:=⟨qb,_,none⟩) hbl).trans (hc 0 (by simp))
 have k2:=(hold.cell (p:=⟨qb,_,none⟩) hbl).trans (hc 2 (by simp))
 have k3:=(hold.cell (p:=⟨qb,_,none⟩) hbl).trans (hc 3 (by simp))
 simp only[List.getElem_cons_zero,List.getElem_cons_succ,Nat.add_zero] at k0 k2 k3
 have hlb0:=hlb 0
 have a2e:(Instr.lookup 104 (.map (some EB)) (.string s) false).run Tryz.prog w=.ok (.pointer (some ⟨m,0,none⟩)) w:=hlb0
 have d4:=Ae s hg
 have Ij:=vk s hg
 have a5u:=hal.1
 have hal2:=hal.2
 have HH:=hide h
 have H1:=hide h1
 have H3:=hide h3
 have HI1:=hide hi1
 have HI2:=hide hi2
 have Zq:=hide hlk
 have Ov:=hide hcd
 generalize o+j*5=oj at *
 have Kv:Hid (∀w',Below w.heap.size w w'->w'.cell? ⟨cb,0,none⟩=some (.pointer (some ⟨sb,0,none⟩))∧w'.cell? ⟨sb,2,none⟩=some (.map (some vb))∧w'.cell? ⟨qb,qo,none⟩=some (.slice b1 lhs.length Zm)∧w'.cell? ⟨qb,qo+3,none⟩=some (.slice b3 args.length cc3)∧w'.cell? ⟨b,oj+2,none⟩=some (.slice a2 lhs.length cc5)):=fun w' hb=>by
  have hk:∀{p:Addr} {v:Value},w.cell? p=some v->w'.cell? p=some v:=fun {p v} h9=>(hb.cell (World.block_lt_of_cell? w _ h9)).trans h9
  exact⟨hk c0,hk s2,hk k0,hk k3,hk n2⟩
 obtain⟨PO,l7⟩:∃PO:Ending->World->Prop,PO=Ans (.bool (Kr ns i (aj x) ⟨lhs,code,s,args⟩)) w:=⟨_,rfl⟩
 rw[←l7]
 have qy:Hid (PO=Ans (.bool (Ei (aj x) args (gi.map (·.type)) args.length&&Cm (aj x) lhs (go.map (·.type)) lhs.length)) w):=by rw[l7,uh HRR];exact hide rfl
 clear h hc hl hs h1 h2 h3 hi1 hi2 hlk hcd hf hg hcb hsm hal l7 HRR e1 e2 hlb0 hj hns hin
 go_enter Tryz.func136,Tryz.ntmps136
 go_wp2_with fail
 go_quiet ((fail))
 go_wp2
 clear hlb a2e c0 c1 s2 k0 k2 k3 m0 n1 n2
 go_loopg [60] args.length (fun gm iv wr=>∃k:Nat,k<=args.length∧gm=args.length-k∧iv=.int .i64 k∧Below w.heap.size w wr∧Ei (aj x) args (gi.map (·.type)) k=true)
 case atStart=>exact⟨0,Nat.zero_le _,by omega,rfl,jf (Below.refl _ _) _,rfl⟩
 case round =>
  obtain⟨k,hk,hgm,rfl,hb,hty⟩:=hrel
  rename World=>wr
  have HG:=hide hgm
  have HB:=hide hb
  have oh:=hide hty
  clear hgm hty
  by_cases hlt:k<args.length
  case neg =>
   have hke:k=args.length:=by omega
   rw[hke] at oh
   have Ec:¬(k:Int)<(args.length:Int):=by omega
   obtain⟨z0,z1,z2,z3,z4⟩:=uh Kv wr hb
   clear hke hb z0 z1 z2 z3
   go_wp2
   clear z4 Ec
   go_loopg [86] lhs.length (fun gm iv wr=>∃k:Nat,k<=lhs.length∧gm=lhs.length-k∧iv=.int .i64 k∧Below w.heap.size w wr∧Cm (aj x) lhs (go.map (·.type)) k=true)
   case atStart=>exact⟨0,Nat.zero_le _,by omega,rfl,uh HB,rfl⟩
   case round =>
    clear HB HG hk hlt
    obtain⟨k,hk,hgm,rfl,hb,hou⟩:=hrel
    rename World=>wr
    have HG:=hide hgm
    have HB:=hide hb
    have HOU:=hide hou
    clear hgm hou
    by_cases hlt:k<lhs.length
    case neg =>
     have hke:k=lhs.length:=by omega
     have gq:Hid (PO (.returned (.bool true)) wr):=by
      rw[uh qy,uh oh,←hke,uh HOU]
      exact hide ⟨rfl,hb⟩
     have Ec:¬(k:Int)<(lhs.length:Int):=by omega
     clear hke hb
     go_wp2
     exact uh gq
    have Ec:(k:Int)<(lhs.length:Int):=by omega
    have hck:=(uh HH).below hb
    have hold:=hck.sc.old
    obtain⟨z0,z1,z2,z3,z4⟩:=uh Kv wr hb
    obtain⟨_,_,Qh,_,_,Qi⟩:=(uh HI2).stays ji hold
    simp only[Value.slice.injEq] at Qh
    obtain⟨rfl,H8,rfl⟩:=Qh
    clear H8
    have hlg:k<go.length:=by have:=uh E2;omega
    obtain⟨vb2,vo2,cs2,rfl,_,asw,hcs2,Y2,cl2,rfl,_,_,aix⟩:=Qi k hlg
    obtain⟨Zr,Zt,rfl⟩:=aix.shape
    have y0:=Y2 0 (by simp)
    have y1:=Y2 1 (by simp)
    have y2:=Y2 2 (by simp)
    obtain⟨_,_,hv8,_,_,Wx⟩:=(uh H1).stays uw hold
    simp only[Value.slice.injEq] at hv8
    obtain⟨rfl,H8,rfl⟩:=hv8
    clear H8
    obtain⟨lb2,lo2,ls2,rfl,_,V8,aiw,aao,rfl,asu⟩:=Wx k hlt
    have l0:=aao 0 (by simp)
    simp only[Nat.mul_one,Nat.add_zero,List.getElem_cons_zero,List.getElem_cons_succ] at y0 y1 y2 l0
    have hnm:lhs[k].size<=maxLen:=by unfold Len at asu;unfold maxLen;omega
    obtain⟨dk,p,cv,Bg,hdb,_⟩:=hck.sc.var lhs[k] hnm (uh Zq _ (List.getElem_mem _))
    have d1:=hdb.cell (i:=1) (v:=.int .i64 (jg (aj x) lhs[k]).type) rfl
    have jo:Hid ((jg (aj x) lhs[k]).type≠go[k].type->Cm (aj x) lhs (go.map (·.type)) lhs.length=false):=fun h9=>ae3 (aj x) lhs (go.map (·.type)) k hlt (by rw[List.length_map];exact hlg) (by simpa using h9)
    have V7:Hid ((jg (aj x) lhs[k]).type=go[k].type->Cm (aj x) lhs (go.map (·.type)) (k+1)=true):=fun h9=>aci (aj x) lhs (go.map (·.type)) k hlt (by rw[List.length_map];exact hlg) (uh HOU) (by simpa using h9)
    have hA:Below wr.heap.size wr (wr.alloc (.cells #[.string go[k].name,.int .i64 go[k].type,.slice Zr go[k].clock.length Zt] 68)):=(Below.refl _ _).alloc (Nat.le_refl _) _
    have bx:=(jd wr #[.string go[k].name,.int .i64 go[k].type,.slice Zr go[k].clock.length Zt] 68).cell (i:=1) (v:=.int .i64 go[k].type) rfl
    have hkA:∀{p:Addr} {v:Value},wr.cell? p=some v->(wr.alloc (.cells #[.string go[k].name,.int .i64 go[k].type,.slice Zr go[k].clock.length Zt] 68)).cell? p=some v:=fun {p v} h9=>(hA.cell (World.block_lt_of_cell? wr _ h9)).trans h9
    have za:=hkA z0
    have zb:=hkA z1
    have zc:=hkA z2
    have zd:=hkA l0
    have ze:=hkA d1
    have hlk2:∀nq,(Instr.lookup 76 (.map (some vb)) (.string lhs[k]) false).run Tryz.prog ((wr.alloc (.cells #[.string go[k].name,.int .i64 go[k].type,.slice Zr go[k].clock.length Zt] 68)).drewN nq)=.ok (.pointer (some ⟨dk,0,none⟩)) ((wr.alloc (.cells #[.string go[k].name,.int .i64 go[k].type,.slice Zr go[k].clock.length Zt] 68)).drewN nq):=fun nq=>Bg _ (jf hA nq)
    have Og:=hide (hb.trans (hA.mono hb.size))
    have yw:=hide hlt
    clear hkA Bg hdb Wx Qi Y2 aao hcs2 aiw hA hold hck hb aix z0 z1 z2 z3 z4 l0 d1 asw V8 asu hnm
    generalize (jg (aj x) lhs[k]).type=vt at *
    generalize go[k].name=gn at *
    generalize asx:go[k].type=gt at *
    generalize go[k].clock.length=gcl at *
    generalize lhs[k]=nm at *
    clear asx hlg hlt
    by_cases he:vt=gt
    ·have ac8:=hide (uh V7 he)
     subst he
     have q1:(vt == vt)=true:=by simp
     have q2:(vt != vt)=false:=by simp
     clear V7 jo
     go_wp2_with fail
     go_quiet ((fail))
     go_wp2
     go_roundg (lhs.length-(k+1))
     case measure =>
      have h8:=uh yw
      have h9:=uh HG
      omega
     case rel=>exact⟨k+1,uh yw,rfl,by go_num,jf (uh Og) _,uh ac8⟩
    ·have gq:Hid (∀w',Below w.heap.size w w'->PO (.returned (.bool false)) w'):=fun w' hb'=>by
      rw[uh qy,uh jo he,Bool.and_false]
      exact⟨rfl,hb'⟩
     have q1:(vt == gt)=false:=by rw[beq_eq_false_iff_ne];exact he
     have q2:(vt != gt)=true:=by rw[bne_iff_ne];exact he
     clear V7 jo he
     go_wp2_with fail
     go_quiet ((fail))
     go_wp2
     exact uh gq _ (jf (uh Og) _)
  have Ec:(k:Int)<(args.length:Int):=by omega
  have hck:=(uh HH).below hb
  have hold:=hck.sc.old
  obtain⟨z0,z1,z2,z3,z4⟩:=uh Kv wr hb
  obtain⟨_,_,Qh,_,_,Qi⟩:=(uh HI1).stays ji hold
  simp only[Value.slice.injEq] at Qh
  obtain⟨rfl,H8,rfl⟩:=Qh
  clear H8
  have hlg:k<gi.length:=by have:=uh E1;omega
  obtain⟨vb2,vo2,cs2,rfl,_,asw,hcs2,Y2,cl2,rfl,_,_,aix⟩:=Qi k hlg
  obtain⟨Zr,Zt,rfl⟩:=aix.shape
  have y0:=Y2 0 (by simp)
  have y1:=Y2 1 (by simp)
  have y2:=Y2 2 (by simp)
  obtain⟨_,_,hv8,_,_,Wx⟩:=uh H3
  simp only[Value.slice.injEq] at hv8
  obtain⟨rfl,H8,rfl⟩:=hv8
  clear H8
  obtain⟨lb2,lo2,ls2,rfl,_,V8,aiw,aao,av,rfl,hav⟩:=Wx k hlt
  obtain⟨aa,ac,rfl⟩:=hav.shape
  have l0:=(hold.cell (p:=⟨lb2,_,none⟩) V8).trans (aao 0 (by simp))
  simp only[Nat.mul_one,Nat.add_zero,List.getElem_cons_zero,List.getElem_cons_succ] at y0 y1 y2 l0
  have jo:Hid (Nc (aj x) args[k]≠gi[k].type->Ei (aj x) args (gi.map (·.type)) args.length=false):=fun h9=>adx (aj x) args (gi.map (·.type)) k hlt (by rw[List.length_map];exact hlg) (by simpa using h9)
  have V7:Hid (Nc (aj x) args[k]=gi[k].type->Ei (aj x) args (gi.map (·.type)) (k+1)=true):=fun h9=>ae2 (aj x) args (gi.map (·.type)) k hlt (by rw[List.length_map];exact hlg) (uh oh) (by simpa using h9)
  have hA:Below wr.heap.size wr (wr.alloc (.cells #[.string gi[k].name,.int .i64 gi[k].type,.slice Zr gi[k].clock.length Zt] 68)):=(Below.refl _ _).alloc (Nat.le_refl _) _
  have hbx:=jd wr #[.string gi[k].name,.int .i64 gi[k].type,.slice Zr gi[k].clock.length Zt] 68
  have bx:=hbx.cell (i:=1) (v:=.int .i64 gi[k].type) rfl
  have HTO:=hide (aga W wr _ (aj x) G sb vb ov D C L N hck.sc args[k] _ hav (uh Ov _ (List.getElem_mem _)))
  have hkA:∀{p:Addr} {v:Value},wr.cell? p=some v->(wr.alloc (.cells #[.string gi[k].name,.int .i64 gi[k].type,.slice Zr gi[k].clock.length Zt] 68)).cell? p=some v:=fun {p v} h9=>(hA.cell (World.block_lt_of_cell? wr _ h9)).trans h9
  have za:=hkA z0
  have zc:=hkA z3
  have zd:=hkA l0
  have Og:=hide (hb.trans (hA.mono hb.size))
  have yw:=hide hlt
  obtain⟨wA,hwA⟩:∃z,z=wr.alloc (.cells #[.string gi[k].name,.int .i64 gi[k].type,.slice Zr gi[k].clock.length Zt] 68):=⟨_,rfl⟩
  rw[←hwA] at hA hbx bx za zc zd Og
  have HT:Hid (Calls Tryz.prog 150 #[.pointer (some ⟨sb,0,none⟩),.slice aa args[k].length ac] wA.drew fun e w'=>e=.returned (.int .i64 (Nc (aj x) args[k]))∧Hid (Below w.heap.size w w')∧w'.cell? ⟨cb,0,none⟩=some (.pointer (some ⟨sb,0,none⟩))∧w'.cell? ⟨qb,qo+3,none⟩=some (.slice (some ⟨lb2,lo2,none⟩) args.length cc3)∧w'.cell? ⟨lb2,lo2+k,none⟩=some (.slice aa args[k].length ac)∧w'.cell? ⟨wr.heap.size,1,none⟩=some (.int .i64 gi[k].type)):=by
   refine hide ((uh HTO wA.drew hA.drew).mono ?_)
   rintro e w' ⟨rfl,hb1⟩
   have hb2:=Dx hb1
   have hkB:∀{p:Addr} {v:Value},wA.cell? p=some v->w'.cell? p=some v:=fun {p v} h9=>(hb2.cell (World.block_lt_of_cell? wA _ h9)).trans h9
   exact⟨rfl,(uh Og).trans (hb2.mono (uh Og).size),hkB za,hkB zc,hkB zd,hkB bx⟩
  subst hwA
  clear hkA Wx Qi Y2 aao hcs2 aiw hA hold hck hb aix z0 z1 z2 z3 z4 l0 asw V8 hav HTO hbx
  generalize Nc (aj x) args[k]=vt at *
  generalize gi[k].name=gn at *
  generalize asx:gi[k].type=gt at *
  generalize gi[k].clock.length=gcl at *
  generalize args[k].length=akl at *
  clear asx hlg hlt
  by_cases he:vt=gt
  ·have ac8:=hide (uh V7 he)
   subst he
   have q1:(vt == vt)=true:=by simp
   have q2:(vt != vt)=false:=by simp
   clear V7 jo
   go_wp2_with fail
   generalize wr.alloc (.cells #[.string gn,.int .i64 vt,.slice Zr gcl Zt] 68)=wA at *
   go_region_held3 (fun w'=>w'.cell? ⟨cb,0,none⟩=some (.pointer (some ⟨sb,0,none⟩))∧w'.cell? ⟨qb,qo+3,none⟩=some (.slice (some ⟨lb2,lo2,none⟩) args.length cc3)∧w'.cell? ⟨lb2,lo2+k,none⟩=some (.slice aa akl ac)∧w'.cell? ⟨wr.heap.size,1,none⟩=some (.int .i64 vt)) (go_keep) (first|(go_at_call 150;refine(uh HT).mono ?_;rintro e w1 ⟨rfl,HB1,z0,z1,z2,z3⟩;clear HT))
   all_goals
    clear z0 z1 z2 z3 za zc zd bx
    go_wp2
    go_roundg (args.length-(k+1))
    case measure =>
     have h8:=uh yw
     have h9:=uh HG
     omega
    case rel=>exact⟨k+1,uh yw,rfl,by go_num,uh HB1,uh ac8⟩
  ·have gq:Hid (∀w',Below w.heap.size w w'->PO (.returned (.bool false)) w'):=fun w' hb'=>by
    rw[uh qy,uh jo he,Bool.false_and]
    exact⟨rfl,hb'⟩
   have q1:(vt == gt)=false:=by rw[beq_eq_false_iff_ne];exact he
   have q2:(vt != gt)=true:=by rw[bne_iff_ne];exact he
   clear V7 jo he
   go_wp2_with fail
   generalize wr.alloc (.cells #[.string gn,.int .i64 gt,.slice Zr gcl Zt] 68)=wA at *
   go_region_held3 (fun w'=>w'.cell? ⟨cb,0,none⟩=some (.pointer (some ⟨sb,0,none⟩))∧w'.cell? ⟨qb,qo+3,none⟩=some (.slice (some ⟨lb2,lo2,none⟩) args.length cc3)∧w'.cell? ⟨lb2,lo2+k,none⟩=some (.slice aa akl ac)∧w'.cell? ⟨wr.heap.size,1,none⟩=some (.int .i64 gt)) (go_keep) (first|(go_at_call 150;refine(uh HT).mono ?_;rintro e w1 ⟨rfl,HB1,z0,z1,z2,z3⟩;clear HT))
   all_goals
    clear z0 z1 z2 z3 za zc zd bx
    go_wp2
    exact uh gq _ (uh HB1)
end Go.Proofs.YtflcnhfakcgkeaaGreat
