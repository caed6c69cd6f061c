import Derived.Deep.QuietTactic
import Derived.BigQuiet
import Derived.Test.YtlcgnbcgmljpaaaGreatFB6k
namespace Go.Proofs.YtlcgnbcgmljpaaaGreat
open Go.RowKit
set_option linter.unusedSimpArgs false
set_option linter.unusedVariables false
set_option maxRecDepth 20000 in
set_option maxHeartbeats 4000000 in
theorem ata (W0:World):∀(n:Nat) (t:BF) (w:World) (v:Value) (css:List (Raw 8)) (fs ss:List Nat),t.depth<n->t.wf->t.flat.length<=1000000->dw uq w 0 v css->Au W0 w t css fs ss->(gu v++fs).Nodup->Calls Tryz.prog 91 #[v] w (FuP W0 (Am n t) fs ss w):=by
 intro n
 induction n with
 | zero=>intro t w v css fs ss h;omega
 | succ n ih =>
  intro t w v css fs ss hn hwf hlen hov hka hnd
  obtain⟨N7,vc0,hv0⟩:=hov.slice
  have hcl:=hka.len
  have HIH:=hide ih
  obtain⟨L8,hL8⟩:∃z,z=css.length:=⟨_,rfl⟩
  rw[←hL8] at hv0 hcl
  have hLb:L8<=1000000:=by omega
  have HL8:=hide hL8
  obtain⟨hnv,hnf,hnx⟩:=Ij hnd
  have hvl:∀x,x∈gu v->x<w.heap.size:=fun x hx=>(World.ownsRow.lt hov x (iq.1 hx)).2
  have ayr:JS W0 w v css fs ss 0 .nil t (.slice none 0 0) [] [] [] fs ss w:=⟨dw.nil _ _,⟨rfl,rfl,rfl⟩,hka,hov,fun x=>by
   have h9:=Jt.1 hnf x
   have h8:(gu (.slice none 0 0)).count x=0:=rfl
   rw[h8]
   simp only[List.count_nil,Nat.zero_add]
   split
   ·exact Nat.le_refl _
   ·exact h9,fun x=>by simp,Kf.refl _ _⟩
  have HJ0:=hide (And.intro ayr (JB.start hwf))
  have Y0:=hide (And.intro hnf (And.intro hvl hnx))
  have Wq:=hide (And.intro hn hlen)
  clear ih hn hwf hlen hov hka hnd hcl hL8 hnv hnf hnx hvl ayr
  subst hv0
  obtain⟨PO,Af⟩:∃PO:Ending->World->Prop,PO=FuP W0 (Am (n+1) t) fs ss w:=⟨_,rfl⟩
  rw[←Af]
  have Fh:=hide Af
  clear Af
  go_enter Tryz.func91,Tryz.ntmps91
  go_wp2
  go_loopw [3,10] (fun lv i wr=>∃(q:Nat) (jt r:BF) (cj:List (Raw 8)) (fj sj fr sr:List Nat),q<=L8∧i=.int .i64 q∧Hid (JB t jt r)∧Hid (JS W0 w (.slice N7 L8 vc0) css fs ss q jt r lv cj fj sj fr sr wr)) (fun _ i _=>L8-(intOf i).toNat)
  case atStart=>exact⟨0,.nil,t,[],[],[],fs,ss,Nat.zero_le _,rfl,(uh HJ0).2,(uh HJ0).1⟩
  case round =>
   rename World=>wr
   obtain⟨q,jt,r,cj,fj,sj,fr,sr,hq,rfl,HB,HS⟩:=hrel
   by_cases hlt:q<L8
   case neg =>
    obtain⟨lva,lvc,hlv⟩:=(uh HS).own.slice
    have hjs:=uh HS
    have hbp:=uh HB
    have hdr:css.drop q=[]:=List.drop_eq_nil_of_le (by rw[←uh HL8];omega)
    have hr0:r=.nil:=by
     cases r using BF.inv with
     | nil=>rfl
     | node s a b r =>
      obtain⟨_,_,_,c,cr,_,_,_,_,_,_,_,_,_,h1,_⟩:=hjs.kr
      rw[hdr] at h1
      cases h1
    subst hr0
    have hjt:=hbp.rel.done
    subst hjt
    have atb:KT W0 w fs ss u3 (jn t) cj fj sj wr:=⟨hjs.own,hjs.kj,fun x=>by have h9:=hjs.cnt x;rw[List.count_append];split at h9<;>(first|rw[if_pos (by assumption)]|rw[if_neg (by assumption)])<;>omega,fun x=>by have h9:=hjs.sc x;omega,hjs.kf⟩
    subst hlv
    obtain⟨N,hN⟩:∃z,z=cj.length:=⟨_,rfl⟩
    have hNb:N<=1000000:=by
     have h9:=hjs.kj.len
     have h8:=hbp.len
     have h7:=(uh Wq).2
     omega
    rw[←hN] at atb ⊢
    have a3q:=hide atb
    have HN0:=hide hN.symm
    have HJW:Hid ((jn t).wf∧(jn t).depth<=n∧(jn t).flat.length<=1000000):=by
     have h8:=hbp.len
     have h7:=uh Wq
     have h6:=hbp.dj
     exact hide ⟨hbp.wj,by omega,by omega⟩
    have hqn:¬(q:Int)<(L8:Int):=by omega
    have HNF:=hide (uh Y0).1
    clear hjs hbp hdr atb hN HS HB HJ0 Y0 Wq hlt
    go_wp2
    go_loopw [58] (fun i wr=>∃(q:Nat) (p r:BF) (cj':List (Raw 8)) (fj' Ji:List Nat),q<=N∧i=.int .i64 q∧Hid (q=p.Hl∧p.app r=jn t∧cj'.length=N)∧Hid (KT W0 w fs ss (.slice lva N lvc) ((kids (Am n) p).app r) cj' fj' Ji wr)) (fun i _=>N-(intOf i).toNat)
    case atStart=>exact⟨0,.nil,jn t,cj,fj,sj,Nat.zero_le _,rfl,⟨rfl,rfl,uh HN0⟩,uh a3q⟩
    case round =>
     rename World=>wz
     obtain⟨q2,p,r,cj2,fj2,sj2,hq2,rfl,HP,HK⟩:=hrel
     obtain⟨hps,hpr,hcl⟩:=uh HP
     have hkt:=uh HK
     by_cases hlt2:q2<N
     case neg =>
      have Ws:PO (.returned (.slice lva N lvc)) wz:=by
       have h9:=hkt.kj.Hl
       rw[hcl,als,Zu] at h9
       have hr0:=as9 (r:=r) (by omega)
       subst hr0
       rw[Rt] at hpr hkt
       subst hpr
       rw[uh Fh]
       exact⟨_,cj2,fj2,sj2,rfl,hkt.own.low (Nat.zero_le _),hkt.kj,hkt.foot,hkt.sc,hkt.kf⟩
      have zu:=hide Ws
      have a3r:¬(q2:Int)<(N:Int):=by omega
      clear Ws hkt hps hpr hcl HP HK
      go_wp2
      exact uh zu
     have a3r:(q2:Int)<(N:Int):=by omega
     cases r using BF.inv with
     | nil =>
      exfalso
      have h9:=hkt.kj.Hl
      rw[hcl,Rt,Zu] at h9
      omega
     | node s a b r =>
     obtain⟨⟨wfa,dpa,lna⟩,⟨wfb,dpb,lnb⟩⟩:=anj hpr (uh HJW).1
     have hjw:=uh HJW
     obtain⟨g,cap,st,va,vb,c,ca,cb,fa,fb,sa,sb,e1,e2,e3,e4,e5,e6,⟨oa,ka,nda⟩,⟨ob,kb,ndb⟩,HA,_⟩:=hkt.kids (uh HNF)
     rw[Zu,←hps] at e1 e6 HA
     simp only[Value.slice.injEq] at e2
     obtain⟨rfl,e2b,rfl⟩:=e2
     obtain⟨v1,v2,hva⟩:=oa.slice
     have z6:=e6 6 va (by rw[e4,List.getElem?_append_right (by omega),e5];rfl)
     have qg:Hid (∀w1,Below wz.heap.size wz w1->w1.heap.size=wz.heap.size->Calls Tryz.prog 91 #[va] w1 (fun e w2=>∃x y z,e=.returned (.slice x y z)∧Hid (∃cj3 fj3 sj3,cj3.length=N∧KT W0 w fs ss (.slice (some ⟨g,0,none⟩) N lvc) ((kids (Am n) p).app (.node s (Am n a) b r)) cj3 fj3 sj3 (w2.setCell ⟨g,q2*8+6,none⟩ (.slice x y z)))∧w2.cell? ⟨g,q2*8+6,none⟩=some va∧w2.frozen? ⟨g,q2*8+6,none⟩=false)):=by
      refine hide (fun w1 hX hs=>((uh HIH) a w1 va ca fa sa (by omega) wfa (by omega) (oa.below hX) (ka.fr (fun b hb=>hX.block b (ka.lt b hb))) nda).mono ?_)
      intro e w2 hfu
      obtain⟨v',he,⟨x,y,z,hv'⟩,hg2,cj3,fj3,sj3,h1,h2⟩:=HA e _ w2 (hfu.from hX hs)
      subst hv'
      exact⟨x,y,z,he,hide ⟨cj3,fj3,sj3,h1.trans hcl,h2⟩,(World.cell?_of_block (w:=wz) (a:=⟨g,q2*8+6,none⟩) hg2).trans z6.1,(World.frozen?_of_block (w:=wz) (a:=⟨g,q2*8+6,none⟩) hg2).trans z6.2⟩
     have HPQ:=hide (And.intro hps (And.intro hpr (And.intro hlt2 (And.intro (And.intro wfb (And.intro dpb lnb)) hjw))))
     obtain⟨z6c,z6z⟩:=z6
     subst hva
     have hqw:(0:Int)<=(q2:Int):=by omega
     clear hkt hps hpr hcl HP HK wfa dpa lna wfb dpb lnb hjw e1 e2b e4 e5 e6 oa ka nda ob kb ndb HA hlt2 e3
     go_wp2_with fail
     refine(uh qg _ (Below.refl _ _) rfl).mono ?_
     rintro e w2 ⟨x,y,z,rfl,Y1,q6c,q6z⟩
     obtain⟨w3,hw3⟩:∃z9,z9=w2.setCell ⟨g,q2*8+6,none⟩ (.slice x y z):=⟨_,rfl⟩
     obtain⟨cj3,fj3,sj3,hcl,hkt⟩:=uh Y1
     rw[←hw3] at hkt
     obtain⟨hps,hpr,hlt2,⟨wfb,dpb,lnb⟩,hjw⟩:=uh HPQ
     obtain⟨g9,atc,st3,va3,vb3,c3,ca3,cb3,fa3,fb3,Uf,sb3,e1,e2,e3,e4,e5,e6,_,⟨ob,kb,ndb⟩,_,HBk⟩:=hkt.kids (uh HNF)
     rw[Zu,←hps] at e1 e6 HBk
     simp only[Value.slice.injEq,Option.some.injEq,Addr.mk.injEq] at e2
     obtain⟨⟨rfl,_,_⟩,e2b,rfl⟩:=e2
     obtain⟨v3,v4,hvb⟩:=ob.slice
     have z7:=e6 7 vb3 (by rw[e4,List.getElem?_append_right (by omega),e5];rfl)
     have HC2:Hid (Calls Tryz.prog 91 #[vb3] w3 (fun e w4=>∃x y z,e=.returned (.slice x y z)∧Hid (∃cj3 fj3 sj3,cj3.length=N∧KT W0 w fs ss (.slice (some ⟨g,0,none⟩) N lvc) ((kids (Am n) p).app (.node s (Am n a) (Am n b) r)) cj3 fj3 sj3 (w4.setCell ⟨g,q2*8+7,none⟩ (.slice x y z)))∧w4.cell? ⟨g,q2*8+7,none⟩=some vb3∧w4.frozen? ⟨g,q2*8+7,none⟩=false)):=by
      refine hide (((uh HIH) b w3 vb3 cb3 fb3 sb3 (by omega) wfb (by omega) ob kb ndb).mono ?_)
      intro e w4 hfu
      obtain⟨v',he,⟨x,y,z,hv'⟩,hg2,cj4,fj4,sj4,h1,h2⟩:=HBk e _ w4 hfu
      subst hv'
      exact⟨x,y,z,he,hide ⟨cj4,fj4,sj4,h1.trans hcl,h2⟩,(World.cell?_of_block (w:=w3) (a:=⟨g,q2*8+7,none⟩) hg2).trans z7.1,(World.frozen?_of_block (w:=w3) (a:=⟨g,q2*8+7,none⟩) hg2).trans z7.2⟩
     obtain⟨z7c,z7z⟩:=z7
     subst hvb
     clear hkt hps hpr hcl wfb dpb lnb hjw e1 e2b e4 e5 e6 ob kb ndb HBk hlt2 e3 qg Y1
     rw[hw3] at z7c z7z HC2
     go_wp2_with fail
     refine(uh HC2).mono ?_
     rintro e w4 ⟨x9,y9,z9,rfl,Xn,q7c,q7z⟩
     have Qq:Hid (∃(p':BF) (cj':List (Raw 8)) (fj' Ji:List Nat),Hid (q2+1=p'.Hl∧p'.app r=jn t∧cj'.length=N)∧Hid (KT W0 w fs ss (.slice (some ⟨g,0,none⟩) N lvc) ((kids (Am n) p').app r) cj' fj' Ji (w4.setCell ⟨g,q2*8+7,none⟩ (.slice x9 y9 z9)))):=by
      obtain⟨hps,hpr,hlt2,_⟩:=uh HPQ
      obtain⟨cj5,fj5,sj5,a3s,ays⟩:=uh Xn
      rw[ap6] at ays
      refine hide ⟨p.app (.node s a b .nil),cj5,fj5,sj5,hide ⟨by rw[als,hps];rfl,by rw[Ud];exact hpr,a3s⟩,hide ays⟩
     have ayt:=hide (uh HPQ).2.2.1
     clear HC2 Xn HPQ z7c z7z q6c q6z z6c z6z hw3
     go_wp2
     go_roundw
     case rel =>
      obtain⟨p',cj',fj',Ji,y1,y2⟩:=uh Qq
      exact⟨q2+1,p',r,cj',fj',Ji,uh ayt,by go_num,y1,y2⟩
     case measure =>
      have h9:=uh ayt
      simp[intOf]
      omega
   have hq8:q<css.length:=by rw[←uh HL8];exact hlt
   have hqI:(q:Int)<(L8:Int):=by omega
   obtain⟨lva,lvc,hlv⟩:=(uh HS).own.slice
   subst hlv
   have hbp:=uh HB
   have hjs:=uh HS
   cases r using BF.inv with
   | nil =>
    exfalso
    have h9:=hjs.kr.1
    rw[List.drop_eq_getElem_cons hq8] at h9
    cases h9
   | node s a b r =>
   obtain⟨g0,cap0,yx,_,hcells⟩:=abk hjs.ov q hq8
   simp only[Value.slice.injEq] at yx
   obtain⟨rfl,hv8,rfl⟩:=yx
   clear hv8
   obtain⟨st,va,vb,c,cr,ca,cb,fa,fb,fr2,s1,sa,sb,sr2,e1,e2,e3,⟨oa,_⟩,⟨ob,_⟩,_⟩:=hjs.kr
   rw[List.drop_eq_getElem_cons hq8,List.cons.injEq] at e1
   obtain⟨o1,o2,k1,k2,a1,a2,hst⟩:=e3.shape
   obtain⟨x1,x2,hva⟩:=oa.slice
   obtain⟨y1,y2,hvb⟩:=ob.slice
   rw[←e1.1,hst,hva,hvb] at e2
   have hcq:css[q].1=[.int .i64 s.kind,.string s.name,.int .i64 s.at_,.slice o1 s.outs.length o2,.slice k1 s.code.length k2,.slice a1 s.args.length a2,.slice x1 ca.length x2,.slice y1 cb.length y2]:=e2
   rw[hcq] at hcells
   have d0:=(hcells 0 _ rfl).1
   have d1:=(hcells 1 _ rfl).1
   have d2:=(hcells 2 _ rfl).1
   have d3:=(hcells 3 _ rfl).1
   have d4:=(hcells 4 _ rfl).1
   have d5:=(hcells 5 _ rfl).1
   have d6:=(hcells 6 _ rfl).1
   have d7:=(hcells 7 _ rfl).1
   simp only[Nat.add_zero] at d0
   have HCQ:=hide hcq
   have qx:Hid (cj.length<=1000000):=by
    have h9:=hjs.kj.len
    have h8:=hbp.len
    have h7:=(uh Wq).2
    refine hide ?_
    omega
   obtain⟨wX,Qp⟩:∃z,z=wr.alloc (.cells #[.int .i64 s.kind,.string s.name,.int .i64 s.at_,.slice o1 s.outs.length o2,.slice k1 s.code.length k2,.slice a1 s.args.length a2,.slice x1 ca.length x2,.slice y1 cb.length y2] 165):=⟨_,rfl⟩
   have hX:Below wr.heap.size wr wX:=by rw[Qp];exact(Below.refl _ _).alloc (Nat.le_refl _) _
   have ql:au wX wr.heap.size 165 #[.int .i64 s.kind,.string s.name,.int .i64 s.at_,.slice o1 s.outs.length o2,.slice k1 s.code.length k2,.slice a1 s.args.length a2,.slice x1 ca.length x2,.slice y1 cb.length y2]:=by rw[Qp];exact jl wr _ _
   have HX:=hide (And.intro hX ql)
   have b0:=ql.cell (i:=0) (v:=.int .i64 s.kind) rfl
   have b1:=ql.cell (i:=1) (v:=.string s.name) rfl
   have b2:=ql.cell (i:=2) (v:=.int .i64 s.at_) rfl
   have b3:=ql.cell (i:=3) (v:=.slice o1 s.outs.length o2) rfl
   have b4:=ql.cell (i:=4) (v:=.slice k1 s.code.length k2) rfl
   have b5:=ql.cell (i:=5) (v:=.slice a1 s.args.length a2) rfl
   have b6:=ql.cell (i:=6) (v:=.slice x1 ca.length x2) rfl
   have b7:=ql.cell (i:=7) (v:=.slice y1 cb.length y2) rfl
   rcases hbp.rel with ⟨rfl,hrt⟩|⟨pre,s0,a0,b00,hjt,hrel⟩
   ·have hcj:cj=[]:=hjs.kj.1
    subst hcj
    have hrb:=hbp.more (jt:=.nil) hbp.rel.a2h
    have qm:=hide hrb
    clear hcells hcq e1 e2 e3 oa ob hst hva hvb hX ql hjs hbp hrt hrb
    go_wp2
    rw[←Qp]
    go_quiet ((fail))
    obtain⟨wD,hwD⟩:∃z,z=wX.drewN nq:=⟨_,rfl⟩
    have HD:Hid (Below wr.heap.size wr wD∧au wD wr.heap.size 165 #[.int .i64 s.kind,.string s.name,.int .i64 s.at_,.slice o1 s.outs.length o2,.slice k1 s.code.length k2,.slice a1 s.args.length a2,.slice x1 ca.length x2,.slice y1 cb.length y2]):=by
     have h9:Below wX.heap.size wX wD:=by rw[hwD];exact jw _ _
     exact hide ⟨(uh HX).1.trans (h9.mono (uh HX).1.size),(uh HX).2.below h9 (uh HX).2.lt⟩
    rw[←hwD]
    clear hwD Qp b0 b1 b2 b3 b4 b5 b6 b7 d0 d1 d2 d3 d4 d5 d6 d7
    have aem:=uh qm
    have hA:Below wr.heap.size wr (wD.alloc (.cells #[.int .i64 s.kind,.string s.name,.int .i64 s.at_,.slice o1 s.outs.length o2,.slice k1 s.code.length k2,.slice a1 s.args.length a2,.slice x1 ca.length x2,.slice y1 cb.length y2] 165)):=(uh HD).1.alloc (uh HD).1.size _
    have HOA:=hide ((uh HS).own.below hA)
    have Ip:Hid (w.heap.size<=(wD.alloc (.cells #[.int .i64 s.kind,.string s.name,.int .i64 s.at_,.slice o1 s.outs.length o2,.slice k1 s.code.length k2,.slice a1 s.args.length a2,.slice x1 ca.length x2,.slice y1 cb.length y2] 165)).heap.size):=hide (Nat.le_trans (uh HS).kf.size hA.size)
    have Oi:Hid ((([]:List (Raw 8)).length+1)*152<=140737488355328):=by
     have h9:=uh qx
     refine hide ?_
     try simp only[List.length_nil] at h9 ⊢
     omega
    have Qq:Hid (∀v5 w5,dw uq w5 w.heap.size v5 (([]:List (Raw 8))++[css[q]])->(wD.alloc (.cells #[.int .i64 s.kind,.string s.name,.int .i64 s.at_,.slice o1 s.outs.length o2,.slice k1 s.code.length k2,.slice a1 s.args.length a2,.slice x1 ca.length x2,.slice y1 cb.length y2] 165)).grownBy w5 (Value.slice lva ([]:List (Raw 8)).length lvc).ownBlock->(∀b,v5.ownBlock=some b->(Value.slice lva ([]:List (Raw 8)).length lvc).ownBlock=some b∨(wD.alloc (.cells #[.int .i64 s.kind,.string s.name,.int .i64 s.at_,.slice o1 s.outs.length o2,.slice k1 s.code.length k2,.slice a1 s.args.length a2,.slice x1 ca.length x2,.slice y1 cb.length y2] 165)).heap.size<=b)->∃(jt':BF) (cj':List (Raw 8)) (fj' Ji fr' Jh:List Nat),Hid (JB t jt' r)∧Hid (JS W0 w (.slice (some ⟨g0,0,none⟩) L8 vc0) css fs ss (q+1) jt' r v5 cj' fj' Ji fr' Jh w5)):=by
     refine hide (fun v5 w5 o5 g5 n5=>?_)
     obtain⟨fj',Ji,fr',Jh,h9⟩:=(uh HS).push (uh Y0).1 (uh Y0).2.1 hq8 hA o5 g5 n5
     exact⟨_,_,fj',Ji,fr',Jh,hide aem,hide h9⟩
    have b0:=(uh HD).2.cell (i:=0) (v:=.int .i64 s.kind) rfl
    have b1:=(uh HD).2.cell (i:=1) (v:=.string s.name) rfl
    have b2:=(uh HD).2.cell (i:=2) (v:=.int .i64 s.at_) rfl
    have b3:=(uh HD).2.cell (i:=3) (v:=.slice o1 s.outs.length o2) rfl
    have b4:=(uh HD).2.cell (i:=4) (v:=.slice k1 s.code.length k2) rfl
    have b5:=(uh HD).2.cell (i:=5) (v:=.slice a1 s.args.length a2) rfl
    have b6:=(uh HD).2.cell (i:=6) (v:=.slice x1 ca.length x2) rfl
    have b7:=(uh HD).2.cell (i:=7) (v:=.slice y1 cb.length y2) rfl
    have abl:=hide hlt
    clear aem hA
    go_wp2_with (at_builtin;go_must (refine l9 uq _ rfl _ _ rfl w.heap.size _ (([]:List (Raw 8))) rfl (uh HOA) _ css[q] rfl (fun k u hu=>by rw[World.cell?_alloc_at _ _ _ _ (by simp)];have hu':css[q].1[k]?=some u:=hu;rw[uh HCQ] at hu';simpa using hu') (uh Oi) (uh Ip) ?_))
    intro v5 w5 o5 h5g n5
    have Dz:=hide (uh Qq v5 w5 o5 h5g (by simpa using n5))
    clear o5 h5g n5
    go_wp2
    go_roundw
    case rel =>
     obtain⟨jt',cj',fj',Ji,fr',Jh,y1,y2⟩:=uh Dz
     exact⟨q+1,jt',r,cj',fj',Ji,fr',Jh,uh abl,by go_num,y1,y2⟩
    case measure =>
     have h9:=uh abl
     simp[intOf]
     omega
   ·subst hjt
    obtain⟨n8,g,cap,st0,st9,va9,vb9,va8,vb8,c0,hnj,hcap,hlv,ayu,ayv,hc0,ayw,⟨xx,ht0⟩,⟨yy,ht9⟩,Ux,a2j,hJ⟩:=hjs.join (uh Y0).1 (uh Y0).2.1 (uh Y0).2.2 hq8
    simp only[Value.slice.injEq] at hlv
    obtain⟨rfl,hlv2,rfl⟩:=hlv
    clear hlv2
    obtain⟨a3t,hvv⟩:=List.append_inj (show st9++[va8,vb8]=[.int .i64 s.kind,.string s.name,.int .i64 s.at_,.slice o1 s.outs.length o2,.slice k1 s.code.length k2,.slice a1 s.args.length a2]++[.slice x1 ca.length x2,.slice y1 cb.length y2] from ayw.symm.trans hcq) (by rw[ht9.afm];rfl)
    simp only[List.cons.injEq,and_true] at hvv
    obtain⟨rfl,rfl⟩:=hvv
    obtain⟨p1,p2,l1,l2,m1,m2,ayx⟩:=ht0.shape
    rw[ayx] at hc0
    have hc0':c0.1=[.int .i64 s0.kind,.string s0.name,.int .i64 s0.at_,.slice p1 s0.outs.length p2,.slice l1 s0.code.length l2,.slice m1 s0.args.length m2,va9,vb9]:=hc0
    rw[hc0'] at Ux
    have r0:=(Ux 0 _ rfl).1
    have r1:=(Ux 1 _ rfl).1
    have r2:=(Ux 2 _ rfl).1
    have r3:=(Ux 3 _ rfl).1
    have r4:=(Ux 4 _ rfl).1
    have r5:=(Ux 5 _ rfl).1
    have r6:=(Ux 6 _ rfl).1
    have r7:=(Ux 7 _ rfl).1
    simp only[Nat.add_zero] at r0
    have HZ:Hid (wr.frozen? ⟨g,n8*8+6,none⟩=false∧wr.frozen? ⟨g,n8*8+7,none⟩=false∧wr.cell? ⟨g,n8*8+6,none⟩=some va9∧wr.cell? ⟨g,n8*8+7,none⟩=some vb9):=hide ⟨(Ux 6 _ rfl).2,(Ux 7 _ rfl).2,r6,r7⟩
    have HJ:=hide hJ
    have HG:=hide (And.intro ayu ayv)
    have ahx:=hide (And.intro hrel hbp)
    have HNJ:=hide hnj
    have HCJ:Hid (∀w1,Below wX.heap.size wX w1->Calls Tryz.prog 117 #[.agg #[.int .i64 s0.kind,.string s0.name,.int .i64 s0.at_,.slice p1 s0.outs.length p2,.slice l1 s0.code.length l2,.slice m1 s0.args.length m2,va9,vb9],.agg #[.int .i64 s.kind,.string s.name,.int .i64 s.at_,.slice o1 s.outs.length o2,.slice k1 s.code.length k2,.slice a1 s.args.length a2,.slice x1 ca.length x2,.slice y1 cb.length y2]] w1 (fun e w2=>e=.returned (.bool (Ko s0 s))∧Hid (Below wr.heap.size wr w2∧au w2 wr.heap.size 165 #[.int .i64 s.kind,.string s.name,.int .i64 s.at_,.slice o1 s.outs.length o2,.slice k1 s.code.length k2,.slice a1 s.args.length a2,.slice x1 ca.length x2,.slice y1 cb.length y2])∧w2.cell? ⟨g,n8*8,none⟩=some (.int .i64 s0.kind)∧w2.cell? ⟨g,n8*8+1,none⟩=some (.string s0.name)∧w2.cell? ⟨g,n8*8+2,none⟩=some (.int .i64 s0.at_)∧w2.cell? ⟨g,n8*8+3,none⟩=some (.slice p1 s0.outs.length p2)∧w2.cell? ⟨g,n8*8+4,none⟩=some (.slice l1 s0.code.length l2)∧w2.cell? ⟨g,n8*8+5,none⟩=some (.slice m1 s0.args.length m2)∧w2.cell? ⟨g,n8*8+6,none⟩=some (va9)∧w2.cell? ⟨g,n8*8+7,none⟩=some (vb9)∧w2.cell? ⟨wr.heap.size,0,none⟩=some (.int .i64 s.kind)∧w2.cell? ⟨wr.heap.size,1,none⟩=some (.string s.name)∧w2.cell? ⟨wr.heap.size,2,none⟩=some (.int .i64 s.at_)∧w2.cell? ⟨wr.heap.size,3,none⟩=some (.slice o1 s.outs.length o2)∧w2.cell? ⟨wr.heap.size,4,none⟩=some (.slice k1 s.code.length k2)∧w2.cell? ⟨wr.heap.size,5,none⟩=some (.slice a1 s.args.length a2)∧w2.cell? ⟨wr.heap.size,6,none⟩=some (.slice x1 ca.length x2)∧w2.cell? ⟨wr.heap.size,7,none⟩=some (.slice y1 cb.length y2))):=by
     refine hide (fun w1 h19=>(as6 s0 s w1 _ _ _ _ _ _ _ _ _ _ _ _).mono ?_)
     rintro e w2 ⟨rfl,h28⟩
     have h29:Below wX.heap.size wX w2:=h19.trans (h28.mono h19.size)
     have hw2:Below wr.heap.size wr w2:=(uh HX).1.trans (h29.mono (uh HX).1.size)
     have hb2:=(uh HX).2.below h29 (uh HX).2.lt
     exact⟨rfl,hide ⟨hw2,hb2⟩,(hw2.cell (p:=⟨g,n8*8,none⟩) (uh HG).2).trans r0,(hw2.cell (p:=⟨g,n8*8+1,none⟩) (uh HG).2).trans r1,(hw2.cell (p:=⟨g,n8*8+2,none⟩) (uh HG).2).trans r2,(hw2.cell (p:=⟨g,n8*8+3,none⟩) (uh HG).2).trans r3,(hw2.cell (p:=⟨g,n8*8+4,none⟩) (uh HG).2).trans r4,(hw2.cell (p:=⟨g,n8*8+5,none⟩) (uh HG).2).trans r5,(hw2.cell (p:=⟨g,n8*8+6,none⟩) (uh HG).2).trans r6,(hw2.cell (p:=⟨g,n8*8+7,none⟩) (uh HG).2).trans r7,hb2.cell (i:=0) rfl,hb2.cell (i:=1) rfl,hb2.cell (i:=2) rfl,hb2.cell (i:=3) rfl,hb2.cell (i:=4) rfl,hb2.cell (i:=5) rfl,hb2.cell (i:=6) rfl,hb2.cell (i:=7) rfl⟩
    have hn8:n8<=1000000:=by
     have h9:=uh qx
     omega
    have a5x:(0:Int)<=(n8:Int):=by omega
    have a5y:(n8:Int)<=1000000:=by omega
    have a5z:wrap64 (n8:Int)=(n8:Int):=by unfold wrap64;omega
    have xr0:True:=trivial
    have ayy:=((uh HX).1.cell (p:=⟨g,n8*8,none⟩) (uh HG).2).trans r0
    have ayz:=((uh HX).1.cell (p:=⟨g,n8*8+1,none⟩) (uh HG).2).trans r1
    have ay0:=((uh HX).1.cell (p:=⟨g,n8*8+2,none⟩) (uh HG).2).trans r2
    have ay1:=((uh HX).1.cell (p:=⟨g,n8*8+3,none⟩) (uh HG).2).trans r3
    have ay2:=((uh HX).1.cell (p:=⟨g,n8*8+4,none⟩) (uh HG).2).trans r4
    have ay3:=((uh HX).1.cell (p:=⟨g,n8*8+5,none⟩) (uh HG).2).trans r5
    have ay4:=((uh HX).1.cell (p:=⟨g,n8*8+6,none⟩) (uh HG).2).trans r6
    have ay5:=((uh HX).1.cell (p:=⟨g,n8*8+7,none⟩) (uh HG).2).trans r7
    rw[←hnj]
    clear hcells hcq e1 e2 e3 oa ob hst hva hvb hX ql hjs hbp hrel hnj hcap ayu ayv hc0 hc0' ayw ht0 ht9 Ux a2j hJ a3t ayx xr0
    go_wp2
    rw[←Qp]
    clear Qp
    have a6a:(n8:Int)<(n8:Int)+1:=by omega
    go_region_held3 (fun w'=>w'.cell? ⟨g,n8*8,none⟩=some (.int .i64 s0.kind)∧w'.cell? ⟨g,n8*8+1,none⟩=some (.string s0.name)∧w'.cell? ⟨g,n8*8+2,none⟩=some (.int .i64 s0.at_)∧w'.cell? ⟨g,n8*8+3,none⟩=some (.slice p1 s0.outs.length p2)∧w'.cell? ⟨g,n8*8+4,none⟩=some (.slice l1 s0.code.length l2)∧w'.cell? ⟨g,n8*8+5,none⟩=some (.slice m1 s0.args.length m2)∧w'.cell? ⟨g,n8*8+6,none⟩=some (va9)∧w'.cell? ⟨g,n8*8+7,none⟩=some (vb9)∧w'.cell? ⟨wr.heap.size,0,none⟩=some (.int .i64 s.kind)∧w'.cell? ⟨wr.heap.size,1,none⟩=some (.string s.name)∧w'.cell? ⟨wr.heap.size,2,none⟩=some (.int .i64 s.at_)∧w'.cell? ⟨wr.heap.size,3,none⟩=some (.slice o1 s.outs.length o2)∧w'.cell? ⟨wr.heap.size,4,none⟩=some (.slice k1 s.code.length k2)∧w'.cell? ⟨wr.heap.size,5,none⟩=some (.slice a1 s.args.length a2)∧w'.cell? ⟨wr.heap.size,6,none⟩=some (.slice x1 ca.length x2)∧w'.cell? ⟨wr.heap.size,7,none⟩=some (.slice y1 cb.length y2)) (go_keep) (first|(go_at_call 117;refine(uh HCJ _ (by first|exact Below.refl _ _|exact(Below.refl _ _).drew|exact(Below.refl _ _).drew.drew)).mono ?_;rintro e w2 ⟨rfl,HD,zr0,zr1,zr2,zr3,zr4,zr5,zr6,zr7,zb0,zb1,zb2,zb3,zb4,zb5,zb6,zb7⟩))
    have Bd:=uh HS
    rw[←uh HNJ] at Bd
    have HS:=hide Bd
    clear Bd
    cases hjb:Ko s0 s
    ·obtain⟨wD,hwD⟩:∃z,z=w2:=⟨_,rfl⟩
     rw[←hwD] at HD ⊢
     clear hwD zr0 zr1 zr2 zr3 zr4 zr5 zr6 zr7 zb0 zb1 zb2 zb3 zb4 zb5 zb6 zb7 ayy ayz ay0 ay1 ay2 ay3 ay4 ay5 b0 b1 b2 b3 b4 b5 b6 b7 d0 d1 d2 d3 d4 d5 d6 d7 r0 r1 r2 r3 r4 r5 r6 r7 HJ HCJ
     have aem:=(uh ahx).2.more (JR.push (uh ahx).1 hjb)
     have hA:Below wr.heap.size wr (wD.alloc (.cells #[.int .i64 s.kind,.string s.name,.int .i64 s.at_,.slice o1 s.outs.length o2,.slice k1 s.code.length k2,.slice a1 s.args.length a2,.slice x1 ca.length x2,.slice y1 cb.length y2] 165)):=(uh HD).1.alloc (uh HD).1.size _
     have HOA:=hide ((uh HS).own.below hA)
     have Ip:Hid (w.heap.size<=(wD.alloc (.cells #[.int .i64 s.kind,.string s.name,.int .i64 s.at_,.slice o1 s.outs.length o2,.slice k1 s.code.length k2,.slice a1 s.args.length a2,.slice x1 ca.length x2,.slice y1 cb.length y2] 165)).heap.size):=hide (Nat.le_trans (uh HS).kf.size hA.size)
     have Oi:Hid ((cj.length+1)*152<=140737488355328):=by
      have h9:=uh qx
      refine hide ?_
      try simp only[List.length_nil] at h9 ⊢
      omega
     have Qq:Hid (∀v5 w5,dw uq w5 w.heap.size v5 (cj++[css[q]])->(wD.alloc (.cells #[.int .i64 s.kind,.string s.name,.int .i64 s.at_,.slice o1 s.outs.length o2,.slice k1 s.code.length k2,.slice a1 s.args.length a2,.slice x1 ca.length x2,.slice y1 cb.length y2] 165)).grownBy w5 (Value.slice (some ⟨g,0,none⟩) (n8+1) lvc).ownBlock->(∀b,v5.ownBlock=some b->(Value.slice (some ⟨g,0,none⟩) (n8+1) lvc).ownBlock=some b∨(wD.alloc (.cells #[.int .i64 s.kind,.string s.name,.int .i64 s.at_,.slice o1 s.outs.length o2,.slice k1 s.code.length k2,.slice a1 s.args.length a2,.slice x1 ca.length x2,.slice y1 cb.length y2] 165)).heap.size<=b)->∃(jt':BF) (cj':List (Raw 8)) (fj' Ji fr' Jh:List Nat),Hid (JB t jt' r)∧Hid (JS W0 w (.slice (some ⟨g0,0,none⟩) L8 vc0) css fs ss (q+1) jt' r v5 cj' fj' Ji fr' Jh w5)):=by
      refine hide (fun v5 w5 o5 g5 n5=>?_)
      obtain⟨fj',Ji,fr',Jh,h9⟩:=(uh HS).push (uh Y0).1 (uh Y0).2.1 hq8 hA o5 g5 n5
      exact⟨_,_,fj',Ji,fr',Jh,hide aem,hide h9⟩
     have b0:=(uh HD).2.cell (i:=0) (v:=.int .i64 s.kind) rfl
     have b1:=(uh HD).2.cell (i:=1) (v:=.string s.name) rfl
     have b2:=(uh HD).2.cell (i:=2) (v:=.int .i64 s.at_) rfl
     have b3:=(uh HD).2.cell (i:=3) (v:=.slice o1 s.outs.length o2) rfl
     have b4:=(uh HD).2.cell (i:=4) (v:=.slice k1 s.code.length k2) rfl
     have b5:=(uh HD).2.cell (i:=5) (v:=.slice a1 s.args.length a2) rfl
     have b6:=(uh HD).2.cell (i:=6) (v:=.slice x1 ca.length x2) rfl
     have b7:=(uh HD).2.cell (i:=7) (v:=.slice y1 cb.length y2) rfl
     have abl:=hide hlt
     clear aem hA
     go_wp2_with (at_builtin;go_must (refine l9 uq _ rfl _ _ rfl w.heap.size _ (cj) rfl (uh HOA) _ css[q] rfl (fun k u hu=>by rw[World.cell?_alloc_at _ _ _ _ (by simp)];have hu':css[q].1[k]?=some u:=hu;rw[uh HCQ] at hu';simpa using hu') (uh Oi) (uh Ip) ?_))
     intro v5 w5 o5 h5g n5
     have Dz:=hide (uh Qq v5 w5 o5 h5g (by simpa using n5))
     clear o5 h5g n5
     go_wp2
     go_roundw
     case rel =>
      obtain⟨jt',cj',fj',Ji,fr',Jh,y1,y2⟩:=uh Dz
      exact⟨q+1,jt',r,cj',fj',Ji,fr',Jh,uh abl,by go_num,y1,y2⟩
     case measure =>
      have h9:=uh abl
      simp[intOf]
      omega
    ·obtain⟨hrb,hba,hbb⟩:=(uh ahx).2.join (uh ahx).1 hjb
     have hbt:=(uh Wq).2
     obtain⟨Vb,w5,N8,Bh,⟨f1,f2,f3,rfl⟩,k5,hg5,hl5,hJ2⟩:=uh HJ w2.drew (by omega) (by omega) (uh HD).1.drew
     have w6c:=(World.cell?_of_block (w:=wr) (a:=⟨g,n8*8+6,none⟩) hg5).trans (uh HZ).2.2.1
     have w6z:=(World.frozen?_of_block (w:=wr) (a:=⟨g,n8*8+6,none⟩) hg5).trans (uh HZ).1
     have ay6:(Builtin.append_ #[135,135] 135 #[va9,.slice x1 ca.length x2]).run Tryz.prog w2.drew=.ok (.slice f1 f2 f3) w5:=N8
     have Dz:=hide ay6
     obtain⟨w6,hw6⟩:∃z,z=w5.setCell ⟨g,n8*8+6,none⟩ (.slice f1 f2 f3):=⟨_,rfl⟩
     have hb5:au w5 wr.heap.size 165 #[.int .i64 s.kind,.string s.name,.int .i64 s.at_,.slice o1 s.outs.length o2,.slice k1 s.code.length k2,.slice a1 s.args.length a2,.slice x1 ca.length x2,.slice y1 cb.length y2]:=(k5.block wr.heap.size (uh HD).2.lt (fun h9=>by have:=hl5 _ h9;omega)).trans (uh HD).2
     have hgw:¬wr.heap.size=g:=by have:=(uh HG).2;omega
     have hb6:au w6 wr.heap.size 165 #[.int .i64 s.kind,.string s.name,.int .i64 s.at_,.slice o1 s.outs.length o2,.slice k1 s.code.length k2,.slice a1 s.args.length a2,.slice x1 ca.length x2,.slice y1 cb.length y2]:=by rw[hw6];exact(Below.heap_setCell _ _ _ _ hgw).trans hb5
     have Oa:=hide hb6
     have HW6:Hid ((w5.setCell ⟨g,n8*8+6,none⟩ (.slice f1 f2 f3)).cell? ⟨g,n8*8+7,none⟩=some vb9∧(w5.setCell ⟨g,n8*8+6,none⟩ (.slice f1 f2 f3)).frozen? ⟨g,n8*8+7,none⟩=false):=by
      have h7:=(World.cell?_of_block (w:=wr) (a:=⟨g,n8*8+7,none⟩) hg5).trans (uh HZ).2.2.2
      have h8:=(World.frozen?_of_block (w:=wr) (a:=⟨g,n8*8+7,none⟩) hg5).trans (uh HZ).2.1
      exact hide ⟨by simp[go_sem,h7],by simp[go_sem,h8]⟩
     have qm:=hide hrb
     have HJ2:=hide hJ2
     clear N8 ay6 Bh k5 hg5 hl5 hJ2 hrb hba hbb hbt hb5 hb6 ayy ayz ay0 ay1 ay2 ay3 ay4 ay5 b0 b1 b2 b3 b4 b5 b6 b7 d0 d1 d2 d3 d4 d5 d6 d7 r0 r1 r2 r3 r4 r5 r6 r7 HJ HCJ
     go_wp2
     go_region_law (refine Ib rfl _ _ 135 135 rfl rfl _ _ _ rfl rfl (uh Dz) ?_)
     all_goals
      rw[←hw6]
      clear w6c w6z Dz zr0 zr1 zr2 zr3 zr4 zr5 zr6 zr7 zb0 zb1 zb2 zb3 zb4 zb5 zb6 zb7
      obtain⟨hgY,Vd,w7,Qr,ho7,⟨f4,f5,f6,rfl⟩,k7,hg7,cj',fj',Ji,fr',Jh,hcl',atd⟩:=uh HJ2 w6 w6.drew hw6 (Below.refl _ _).drew
      have v7c:=((uh HW6).1)
      have v7z:=((uh HW6).2)
      rw[←hw6] at v7c v7z
      have w7c:=(World.cell?_of_block (w:=w6) (a:=⟨g,n8*8+7,none⟩) hg7).trans v7c
      have w7z:=(World.frozen?_of_block (w:=w6) (a:=⟨g,n8*8+7,none⟩) hg7).trans v7z
      have ay7:(Builtin.append_ #[135,135] 135 #[vb9,.slice y1 cb.length y2]).run Tryz.prog w6.drew=.ok (.slice f4 f5 f6) w7:=Qr
      have Ve:=hide ay7
      have b7:=(uh Oa).cell (i:=7) (v:=.slice y1 cb.length y2) rfl
      rw[←uh HNJ] at atd
      have a3u:=hide atd
      have abl:=hide hlt
      clear hgY Qr ay7 ho7 k7 hg7 atd hcl' hw6 v7z
      go_wp2
      go_region_law (refine Ib rfl _ _ 135 135 rfl rfl _ _ _ rfl rfl (uh Ve) ?_)
      all_goals
       clear Ve w7c w7z b7 v7c
       go_wp2
       go_roundw
       case rel =>
        exact⟨q+1,_,r,cj',fj',Ji,fr',Jh,uh abl,by go_num,qm,a3u⟩
       case measure =>
        have h9:=uh abl
        simp[intOf]
        omega
end Go.Proofs.YtlcgnbcgmljpaaaGreat
