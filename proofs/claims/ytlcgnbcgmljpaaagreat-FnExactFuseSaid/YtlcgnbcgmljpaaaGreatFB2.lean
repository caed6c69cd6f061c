import Derived.Test.YtlcgnbcgmljpaaaGreatFB1
import Derived.Test.YtlcgnbcgmljpaaaGreatMX
import Derived.Test.YtlcgnbcgmljpaaaGreatMI20
namespace Go.Proofs.YtlcgnbcgmljpaaaGreat
open Go.RowKit
set_option linter.unusedSimpArgs false
set_option linter.unusedVariables false
def Fsx (W0:World) (B fb:Nat) (ls:List dh) (ss:List Nat) (w:World):Prop:=∃bv Bc subs,au w fb 133 #[bv]∧dw zh w B bv Bc∧zn (fun c x s=>Aa W0 c.1 x s) Bc ls subs∧subs.flatten=ss
structure Fq (B fb:Nat) (A C:World):Prop where
 os:C.os=A.os
 tape:C.tape=A.tape
 output:C.output=A.output
 size:A.heap.size<=C.heap.size
 other:∀(k:Nat) (o:Obj),A.heap[k]?=some o->k≠fb->(k<B∨∀cs z,o≠.cells cs 60 z)->C.heap[k]?=some o
theorem Fq.refl (B fb:Nat) (A:World):Fq B fb A A:=⟨rfl,rfl,rfl,Nat.le_refl _,fun _ _ h _ _=>h⟩
theorem Fq.trans {B fb:Nat} {A C D:World} (h:Fq B fb A C) (k:Fq B fb C D):Fq B fb A D :=
 ⟨k.os.trans h.os,k.tape.trans h.tape,k.output.trans h.output,Nat.le_trans h.size k.size,fun i o h1 h2 h3=>k.other i o (h.other i o h1 h2 h3) h2 h3⟩
theorem Fq.P7 {B fb:Nat} {A C:World} (h:Below A.heap.size A C):Fq B fb A C :=
 ⟨h.os,h.tape,h.output,h.size,fun k o h1 _ _=>(h.block k (Array.getElem?_eq_some_iff.1 h1).1).trans h1⟩
theorem Fq.Jg {B fb:Nat} {A C:World} {row:Option Nat} (h:A.grownBy C row) (hr:∀b,row=some b->b=fb∨(B<=b∧∃cs z,A.heap[b]?=some (.cells cs 60 z))):Fq B fb A C :=
 ⟨h.os,h.tape,h.output,h.size,fun k o h1 h2 h3=>(h.block k (Array.getElem?_eq_some_iff.1 h1).1 (fun e=>by
  rcases hr k e.symm with h9|⟨h9,cs,z,h8⟩
  ·exact h2 h9
  ·rcases h3 with h3|h3
   ·omega
   ·rw[h1] at h8
    exact h3 cs z (Option.some.inj h8))).trans h1⟩
theorem Fq.fr {B fb:Nat} {A C:World} (h:Fq B fb A C) {bs Ts:List Nat} (ht:Dc Ts bs A) (hn:60∉Ts) (hf:fb∉bs):Fr bs A C:=fun b hb=>by
 obtain⟨cur,U,hU,hh⟩:=ht b hb
 refine(h.other b _ hh (fun e=>hf (e▸hb)) (Or.inr fun cs z e=>?_)).trans hh.symm
 simp only[Obj.cells.injEq] at e
 exact hn (e.2.1▸hU)
theorem Au.typ {W0 w:World} {t:BF}:∀{css:List (Raw 8)} {fs ss:List Nat},Au W0 w t css fs ss->Dc [165] fs w:=by
 induction t using BF.ind with
 | nil=>intro css fs ss h b hb;rw[h.2.1] at hb;cases hb
 | node s a b r iha ihb ihr =>
  intro css fs ss h
  obtain⟨st,va,vb,c,cr,ca,cb,fa,fb,fr,s0,sa,sb,sr,h1,h2,h3,⟨h4,h5⟩,⟨h6,h7⟩,h8,rfl,h10⟩:=h
  have own:∀{v:Value} {cs:List (Raw 8)},dw uq w 0 v cs->Dc [165] (gu v) w:=fun ho b hb=>by
   obtain⟨cur,hh⟩:=ho.cellT (iq.1 hb)
   exact⟨cur,_,List.mem_singleton.2 rfl,hh⟩
  exact(((own h4).app (iha h5)).app ((own h6).app (ihb h7))).app (ihr h8)
def FoP (W0:World) (B fb:Nat) (ls:List dh) (ss:List Nat) (w:World) (e:Ending) (w':World):Prop:=e=.returned (.tuple #[])∧Fsx W0 B fb ls ss w'∧Fq B fb w w'
theorem dw.tyB {w:World} {v:Value} {cs:List (Raw 8)} (ho:dw uq w 0 v cs):Dc [165] (gu v) w:=fun b hb=>by
 obtain⟨cur,hh⟩:=ho.cellT (iq.1 hb)
 exact⟨cur,_,List.mem_singleton.2 rfl,hh⟩
theorem au.gr {w w':World} {b:Nat} {T:TypeId} {cs:Array Value} {row:Option Nat} (h:au w b T cs) (hg:w.grownBy w' row) (hne:some b≠row):au w' b T cs:=(hg.block b h.lt hne).trans h
theorem Fsx.snoc {W0:World} {B fb:Nat} {ls:List dh} {ss:List Nat} {w wA w5:World} {bv v':Value} {Bc:List (Raw 6)} {subs:List (List Nat)} {c:Raw 6} {s:dh} {s0:List Nat} (hb:au w fb 133 #[bv]) (ho:dw zh w B bv Bc) (h3:zn (fun c x s=>Aa W0 c.1 x s) Bc ls subs) (hs:subs.flatten=ss) (hA:Below w.heap.size w wA) (hc:Aa W0 c.1 s s0) (Bh:dw zh w5 B v' (Bc++[c])) (hg5:wA.grownBy w5 bv.ownBlock) :
  Fsx W0 B fb (ls++[s]) (ss++s0) (w5.setCell ⟨fb,0,none⟩ v')∧Fq B fb w (w5.setCell ⟨fb,0,none⟩ v'):=by
 have Rj:=hb.below hA hb.lt
 have hoA:=ho.below hA
 have hb5:au w5 fb 133 #[bv]:=Rj.gr hg5 (fun e=>dw.Aw hoA Rj (by decide) e.symm)
 refine⟨⟨v',Bc++[c],subs++[s0],?_,?_,h3.app (.cons hc .nil),by simp[hs]⟩,(Fq.P7 hA).trans ((Fq.Jg hg5 (fun b jc=>?_)).trans (Fq.Jg (row:=some fb) ⟨rfl,rfl,rfl,by simp[World.setCell],fun k _ hk=>Below.heap_setCell _ _ _ _ (fun e=>hk (by simp only at e;rw[e]))⟩ (fun b jc=>by cases jc;exact Or.inl rfl)))⟩
 ·exact hb5.set 0 v'
 ·exact Bh.Ai (fun b jc=>Below.heap_setCell _ _ _ _ (fun e=>by
   simp only at e
   subst e
   exact dw.Aw Bh hb5 (by decide) jc))
 ·obtain⟨cur,hh⟩:=hoA.cellT jc
  exact Or.inr ⟨(World.ownsRow.lt hoA b jc).1,cur,_,hh⟩
theorem Aa.shape {w:World} {cs:List Value} {t:dh} {bs:List Nat} (h:Aa w cs t bs):∃oa oc ca cc aa ac,cs=[.int .i64 t.kind,.string t.name,.int .i64 t.at_,.slice oa t.outs.length oc,.slice ca t.code.length cc,.slice aa t.args.length ac]:=by
 obtain⟨o,c,a,b1,b2,b3,h1,h2,h3,h4,h5,h6,h7,h8⟩:=h
 obtain⟨oa,oc,rfl⟩:=h5.1.slice
 obtain⟨ca,cc,rfl⟩:=h6.1.slice
 obtain⟨css,subs,g1,_,g3,_⟩:=h7
 obtain⟨aa,ac,rfl⟩:=g1.slice
 rw[g3.len.1] at h1
 exact⟨oa,oc,ca,cc,aa,ac,h1⟩
def Ns (k:Int):List Value:=[.int .i64 k,.string ⟨#[]⟩,.int .i64 0,.slice none 0 0,.slice none 0 0,.slice none 0 0]
theorem alq (W0:World) (k:Int) (hk:I64 k):Aa W0 (Ns k) ⟨k,⟨#[]⟩,0,[],[],[]⟩ [] :=
 ⟨_,_,_,[],[],[],rfl,(by show (0:Nat)<=140737488355328;omega),hk,(by show I64 0;unfold I64;omega),⟨dw.nil _ _,fun x hx=>(by cases hx),by simp,rfl⟩,⟨dw.nil _ _,fun x hx=>(by cases hx),by simp,rfl⟩,⟨[],[],dw.nil _ _,by simp,.nil,rfl⟩,rfl⟩
theorem Fq.blk {B fb:Nat} {A C:World} (h:Fq B fb A C) {b T:Nat} {cs:Array Value} (hb:au A b T cs) (h1:T≠60) (h2:b≠fb):au C b T cs :=
 h.other b _ hb h2 (Or.inr fun cs z e=>by simp only[Obj.cells.injEq] at e;exact h1 e.2.1)
theorem Fsx.box {W0:World} {B fb:Nat} {ls:List dh} {ss:List Nat} {w:World} (h:Fsx W0 B fb ls ss w):∃bv,au w fb 133 #[bv]:=by
 obtain⟨bv,_,_,h1,_⟩:=h
 exact⟨bv,h1⟩
theorem afh {W0 A C:World} {B fb:Nat} {ls:List dh} {Yv:List Nat} {v:Value} {css:List (Raw 8)} (hfs:Fsx W0 B fb ls Yv A) (h:Fq B fb A C) (ho:dw uq A 0 v css):dw uq C 0 v css:=by
 obtain⟨bv,hbx⟩:=hfs.box
 have f1:=h.fr ho.tyB (by decide) (hbx.Tn ho.tyB (by decide))
 exact ho.Ai (fun b hb=>f1 b (iq.2 hb))
theorem afi {W0 A C:World} {B fb:Nat} {ls:List dh} {Yv:List Nat} {t:BF} {css:List (Raw 8)} {fs ss:List Nat} (hfs:Fsx W0 B fb ls Yv A) (h:Fq B fb A C) (hk:Au W0 A t css fs ss):Au W0 C t css fs ss:=by
 obtain⟨bv,hbx⟩:=hfs.box
 exact hk.fr (h.fr hk.typ (by decide) (hbx.Tn hk.typ (by decide)))
theorem aei {W0 A C:World} {B fb:Nat} {ls:List dh} {Yv:List Nat} {t:BF} {v:Value} {css:List (Raw 8)} {fs ss:List Nat} (hfs:Fsx W0 B fb ls Yv A) (h:Fq B fb A C) (ho:dw uq A 0 v css) (hk:Au W0 A t css fs ss):dw uq C 0 v css∧Au W0 C t css fs ss:=⟨afh hfs h ho,afi hfs h hk⟩
theorem acz {p r a b:BF} {s:dh} {t:BF} (h:p.flat++(BF.node s a b r).flat=t.flat):(s.kind=4->(p.app (.node s a b .nil)).flat++r.flat=t.flat∧(p.app (.node s a b .nil)).flat=p.flat++[s]++a.flat++[elS]++b.flat++[uo])∧(s.kind≠4->(p.app (.node s .nil .nil .nil)).flat++r.flat=t.flat∧(p.app (.node s .nil .nil .nil)).flat=p.flat++[s]):=by
 refine⟨fun hk=>?_,fun hk=>?_⟩
 ·rw[Aj,jd,if_pos hk]
  rw[jd,if_pos hk] at h
  refine⟨?_,by simp[BF.flat]⟩
  rw[←h]
  simp[BF.flat]
 ·rw[Aj,jd,if_neg hk]
  rw[jd,if_neg hk] at h
  refine⟨?_,by simp[BF.flat]⟩
  rw[←h]
  simp[BF.flat]
set_option maxRecDepth 20000 in
set_option maxHeartbeats 4000000 in
theorem ap3 (W0:World) (B fb:Nat):∀(n:Nat) (t:BF),t.flat.length<n->t.wf->∀(w:World) (v:Value) (css:List (Raw 8)) (fs ss:List Nat) (ls:List dh) (Yv:List Nat),Fsx W0 B fb ls Yv w->dw uq w 0 v css->Au W0 w t css fs ss->ls.length+t.flat.length<=1000000->B<=w.heap.size->Calls Tryz.prog 90 #[.pointer (some ⟨fb,0,none⟩),v] w (FoP W0 B fb (ls++t.flat) (Yv++ss) w):=by
 intro n
 induction n with
 | zero=>intro t h;omega
 | succ n ih =>
  intro t hn hwf w v css fs ss ls Yv hfs hov hka hlen hB
  obtain⟨N7,vc0,hv0⟩:=hov.slice
  have hcl:=hka.len
  have HIH:=hide ih
  have HOV:=hide hov
  have Yw:=hide hfs
  have HKA:=hide hka
  have HWF:=hide hwf
  have HLN:=hide hlen
  have Rk:=hide hB
  have Wq:=hide hn
  obtain⟨L8,hL8⟩:∃z,z=css.length:=⟨_,rfl⟩
  rw[←hL8] at hv0 hcl
  have hLb:L8<=1000000:=by omega
  have HL8:=hide hL8
  clear ih hov hfs hka hwf hlen hB hn hcl hL8
  subst hv0
  obtain⟨PO,Af⟩:∃PO:Ending->World->Prop,PO=FoP W0 B fb (ls++t.flat) (Yv++ss) w:=⟨_,rfl⟩
  rw[←Af]
  have Fh:=hide Af
  clear Af
  go_enter Tryz.func90,Tryz.ntmps90
  go_wp2
  go_loopw [8] (fun i wr=>∃(q:Nat) (p r:BF) (fr sp sr:List Nat),q<=L8∧i=.int .i64 q∧Hid (p.flat++r.flat=t.flat∧r.wf∧sp++sr=ss)∧Hid (Au W0 wr r (css.drop q) fr sr)∧Hid (dw uq wr 0 (.slice N7 L8 vc0) css)∧Hid (Fsx W0 B fb (ls++p.flat) (Yv++sp) wr)∧Hid (Fq B fb w wr)) (fun i _=>L8-(intOf i).toNat)
  case atStart=>exact⟨0,.nil,t,fs,[],ss,Nat.zero_le _,rfl,⟨rfl,uh HWF,rfl⟩,uh HKA,uh HOV,by simpa[BF.flat] using Yw,Fq.refl _ _ _⟩
  case round =>
   rename World=>wr
   obtain⟨q,p,r,fr,sp,sr,hq,rfl,HP,HK,HO,HF,HKF⟩:=hrel
   by_cases hlt:q<L8
   case neg =>
    have Ws:PO (.returned (.tuple #[])) wr:=by
     have hz:css.drop q=[]:=List.drop_eq_nil_of_le (by rw[←uh HL8];omega)
     have hk:=uh HK
     rw[hz] at hk
     have hr0:r=.nil∧sr=[]:=by
      cases r using BF.inv with
      | nil=>exact⟨rfl,hk.2.2⟩
      | node s a b r =>
       obtain⟨_,_,_,c,cr,_,_,_,_,_,_,_,_,_,h1,_⟩:=hk
       cases h1
     obtain⟨h1,h2,h3⟩:=uh HP
     rw[hr0.1] at h1
     rw[hr0.2,List.append_nil] at h3
     simp only[BF.flat,List.append_nil] at h1
     rw[uh Fh,←h1,←h3]
     exact⟨rfl,uh HF,uh HKF⟩
    have zu:=hide Ws
    clear Ws
    go_wp2
    go_end0
    exact uh zu
   obtain⟨hpf,hrw,hps⟩:=uh HP
   have hk:=uh HK
   have hdrop:css.drop q=css[q]'(by rw[←uh HL8];exact hlt)::css.drop (q+1):=List.drop_eq_getElem_cons _
   cases r using BF.inv with
   | nil =>
    rw[hdrop] at hk
    cases hk.1
   | node s a b r =>
   obtain⟨st,va,vb,c,cr,ca,cb,fa,fb2,fr2,s0,sa,sb,sr2,h1,h2,h3,⟨h4,h5⟩,⟨h6,h7⟩,h8,hfr,hsr⟩:=hk
   rw[hdrop,List.cons.injEq] at h1
   obtain⟨hcq,hcr⟩:=h1
   obtain⟨oa,oc,ka,kc,aa,ac,hst⟩:=h3.shape
   obtain⟨a1,c1,hva⟩:=h4.slice
   obtain⟨b1,c2,hvb⟩:=h6.slice
   rw[hst,hva,hvb] at h2
   have hcell:=(uh HO).O8
   rcases hcell with ⟨_,_,hh1,hh2⟩|⟨g,cap,hh1,hh2⟩
   ·exfalso
    have h9:=uh HL8
    rw[hh2] at h9
    simp at h9
    omega
   simp only[Value.slice.injEq] at hh1
   obtain⟨rfl,hh3,rfl⟩:=hh1
   have hcc:∀j u,c.1[j]?=some u->wr.cell? ⟨g,q*8+j,none⟩=some u:=fun j u hu=>by
    have hq8:q<css.length:=by rw[←uh HL8];exact hlt
    obtain⟨hj,hju⟩:=List.getElem?_eq_some_iff.1 hu
    have h9:=(hh2 q hq8 j (by show j<(css[q]).1.length;rw[hcq];exact hj)).1
    have e9:(uq.f css[q])=c.1:=by rw[hcq];rfl
    simp only[e9] at h9
    rw[hju] at h9
    exact h9
   rw[h2] at hcc
   have d0:=hcc 0 _ rfl
   have d1:=hcc 1 _ rfl
   have d2:=hcc 2 _ rfl
   have d3:=hcc 3 _ rfl
   have d4:=hcc 4 _ rfl
   have d5:=hcc 5 _ rfl
   have d6:=hcc 6 _ rfl
   have d7:=hcc 7 _ rfl
   simp only[Nat.add_zero] at d0
   have hcX:c.1=[.int .i64 s.kind,.string s.name,.int .i64 s.at_,.slice oa s.outs.length oc,.slice ka s.code.length kc,.slice aa s.args.length ac,.slice a1 ca.length c1,.slice b1 cb.length c2]:=h2
   obtain⟨bv,Bc,subs,hbx,hown,hall,hss⟩:=uh HF
   obtain⟨ba,bc,hbv⟩:=hown.slice
   subst hbv
   obtain⟨wX,Qp⟩:∃z,z=wr.alloc (.cells #[.int .i64 s.kind,.string s.name,.int .i64 s.at_,.slice oa s.outs.length oc,.slice ka s.code.length kc,.slice aa s.args.length ac,.slice a1 ca.length c1,.slice b1 cb.length c2] 165):=⟨_,rfl⟩
   have hX:Below wr.heap.size wr wX:=by rw[Qp];exact(Below.refl _ _).alloc (Nat.le_refl _) _
   have ql:au wX wr.heap.size 165 #[.int .i64 s.kind,.string s.name,.int .i64 s.at_,.slice oa s.outs.length oc,.slice ka s.code.length kc,.slice aa s.args.length ac,.slice a1 ca.length c1,.slice b1 cb.length c2]:=by rw[Qp];exact jl wr _ _
   have hA6:Below wX.heap.size wX (wX.alloc (.cells #[.int .i64 s.kind,.string s.name,.int .i64 s.at_,.slice oa s.outs.length oc,.slice ka s.code.length kc,.slice aa s.args.length ac] 60)).drew:=((Below.refl _ _).alloc (Nat.le_refl _) _).drew
   have hXA:Below wr.heap.size wr (wX.alloc (.cells #[.int .i64 s.kind,.string s.name,.int .i64 s.at_,.slice oa s.outs.length oc,.slice ka s.code.length kc,.slice aa s.args.length ac] 60)).drew:=hX.trans (hA6.mono hX.size)
   obtain⟨c6,hc6⟩:∃c6:Raw 6,c6.1=[.int .i64 s.kind,.string s.name,.int .i64 s.at_,.slice oa s.outs.length oc,.slice ka s.code.length kc,.slice aa s.args.length ac]:=⟨⟨[.int .i64 s.kind,.string s.name,.int .i64 s.at_,.slice oa s.outs.length oc,.slice ka s.code.length kc,.slice aa s.args.length ac],by simp,by intro u hu;simp only[List.mem_cons,List.not_mem_nil,or_false] at hu;rcases hu with rfl|rfl|rfl|rfl|rfl|rfl<;>rfl⟩,rfl⟩
   have hal:=hall.len
   have hl6:Bc.length+1<=1000000:=by
    have h9:=uh HLN
    rw[←hpf,List.length_append] at h9
    rw[hal.1,List.length_append]
    have h8:1<=(BF.node s a b r).flat.length:=by rw[jd];split<;>simp
    omega
   obtain⟨v5,w5,hrun5,hown5,hgr5,a1w⟩:=Yx zh (wX.alloc (.cells #[.int .i64 s.kind,.string s.name,.int .i64 s.at_,.slice oa s.outs.length oc,.slice ka s.code.length kc,.slice aa s.args.length ac] 60)).drew 36 B (.slice ba Bc.length bc) Bc ((hown.below hX).below hA6) wX.heap.size c6 (fun j u hu=>by
    have hu':c6.1[j]?=some u:=hu
    rw[hc6] at hu'
    exact(jl wX #[.int .i64 s.kind,.string s.name,.int .i64 s.at_,.slice oa s.outs.length oc,.slice ka s.code.length kc,.slice aa s.args.length ac] 60).cell (i:=j) (v:=u) (by simpa using hu')) (by show (_+1)*104<=_;omega) (Nat.le_trans (uh Rk) (Nat.le_trans (uh HKF).size hXA.size))
   obtain⟨v5a,v5c,hv5⟩:=hown5.slice
   rw[List.length_append,List.length_singleton] at hv5
   have hsn:=Fsx.snoc hbx hown hall hss hXA (c:=c6) (s:=s) (s0:=s0) (by rw[hc6,←hst];exact h3) hown5 hgr5
   subst hv5
   have amr:=hbx.below hXA hbx.lt
   have ash:au w5 fb 133 #[.slice ba Bc.length bc]:=amr.gr hgr5 (fun e=>dw.Aw ((hown.below hX).below hA6) amr (by decide) e.symm)
   have y0:=(hbx.below hX hbx.lt).cell (i:=0) (v:=.slice ba Bc.length bc) rfl
   have y0a:=amr.cell (i:=0) (v:=.slice ba Bc.length bc) rfl
   have y0b:=ash.cell (i:=0) (v:=.slice ba Bc.length bc) rfl
   have z0b:=ash.free 0
   have e0:=ql.cell (i:=0) (v:=.int .i64 s.kind) rfl
   have e1:=ql.cell (i:=1) (v:=.string s.name) rfl
   have e2:=ql.cell (i:=2) (v:=.int .i64 s.at_) rfl
   have e3:=ql.cell (i:=3) (v:=.slice oa s.outs.length oc) rfl
   have e4:=ql.cell (i:=4) (v:=.slice ka s.code.length kc) rfl
   have e5:=ql.cell (i:=5) (v:=.slice aa s.args.length ac) rfl
   have hqI:(q:Int)<(L8:Int):=by omega
   obtain⟨w6,hw6⟩:∃z,z=w5.setCell ⟨fb,0,none⟩ (.slice v5a (Bc.length+1) v5c):=⟨_,rfl⟩
   rw[←hw6] at hsn
   have ams:=ql.below hA6 ql.lt
   have hKX:Fq B fb wX w6:=by
    rw[hw6]
    refine(Fq.P7 hA6).trans ((Fq.Jg hgr5 (fun b9 jc=>?_)).trans (Fq.Jg (row:=some fb) ⟨rfl,rfl,rfl,by simp[World.setCell],fun k _ hk=>Below.heap_setCell _ _ _ _ (fun e=>hk (by simp only at e;rw[e]))⟩ (fun b9 jc=>by cases jc;exact Or.inl rfl)))
    have ho9:=(hown.below hX).below hA6
    obtain⟨cur,hh⟩:=ho9.cellT jc
    exact Or.inr ⟨(World.ownsRow.lt ho9 b9 jc).1,cur,_,hh⟩
   have aya:=hbx.lt
   have Wu:=hide (hKX.blk ql (by decide) (by omega))
   have Il:=hide hsn
   have amu:=hide hrun5
   have HH:=hide (And.intro h3 (And.intro h4 (And.intro h5 (And.intro h6 (And.intro h7 (And.intro h8 (And.intro hfr hsr)))))))
   have HSL:=hide (And.intro hva (And.intro hvb (And.intro hcr hpf)))
   have HRW:=hide hrw
   have Yy:=hide hps
   have Fa:=hide hbx
   have HFT:=hide aya
   clear aya hX ql hA6 hXA hall hal hown hbx hss hsn amr ash ams hKX hrun5 hown5 hgr5 a1w h3 h4 h5 h6 h7 h8 hfr hsr hva hvb hcr hpf hrw hps hcc hh2 hh3 hcX h2 hst hcq hdrop hc6 HP HK
   rw[Qp] at y0 e0 e1 e2 e3 e4 e5 y0a
   go_wp2
   rw[←Qp] at y0 e0 e1 e2 e3 e4 e5 y0a
   rw[←Qp]
   clear d0 d1 d2 d3 d4 d5 d6 d7 Qp
   go_region_law (refine Ib rfl _ _ 36 36 rfl rfl _ _ _ rfl rfl (uh amu) ?_)
   all_goals
    rw[←hw6]
    clear hw6 y0 y0a y0b z0b e0 e1 e2 e3 e4 e5
    obtain⟨h3,h4,h5,h6,h7,h8,hfr,hsr⟩:=uh HH
    obtain⟨hva,hvb,hcr,hpf⟩:=uh HSL
    subst hva hvb
    have aij:=(uh Il).1
    have hk6:=(uh Il).2
    have x0:=(uh Wu).cell (i:=0) (v:=.int .i64 s.kind) rfl
    have x6:=(uh Wu).cell (i:=6) (v:=.slice a1 ca.length c1) rfl
    have x7:=(uh Wu).cell (i:=7) (v:=.slice b1 cb.length c2) rfl
    have hF0:=uh HF
    have amv:(css.drop (q+1))=cr:=hcr
    by_cases hk4:s.kind=4
    case neg =>
     obtain⟨hn1,hn2⟩:=(acz hpf).2 hk4
     obtain⟨_,_,hab,_,_,hrw2⟩:=uh HRW
     obtain⟨rfl,rfl⟩:=hab hk4
     have a2v:fa=[]∧sa=[]∧fb2=[]∧sb=[]:=⟨h5.2.1,h5.2.2,h7.2.1,h7.2.2⟩
     obtain⟨rfl,rfl,rfl,rfl⟩:=a2v
     have hkr:=afi hF0 hk6 h8
     have hor:=afh hF0 hk6 (uh HO)
     have Qq:Hid (∃(p' r':BF) (fr' sp' Jh:List Nat),Hid (p'.flat++r'.flat=t.flat∧r'.wf∧sp'++Jh=ss)∧Hid (Au W0 w6 r' (css.drop (q+1)) fr' Jh)∧Hid (dw uq w6 0 (.slice (some ⟨g,0,none⟩) L8 vc0) css)∧Hid (Fsx W0 B fb (ls++p'.flat) (Yv++sp') w6)∧Hid (Fq B fb w w6)):=by
      refine hide ⟨p.app (.node s .nil .nil .nil),r,fr2,sp++s0,sr2,⟨hn1,hrw2,?_⟩,?_,hor,?_,(uh HKF).trans hk6⟩
      ·rw[←uh Yy,hsr];simp
      ·rw[amv];exact hkr
      ·rw[hn2]
       have h9:=aij
       simp only[List.append_assoc] at h9 ⊢
       exact h9
     have hke:((s.kind == 4):Bool)=false:=by rw[beq_eq_false_iff_ne];exact hk4
     clear hkr hor hn1 hn2 hab h3 h4 h5 h6 h7 h8 hfr hsr hcr hpf aij hk6 hF0 amv hrw2 Il HH HSL HRW Yy HF HO HKF x6 x7 Wu Fa amu
     go_wp2
     go_roundw
     case rel =>
      obtain⟨p',r',fr',sp',Jh,k1,k2,k3,k4,k5⟩:=uh Qq
      exact⟨q+1,p',r',fr',sp',Jh,by omega,by go_num,k1,k2,k3,k4,k5⟩
     case measure=>simp[intOf];omega
    obtain⟨hn1,hn2⟩:=(acz hpf).1 hk4
    obtain⟨_,_,_,hwa,hwb,hrw2⟩:=uh HRW
    have HLT:Hid (ls.length+(p.flat.length+(1+(a.flat.length+(1+(b.flat.length+(1+r.flat.length))))))<=1000000):=by
     have h9:=uh HLN
     rw[←hpf,List.length_append,jd,if_pos hk4] at h9
     simp only[List.length_cons,List.length_append] at h9
     refine hide ?_
     omega
    have hab:a.flat.length<n∧b.flat.length<n:=by
     have h9:=uh Wq
     rw[←hpf,List.length_append,jd,if_pos hk4] at h9
     simp only[List.length_cons,List.length_append] at h9
     omega
    have Va:B<=w6.heap.size:=Nat.le_trans (uh Rk) (Nat.le_trans (uh HKF).size hk6.size)
    have asi:=aei hF0 hk6 h4 h5
    have qg:=hide (uh HIH a hab.1 hwa w6 _ ca fa sa _ _ aij asi.1 asi.2 (by have h9:=uh HLT;simp only[List.length_append,List.length_cons,List.length_nil];omega) Va)
    have HF6:=hide aij
    have ahw:Hid (∀w7,Fq B fb w6 w7->(dw uq w7 0 (.slice b1 cb.length c2) cb∧Au W0 w7 b cb fb2 sb)∧Au W0 w7 r cr fr2 sr2∧dw uq w7 0 (.slice (some ⟨g,0,none⟩) L8 vc0) css∧Fq B fb w w7∧au w7 wr.heap.size 165 #[.int .i64 s.kind,.string s.name,.int .i64 s.at_,.slice oa s.outs.length oc,.slice ka s.code.length kc,.slice aa s.args.length ac,.slice a1 ca.length c1,.slice b1 cb.length c2]∧B<=w7.heap.size):=by
     have hfl:=uh HFT
     refine hide (fun w7 h67=>?_)
     have hall:=hk6.trans h67
     exact⟨aei hF0 hall h6 h7,afi hF0 hall h8,afh hF0 hall (uh HO),(uh HKF).trans hall,h67.blk (uh Wu) (by decide) (by omega),Nat.le_trans Va h67.size⟩
    have a2w:=hide amv
    have a2x:=hide (And.intro hn1 (And.intro hn2 (And.intro hrw2 hsr)))
    have HWB:=hide (And.intro hwb hab.2)
    have hke:((s.kind == 4):Bool)=true:=by rw[hk4];rfl
    clear hn1 hn2 hwa hwb hrw2 hab Va asi h3 h4 h5 h6 h7 h8 hfr hsr hcr hpf aij hk6 hF0 amv Il HH HSL HRW HF HO HKF Fa amu hk4
    go_wp2_with fail
    refine(uh qg).mono ?_
    rintro e w7 ⟨rfl,a2y,hk7⟩
    obtain⟨r71,r72,r73,r74,r75,r76⟩:=uh ahw w7 hk7
    have a1x:=hide r76
    have HK7:=hide hk7
    clear r71 r72 r73 r74 r75 r76 hk7 x0 x6 x7
    obtain⟨a5n,afj,a5j,amw,aej,aik,avq⟩:=a2y
    obtain⟨asj,asl,a1y⟩:=aej.slice
    subst a1y
    have amx:Below w7.heap.size w7 (w7.alloc (.cells #[.int .i64 5,.string ⟨#[]⟩,.int .i64 0,.slice none 0 0,.slice none 0 0,.slice none 0 0] 60)):=(Below.refl _ _).alloc (Nat.le_refl _) _
    have yw7:=amw.cell (i:=0) (v:=.slice asj afj.length asl) rfl
    obtain⟨asn,avr⟩:∃c:Raw 6,c.1=Ns 5:=⟨⟨Ns 5,rfl,by intro u hu;simp only[Ns,List.mem_cons,List.not_mem_nil,or_false] at hu;rcases hu with rfl|rfl|rfl|rfl|rfl|rfl<;>rfl⟩,rfl⟩
    have ayb:=hide (aej.below amx)
    have amy:=hide amw
    have abf:=hide (And.intro aej (And.intro aik (And.intro avq amx)))
    have avs:=hide avr
    have avt:=aik.len
    have a1z:Hid ((afj.length+1)*104<=140737488355328):=by
     have h9:=uh HLT
     refine hide ?_
     rw[avt.1]
     simp only[List.length_append,List.length_cons,List.length_nil] at h9 ⊢
     omega
    have a13:Hid (B<=(w7.alloc (.cells #[.int .i64 5,.string ⟨#[]⟩,.int .i64 0,.slice none 0 0,.slice none 0 0,.slice none 0 0] 60)).heap.size):=hide (Nat.le_trans (uh a1x) amx.size)
    clear aej aik avq amx amw avr avt
    go_wp2_with (at_builtin;go_must (refine l9 zh _ rfl _ _ rfl B _ afj rfl (uh ayb) w7.heap.size asn rfl (fun j u hu=>by rw[World.cell?_alloc_at _ _ _ _ rfl];have hu':asn.1[j]?=some u:=hu;rw[uh avs] at hu';simpa[Ns] using hu') (uh a1z) (uh a13) ?_))
    intro a5o ayc am0 am1 a14
    obtain⟨a15,a18,avu⟩:=am0.slice
    rw[List.length_append,List.length_singleton] at avu
    have am2:=Fsx.snoc (uh amy) (uh abf).1 (uh abf).2.1 (uh abf).2.2.1 (uh abf).2.2.2 (c:=asn) (s:=⟨5,⟨#[]⟩,0,[],[],[]⟩) (s0:=[]) (by rw[uh avs];exact alq W0 5 (by unfold I64;omega)) am0 am1
    have am3:=((uh amy).below (uh abf).2.2.2 (uh amy).lt)
    have ail:au ayc fb 133 #[.slice asj afj.length asl]:=am3.gr am1 (fun e=>dw.Aw (uh ayb) am3 (by decide) e.symm)
    have a2z:=ail.cell (i:=0) (v:=.slice asj afj.length asl) rfl
    have a3a:=ail.free 0
    subst avu
    obtain⟨w8,am4⟩:∃z,z=ayc.setCell ⟨fb,0,none⟩ (.slice a15 (afj.length+1) a18):=⟨_,rfl⟩
    rw[←am4] at am2
    have avv:=hide am2
    clear am2 am3 ail am0 am1 a14
    have hk8:Fq B fb w6 w8:=(uh HK7).trans (uh avv).2
    obtain⟨r81,r82,r83,r84,r85,r86⟩:=uh ahw w8 hk8
    have x7:=r85.cell (i:=7) (v:=.slice b1 cb.length c2) rfl
    have HC2:=hide (uh HIH b (uh HWB).2 (uh HWB).1 w8 _ cb fb2 sb _ _ (uh avv).1 r81.1 r81.2 (by have h9:=uh HLT;simp only[List.length_append,List.length_cons,List.length_nil];omega) r86)
    have HK8:=hide hk8
    clear hk8 r81 r82 r83 r84 r85 r86
    rw[am4] at x7 HC2
    go_wp2_with fail
    refine(uh HC2).mono ?_
    rintro e w9 ⟨rfl,a3b,hk9⟩
    rw[←am4] at hk9
    have aso:Fq B fb w6 w9:=(uh HK8).trans hk9
    obtain⟨r91,r92,r93,r94,r95,r96⟩:=uh ahw w9 aso
    have a19:=hide r96
    have HK9:=hide aso
    clear r91 r92 r93 r94 r95 r96 hk9 aso x7 am4 yw7 a2z a3a
    obtain⟨a5p,afk,a5k,am5,aek,ain,avw⟩:=a3b
    obtain⟨asq,asr,a2a⟩:=aek.slice
    subst a2a
    have am6:Below w9.heap.size w9 (w9.alloc (.cells #[.int .i64 6,.string ⟨#[]⟩,.int .i64 0,.slice none 0 0,.slice none 0 0,.slice none 0 0] 60)):=(Below.refl _ _).alloc (Nat.le_refl _) _
    have yw9:=am5.cell (i:=0) (v:=.slice asq afk.length asr) rfl
    obtain⟨asu,avx⟩:∃c:Raw 6,c.1=Ns 6:=⟨⟨Ns 6,rfl,by intro u hu;simp only[Ns,List.mem_cons,List.not_mem_nil,or_false] at hu;rcases hu with rfl|rfl|rfl|rfl|rfl|rfl<;>rfl⟩,rfl⟩
    have ayd:=hide (aek.below am6)
    have am7:=hide am5
    have abg:=hide (And.intro aek (And.intro ain (And.intro avw am6)))
    have avy:=hide avx
    have avz:=ain.len
    have a2b:Hid ((afk.length+1)*104<=140737488355328):=by
     have h9:=uh HLT
     refine hide ?_
     rw[avz.1]
     simp only[List.length_append,List.length_cons,List.length_nil] at h9 ⊢
     omega
    have a2c:Hid (B<=(w9.alloc (.cells #[.int .i64 6,.string ⟨#[]⟩,.int .i64 0,.slice none 0 0,.slice none 0 0,.slice none 0 0] 60)).heap.size):=hide (Nat.le_trans (uh a19) am6.size)
    clear aek ain avw am6 am5 avx avz
    go_wp2_with (at_builtin;go_must (refine l9 zh _ rfl _ _ rfl B _ afk rfl (uh ayd) w9.heap.size asu rfl (fun j u hu=>by rw[World.cell?_alloc_at _ _ _ _ rfl];have hu':asu.1[j]?=some u:=hu;rw[uh avy] at hu';simpa[Ns] using hu') (uh a2b) (uh a2c) ?_))
    intro a5q aye am8 am9 a2d
    obtain⟨a2e,a2f,av1⟩:=am8.slice
    rw[List.length_append,List.length_singleton] at av1
    have ana:=Fsx.snoc (uh am7) (uh abg).1 (uh abg).2.1 (uh abg).2.2.1 (uh abg).2.2.2 (c:=asu) (s:=⟨6,⟨#[]⟩,0,[],[],[]⟩) (s0:=[]) (by rw[uh avy];exact alq W0 6 (by unfold I64;omega)) am8 am9
    have anb:=((uh am7).below (uh abg).2.2.2 (uh am7).lt)
    have aio:au aye fb 133 #[.slice asq afk.length asr]:=anb.gr am9 (fun e=>dw.Aw (uh ayd) anb (by decide) e.symm)
    have a5r:=aio.cell (i:=0) (v:=.slice asq afk.length asr) rfl
    have a5s:=aio.free 0
    subst av1
    obtain⟨w10,anc⟩:∃z,z=aye.setCell ⟨fb,0,none⟩ (.slice a2e (afk.length+1) a2f):=⟨_,rfl⟩
    rw[←anc] at ana
    have av2:=hide ana
    clear ana anb aio am8 am9 a2d
    have Qq:Hid (∃(p' r':BF) (fr' sp' Jh:List Nat),Hid (p'.flat++r'.flat=t.flat∧r'.wf∧sp'++Jh=ss)∧Hid (Au W0 w10 r' (css.drop (q+1)) fr' Jh)∧Hid (dw uq w10 0 (.slice (some ⟨g,0,none⟩) L8 vc0) css)∧Hid (Fsx W0 B fb (ls++p'.flat) (Yv++sp') w10)∧Hid (Fq B fb w w10)):=by
     have hk10:Fq B fb w6 w10:=(uh HK9).trans (uh av2).2
     obtain⟨q1,q2,q3,q4,q5,q6⟩:=uh ahw w10 hk10
     obtain⟨n1,n2,n3,n4⟩:=uh a2x
     refine hide ⟨p.app (.node s a b .nil),r,fr2,sp++s0++sa++sb,sr2,⟨n1,n3,?_⟩,?_,q3,?_,q4⟩
     ·rw[←uh Yy,n4];simp
     ·rw[uh a2w];exact q2
     ·rw[n2]
      have h9:=(uh av2).1
      simp only[List.append_assoc,List.append_nil] at h9 ⊢
      exact h9
    rw[anc] at Qq
    clear anc
    go_wp2
    go_roundw
    case rel =>
     obtain⟨p',r',fr',sp',Jh,k1,k2,k3,k4,k5⟩:=uh Qq
     exact⟨q+1,p',r',fr',sp',Jh,by omega,by go_num,k1,k2,k3,k4,k5⟩
    case measure=>simp[intOf];omega
end Go.Proofs.YtlcgnbcgmljpaaaGreat
