import Derived.Test.YtlcgnbcgmljpaaaGreatCP4
namespace Go.Proofs.YtlcgnbcgmljpaaaGreat
open Go.RowKit
set_option linter.unusedSimpArgs false
set_option linter.unusedVariables false
set_option maxRecDepth 20000 in
set_option maxHeartbeats 8000000 in
theorem akj (x:ak) (Qe Qg Et Eu Ew Qh:Option Addr) (Qi Qj Ey Ez E8 Qk:Nat) (w:World) (hnm:Len x.name.size) (h1:bf 2 24 xk 0 w (.slice Qe x.ins.length Qi) x.ins) (h2:bf 2 24 xk 0 w (.slice Qg x.outs.length Qj) x.outs) (h3:bf 1 16 uz 0 w (.slice Et x.ay.length Ey) x.ay) (h4:bf 1 8 yu 0 w (.slice Eu x.aj.length Ez) x.aj) (h5:bf 1 8 yu 0 w (.slice Ew x.insts.length E8) x.insts) (h6:bf 6 104 Ec 0 w (.slice Qh x.body.length Qk) x.body) :
  Calls Tryz.prog 60 #[.agg #[.string x.name,.slice Qe x.ins.length Qi,.slice Qg x.outs.length Qj,.slice Et x.ay.length Ey,.slice Eu x.aj.length Ez,.slice Ew x.insts.length E8,.slice Qh x.body.length Qk]] w (axv x w):=by
 obtain⟨wA,hwA⟩:∃z,z=(w.alloc (.cells #[.string x.name,.slice Qe x.ins.length Qi,.slice Qg x.outs.length Qj,.slice Et x.ay.length Ey,.slice Eu x.aj.length Ez,.slice Ew x.insts.length E8,.slice Qh x.body.length Qk] 43)).alloc (.cells #[.string ⟨#[]⟩,.slice none 0 0,.slice none 0 0,.slice none 0 0,.slice none 0 0,.slice none 0 0,.slice none 0 0] 43):=⟨_,rfl⟩
 have hA:Below w.heap.size w wA:=by rw[hwA];exact((Below.refl _ w).alloc (Nat.le_refl _) _).alloc (by simp) _
 have hb1:au wA w.heap.size 43 #[.string x.name,.slice Qe x.ins.length Qi,.slice Qg x.outs.length Qj,.slice Et x.ay.length Ey,.slice Eu x.aj.length Ez,.slice Ew x.insts.length E8,.slice Qh x.body.length Qk]:=by
  rw[hwA]
  have h9:=jl w #[.string x.name,.slice Qe x.ins.length Qi,.slice Qg x.outs.length Qj,.slice Et x.ay.length Ey,.slice Eu x.aj.length Ez,.slice Ew x.insts.length E8,.slice Qh x.body.length Qk] 43
  exact h9.below ((Below.refl _ _).alloc (Nat.le_refl _) _) h9.lt
 have hb2:au wA (w.heap.size+1) 43 #[.string ⟨#[]⟩,.slice none 0 0,.slice none 0 0,.slice none 0 0,.slice none 0 0,.slice none 0 0,.slice none 0 0]:=by
  rw[hwA]
  have h9:=jl (w.alloc (.cells #[.string x.name,.slice Qe x.ins.length Qi,.slice Qg x.outs.length Qj,.slice Et x.ay.length Ey,.slice Eu x.aj.length Ez,.slice Ew x.insts.length E8,.slice Qh x.body.length Qk] 43)) #[.string ⟨#[]⟩,.slice none 0 0,.slice none 0 0,.slice none 0 0,.slice none 0 0,.slice none 0 0,.slice none 0 0] 43
  rw[World.size_alloc] at h9
  exact h9
 obtain⟨BX,gq⟩:∃BX:World->Prop,∀w',BX w'↔Below wA.heap.size wA w':=⟨_,fun _=>Iff.rfl⟩
 have Uw:∀W,BX W->Below wA.heap.size wA W:=fun W hW=>(gq W).1 hW
 have mg:∀W,BX W->Below w.heap.size w W:=fun W hW=>hA.trans (((gq W).1 hW).mono hA.size)
 have qp:∀W w',BX W->Below W.heap.size W w'->BX w':=fun W w' hW hb=>(gq w').2 (((gq W).1 hW).trans (hb.mono ((gq W).1 hW).size))
 have yg:∀W,BX W->W.cell? ⟨w.heap.size,0,none⟩=some (.string x.name)∧W.cell? ⟨w.heap.size,1,none⟩=some (.slice Qe x.ins.length Qi)∧W.cell? ⟨w.heap.size,2,none⟩=some (.slice Qg x.outs.length Qj)∧W.cell? ⟨w.heap.size,3,none⟩=some (.slice Et x.ay.length Ey)∧W.cell? ⟨w.heap.size,4,none⟩=some (.slice Eu x.aj.length Ez)∧W.cell? ⟨w.heap.size,5,none⟩=some (.slice Ew x.insts.length E8)∧W.cell? ⟨w.heap.size,6,none⟩=some (.slice Qh x.body.length Qk):=fun W hW=>by
  have k1:=hb1.below ((gq W).1 hW) hb1.lt
  exact⟨k1.cell (i:=0) rfl,k1.cell (i:=1) rfl,k1.cell (i:=2) rfl,k1.cell (i:=3) rfl,k1.cell (i:=4) rfl,k1.cell (i:=5) rfl,k1.cell (i:=6) rfl⟩
 have Ky:∀W,BX W->au W (w.heap.size+1) 43 #[.string ⟨#[]⟩,.slice none 0 0,.slice none 0 0,.slice none 0 0,.slice none 0 0,.slice none 0 0,.slice none 0 0]:=fun W hW=>hb2.below ((gq W).1 hW) hb2.lt
 have HG0:Hid (BX wA.drew∧True):=hide ⟨(gq _).2 (Below.refl _ _).drew,trivial⟩
 have Lc:Hid (∀W,BX W->Calls Tryz.prog 83 #[.string x.name] W fun e w'=>e=.returned (.string x.name)∧Hid (BX w'∧Below W.heap.size W w')∧w'.cell? ⟨w.heap.size,0,none⟩=some (.string x.name)∧w'.cell? ⟨w.heap.size,1,none⟩=some (.slice Qe x.ins.length Qi)∧w'.cell? ⟨w.heap.size,2,none⟩=some (.slice Qg x.outs.length Qj)∧w'.cell? ⟨w.heap.size,3,none⟩=some (.slice Et x.ay.length Ey)∧w'.cell? ⟨w.heap.size,4,none⟩=some (.slice Eu x.aj.length Ez)∧w'.cell? ⟨w.heap.size,5,none⟩=some (.slice Ew x.insts.length E8)∧w'.cell? ⟨w.heap.size,6,none⟩=some (.slice Qh x.body.length Qk)):=by
  refine hide (fun W hW=>(V3 x.name W hnm).mono ?_)
  rintro e w' ⟨rfl,hb⟩
  have h9:=qp W w' hW hb
  exact⟨rfl,⟨h9,hb⟩,yg w' h9⟩
 have qg:Hid (∀W,BX W->Calls Tryz.prog 84 #[.slice Qe x.ins.length Qi,.func (.func 85) #[] #[]] W fun e w'=>∃oa oc bs,e=.returned (.slice oa x.ins.length oc)∧Hid ((BX w'∧Below W.heap.size W w')∧zf yh O4 w' (.slice oa x.ins.length oc) x.ins bs∧bs.Nodup∧∀b,b∈bs->W.heap.size<=b∧b<w'.heap.size)∧w'.cell? ⟨w.heap.size,0,none⟩=some (.string x.name)∧w'.cell? ⟨w.heap.size,1,none⟩=some (.slice Qe x.ins.length Qi)∧w'.cell? ⟨w.heap.size,2,none⟩=some (.slice Qg x.outs.length Qj)∧w'.cell? ⟨w.heap.size,3,none⟩=some (.slice Et x.ay.length Ey)∧w'.cell? ⟨w.heap.size,4,none⟩=some (.slice Eu x.aj.length Ez)∧w'.cell? ⟨w.heap.size,5,none⟩=some (.slice Ew x.insts.length E8)∧w'.cell? ⟨w.heap.size,6,none⟩=some (.slice Qh x.body.length Qk)):=by
  refine hide (fun W hW=>(agh x.ins _ W (h1.stays jq (mg W hW))).mono ?_)
  rintro e w' ⟨oa,oc,bs,rfl,g1,g2,g3,hb⟩
  have h9:=qp W w' hW hb
  exact⟨oa,oc,bs,rfl,⟨⟨h9,hb⟩,g1,g2,g3⟩,yg w' h9⟩
 have HC2:Hid (∀W,BX W->Calls Tryz.prog 84 #[.slice Qg x.outs.length Qj,.func (.func 85) #[] #[]] W fun e w'=>∃oa oc bs,e=.returned (.slice oa x.outs.length oc)∧Hid ((BX w'∧Below W.heap.size W w')∧zf yh O4 w' (.slice oa x.outs.length oc) x.outs bs∧bs.Nodup∧∀b,b∈bs->W.heap.size<=b∧b<w'.heap.size)∧w'.cell? ⟨w.heap.size,0,none⟩=some (.string x.name)∧w'.cell? ⟨w.heap.size,1,none⟩=some (.slice Qe x.ins.length Qi)∧w'.cell? ⟨w.heap.size,2,none⟩=some (.slice Qg x.outs.length Qj)∧w'.cell? ⟨w.heap.size,3,none⟩=some (.slice Et x.ay.length Ey)∧w'.cell? ⟨w.heap.size,4,none⟩=some (.slice Eu x.aj.length Ez)∧w'.cell? ⟨w.heap.size,5,none⟩=some (.slice Ew x.insts.length E8)∧w'.cell? ⟨w.heap.size,6,none⟩=some (.slice Qh x.body.length Qk)):=by
  refine hide (fun W hW=>(agh x.outs _ W (h2.stays jq (mg W hW))).mono ?_)
  rintro e w' ⟨oa,oc,bs,rfl,g1,g2,g3,hb⟩
  have h9:=qp W w' hW hb
  exact⟨oa,oc,bs,rfl,⟨⟨h9,hb⟩,g1,g2,g3⟩,yg w' h9⟩
 have Io:Hid (∀W,BX W->Calls Tryz.prog 86 #[.slice Et x.ay.length Ey,.func (.func 83) #[] #[]] W fun e w'=>∃oa oc bs,e=.returned (.slice oa x.ay.length oc)∧Hid ((BX w'∧Below W.heap.size W w')∧zf Gw okS w' (.slice oa x.ay.length oc) x.ay bs∧bs.Nodup∧∀b,b∈bs->W.heap.size<=b∧b<w'.heap.size)∧w'.cell? ⟨w.heap.size,0,none⟩=some (.string x.name)∧w'.cell? ⟨w.heap.size,1,none⟩=some (.slice Qe x.ins.length Qi)∧w'.cell? ⟨w.heap.size,2,none⟩=some (.slice Qg x.outs.length Qj)∧w'.cell? ⟨w.heap.size,3,none⟩=some (.slice Et x.ay.length Ey)∧w'.cell? ⟨w.heap.size,4,none⟩=some (.slice Eu x.aj.length Ez)∧w'.cell? ⟨w.heap.size,5,none⟩=some (.slice Ew x.insts.length E8)∧w'.cell? ⟨w.heap.size,6,none⟩=some (.slice Qh x.body.length Qk)):=by
  refine hide (fun W hW=>(ahz x.ay _ W (h3.stays lu (mg W hW))).mono ?_)
  rintro e w' ⟨oa,oc,bs,rfl,g1,g2,g3,hb⟩
  have h9:=qp W w' hW hb
  exact⟨oa,oc,bs,rfl,⟨⟨h9,hb⟩,g1,g2,g3⟩,yg w' h9⟩
 have HC4:Hid (∀W,BX W->Calls Tryz.prog 87 #[.slice Eu x.aj.length Ez] W fun e w'=>∃oa oc bs,e=.returned (.slice oa x.aj.length oc)∧Hid ((BX w'∧Below W.heap.size W w')∧zf Hw I64 w' (.slice oa x.aj.length oc) x.aj bs∧bs.Nodup∧∀b,b∈bs->W.heap.size<=b∧b<w'.heap.size)∧w'.cell? ⟨w.heap.size,0,none⟩=some (.string x.name)∧w'.cell? ⟨w.heap.size,1,none⟩=some (.slice Qe x.ins.length Qi)∧w'.cell? ⟨w.heap.size,2,none⟩=some (.slice Qg x.outs.length Qj)∧w'.cell? ⟨w.heap.size,3,none⟩=some (.slice Et x.ay.length Ey)∧w'.cell? ⟨w.heap.size,4,none⟩=some (.slice Eu x.aj.length Ez)∧w'.cell? ⟨w.heap.size,5,none⟩=some (.slice Ew x.insts.length E8)∧w'.cell? ⟨w.heap.size,6,none⟩=some (.slice Qh x.body.length Qk)):=by
  refine hide (fun W hW=>(acw x.aj _ W (h4.stays jy (mg W hW))).mono ?_)
  rintro e w' ⟨oa,oc,bs,rfl,g1,g2,g3,hb⟩
  have h9:=qp W w' hW hb
  exact⟨oa,oc,bs,rfl,⟨⟨h9,hb⟩,g1,g2,g3⟩,yg w' h9⟩
 have HC5:Hid (∀W,BX W->Calls Tryz.prog 87 #[.slice Ew x.insts.length E8] W fun e w'=>∃oa oc bs,e=.returned (.slice oa x.insts.length oc)∧Hid ((BX w'∧Below W.heap.size W w')∧zf Hw I64 w' (.slice oa x.insts.length oc) x.insts bs∧bs.Nodup∧∀b,b∈bs->W.heap.size<=b∧b<w'.heap.size)∧w'.cell? ⟨w.heap.size,0,none⟩=some (.string x.name)∧w'.cell? ⟨w.heap.size,1,none⟩=some (.slice Qe x.ins.length Qi)∧w'.cell? ⟨w.heap.size,2,none⟩=some (.slice Qg x.outs.length Qj)∧w'.cell? ⟨w.heap.size,3,none⟩=some (.slice Et x.ay.length Ey)∧w'.cell? ⟨w.heap.size,4,none⟩=some (.slice Eu x.aj.length Ez)∧w'.cell? ⟨w.heap.size,5,none⟩=some (.slice Ew x.insts.length E8)∧w'.cell? ⟨w.heap.size,6,none⟩=some (.slice Qh x.body.length Qk)):=by
  refine hide (fun W hW=>(acw x.insts _ W (h5.stays jy (mg W hW))).mono ?_)
  rintro e w' ⟨oa,oc,bs,rfl,g1,g2,g3,hb⟩
  have h9:=qp W w' hW hb
  exact⟨oa,oc,bs,rfl,⟨⟨h9,hb⟩,g1,g2,g3⟩,yg w' h9⟩
 have HC6:Hid (∀W,BX W->Calls Tryz.prog 88 #[.slice Qh x.body.length Qk,.func (.func 89) #[] #[]] W fun e w'=>∃oa oc bs,e=.returned (.slice oa x.body.length oc)∧Hid ((BX w'∧Below W.heap.size W w')∧C9 zh Aa w' (.slice oa x.body.length oc) x.body bs∧bs.Nodup∧∀b,b∈bs->W.heap.size<=b∧b<w'.heap.size)∧w'.cell? ⟨w.heap.size,0,none⟩=some (.string x.name)∧w'.cell? ⟨w.heap.size,1,none⟩=some (.slice Qe x.ins.length Qi)∧w'.cell? ⟨w.heap.size,2,none⟩=some (.slice Qg x.outs.length Qj)∧w'.cell? ⟨w.heap.size,3,none⟩=some (.slice Et x.ay.length Ey)∧w'.cell? ⟨w.heap.size,4,none⟩=some (.slice Eu x.aj.length Ez)∧w'.cell? ⟨w.heap.size,5,none⟩=some (.slice Ew x.insts.length E8)∧w'.cell? ⟨w.heap.size,6,none⟩=some (.slice Qh x.body.length Qk)):=by
  refine hide (fun W hW=>(arz x.body _ W (h6.stays xu (mg W hW))).mono ?_)
  rintro e w' ⟨oa,oc,bs,rfl,g1,g2,g3,hb⟩
  have h9:=qp W w' hW hb
  exact⟨oa,oc,bs,rfl,⟨⟨h9,hb⟩,g1,g2,g3⟩,yg w' h9⟩
 obtain⟨c0,c1,c2,c3,c4,c5,c6⟩:=yg wA ((gq _).2 (Below.refl _ _))
 have Xo:=hide hA
 have HZA:Hid (wA.heap.size=w.heap.size+2):=by rw[hwA];refine hide ?_;simp
 have a2s:=hide Uw
 have hX1:=hide mg
 have hX5:=hide Ky
 have V4:=hide hnm;clear hnm
 clear h1 h2 h3 h4 h5 h6 hA hb1 hb2 gq qp yg
 obtain⟨PO,Af⟩:∃PO:Ending->World->Prop,PO=axv x w:=⟨_,rfl⟩
 rw[←Af]
 have Fh:=hide Af
 clear Af
 go_enter Tryz.func60,Tryz.ntmps60
 go_wp2
 rw[←hwA]
 clear hwA
 go_region_held3 (fun w'=>w'.cell? ⟨w.heap.size,0,none⟩=some (.string x.name)∧w'.cell? ⟨w.heap.size,1,none⟩=some (.slice Qe x.ins.length Qi)∧w'.cell? ⟨w.heap.size,2,none⟩=some (.slice Qg x.outs.length Qj)∧w'.cell? ⟨w.heap.size,3,none⟩=some (.slice Et x.ay.length Ey)∧w'.cell? ⟨w.heap.size,4,none⟩=some (.slice Eu x.aj.length Ez)∧w'.cell? ⟨w.heap.size,5,none⟩=some (.slice Ew x.insts.length E8)∧w'.cell? ⟨w.heap.size,6,none⟩=some (.slice Qh x.body.length Qk)) (go_keep) (first|(go_at_call 88;refine(uh HC6 _ (uh Hr).1.1).mono ?_;rintro e w6 ⟨U6,U7,bs6,rfl,Nz,s0,s1,s2,s3,s4,s5,s6⟩;have qm:=hide (Ky _ (uh Nz).1.1);have r0:=(uh qm).cell (i:=0) (v:=.string ⟨#[]⟩) rfl;have z0:=(uh qm).free 0;have r1:=(uh qm).cell (i:=1) (v:=.slice none 0 0) rfl;have z1:=(uh qm).free 1;have r2:=(uh qm).cell (i:=2) (v:=.slice none 0 0) rfl;have z2:=(uh qm).free 2;have r3:=(uh qm).cell (i:=3) (v:=.slice none 0 0) rfl;have z3:=(uh qm).free 3;have r4:=(uh qm).cell (i:=4) (v:=.slice none 0 0) rfl;have z4:=(uh qm).free 4;have r5:=(uh qm).cell (i:=5) (v:=.slice none 0 0) rfl;have z5:=(uh qm).free 5;have r6:=(uh qm).cell (i:=6) (v:=.slice none 0 0) rfl;have z6:=(uh qm).free 6)|(go_at_call 87;refine(uh HC5 _ (uh Iz).1.1).mono ?_;rintro e w5 ⟨Gq,Gs,V5,rfl,Hr,s0,s1,s2,s3,s4,s5,s6⟩)|(go_at_call 87;refine(uh HC4 _ (uh Kz).1.1).mono ?_;rintro e w4 ⟨Gn,Gp,Qd,rfl,Iz,s0,s1,s2,s3,s4,s5,s6⟩)|(go_at_call 86;refine(uh Io _ (uh HG2).1.1).mono ?_;rintro e w3 ⟨Gl,Gm,La,rfl,Kz,s0,s1,s2,s3,s4,s5,s6⟩)|(go_at_call 84;refine(uh HC2 _ (uh HG1).1.1).mono ?_;rintro e w2 ⟨U4,U5,Xq,rfl,HG2,s0,s1,s2,s3,s4,s5,s6⟩)|(go_at_call 84;refine(uh qg _ (uh HG0).1).mono ?_;rintro e w1 ⟨U2,U3,U8,rfl,HG1,s0,s1,s2,s3,s4,s5,s6⟩)|(go_at_call 83;refine(uh Lc _ (uh HG0).1).mono ?_;rintro e w0 ⟨rfl,HG0,s0,s1,s2,s3,s4,s5,s6⟩))
 have e2:=((((((((uh qm).set 0 (.string x.name)).set 1 (.slice U2 x.ins.length U3)).set 2 (.slice U4 x.outs.length U5)).set 3 (.slice Gl x.ay.length Gm)).set 4 (.slice Gn x.aj.length Gp)).set 5 (.slice Gq x.insts.length Gs)).set 6 (.slice U6 x.body.length U7))
 have E2:=hide e2
 obtain⟨WF,hWF⟩:∃z,z=(((((((w6.setCell ⟨w.heap.size+1,0,none⟩ (.string x.name)).setCell ⟨w.heap.size+1,1,none⟩ (.slice U2 x.ins.length U3)).setCell ⟨w.heap.size+1,2,none⟩ (.slice U4 x.outs.length U5)).setCell ⟨w.heap.size+1,3,none⟩ (.slice Gl x.ay.length Gm)).setCell ⟨w.heap.size+1,4,none⟩ (.slice Gn x.aj.length Gp)).setCell ⟨w.heap.size+1,5,none⟩ (.slice Gq x.insts.length Gs)).setCell ⟨w.heap.size+1,6,none⟩ (.slice U6 x.body.length U7)):=⟨_,rfl⟩
 have zu:Hid (PO (.returned (.agg #[.string x.name,.slice U2 x.ins.length U3,.slice U4 x.outs.length U5,.slice Gl x.ay.length Gm,.slice Gn x.aj.length Gp,.slice Gq x.insts.length Gs,.slice U6 x.body.length U7])) WF):=by
  have hst:∀b,wA.heap.size<=b->WF.heap[b]?=w6.heap[b]?:=fun b jc=>by
   have hz:=uh HZA
   rw[hWF]
   rw[Below.heap_setCell _ _ _ _ (by simp only;omega),Below.heap_setCell _ _ _ _ (by simp only;omega),Below.heap_setCell _ _ _ _ (by simp only;omega),Below.heap_setCell _ _ _ _ (by simp only;omega),Below.heap_setCell _ _ _ _ (by simp only;omega),Below.heap_setCell _ _ _ _ (by simp only;omega),Below.heap_setCell _ _ _ _ (by simp only;omega)]
  have hlo1:wA.heap.size<=w0.heap.size:=(Uw _ (uh HG0).1).size
  have hlo2:wA.heap.size<=w1.heap.size:=(Uw _ (uh HG1).1.1).size
  have hlo3:wA.heap.size<=w2.heap.size:=(Uw _ (uh HG2).1.1).size
  have ah0:wA.heap.size<=w3.heap.size:=(Uw _ (uh Kz).1.1).size
  have ah1:wA.heap.size<=w4.heap.size:=(Uw _ (uh Iz).1.1).size
  have axw:wA.heap.size<=w5.heap.size:=(Uw _ (uh Hr).1.1).size
  have hz0:=(uh Xo).size
  have n1:(U8).Nodup:=(uh HG1).2.2.1
  have u1:∀b,b∈U8->b<w1.heap.size:=fun b jc=>((uh HG1).2.2.2 b jc).2
  have n2:(U8++Xq).Nodup:=by
   rw[List.nodup_append]
   refine⟨n1,(uh HG2).2.2.1,fun x g1 y g2 e=>?_⟩
   subst e
   have k1:=u1 x g1
   have k2:=((uh HG2).2.2.2 x g2).1
   omega
  have u2:∀b,b∈U8++Xq->b<w2.heap.size:=fun b jc=>by
   have kz:=(uh HG2).1.2.size
   rcases List.mem_append.1 jc with g|g
   ·have:=u1 b g;omega
   ·exact((uh HG2).2.2.2 b g).2
  have n3:(U8++Xq++La).Nodup:=by
   rw[List.nodup_append]
   refine⟨n2,(uh Kz).2.2.1,fun x g1 y g2 e=>?_⟩
   subst e
   have k1:=u2 x g1
   have k2:=((uh Kz).2.2.2 x g2).1
   omega
  have u3:∀b,b∈U8++Xq++La->b<w3.heap.size:=fun b jc=>by
   have kz:=(uh Kz).1.2.size
   rcases List.mem_append.1 jc with g|g
   ·have:=u2 b g;omega
   ·exact((uh Kz).2.2.2 b g).2
  have n4:(U8++Xq++La++Qd).Nodup:=by
   rw[List.nodup_append]
   refine⟨n3,(uh Iz).2.2.1,fun x g1 y g2 e=>?_⟩
   subst e
   have k1:=u3 x g1
   have k2:=((uh Iz).2.2.2 x g2).1
   omega
  have u4:∀b,b∈U8++Xq++La++Qd->b<w4.heap.size:=fun b jc=>by
   have kz:=(uh Iz).1.2.size
   rcases List.mem_append.1 jc with g|g
   ·have:=u3 b g;omega
   ·exact((uh Iz).2.2.2 b g).2
  have n5:(U8++Xq++La++Qd++V5).Nodup:=by
   rw[List.nodup_append]
   refine⟨n4,(uh Hr).2.2.1,fun x g1 y g2 e=>?_⟩
   subst e
   have k1:=u4 x g1
   have k2:=((uh Hr).2.2.2 x g2).1
   omega
  have u5:∀b,b∈U8++Xq++La++Qd++V5->b<w5.heap.size:=fun b jc=>by
   have kz:=(uh Hr).1.2.size
   rcases List.mem_append.1 jc with g|g
   ·have:=u4 b g;omega
   ·exact((uh Hr).2.2.2 b g).2
  have n6:(U8++Xq++La++Qd++V5++bs6).Nodup:=by
   rw[List.nodup_append]
   refine⟨n5,(uh Nz).2.2.1,fun x g1 y g2 e=>?_⟩
   subst e
   have k1:=u5 x g1
   have k2:=((uh Nz).2.2.2 x g2).1
   omega
  have u6:∀b,b∈U8++Xq++La++Qd++V5++bs6->b<w6.heap.size:=fun b jc=>by
   have kz:=(uh Nz).1.2.size
   rcases List.mem_append.1 jc with g|g
   ·have:=u5 b g;omega
   ·exact((uh Nz).2.2.2 b g).2
  have q1:Fr U8 w1 WF:=fun b jc=>by
   have k1:=((uh HG1).2.2.2 b jc)
   have kb:=hlo1
   have kz2:=(uh HG2).1.2.size
   have kz3:=(uh Kz).1.2.size
   have kz4:=(uh Iz).1.2.size
   have kz5:=(uh Hr).1.2.size
   have kz6:=(uh Nz).1.2.size
   exact((((((hst b (by omega)).trans ((uh Nz).1.2.block b (by omega))).trans ((uh Hr).1.2.block b (by omega))).trans ((uh Iz).1.2.block b (by omega))).trans ((uh Kz).1.2.block b (by omega))).trans ((uh HG2).1.2.block b (by omega)))
  have q2:Fr Xq w2 WF:=fun b jc=>by
   have k1:=((uh HG2).2.2.2 b jc)
   have kb:=hlo2
   have kz3:=(uh Kz).1.2.size
   have kz4:=(uh Iz).1.2.size
   have kz5:=(uh Hr).1.2.size
   have kz6:=(uh Nz).1.2.size
   exact(((((hst b (by omega)).trans ((uh Nz).1.2.block b (by omega))).trans ((uh Hr).1.2.block b (by omega))).trans ((uh Iz).1.2.block b (by omega))).trans ((uh Kz).1.2.block b (by omega)))
  have q3:Fr La w3 WF:=fun b jc=>by
   have k1:=((uh Kz).2.2.2 b jc)
   have kb:=hlo3
   have kz4:=(uh Iz).1.2.size
   have kz5:=(uh Hr).1.2.size
   have kz6:=(uh Nz).1.2.size
   exact((((hst b (by omega)).trans ((uh Nz).1.2.block b (by omega))).trans ((uh Hr).1.2.block b (by omega))).trans ((uh Iz).1.2.block b (by omega)))
  have q4:Fr Qd w4 WF:=fun b jc=>by
   have k1:=((uh Iz).2.2.2 b jc)
   have kb:=ah0
   have kz5:=(uh Hr).1.2.size
   have kz6:=(uh Nz).1.2.size
   exact(((hst b (by omega)).trans ((uh Nz).1.2.block b (by omega))).trans ((uh Hr).1.2.block b (by omega)))
  have q5:Fr V5 w5 WF:=fun b jc=>by
   have k1:=((uh Hr).2.2.2 b jc)
   have kb:=ah1
   have kz6:=(uh Nz).1.2.size
   exact((hst b (by omega)).trans ((uh Nz).1.2.block b (by omega)))
  have q6:Fr bs6 w6 WF:=fun b jc=>by
   have k1:=((uh Nz).2.2.2 b jc)
   have kb:=axw
   exact(hst b (by omega))
  have l1:∀b,b∈U8->w.heap.size<=b:=fun b jc=>by have k1:=((uh HG1).2.2.2 b jc).1;have k2:=hlo1;have k3:=(uh Xo).size;omega
  have l2:∀b,b∈Xq->w.heap.size<=b:=fun b jc=>by have k1:=((uh HG2).2.2.2 b jc).1;have k2:=hlo2;have k3:=(uh Xo).size;omega
  have l3:∀b,b∈La->w.heap.size<=b:=fun b jc=>by have k1:=((uh Kz).2.2.2 b jc).1;have k2:=hlo3;have k3:=(uh Xo).size;omega
  have l4:∀b,b∈Qd->w.heap.size<=b:=fun b jc=>by have k1:=((uh Iz).2.2.2 b jc).1;have k2:=ah0;have k3:=(uh Xo).size;omega
  have l5:∀b,b∈V5->w.heap.size<=b:=fun b jc=>by have k1:=((uh Hr).2.2.2 b jc).1;have k2:=ah1;have k3:=(uh Xo).size;omega
  have l6:∀b,b∈bs6->w.heap.size<=b:=fun b jc=>by have k1:=((uh Nz).2.2.2 b jc).1;have k2:=axw;have k3:=(uh Xo).size;omega
  rw[uh Fh]
  have hbF:Below w.heap.size w WF:=by
   rw[hWF]
   exact((((((((mg _ (uh Nz).1.1).setCell (by simp) _).setCell (by simp) _).setCell (by simp) _).setCell (by simp) _).setCell (by simp) _).setCell (by simp) _).setCell (by simp) _)
  refine hide ⟨U2,U3,U4,U5,Gl,Gm,Gn,Gp,Gq,Gs,U6,U7,U8++Xq++La++Qd++V5++bs6,rfl,⟨_,_,_,_,_,_,U8,Xq,La,Qd,V5,bs6,rfl,uh V4,(uh HG1).2.1.fr q1,(uh HG2).2.1.fr q2,(uh Kz).2.1.fr q3,(uh Iz).2.1.fr q4,(uh Hr).2.1.fr q5,(uh Nz).2.1.fr I4 q6,rfl⟩,n6,fun b jc=>by
   simp only[List.mem_append] at jc
   rcases jc with ((((g1|g2)|g3)|g4)|g5)|g6
   ·exact l1 b g1
   ·exact l2 b g2
   ·exact l3 b g3
   ·exact l4 b g4
   ·exact l5 b g5
   ·exact l6 b g6,fun b jc=>?_,hbF⟩
  have k1:=u6 b jc
  have k2:w6.heap.size=WF.heap.size:=by rw[hWF];simp[World.setCell]
  omega
 rw[←hWF] at E2 ⊢
 clear e2 hWF s0 s1 s2 s3 s4 s5 s6 r0 z0 c0 r1 z1 c1 r2 z2 c2 r3 z3 c3 r4 z4 c4 r5 z5 c5 r6 z6 c6
 have f0:=(uh E2).cell (i:=0) (v:=.string x.name) rfl
 have f1:=(uh E2).cell (i:=1) (v:=.slice U2 x.ins.length U3) rfl
 have f2:=(uh E2).cell (i:=2) (v:=.slice U4 x.outs.length U5) rfl
 have f3:=(uh E2).cell (i:=3) (v:=.slice Gl x.ay.length Gm) rfl
 have f4:=(uh E2).cell (i:=4) (v:=.slice Gn x.aj.length Gp) rfl
 have f5:=(uh E2).cell (i:=5) (v:=.slice Gq x.insts.length Gs) rfl
 have f6:=(uh E2).cell (i:=6) (v:=.slice U6 x.body.length U7) rfl
 go_wp2
 exact bodyPost_ret (v:=.agg #[.string x.name,.slice U2 x.ins.length U3,.slice U4 x.outs.length U5,.slice Gl x.ay.length Gm,.slice Gn x.aj.length Gp,.slice Gq x.insts.length Gs,.slice U6 x.body.length U7]) (by simp[results,Tryz.results60,go_sem,f0,f1,f2,f3,f4,f5,f6]) rfl (uh zu)
end Go.Proofs.YtlcgnbcgmljpaaaGreat
