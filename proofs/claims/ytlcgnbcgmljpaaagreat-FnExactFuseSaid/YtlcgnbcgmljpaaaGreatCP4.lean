import Derived.Test.YtlcgnbcgmljpaaaGreatCP2
namespace Go.Proofs.YtlcgnbcgmljpaaaGreat
open Go.RowKit
set_option linter.unusedSimpArgs false
set_option linter.unusedVariables false
def RP {α:Type} (Rel:World->Value->List α->List Nat->Prop) (xs:List α) (W:World) (e:Ending) (w':World):Prop:=∃oa oc bs,e=.returned (.slice oa xs.length oc)∧Rel w' (.slice oa xs.length oc) xs bs∧bs.Nodup∧(∀b,b∈bs->W.heap.size<=b∧b<w'.heap.size)∧Below W.heap.size W w'
theorem ad3 {α:Type} {E:wo Tryz.prog α} {ok:α->Prop} {xs:List α} {W:World} (hl:xs.length*E.jh<=140737488355328) {e:Ending} {w':World} (h:ac9 E ok xs W e w'):RP (zf E ok) xs W e w':=by
 obtain⟨v,rfl,ho,hk,hb⟩:=h
 obtain⟨a,c,rfl⟩:=ho.slice
 obtain⟨g1,g2,g3,g4⟩:=agf ho hk hl
 exact⟨a,c,_,rfl,g1,g2,fun b jc=>⟨g3 b jc,g4 b jc⟩,hb⟩
theorem avm {α:Type} {sz:Nat} {E:wo Tryz.prog (Raw sz)} {R:World->List Value->α->List Nat->Prop} {xs:List α} {W:World} {e:Ending} {w':World} (h:MkP E R xs W e w'):RP (C9 E R) xs W e w':=by
 obtain⟨v,bs,rfl,hm,hb⟩:=h
 obtain⟨a,c,rfl⟩:=hm.slice
 exact⟨a,c,bs,rfl,hm.rowT,hm.nd.1,hm.nd.2,hb⟩
theorem ahz (xs:List ByteArray) (v:Value) (w:World) (h:bf 1 16 uz 0 w v xs):Calls Tryz.prog 86 #[v,.func (.func 83) #[] #[]] w (RP (zf Gw okS) xs w):=(apc xs v w h).mono (fun e w'=>ad3 h.jh)
theorem agh (xs:List gy) (v:Value) (w:World) (h:bf 2 24 xk 0 w v xs):Calls Tryz.prog 84 #[v,.func (.func 85) #[] #[]] w (RP (zf yh O4) xs w):=(amd xs v w h).mono (fun e w'=>ad3 h.jh)
theorem acw (xs:List Int) (v:Value) (w:World) (h:bf 1 8 yu 0 w v xs):Calls Tryz.prog 87 #[v] w (RP (zf Hw I64) xs w):=(ahy xs v w h).mono (fun e w'=>ad3 h.jh)
theorem amg (xs:List iw) (v:Value) (w:World) (h:bf 3 32 tu 0 w v xs):Calls Tryz.prog 115 #[v] w (RP (zf Dv okI) xs w):=(acv xs v w h).mono (fun e w'=>ad3 h.jh)
theorem amh (xs:List (List iw)) (v:Value) (w:World) (h:bf 1 24 vw 0 w v xs):Calls Tryz.prog 116 #[v,.func (.func 115) #[] #[]] w (RP (C9 Fg Dw) xs w):=(aki xs v w h).mono (fun e w'=>avm)
def axu (x:dh) (W:World) (e:Ending) (w':World):Prop:=∃Gl Gm Gn Gp Gq Gs s,e=.returned (.agg #[.int .i64 x.kind,.string x.name,.int .i64 x.at_,.slice Gl x.outs.length Gm,.slice Gn x.code.length Gp,.slice Gq x.args.length Gs])∧Hid (Aa w' [.int .i64 x.kind,.string x.name,.int .i64 x.at_,.slice Gl x.outs.length Gm,.slice Gn x.code.length Gp,.slice Gq x.args.length Gs] x s∧s.Nodup∧(∀b,b∈s->W.heap.size<=b)∧(∀b,b∈s->b<w'.heap.size)∧Below W.heap.size W w')
set_option maxRecDepth 20000 in
set_option maxHeartbeats 8000000 in
theorem apd (x:dh) (Et Eu Ew:Option Addr) (Ey Ez E8:Nat) (w:World) (hnm:Len x.name.size) (hk:I64 x.kind) (ha:I64 x.at_) (h3:bf 1 16 uz 0 w (.slice Et x.outs.length Ey) x.outs) (h4:bf 3 32 tu 0 w (.slice Eu x.code.length Ez) x.code) (h5:bf 1 24 vw 0 w (.slice Ew x.args.length E8) x.args) :
  Calls Tryz.prog 89 #[.agg #[.int .i64 x.kind,.string x.name,.int .i64 x.at_,.slice Et x.outs.length Ey,.slice Eu x.code.length Ez,.slice Ew x.args.length E8]] w (axu x w):=by
 obtain⟨wA,hwA⟩:∃z,z=(w.alloc (.cells #[.int .i64 x.kind,.string x.name,.int .i64 x.at_,.slice Et x.outs.length Ey,.slice Eu x.code.length Ez,.slice Ew x.args.length E8] 60)).alloc (.cells #[.int .i64 0,.string ⟨#[]⟩,.int .i64 0,.slice none 0 0,.slice none 0 0,.slice none 0 0] 60):=⟨_,rfl⟩
 have hA:Below w.heap.size w wA:=by rw[hwA];exact((Below.refl _ w).alloc (Nat.le_refl _) _).alloc (by simp) _
 have hb1:au wA w.heap.size 60 #[.int .i64 x.kind,.string x.name,.int .i64 x.at_,.slice Et x.outs.length Ey,.slice Eu x.code.length Ez,.slice Ew x.args.length E8]:=by
  rw[hwA]
  have h9:=jl w #[.int .i64 x.kind,.string x.name,.int .i64 x.at_,.slice Et x.outs.length Ey,.slice Eu x.code.length Ez,.slice Ew x.args.length E8] 60
  exact h9.below ((Below.refl _ _).alloc (Nat.le_refl _) _) h9.lt
 have hb2:au wA (w.heap.size+1) 60 #[.int .i64 0,.string ⟨#[]⟩,.int .i64 0,.slice none 0 0,.slice none 0 0,.slice none 0 0]:=by
  rw[hwA]
  have h9:=jl (w.alloc (.cells #[.int .i64 x.kind,.string x.name,.int .i64 x.at_,.slice Et x.outs.length Ey,.slice Eu x.code.length Ez,.slice Ew x.args.length E8] 60)) #[.int .i64 0,.string ⟨#[]⟩,.int .i64 0,.slice none 0 0,.slice none 0 0,.slice none 0 0] 60
  rw[World.size_alloc] at h9
  exact h9
 obtain⟨BX,gq⟩:∃BX:World->Prop,∀w',BX w'↔Below wA.heap.size wA w':=⟨_,fun _=>Iff.rfl⟩
 have Uw:∀W,BX W->Below wA.heap.size wA W:=fun W hW=>(gq W).1 hW
 have mg:∀W,BX W->Below w.heap.size w W:=fun W hW=>hA.trans (((gq W).1 hW).mono hA.size)
 have qp:∀W w',BX W->Below W.heap.size W w'->BX w':=fun W w' hW hb=>(gq w').2 (((gq W).1 hW).trans (hb.mono ((gq W).1 hW).size))
 have yg:∀W,BX W->W.cell? ⟨w.heap.size,0,none⟩=some (.int .i64 x.kind)∧W.cell? ⟨w.heap.size,1,none⟩=some (.string x.name)∧W.cell? ⟨w.heap.size,2,none⟩=some (.int .i64 x.at_)∧W.cell? ⟨w.heap.size,3,none⟩=some (.slice Et x.outs.length Ey)∧W.cell? ⟨w.heap.size,4,none⟩=some (.slice Eu x.code.length Ez)∧W.cell? ⟨w.heap.size,5,none⟩=some (.slice Ew x.args.length E8):=fun W hW=>by
  have k1:=hb1.below ((gq W).1 hW) hb1.lt
  exact⟨k1.cell (i:=0) rfl,k1.cell (i:=1) rfl,k1.cell (i:=2) rfl,k1.cell (i:=3) rfl,k1.cell (i:=4) rfl,k1.cell (i:=5) rfl⟩
 have Ky:∀W,BX W->au W (w.heap.size+1) 60 #[.int .i64 0,.string ⟨#[]⟩,.int .i64 0,.slice none 0 0,.slice none 0 0,.slice none 0 0]:=fun W hW=>hb2.below ((gq W).1 hW) hb2.lt
 have HG0:Hid (BX wA.drew∧True):=hide ⟨(gq _).2 (Below.refl _ _).drew,trivial⟩
 have qg:Hid (∀W,BX W->Calls Tryz.prog 83 #[.string x.name] W fun e w'=>e=.returned (.string x.name)∧Hid (BX w'∧Below W.heap.size W w')∧w'.cell? ⟨w.heap.size,0,none⟩=some (.int .i64 x.kind)∧w'.cell? ⟨w.heap.size,1,none⟩=some (.string x.name)∧w'.cell? ⟨w.heap.size,2,none⟩=some (.int .i64 x.at_)∧w'.cell? ⟨w.heap.size,3,none⟩=some (.slice Et x.outs.length Ey)∧w'.cell? ⟨w.heap.size,4,none⟩=some (.slice Eu x.code.length Ez)∧w'.cell? ⟨w.heap.size,5,none⟩=some (.slice Ew x.args.length E8)):=by
  refine hide (fun W hW=>(V3 x.name W hnm).mono ?_)
  rintro e w' ⟨rfl,hb⟩
  have h9:=qp W w' hW hb
  exact⟨rfl,⟨h9,hb⟩,yg w' h9⟩
 have Io:Hid (∀W,BX W->Calls Tryz.prog 86 #[.slice Et x.outs.length Ey,.func (.func 83) #[] #[]] W fun e w'=>∃oa oc bs,e=.returned (.slice oa x.outs.length oc)∧Hid ((BX w'∧Below W.heap.size W w')∧zf Gw okS w' (.slice oa x.outs.length oc) x.outs bs∧bs.Nodup∧∀b,b∈bs->W.heap.size<=b∧b<w'.heap.size)∧w'.cell? ⟨w.heap.size,0,none⟩=some (.int .i64 x.kind)∧w'.cell? ⟨w.heap.size,1,none⟩=some (.string x.name)∧w'.cell? ⟨w.heap.size,2,none⟩=some (.int .i64 x.at_)∧w'.cell? ⟨w.heap.size,3,none⟩=some (.slice Et x.outs.length Ey)∧w'.cell? ⟨w.heap.size,4,none⟩=some (.slice Eu x.code.length Ez)∧w'.cell? ⟨w.heap.size,5,none⟩=some (.slice Ew x.args.length E8)):=by
  refine hide (fun W hW=>(ahz x.outs _ W (h3.stays lu (mg W hW))).mono ?_)
  rintro e w' ⟨oa,oc,bs,rfl,g1,g2,g3,hb⟩
  have h9:=qp W w' hW hb
  exact⟨oa,oc,bs,rfl,⟨⟨h9,hb⟩,g1,g2,g3⟩,yg w' h9⟩
 have HC4:Hid (∀W,BX W->Calls Tryz.prog 115 #[.slice Eu x.code.length Ez] W fun e w'=>∃oa oc bs,e=.returned (.slice oa x.code.length oc)∧Hid ((BX w'∧Below W.heap.size W w')∧zf Dv okI w' (.slice oa x.code.length oc) x.code bs∧bs.Nodup∧∀b,b∈bs->W.heap.size<=b∧b<w'.heap.size)∧w'.cell? ⟨w.heap.size,0,none⟩=some (.int .i64 x.kind)∧w'.cell? ⟨w.heap.size,1,none⟩=some (.string x.name)∧w'.cell? ⟨w.heap.size,2,none⟩=some (.int .i64 x.at_)∧w'.cell? ⟨w.heap.size,3,none⟩=some (.slice Et x.outs.length Ey)∧w'.cell? ⟨w.heap.size,4,none⟩=some (.slice Eu x.code.length Ez)∧w'.cell? ⟨w.heap.size,5,none⟩=some (.slice Ew x.args.length E8)):=by
  refine hide (fun W hW=>(amg x.code _ W (h4.stays og (mg W hW))).mono ?_)
  rintro e w' ⟨oa,oc,bs,rfl,g1,g2,g3,hb⟩
  have h9:=qp W w' hW hb
  exact⟨oa,oc,bs,rfl,⟨⟨h9,hb⟩,g1,g2,g3⟩,yg w' h9⟩
 have HC5:Hid (∀W,BX W->Calls Tryz.prog 116 #[.slice Ew x.args.length E8,.func (.func 115) #[] #[]] W fun e w'=>∃oa oc bs,e=.returned (.slice oa x.args.length oc)∧Hid ((BX w'∧Below W.heap.size W w')∧C9 Fg Dw w' (.slice oa x.args.length oc) x.args bs∧bs.Nodup∧∀b,b∈bs->W.heap.size<=b∧b<w'.heap.size)∧w'.cell? ⟨w.heap.size,0,none⟩=some (.int .i64 x.kind)∧w'.cell? ⟨w.heap.size,1,none⟩=some (.string x.name)∧w'.cell? ⟨w.heap.size,2,none⟩=some (.int .i64 x.at_)∧w'.cell? ⟨w.heap.size,3,none⟩=some (.slice Et x.outs.length Ey)∧w'.cell? ⟨w.heap.size,4,none⟩=some (.slice Eu x.code.length Ez)∧w'.cell? ⟨w.heap.size,5,none⟩=some (.slice Ew x.args.length E8)):=by
  refine hide (fun W hW=>(amh x.args _ W (h5.stays xq (mg W hW))).mono ?_)
  rintro e w' ⟨oa,oc,bs,rfl,g1,g2,g3,hb⟩
  have h9:=qp W w' hW hb
  exact⟨oa,oc,bs,rfl,⟨⟨h9,hb⟩,g1,g2,g3⟩,yg w' h9⟩
 obtain⟨c0,c1,c2,c3,c4,c5⟩:=yg wA ((gq _).2 (Below.refl _ _))
 have Xo:=hide hA
 have HZA:Hid (wA.heap.size=w.heap.size+2):=by rw[hwA];refine hide ?_;simp
 have a2s:=hide Uw
 have hX1:=hide mg
 have hX5:=hide Ky
 have V4:=hide hnm;have Xp:=hide hk;have Ny:=hide ha;clear hnm hk ha
 clear h3 h4 h5 hA hb1 hb2 gq qp yg
 obtain⟨PO,Af⟩:∃PO:Ending->World->Prop,PO=axu x w:=⟨_,rfl⟩
 rw[←Af]
 have Fh:=hide Af
 clear Af
 go_enter Tryz.func89,Tryz.ntmps89
 go_wp2
 rw[←hwA]
 clear hwA
 go_region_held3 (fun w'=>w'.cell? ⟨w.heap.size,0,none⟩=some (.int .i64 x.kind)∧w'.cell? ⟨w.heap.size,1,none⟩=some (.string x.name)∧w'.cell? ⟨w.heap.size,2,none⟩=some (.int .i64 x.at_)∧w'.cell? ⟨w.heap.size,3,none⟩=some (.slice Et x.outs.length Ey)∧w'.cell? ⟨w.heap.size,4,none⟩=some (.slice Eu x.code.length Ez)∧w'.cell? ⟨w.heap.size,5,none⟩=some (.slice Ew x.args.length E8)) (go_keep) (first|(go_at_call 116;refine(uh HC5 _ (uh Iz).1.1).mono ?_;rintro e w5 ⟨Gq,Gs,V5,rfl,Hr,s0,s1,s2,s3,s4,s5⟩;have qm:=hide (Ky _ (uh Hr).1.1);have r0:=(uh qm).cell (i:=0) (v:=.int .i64 0) rfl;have z0:=(uh qm).free 0;have r1:=(uh qm).cell (i:=1) (v:=.string ⟨#[]⟩) rfl;have z1:=(uh qm).free 1;have r2:=(uh qm).cell (i:=2) (v:=.int .i64 0) rfl;have z2:=(uh qm).free 2;have r3:=(uh qm).cell (i:=3) (v:=.slice none 0 0) rfl;have z3:=(uh qm).free 3;have r4:=(uh qm).cell (i:=4) (v:=.slice none 0 0) rfl;have z4:=(uh qm).free 4;have r5:=(uh qm).cell (i:=5) (v:=.slice none 0 0) rfl;have z5:=(uh qm).free 5)|(go_at_call 115;refine(uh HC4 _ (uh Kz).1.1).mono ?_;rintro e w4 ⟨Gn,Gp,Qd,rfl,Iz,s0,s1,s2,s3,s4,s5⟩)|(go_at_call 86;refine(uh Io _ (uh HG1).1).mono ?_;rintro e w3 ⟨Gl,Gm,La,rfl,Kz,s0,s1,s2,s3,s4,s5⟩)|(go_at_call 83;refine(uh qg _ (uh HG0).1).mono ?_;rintro e w1 ⟨rfl,HG1,s0,s1,s2,s3,s4,s5⟩))
 have e2:=(((((((uh qm).set 0 (.int .i64 x.kind)).set 1 (.string x.name)).set 2 (.int .i64 x.at_)).set 3 (.slice Gl x.outs.length Gm)).set 4 (.slice Gn x.code.length Gp)).set 5 (.slice Gq x.args.length Gs))
 have E2:=hide e2
 obtain⟨WF,hWF⟩:∃z,z=((((((w5.setCell ⟨w.heap.size+1,0,none⟩ (.int .i64 x.kind)).setCell ⟨w.heap.size+1,1,none⟩ (.string x.name)).setCell ⟨w.heap.size+1,2,none⟩ (.int .i64 x.at_)).setCell ⟨w.heap.size+1,3,none⟩ (.slice Gl x.outs.length Gm)).setCell ⟨w.heap.size+1,4,none⟩ (.slice Gn x.code.length Gp)).setCell ⟨w.heap.size+1,5,none⟩ (.slice Gq x.args.length Gs)):=⟨_,rfl⟩
 have zu:Hid (PO (.returned (.agg #[.int .i64 x.kind,.string x.name,.int .i64 x.at_,.slice Gl x.outs.length Gm,.slice Gn x.code.length Gp,.slice Gq x.args.length Gs])) WF):=by
  have hst:∀b,wA.heap.size<=b->WF.heap[b]?=w5.heap[b]?:=fun b jc=>by
   have hz:=uh HZA
   rw[hWF]
   rw[Below.heap_setCell _ _ _ _ (by simp only;omega),Below.heap_setCell _ _ _ _ (by simp only;omega),Below.heap_setCell _ _ _ _ (by simp only;omega),Below.heap_setCell _ _ _ _ (by simp only;omega),Below.heap_setCell _ _ _ _ (by simp only;omega),Below.heap_setCell _ _ _ _ (by simp only;omega)]
  have hlo3:wA.heap.size<=w1.heap.size:=(Uw _ (uh HG1).1).size
  have ah0:wA.heap.size<=w3.heap.size:=(Uw _ (uh Kz).1.1).size
  have ah1:wA.heap.size<=w4.heap.size:=(Uw _ (uh Iz).1.1).size
  have hz0:=(uh Xo).size
  have n3:(La).Nodup:=(uh Kz).2.2.1
  have u3:∀b,b∈La->b<w3.heap.size:=fun b jc=>((uh Kz).2.2.2 b jc).2
  have n4:(La++Qd).Nodup:=by
   rw[List.nodup_append]
   refine⟨n3,(uh Iz).2.2.1,fun x g1 y g2 e=>?_⟩
   subst e
   have k1:=u3 x g1
   have k2:=((uh Iz).2.2.2 x g2).1
   omega
  have u4:∀b,b∈La++Qd->b<w4.heap.size:=fun b jc=>by
   have kz:=(uh Iz).1.2.size
   rcases List.mem_append.1 jc with g|g
   ·have:=u3 b g;omega
   ·exact((uh Iz).2.2.2 b g).2
  have n5:(La++Qd++V5).Nodup:=by
   rw[List.nodup_append]
   refine⟨n4,(uh Hr).2.2.1,fun x g1 y g2 e=>?_⟩
   subst e
   have k1:=u4 x g1
   have k2:=((uh Hr).2.2.2 x g2).1
   omega
  have u5:∀b,b∈La++Qd++V5->b<w5.heap.size:=fun b jc=>by
   have kz:=(uh Hr).1.2.size
   rcases List.mem_append.1 jc with g|g
   ·have:=u4 b g;omega
   ·exact((uh Hr).2.2.2 b g).2
  have q3:Fr La w3 WF:=fun b jc=>by
   have k1:=((uh Kz).2.2.2 b jc)
   have kb:=hlo3
   have kz4:=(uh Iz).1.2.size
   have kz5:=(uh Hr).1.2.size
   exact(((hst b (by omega)).trans ((uh Hr).1.2.block b (by omega))).trans ((uh Iz).1.2.block b (by omega)))
  have q4:Fr Qd w4 WF:=fun b jc=>by
   have k1:=((uh Iz).2.2.2 b jc)
   have kb:=ah0
   have kz5:=(uh Hr).1.2.size
   exact((hst b (by omega)).trans ((uh Hr).1.2.block b (by omega)))
  have q5:Fr V5 w5 WF:=fun b jc=>by
   have k1:=((uh Hr).2.2.2 b jc)
   have kb:=ah1
   exact(hst b (by omega))
  have l3:∀b,b∈La->w.heap.size<=b:=fun b jc=>by have k1:=((uh Kz).2.2.2 b jc).1;have k2:=hlo3;have k3:=(uh Xo).size;omega
  have l4:∀b,b∈Qd->w.heap.size<=b:=fun b jc=>by have k1:=((uh Iz).2.2.2 b jc).1;have k2:=ah0;have k3:=(uh Xo).size;omega
  have l5:∀b,b∈V5->w.heap.size<=b:=fun b jc=>by have k1:=((uh Hr).2.2.2 b jc).1;have k2:=ah1;have k3:=(uh Xo).size;omega
  rw[uh Fh]
  have hbF:Below w.heap.size w WF:=by
   rw[hWF]
   exact(((((((mg _ (uh Hr).1.1).setCell (by simp) _).setCell (by simp) _).setCell (by simp) _).setCell (by simp) _).setCell (by simp) _).setCell (by simp) _)
  refine hide ⟨Gl,Gm,Gn,Gp,Gq,Gs,La++Qd++V5,rfl,⟨_,_,_,La,Qd,V5,rfl,uh V4,uh Xp,uh Ny,(uh Kz).2.1.fr q3,(uh Iz).2.1.fr q4,(uh Hr).2.1.fr Pm q5,rfl⟩,n5,fun b jc=>by
   simp only[List.mem_append] at jc
   rcases jc with (g3|g4)|g5
   ·exact l3 b g3
   ·exact l4 b g4
   ·exact l5 b g5,fun b jc=>?_,hbF⟩
  have k1:=u5 b jc
  have k2:w5.heap.size=WF.heap.size:=by rw[hWF];simp[World.setCell]
  omega
 rw[←hWF] at E2 ⊢
 clear e2 hWF s0 s1 s2 s3 s4 s5 r0 z0 c0 r1 z1 c1 r2 z2 c2 r3 z3 c3 r4 z4 c4 r5 z5 c5
 have f0:=(uh E2).cell (i:=0) (v:=.int .i64 x.kind) rfl
 have f1:=(uh E2).cell (i:=1) (v:=.string x.name) rfl
 have f2:=(uh E2).cell (i:=2) (v:=.int .i64 x.at_) rfl
 have f3:=(uh E2).cell (i:=3) (v:=.slice Gl x.outs.length Gm) rfl
 have f4:=(uh E2).cell (i:=4) (v:=.slice Gn x.code.length Gp) rfl
 have f5:=(uh E2).cell (i:=5) (v:=.slice Gq x.args.length Gs) rfl
 go_wp2
 exact bodyPost_ret (v:=.agg #[.int .i64 x.kind,.string x.name,.int .i64 x.at_,.slice Gl x.outs.length Gm,.slice Gn x.code.length Gp,.slice Gq x.args.length Gs]) (by simp[results,Tryz.results89,go_sem,f0,f1,f2,f3,f4,f5]) rfl (uh zu)
set_option maxHeartbeats 4000000 in
theorem ape (xs:List dh) (v:Value) (w:World) (h:bf 6 104 Ec 0 w v xs):Calls Tryz.prog 88 #[v,.func (.func 89) #[] #[]] w (MkP zh Aa xs w):=by
 obtain⟨a,cap,rfl,⟨hbt,_⟩,hn,hx⟩:=h
 unfold Len at hn hbt
 have HX:=hide hx
 have vg:=hide hbt
 clear hx hbt
 go_enter Tryz.func88,Tryz.ntmps88
 go_wp2
 go_loopg [5,10] xs.length (fun g mv i wr=>∃q:Nat,q<=xs.length∧g=xs.length-q∧i=.int .i64 q∧Hid (∃bs,uf zh Aa w.heap.size wr mv (xs.take q) bs)∧Hid (Below w.heap.size w wr))
 case atStart=>exact⟨0,Nat.zero_le _,by omega,rfl,⟨_,uf.nil _ _ _ _⟩,Below.refl _ _⟩
 case round =>
  obtain⟨q,hq,hg,rfl,HO,HB⟩:=hrel
  have HG:=hide hg
  clear hg
  by_cases hlt:q<xs.length
  ·obtain⟨b,o,cs,rfl,_,hb,hcs,hc,hR⟩:=uh HX q hlt
   have htk:=List.take_succ_eq_append_getElem hlt
   generalize xs[q]=x at hR htk
   have Tz:=hide htk
   clear htk
   have hR:=xu _ _ _ _ _ (Kept.of_below ((uh HB).mono (Nat.le_refl _))) hR
   obtain⟨v3,v4,v5,rfl,hk1,hk2,hk3,h3,h4,h5⟩:=hR
   obtain⟨Et,Ey,rfl⟩:=h3.shape
   obtain⟨Eu,Ez,rfl⟩:=h4.shape
   obtain⟨Ew,E8,rfl⟩:=h5.shape
   have c0:=((uh HB).cell (p:=⟨b,_,none⟩) hb).trans (hc 0 (by simp))
   have c1:=((uh HB).cell (p:=⟨b,_,none⟩) hb).trans (hc 1 (by simp))
   have c2:=((uh HB).cell (p:=⟨b,_,none⟩) hb).trans (hc 2 (by simp))
   have c3:=((uh HB).cell (p:=⟨b,_,none⟩) hb).trans (hc 3 (by simp))
   have c4:=((uh HB).cell (p:=⟨b,_,none⟩) hb).trans (hc 4 (by simp))
   have c5:=((uh HB).cell (p:=⟨b,_,none⟩) hb).trans (hc 5 (by simp))
   clear hc
   simp only[Nat.mul_one,Nat.add_zero,List.getElem_cons_zero,List.getElem_cons_succ] at c0 c1 c2 c3 c4 c5
   have hA:Below wr.heap.size wr (wr.alloc (.cells #[.int .i64 x.kind,.string x.name,.int .i64 x.at_,.slice Et x.outs.length Ey,.slice Eu x.code.length Ez,.slice Ew x.args.length E8] 60)):=(Below.refl _ _).alloc (Nat.le_refl _) _
   have Yk:=hide (apd x Et Eu Ew Ey Ez E8 _ hk1 hk2 hk3 (h3.stays lu hA) (h4.stays og hA) (h5.stays xq hA))
   have HA:=hide hA
   clear hA hcs hk1 hk2 hk3 h3 h4 h5
   go_wp2_with fail
   refine(uh Yk).mono ?_
   rintro e w1 ⟨Gl,Gm,Gn,Gp,Gq,Gs,s,rfl,HV⟩
   obtain⟨bs,css,subs,ho,hbl,h3,rfl,hnd,hbd⟩:=uh HO
   obtain⟨hv1,hv2,hv3,hv4,hv5⟩:=uh HV
   have h1:Below wr.heap.size wr w1:=(uh HA).trans (hv5.mono (uh HA).size)
   have h2:Below w.heap.size w w1:=(uh HB).trans (h1.mono (uh HB).size)
   have hA2:Below w1.heap.size w1 (w1.alloc (.cells #[.int .i64 x.kind,.string x.name,.int .i64 x.at_,.slice Gl x.outs.length Gm,.slice Gn x.code.length Gp,.slice Gq x.args.length Gs] 60)):=(Below.refl _ _).alloc (Nat.le_refl _) _
   have Ee:=hide ((ho.below h1).below hA2)
   have h4:Below w.heap.size w (w1.alloc (.cells #[.int .i64 x.kind,.string x.name,.int .i64 x.at_,.slice Gl x.outs.length Gm,.slice Gn x.code.length Gp,.slice Gq x.args.length Gs] 60)):=h2.trans (hA2.mono h2.size)
   have H4:=hide h4
   have Es:=hide h4.size
   have hlen:=h3.len
   have Du:Hid ((css.length+1)*104<=140737488355328):=by
    have h9:=uh vg
    refine hide ?_
    rw[hlen.1,List.length_take]
    have:min q xs.length+1<=xs.length:=by omega
    exact Nat.le_trans (Nat.mul_le_mul_right _ this) h9
   obtain⟨c,hcv⟩:∃c:Raw 6,c.1=[.int .i64 x.kind,.string x.name,.int .i64 x.at_,.slice Gl x.outs.length Gm,.slice Gn x.code.length Gp,.slice Gq x.args.length Gs]:=⟨⟨[.int .i64 x.kind,.string x.name,.int .i64 x.at_,.slice Gl x.outs.length Gm,.slice Gn x.code.length Gp,.slice Gq x.args.length Gs],by simp,by intro u hu;simp only[List.mem_cons,List.not_mem_nil,or_false] at hu;rcases hu with rfl|rfl|rfl|rfl|rfl|rfl<;>rfl⟩,rfl⟩
   have J9:=hide hcv
   have Il:Hid (∀v' w5,dw zh w5 w.heap.size v' (css++[c])->(w1.alloc (.cells #[.int .i64 x.kind,.string x.name,.int .i64 x.at_,.slice Gl x.outs.length Gm,.slice Gn x.code.length Gp,.slice Gq x.args.length Gs] 60)).grownBy w5 u5.ownBlock->(∀b,v'.ownBlock=some b->u5.ownBlock=some b∨(w1.alloc (.cells #[.int .i64 x.kind,.string x.name,.int .i64 x.at_,.slice Gl x.outs.length Gm,.slice Gn x.code.length Gp,.slice Gq x.args.length Gs] 60)).heap.size<=b)->∃bs,uf zh Aa w.heap.size w5 v' (xs.take (q+1)) bs):=by
    refine hide (fun v' w5 k1 k2 k3=>?_)
    rw[uh Tz]
    exact⟨_,Zk I4 ho h3 hnd hbd h1 hA2 (c:=c) (y:=x) (s:=s) (by rw[uh J9];exact hv1) hv2 (fun b jc=>⟨Nat.le_trans (uh HA).size (hv3 b jc),hv4 b jc⟩) (uh HB).size k1 k2 k3 (by rw[List.length_append];exact uh Du)⟩
   clear hcv hv1 hv2 hv3 hv4 hv5 ho hbl h3 hnd hbd h1 h2 hA2 h4 hlen c0 c1 c2 c3 c4 c5
   go_wp2_with (at_builtin;go_must (refine l9 zh _ rfl _ _ rfl w.heap.size _ css rfl (uh Ee) w1.heap.size c rfl (fun j u hu=>by rw[World.cell?_alloc_at _ _ _ _ rfl];have hu':c.1[j]?=some u:=hu;rw[uh J9] at hu';simpa using hu') (uh Du) (uh Es) ?_))
   intro v' w5 Bh hg5 Eh
   have Nw:Hid (∃bs,uf zh Aa w.heap.size w5 v' (xs.take (q+1)) bs):=hide (uh Il v' w5 Bh hg5 (by simpa using Eh))
   have zo:Hid (Below w.heap.size w w5):=hide ((uh Ee).grown (uh H4) hg5 (uh Es) (Nat.le_refl _))
   clear Bh hg5 Eh
   go_wp2
   go_roundg (xs.length-(q+1))
   case measure=>have:=uh HG;omega
   case rel=>exact⟨q+1,by omega,rfl,by go_num,Nw,zo⟩
  ·have e:q=xs.length:=by omega
   rw[e,List.take_length] at HO
   clear e
   obtain⟨bs,hmr⟩:=uh HO
   obtain⟨oa,oc,hov⟩:=hmr.slice
   have HM:=hide hmr
   clear hmr
   go_wp2
   go_ret
   exact⟨_,bs,rfl,uh HM,uh HB⟩
theorem arz (xs:List dh) (v:Value) (w:World) (h:bf 6 104 Ec 0 w v xs):Calls Tryz.prog 88 #[v,.func (.func 89) #[] #[]] w (RP (C9 zh Aa) xs w):=(ape xs v w h).mono (fun e w'=>avm)
def axv (x:ak) (W:World) (e:Ending) (w':World):Prop:=∃U2 U3 U4 U5 Gl Gm Gn Gp Gq Gs U6 U7 s,e=.returned (.agg #[.string x.name,.slice U2 x.ins.length U3,.slice U4 x.outs.length U5,.slice Gl x.ay.length Gm,.slice Gn x.aj.length Gp,.slice Gq x.insts.length Gs,.slice U6 x.body.length U7])∧Hid (oh w' [.string x.name,.slice U2 x.ins.length U3,.slice U4 x.outs.length U5,.slice Gl x.ay.length Gm,.slice Gn x.aj.length Gp,.slice Gq x.insts.length Gs,.slice U6 x.body.length U7] x s∧s.Nodup∧(∀b,b∈s->W.heap.size<=b)∧(∀b,b∈s->b<w'.heap.size)∧Below W.heap.size W w')
end Go.Proofs.YtlcgnbcgmljpaaaGreat
