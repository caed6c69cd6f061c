import Derived.Test.YtlcgnbcgmljpaaaGreatMQ2
import Derived.Deep.RegionWith
namespace Go.Proofs.YtlcgnbcgmljpaaaGreat
open Go.RowKit
set_option linter.unusedSimpArgs false
set_option linter.unusedVariables false
structure SA (w:World) (sb so:Nat) (s:dh) (ov cv av:Value):Prop where
 lt:sb<w.heap.size
 c0:w.cell? ⟨sb,so,none⟩=some (.int .i64 s.kind)
 c1:w.cell? ⟨sb,so+1,none⟩=some (.string s.name)
 c2:w.cell? ⟨sb,so+2,none⟩=some (.int .i64 s.at_)
 c3:w.cell? ⟨sb,so+3,none⟩=some ov
 c4:w.cell? ⟨sb,so+4,none⟩=some cv
 c5:w.cell? ⟨sb,so+5,none⟩=some av
 name:Len s.name.size
 kd:I64 s.kind
 at_:I64 s.at_
 outs:bf 1 16 uz 0 w ov s.outs
 code:bf 3 32 tu 0 w cv s.code
 args:bf 1 24 vw 0 w av s.args
theorem SA.stays {w w':World} {sb so:Nat} {s:dh} {ov cv av:Value} (h:SA w sb so s ov cv av) {B:Nat} (hB:B=w.heap.size) (hb:Below B w w'):SA w' sb so s ov cv av:=by
 subst hB
 have hc:∀j,w'.cell? ⟨sb,j,none⟩=w.cell? ⟨sb,j,none⟩:=fun j=>hb.cell (p:=⟨sb,j,none⟩) h.lt
 exact⟨Nat.lt_of_lt_of_le h.lt hb.size,(hc _).trans h.c0,(hc _).trans h.c1,(hc _).trans h.c2,(hc _).trans h.c3,(hc _).trans h.c4,(hc _).trans h.c5,h.name,h.kd,h.at_,h.outs.stays lu hb,h.code.stays og hb,h.args.stays xq hb⟩
theorem al3 {w:World} {v:Value} {xs:List dh} (h:bf 6 104 Ec 0 w v xs) (i:Nat) (hi:i<xs.length):∃b o ov cv av,(∃n c,v=.slice (some ⟨b,o,none⟩) n c)∧SA w b (o+i*6) xs[i] ov cv av:=by
 obtain⟨a,cap,rfl,_,_,hx⟩:=h
 obtain⟨b,o,cs,rfl,_,hb,hl,hc,⟨ov,cv,av,rfl,h1,h2,h3,h4,h5,h6⟩⟩:=hx i hi
 exact⟨b,o,ov,cv,av,⟨_,_,rfl⟩,hb,hc 0 (by simp),hc 1 (by simp),hc 2 (by simp),hc 3 (by simp),hc 4 (by simp),hc 5 (by simp),h1,h2,h3,h4,h5,h6⟩
theorem Zf (s:dh) (sb so:Nat) (ov cv av:Value) (w:World) (h:SA w sb so s ov cv av):Calls Tryz.prog 137 #[.pointer (some ⟨sb,so,none⟩)] w (Ans (.bool (xg s)) w):=by
 obtain⟨o1,p1,rfl⟩:=h.outs.shape
 obtain⟨o2,p2,rfl⟩:=h.code.shape
 obtain⟨o3,p3,rfl⟩:=h.args.shape
 have l1:=h.outs.Fz
 have l3:=h.args.Fz
 obtain⟨_,c0,c1,c2,c3,c4,c5,_⟩:=h
 obtain⟨kd,nm,eu,outs,code,args⟩:=s
 simp only at *
 by_cases k1:kd=1
 ·subst k1;exact ahk nm eu outs code args o1 o2 o3 _ _ _ p1 p2 p3 rfl rfl rfl l1 l3 sb so w c0 c1 c2 c3 c4 c5
 by_cases k2:kd=2
 ·subst k2;exact ahl nm eu outs code args o1 o2 o3 _ _ _ p1 p2 p3 rfl rfl rfl l1 l3 sb so w c0 c1 c2 c3 c4 c5
 by_cases k3:kd=3
 ·subst k3;exact ahm nm eu outs code args o1 o2 o3 _ _ _ p1 p2 p3 rfl rfl rfl l1 l3 sb so w c0 c1 c2 c3 c4 c5
 by_cases k4:kd=4
 ·subst k4;exact ahn nm eu outs code args o1 o2 o3 _ _ _ p1 p2 p3 rfl rfl rfl l1 l3 sb so w c0 c1 c2 c3 c4 c5
 exact aho kd k1 k2 k3 k4 nm eu outs code args o1 o2 o3 _ _ _ p1 p2 p3 rfl rfl rfl l1 l3 sb so w c0 c1 c2 c3 c4 c5
def New (a c:Nat) (b:Nat):Prop:=a<=b∧b<c
def Ae (P:Nat->Prop) (w w':World):Prop:=w.heap.size<=w'.heap.size∧∀b,P b->b<w.heap.size->w'.heap[b]?=w.heap[b]?
theorem Ae.of_below {P:Nat->Prop} {w w':World} (h:Below w.heap.size w w'):Ae P w w':=⟨h.size,fun b _ hb=>h.block b hb⟩
theorem But.o8 {S:List Nat} {P:Nat->Prop} {w w':World} (h:But S w w') (hs:∀k,k∈S->¬P k):Ae P w w':=⟨h.size,fun b hp hb=>h.block b hb (fun e=>hs b e hp)⟩
theorem Ae.trans {P:Nat->Prop} {a b c:World} (h:Ae P a b) (k:Ae P b c):Ae P a c:=⟨Nat.le_trans h.1 k.1,fun i hp hi=>(k.2 i hp (Nat.lt_of_lt_of_le hi h.1)).trans (h.2 i hp hi)⟩
theorem au.o8 {P:Nat->Prop} {w w':World} {g:Nat} {e:TypeId} {cs:Array Value} (h:au w g e cs) (hk:Ae P w w') (hg:P g):au w' g e cs:=(hk.2 g hg h.lt).trans h
theorem bf.o8 {α:Type} {sz jh:Nat} {R:Nat->World->List Value->α->Prop} (hR:∀w w' cs x,R 0 w cs x->R 0 w' cs x) {P:Nat->Prop} {w w':World} {v:Value} {xs:List α} (hk:Ae P w w') (hv:∀b,v.ownBlock=some b->P b) (h:bf sz jh R 0 w v xs):bf sz jh R 0 w' v xs:=by
 obtain⟨a,cap,rfl,hl,hl2,h⟩:=h
 refine⟨a,cap,rfl,hl,hl2,fun i hi=>?_⟩
 obtain⟨b,o,cs,ha,hlo,hbl,hcs,hc,hr⟩:=h i hi
 subst ha
 have hp:P b:=hv b rfl
 exact⟨b,o,cs,rfl,hlo,Nat.lt_of_lt_of_le hbl hk.1,hcs,fun j hj=>by rw[World.cell?_of_block (w:=w) (a:=⟨b,_,none⟩) (hk.2 b hp hbl)];exact hc j hj,hR _ _ _ _ hr⟩
def Ur (X:BD) (P:Nat->Prop) (w:World) (x:TypeId × Nat) (s:dh):Prop :=
 (s.kind=1∧x.1=191∧∃cv,au w x.2 195 #[.int .i64 1,.int .i64 (iy (varsOf X.k) s.name),cv]∧bf 3 32 tu 0 X.Wm cv s.code) ∨
 (s.kind=2∧x.1=196∧∃cv,au w x.2 198 #[.int .i64 1,.int .i64 s.at_,cv]∧bf 3 32 tu 0 X.Wm cv s.code) ∨
 (s.kind=3∧x.1=200∧∃ov av,au w x.2 202 #[.int .i64 (1+lg X.k.insts X.known s),.pointer (some ⟨(X.ins.getD s.at_.toNat (0,0)).1,0,none⟩),.int .i64 (X.ins.getD s.at_.toNat (0,0)).2,ov,av]∧bf 1 8 yu 0 w ov (s.outs.map (iy (varsOf X.k)))∧(∀b,ov.ownBlock=some b->P b)∧bf 1 24 vw 0 X.Wm av s.args)
def D6 (X:BD) (H:List ByteArray) (nx:Nat) (w:World) (s:dh) (ok:Bool) (e:Ending) (w':World):Prop :=
 (ok=true->∃x:TypeId × Nat,e=.returned (.iface x.1 (.pointer (some ⟨x.2,0,none⟩)))∧New w.heap.size w'.heap.size x.2∧Ur X (New w.heap.size w'.heap.size) w' x s)∧(ok=false->e=.returned .nilIface)∧But [X.gb] w w'∧BS X w' H nx
theorem D6.no {X:BD} {H:List ByteArray} {nx:Nat} {w w':World} {s:dh} (hb:Below w.heap.size w w') (hs:BS X w' H nx):D6 X H nx w s false (.returned .nilIface) w':=⟨(fun h=>by cases h),(fun _=>rfl),But.of_below hb,hs⟩
theorem Ur.o8 {X:BD} {P:Nat->Prop} {w w':World} {x:TypeId × Nat} {s:dh} (h:Ur X P w x s) (hx:P x.2) (hk:Ae P w w'):Ur X P w' x s:=by
 rcases h with ⟨a,b,cv,c,d⟩|⟨a,b,cv,c,d⟩|⟨a,b,ov,av,c,d,f,e⟩
 ·exact Or.inl ⟨a,b,cv,c.o8 hk hx,d⟩
 ·exact Or.inr (Or.inl ⟨a,b,cv,c.o8 hk hx,d⟩)
 ·exact Or.inr (Or.inr ⟨a,b,ov,av,c.o8 hk hx,d.o8 (fun _ _ _ _ h=>h) hk f,f,e⟩)
theorem Ur.mono {X:BD} {P Q:Nat->Prop} {w:World} {x:TypeId × Nat} {s:dh} (h:Ur X P w x s) (hq:∀b,P b->Q b):Ur X Q w x s:=by
 rcases h with ⟨a,b,cv,c,d⟩|⟨a,b,cv,c,d⟩|⟨a,b,ov,av,c,d,f,e⟩
 ·exact Or.inl ⟨a,b,cv,c,d⟩
 ·exact Or.inr (Or.inl ⟨a,b,cv,c,d⟩)
 ·exact Or.inr (Or.inr ⟨a,b,ov,av,c,d,(fun b hb=>hq b (f b hb)),e⟩)
set_option maxHeartbeats 2000000 in
theorem a0o (X:BD) (hE:BE X) (H:List ByteArray) (nx:Nat) (w:World) (hS:BS X w H nx) (s:dh) (sb so:Nat) (ov cv av:Value) (hA:SA X.Wm sb so s ov cv av) (hk:s.kind=1) :
  Calls Tryz.prog 138 #[.pointer (some ⟨X.bb,0,none⟩),.pointer (some ⟨sb,so,none⟩)] w (D6 X H nx w s (Vh X.k H s.name&&Nk X.k s.code)):=by
 have hAw:=hA.stays rfl (hS.Pj hE)
 have c1:=hAw.c1
 have hT:=agy X hE H nx w hS s.name hA.name
 have HTG:=hide hT
 have HCF:Hid (∀w1,Below w.heap.size w w1->Calls Tryz.prog 144 #[.pointer (some ⟨X.pb,0,none⟩),cv] w1.drew fun e w'=>e=.returned (.bool (Nk X.k s.code))∧Hid (Below w.heap.size w w')∧w'.cell? ⟨X.bb,0,none⟩=some (.pointer (some ⟨X.pb,0,none⟩))∧w'.cell? ⟨sb,so+4,none⟩=some cv):=fun w1 hb=>by
  have hd:Below w.heap.size w w1.drew:=hb.drew
  refine(Yh X.k s.code cv X.pb X.mb X.cb X.co w1.drew (hE.pr.stays (hS.stays hd).old) (hA.code.stays og ((hS.stays hd).Pj hE))).mono ?_
  rintro e w' ⟨rfl,hb'⟩
  have h2:=hd.trans (hb'.mono hd.size)
  exact⟨rfl,h2,((hS.stays h2).cells hE).b0,(hA.stays rfl ((hS.stays h2).Pj hE)).c4⟩
 have Oi:Hid (∀w1,Below w.heap.size w w1->w1.cell? ⟨sb,so+4,none⟩=some cv∧w1.cell? ⟨X.bb,0,none⟩=some (.pointer (some ⟨X.pb,0,none⟩))):=fun w1 hb=>⟨(hA.stays rfl ((hS.stays hb).Pj hE)).c4,((hS.stays hb).cells hE).b0⟩
 have Ku:Hid (∀w1,Below w.heap.size w w1->BS X w1 H nx):=fun w1 hb=>hS.stays hb
 have J9:=hide hA.code
 have HTI:Hid (Vh X.k H s.name=true->tgI X.k s.name=iy (varsOf X.k) s.name):=fun h=>by
  have h1:=((ae3 _ _ _).1 h).1
  unfold setB at h1
  have:=of_decide_eq_true h1
  exact if_pos (by omega)
 have HK:=hide hk
 clear hS hA hAw hT hk
 obtain⟨o2,p2,rfl⟩:=(uh J9).shape
 obtain⟨q4,q0⟩:=uh Oi w (Below.refl _ _)
 generalize Vh X.k H s.name=tb at *
 generalize Nk X.k s.code=cb at *
 cases tb
 ·rw[Bool.false_and]
  go_enter Tryz.func138,Tryz.ntmps138
  go_wp2_with fail
  refine(uh HTG).mono ?_
  rintro e w1 ⟨rfl,hb1⟩
  have HB1:=hide hb1
  clear hb1
  go_wp2_with fail
  go_quiet ((fail))
  go_wp2
  go_ret
  exact D6.no (below_drewN (uh HB1) _) (uh Ku _ (below_drewN (uh HB1) _))
 ·rw[Bool.true_and]
  have hti:=uh HTI rfl
  rw[hti] at HTG
  clear hti HTI
  cases cb
  ·go_enter Tryz.func138,Tryz.ntmps138
   go_wp2_with fail
   refine(uh HTG).mono ?_
   rintro e w1 ⟨rfl,hb1⟩
   have HB1:=hide hb1
   obtain⟨r4,r0⟩:=uh Oi w1 hb1
   clear hb1
   go_wp2_with fail
   have HC2:=hide (uh HCF w1 (uh HB1))
   clear HCF
   go_region_held3 (fun w'=>w'.cell? ⟨X.bb,0,none⟩=some (.pointer (some ⟨X.pb,0,none⟩))∧w'.cell? ⟨sb,so+4,none⟩=some (.slice o2 s.code.length p2)) (go_keep) (first|(go_at_call 144;refine(uh HC2).mono ?_;rintro e w2 ⟨rfl,HB2,u0,u4⟩))
   go_wp2
   go_ret
   exact D6.no (uh HB2) (uh Ku _ (uh HB2))
  ·go_enter Tryz.func138,Tryz.ntmps138
   go_wp2_with fail
   refine(uh HTG).mono ?_
   rintro e w1 ⟨rfl,hb1⟩
   have HB1:=hide hb1
   obtain⟨r4,r0⟩:=uh Oi w1 hb1
   clear hb1
   go_wp2_with fail
   have HC2:=hide (uh HCF w1 (uh HB1))
   clear HCF
   go_region_held3 (fun w'=>w'.cell? ⟨X.bb,0,none⟩=some (.pointer (some ⟨X.pb,0,none⟩))∧w'.cell? ⟨sb,so+4,none⟩=some (.slice o2 s.code.length p2)) (go_keep) (first|(go_at_call 144;refine(uh HC2).mono ?_;rintro e w2 ⟨rfl,HB2,u0,u4⟩))
   go_wp2
   go_ret
   have hb:=(uh HB2).alloc (uh HB2).size (.cells #[.int .i64 1,.int .i64 (iy (varsOf X.k) s.name),.slice o2 s.code.length p2] 195)
   exact⟨(fun _=>⟨(191,w2.heap.size),rfl,⟨(uh HB2).size,by simp⟩,Or.inl ⟨uh HK,rfl,_,jl _ _ _,uh J9⟩⟩),(fun h=>by cases h),But.of_below hb,uh Ku _ hb⟩
set_option maxRecDepth 20000 in
set_option maxHeartbeats 2000000 in
theorem axb (X:BD) (hE:BE X) (H:List ByteArray) (nx:Nat) (w:World) (hS:BS X w H nx) (s:dh) (sb so:Nat) (ov cv av:Value) (hA:SA X.Wm sb so s ov cv av) (hk:s.kind=2) :
  Calls Tryz.prog 139 #[.pointer (some ⟨X.bb,0,none⟩),.pointer (some ⟨sb,so,none⟩)] w (D6 X H nx w s (decide (0<=s.at_∧s.at_<(X.k.aj.length:Int))&&Nk X.k s.code)):=by
 have HCF:Hid (Calls Tryz.prog 144 #[.pointer (some ⟨X.pb,0,none⟩),cv] w.drew fun e w'=>e=.returned (.bool (Nk X.k s.code))∧Hid (Below w.heap.size w w')∧w'.cell? ⟨X.bb,0,none⟩=some (.pointer (some ⟨X.pb,0,none⟩))∧w'.cell? ⟨X.pb,0,none⟩=some (.pointer (some ⟨X.cb,X.co,none⟩))∧w'.cell? ⟨X.cb,X.co+4,none⟩=some X.a4∧w'.cell? ⟨sb,so+2,none⟩=some (.int .i64 s.at_)∧w'.cell? ⟨sb,so+4,none⟩=some cv):=by
  have hd:Below w.heap.size w w.drew:=(Below.refl _ _).drew
  refine(Yh X.k s.code cv X.pb X.mb X.cb X.co w.drew (hE.pr.stays (hS.stays hd).old) (hA.code.stays og ((hS.stays hd).Pj hE))).mono ?_
  rintro e w' ⟨rfl,hb'⟩
  have h2:=hd.trans (hb'.mono hd.size)
  have hC:=(hS.stays h2).cells hE
  have hB:=hA.stays rfl ((hS.stays h2).Pj hE)
  exact⟨rfl,h2,hC.b0,hC.p0,hC.c4,hB.c2,hB.c4⟩
 have Ku:Hid (∀w1,Below w.heap.size w w1->BS X w1 H nx):=fun w1 hb=>hS.stays hb
 have J9:=hide hA.code
 have HK:=hide hk
 have hC:=hS.cells hE
 have hB:=hA.stays rfl (hS.Pj hE)
 have b0:=hC.b0
 have p0:=hC.p0
 have c4:=hC.c4
 have s2:=hB.c2
 have s4:=hB.c4
 obtain⟨mi,mc,hm⟩:=hE.cls.aj.shape
 have hml:=hE.cls.aj.Fz
 rw[hm] at c4 HCF
 obtain⟨o2,p2,rfl⟩:=(uh J9).shape
 have hat:=hA.at_
 clear hS hA hC hB hm hk hE
 generalize Nk X.k s.code=cb at *
 have HAT:Hid (∃a,s.at_=a):=⟨_,rfl⟩
 by_cases h1:s.at_<0
 ·have e1:decide (s.at_<0)=true:=decide_eq_true h1
  rw[decide_eq_false (by omega),Bool.false_and]
  clear HCF h1
  go_enter Tryz.func139,Tryz.ntmps139
  go_wp2_with fail
  go_quiet ((fail))
  go_wp2
  go_ret
  exact D6.no (jw _ _) (uh Ku _ (jw _ _))
 have e1:decide (s.at_<0)=false:=decide_eq_false h1
 by_cases h2:(X.k.aj.length:Int)<=s.at_
 ·have e2:decide ((X.k.aj.length:Int)<=s.at_)=true:=decide_eq_true h2
  rw[decide_eq_false (by omega),Bool.false_and]
  clear HCF h1 h2
  go_enter Tryz.func139,Tryz.ntmps139
  go_wp2_with fail
  go_quiet ((fail))
  go_wp2
  go_ret
  exact D6.no (jw _ _) (uh Ku _ (jw _ _))
 have e2:decide ((X.k.aj.length:Int)<=s.at_)=false:=decide_eq_false h2
 rw[decide_eq_true (⟨by omega,by omega⟩:0<=s.at_∧s.at_<(X.k.aj.length:Int)),Bool.true_and]
 clear h1 h2
 cases cb
 ·go_enter Tryz.func139,Tryz.ntmps139
  go_wp2_with fail
  go_region_held3 (fun w'=>w'.cell? ⟨X.bb,0,none⟩=some (.pointer (some ⟨X.pb,0,none⟩))∧w'.cell? ⟨X.pb,0,none⟩=some (.pointer (some ⟨X.cb,X.co,none⟩))∧w'.cell? ⟨X.cb,X.co+4,none⟩=some (.slice mi X.k.aj.length mc)∧w'.cell? ⟨sb,so+2,none⟩=some (.int .i64 s.at_)∧w'.cell? ⟨sb,so+4,none⟩=some (.slice o2 s.code.length p2)) (go_keep) (first|(go_at_call 144;refine(uh HCF).mono ?_;rintro e w2 ⟨rfl,HB2,u0,u1,u2,u3,u4⟩))
  go_wp2
  go_ret
  exact D6.no (uh HB2) (uh Ku _ (uh HB2))
 ·go_enter Tryz.func139,Tryz.ntmps139
  go_wp2_with fail
  go_region_held3 (fun w'=>w'.cell? ⟨X.bb,0,none⟩=some (.pointer (some ⟨X.pb,0,none⟩))∧w'.cell? ⟨X.pb,0,none⟩=some (.pointer (some ⟨X.cb,X.co,none⟩))∧w'.cell? ⟨X.cb,X.co+4,none⟩=some (.slice mi X.k.aj.length mc)∧w'.cell? ⟨sb,so+2,none⟩=some (.int .i64 s.at_)∧w'.cell? ⟨sb,so+4,none⟩=some (.slice o2 s.code.length p2)) (go_keep) (first|(go_at_call 144;refine(uh HCF).mono ?_;rintro e w2 ⟨rfl,HB2,u0,u1,u2,u3,u4⟩))
  go_wp2_with fail
  go_region
  go_wp2
  go_ret
  have hb:=((uh HB2).drew).alloc (uh HB2).size (.cells #[.int .i64 1,.int .i64 s.at_,.slice o2 s.code.length p2] 198)
  exact⟨(fun _=>⟨(196,w2.heap.size),rfl,⟨(uh HB2).size,(jl w2.drew _ _).lt⟩,Or.inr (Or.inl ⟨uh HK,rfl,_,jl _ _ _,uh J9⟩)⟩),(fun h=>by cases h),But.of_below hb,uh Ku _ hb⟩
def GS (X:BD) (w:World) (nx:Nat):Prop:=∃gv:List Int,gv.length=(varsOf X.k).length∧(∀x,x∈gv->0<=x∧x<nx)∧au w X.gb 3 (gv.map (Value.int .i64)).toArray
def Uz (k:ak) (outs:List ByteArray) (nx:Nat) (i:Nat) (gv:List Int):Prop:=gv.length=(varsOf k).length∧∀q (h:q<gv.length),(0<=gv[q]∧gv[q]<=nx)∧(gv[q]=nx↔∃j,∃hj:j<outs.length,j<i∧iy (varsOf k) outs[j]=(q:Int))
theorem Uz.zero {k:ak} {outs:List ByteArray} {nx:Nat} {gv:List Int} (h1:gv.length=(varsOf k).length) (h2:∀x,x∈gv->0<=x∧x<nx):Uz k outs nx 0 gv:=by
 refine⟨h1,fun q h=>?_⟩
 have:=h2 _ (List.getElem_mem h)
 refine⟨by omega,?_⟩
 constructor
 ·intro e;omega
 ·rintro⟨j,_,hj,_⟩;omega
theorem Uz.next {k:ak} {outs:List ByteArray} {nx:Nat} {i p:Nat} {gv:List Int} (h:Uz k outs nx i gv) (hi:i<outs.length) (hp:iy (varsOf k) outs[i]=(p:Int)) (hn:p<(varsOf k).length):Uz k outs nx (i+1) (gv.set p nx):=by
 obtain⟨h1,h2⟩:=h
 refine⟨by rw[List.length_set];exact h1,fun q hq=>?_⟩
 rw[List.length_set] at hq
 rw[List.getElem_set]
 obtain⟨a,b⟩:=h2 q hq
 by_cases e:p=q
 ·rw[if_pos e]
  exact⟨by omega,fun _=>⟨i,hi,by omega,by rw[hp,e]⟩,fun _=>rfl⟩
 ·rw[if_neg e]
  refine⟨a,b.trans ?_⟩
  constructor
  ·rintro⟨j,hj,hji,hh⟩;exact⟨j,hj,by omega,hh⟩
  ·rintro⟨j,hj,hji,hh⟩
   refine⟨j,hj,?_,hh⟩
   by_cases ej:j=i
   ·subst ej;rw[hp] at hh;omega
   ·omega
theorem Uz.bound {k:ak} {outs:List ByteArray} {nx:Nat} {i:Nat} {gv:List Int} (h:Uz k outs nx i gv):∀x,x∈gv->0<=x∧x<=nx:=fun x hx=>by
 obtain⟨q,hq,rfl⟩:=List.getElem_of_mem hx
 exact(h.2 q hq).1
theorem Uz.dup {k:ak} {outs:List ByteArray} {nx:Nat} {i p:Nat} {gv:List Int} (h:Uz k outs nx i gv) (hi:i<outs.length) (hp:iy (varsOf k) outs[i]=(p:Int)) (hq:p<gv.length):(gv[p] == (nx:Int))=adv k outs i:=by
 rw[Bool.eq_iff_iff,beq_iff_eq,(h.2 p hq).2]
 unfold adv
 rw[List.getElem?_eq_getElem hi]
 simp only
 rw[List.any_eq_true]
 constructor
 ·rintro⟨j,hj,hji,e⟩
  refine⟨j,List.mem_range.2 hji,?_⟩
  rw[List.getElem?_eq_getElem hj]
  simp only[beq_iff_eq]
  rw[e,hp]
 ·rintro⟨j,hj,e⟩
  rw[List.mem_range] at hj
  rw[List.getElem?_eq_getElem (by omega)] at e
  simp only[beq_iff_eq] at e
  exact⟨j,by omega,hj,by rw[e,hp]⟩
theorem a1b (gv:List Int) (p:Nat) (v:Int):(gv.map (Value.int .i64)).toArray.setIfInBounds p (.int .i64 v)=((gv.set p v).map (Value.int .i64)).toArray:=by
 simp[List.map_set]
theorem afz {w:World} {g:Nat} {e:TypeId} {gv:List Int} (h:au w g e (gv.map (Value.int .i64)).toArray) (p:Nat) (hp:p<gv.length):w.cell? ⟨g,p,none⟩=some (.int .i64 gv[p]) :=
 h.cell (i:=p) (v:=.int .i64 gv[p]) (by simp[hp])
def aak (k:ak) (outs:List ByteArray) (i:Nat) (cs:Array Value):Prop:=cs.size=outs.length∧∀j (hj:j<outs.length),j<i->cs[j]?=some (.int .i64 (iy (varsOf k) outs[j]))
theorem aak.next {k:ak} {outs:List ByteArray} {i:Nat} {cs:Array Value} (h:aak k outs i cs) (hi:i<outs.length) {v:Int} (hv:iy (varsOf k) outs[i]=v):aak k outs (i+1) (cs.setIfInBounds i (.int .i64 v)):=by
 refine⟨by rw[Array.size_setIfInBounds];exact h.1,fun j hj hji=>?_⟩
 rw[Array.getElem?_setIfInBounds]
 by_cases e:i=j
 ·subst e
  rw[if_pos rfl,if_pos (by rw[h.1];exact hi),hv]
 ·rw[if_neg e]
  exact h.2 j hj (by omega)
theorem aak.at {k:ak} {outs:List ByteArray} {cs:Array Value} {w:World} {g:Nat} {e:TypeId} (h:aak k outs outs.length cs) (hb:au w g e cs) (hn:outs.length<=1000) (hv:(varsOf k).length<=1000):bf 1 8 yu 0 w (.slice (some ⟨g,0,none⟩) outs.length outs.length) (outs.map (iy (varsOf k))):=by
 refine⟨some ⟨g,0,none⟩,outs.length,by rw[List.length_map],⟨by rw[List.length_map];unfold Len;omega,by rw[List.length_map];omega⟩,by rw[List.length_map];unfold Len;omega,fun i hi=>?_⟩
 rw[List.length_map] at hi
 refine⟨g,0,[.int .i64 (iy (varsOf k) outs[i])],rfl,Nat.zero_le _,hb.lt,rfl,fun j hj=>?_,?_⟩
 ·have:j=0:=by simpa using hj
  subst this
  simp only[Nat.mul_one,Nat.add_zero,Nat.zero_add,List.getElem_cons_zero]
  exact hb.cell (h.2 i hi hi)
 ·rw[List.getElem_map]
  have:=O6 (varsOf k) outs[i]
  exact⟨rfl,by unfold I64;omega⟩
theorem BS.but {X:BD} (hE:BE X) {w w':World} {H:List ByteArray} {nx:Nat} (h:BS X w H nx) (hb:But [X.gb] w w') {gv:List Int} (g1:gv.length=(varsOf X.k).length) (g2:∀x,x∈gv->0<=x∧x<=nx) (g3:au w' X.gb 3 (gv.map (Value.int .i64)).toArray):BS X w' H nx :=
 ⟨h.old.trans (hb.below _ h.old.size (fun q hq=>by rw[List.mem_singleton] at hq;subst hq;exact hE.ng.1)),Nat.le_trans h.lo hb.size,h.nxl,hb.blk h.bl (by simpa using hE.bg),hb.blk h.hl (by simpa using hE.hg),gv,g1,g2,g3⟩
theorem GS.stays {X:BD} {w w':World} {nx:Nat} (h:GS X w nx) (hb:Below w.heap.size w w'):GS X w' nx:=by
 obtain⟨gv,a,b,c⟩:=h
 exact⟨gv,a,b,c.below hb c.lt⟩
theorem D6.no' {X:BD} {H:List ByteArray} {nx:Nat} {w w':World} {s:dh} (hb:But [X.gb] w w') (hs:BS X w' H nx):D6 X H nx w s false (.returned .nilIface) w':=⟨(fun h=>by cases h),(fun _=>rfl),hb,hs⟩
theorem But.a1c {S:List Nat} {a w:World} (h:But S a w) {p:Addr} (hp:a.heap.size<=p.block) (u:Value):But S a (w.setCell p u) :=
 ⟨h.os,h.tape,h.output,by simpa[World.setCell] using h.size,fun k hk hn=>by rw[Below.heap_setCell _ _ _ _ (by omega)];exact h.block k hk hn⟩
theorem But.Vu {S:List Nat} {a w:World} (h:But S a w) {p:Addr} (hp:p.block∈S) (u:Value):But S a (w.setCell p u):=h.trans (But.setCell w hp u)
theorem au.other {w:World} {g:Nat} {e:TypeId} {cs:Array Value} (h:au w g e cs) {p:Addr} (hp:g≠p.block) (u:Value):au (w.setCell p u) g e cs:=(Below.heap_setCell _ _ _ _ hp).trans h
theorem axi (X:BD) (hE:BE X) (args:List (List iw)) (v:Value) (hv:bf 1 24 vw 0 X.W0 v args) (w:World) (hb:Below X.W0.heap.size X.W0 w) :
  Calls Tryz.prog 145 #[v,.func (.func 144) #[.pointer (some ⟨X.pb,0,none⟩)] #[]] w (Ans (.bool (args.all (Nk X.k))) w):=by
 have HQ:(List.range args.length).all (fun j=>match args[j]? with|some c=>Nk X.k c|none=>false)=args.all (Nk X.k):=abw _ _ _ (fun j hj=>by rw[List.getElem?_eq_getElem hj])
 refine(aov X.pb (fun _ wr=>Below w.heap.size w wr) (fun wr=>Below w.heap.size w wr) (fun j=>match args[j]? with|some c=>Nk X.k c|none=>false) args _ w ?_ ?_ ?_ (Below.refl _ _)).mono ?_
 ·intro _ wr h
  exact hv.stays xq (hb.trans (h.mono hb.size))
 ·intro _ w1 w2 h1 h2
  exact h1.trans (h2.mono h1.size)
 ·intro j hj cs wr h hR
  obtain⟨c,rfl,hc⟩:=hR
  refine(Yh X.k args[j] c X.pb X.mb X.cb X.co wr (hE.pr.stays (hb.trans (h.mono hb.size))) hc).mono ?_
  rintro e w' ⟨rfl,hb'⟩
  rw[List.getElem?_eq_getElem hj]
  have hb2:=h.trans (hb'.mono h.size)
  exact⟨rfl,(fun _=>hb2),fun _=>hb2⟩
 ·rintro e w' ⟨rfl,h1,h2⟩
  rw[HQ] at h1 h2 ⊢
  refine⟨rfl,?_⟩
  cases hh:args.all (Nk X.k)
  ·exact h2 hh
  ·exact h1 hh
theorem auw (ks:List ak) (k:ak) (H:List ByteArray) (s:dh) (h:s.at_<0∨(k.insts.length:Int)<=s.at_):Q8 ks k H s=false:=by unfold Q8;rw[if_pos h]
theorem auy (ks:List ak) (k:ak) (H:List ByteArray) (s:dh) (j gi:Nat) (g:ak) (hj:j<k.insts.length) (ha:s.at_=(j:Int)) (hgi:k.insts[j]=(gi:Int)) (hg:ks[gi]?=some g) :
  Q8 ks k H s=(decide (s.outs.length=g.outs.length∧s.args.length=g.ins.length)&&s.args.all (Nk k)&&(List.range s.outs.length).all (U0 k H s.outs)):=by
 have e:(k.insts.getD s.at_.toNat 0).toNat=gi:=by
  rw[ha,Int.toNat_natCast,List.getD_eq_getElem?_getD,List.getElem?_eq_getElem hj,Option.getD_some,hgi,Int.toNat_natCast]
 unfold Q8
 rw[if_neg (by rw[ha];omega),e,hg]
def U9 (_:Nat) (_:World) (cs:List Value) (x:TypeId × Nat):Prop:=cs=[.iface x.1 (.pointer (some ⟨x.2,0,none⟩))]
theorem adt:Fj U9:=fun _ _ _ _ _ _ h=>h
def jg (X:BD) (P:Nat->Prop) (w:World):PL->List (TypeId × Nat)->Prop
 | ⟨none⟩,ns=>ns=[]
 | ⟨some (s, r, none)⟩,ns=>∃x ns',ns=x::ns'∧P x.2∧Ur X P w x s∧jg X P w r ns'
 | ⟨some (s, r, some (_, a, _, b))⟩,ns=>∃x ns' fv sv na nb,ns=x::ns'∧P x.2∧x.1=204∧au w x.2 206 #[.int .i64 (1+maxS (a.cost (lg X.k.insts X.known) 0) (b.cost (lg X.k.insts X.known) 0)),.int .i64 (iy (varsOf X.k) s.name),fv,sv]∧(bf 1 16 U9 0 w fv na∧∀b,fv.ownBlock=some b->P b)∧jg X P w a na∧(bf 1 16 U9 0 w sv nb∧∀b,sv.ownBlock=some b->P b)∧jg X P w b nb∧jg X P w r ns'
theorem Px:∀(w w':World) (cs:List Value) (x:TypeId × Nat),U9 0 w cs x->U9 0 w' cs x:=fun _ _ _ _ h=>h
theorem jg.o8 {X:BD} {P:Nat->Prop} {w w':World} (hk:Ae P w w'):∀(t:PL) (ns:List (TypeId × Nat)),jg X P w t ns->jg X P w' t ns:=by
 intro t
 induction t using PL.ind with
 | nil=>intro ns h;exact h
 | leaf s r ih =>
  rintro ns ⟨x,ns',h1,h2,h3,h4⟩
  exact⟨x,ns',h1,h2,h3.o8 h2 hk,ih _ h4⟩
 | br s a el b en r iha ihb ihr =>
  rintro ns ⟨x,ns',fv,sv,na,nb,h1,h2,h3,h4,⟨h5,g5⟩,h6,⟨h7,g7⟩,h8,h9⟩
  exact⟨x,ns',fv,sv,na,nb,h1,h2,h3,h4.o8 hk h2,⟨h5.o8 Px hk g5,g5⟩,iha _ h6,⟨h7.o8 Px hk g7,g7⟩,ihb _ h8,ihr _ h9⟩
theorem jg.mono {X:BD} {P Q:Nat->Prop} {w:World} (hq:∀b,P b->Q b):∀(t:PL) (ns:List (TypeId × Nat)),jg X P w t ns->jg X Q w t ns:=by
 intro t
 induction t using PL.ind with
 | nil=>intro ns h;exact h
 | leaf s r ih =>
  rintro ns ⟨x,ns',h1,h2,h3,h4⟩
  exact⟨x,ns',h1,hq _ h2,h3.mono hq,ih _ h4⟩
 | br s a el b en r iha ihb ihr =>
  rintro ns ⟨x,ns',fv,sv,na,nb,h1,h2,h3,h4,⟨h5,g5⟩,h6,⟨h7,g7⟩,h8,h9⟩
  exact⟨x,ns',fv,sv,na,nb,h1,hq _ h2,h3,h4,⟨h5,fun b hb=>hq b (g5 b hb)⟩,iha _ h6,⟨h7,fun b hb=>hq b (g7 b hb)⟩,ihb _ h8,ihr _ h9⟩
def J7 (kn:dh->Int):PL->Int
 | ⟨none⟩=>0
 | ⟨some (s, _, none)⟩=>if s.kind=3 then 1+kn s else 1
 | ⟨some (_, _, some (_, a, _, b))⟩=>1+maxS (a.cost kn 0) (b.cost kn 0)
def aal:PL->PL
 | ⟨none⟩=>.nil
 | ⟨some (_, r, none)⟩=>r
 | ⟨some (_, r, some (_, _, _, _))⟩=>r
theorem aq2 (kn:dh->Int) (t:PL) (h:t≠.nil) (s:Int):t.cost kn s=(aal t).cost kn (Dn (s+J7 kn t)):=by
 cases t using PL.inv with
 | nil=>exact absurd rfl h
 | leaf _ _=>rfl
 | br _ _ _ _ _ _=>rfl
theorem jg.head {X:BD} {P:Nat->Prop} {w:World} {t:PL} {x:TypeId × Nat} {ns:List (TypeId × Nat)} (h:jg X P w t (x::ns)):t≠.nil∧jg X P w (aal t) ns∧w.cell? ⟨x.2,0,none⟩=some (.int .i64 (J7 (lg X.k.insts X.known) t))∧(x.1=191∨x.1=196∨x.1=200∨x.1=204):=by
 cases t using PL.inv with
 | nil=>cases h
 | leaf s r =>
  obtain⟨x',ns',h1,h2,h3,h4⟩:=h
  simp only[List.cons.injEq] at h1
  obtain⟨rfl,rfl⟩:=h1
  refine⟨by simp,h4,?_,?_⟩
  ·rcases h3 with ⟨a,b,cv,c,d⟩|⟨a,b,cv,c,d⟩|⟨a,b,ov,av,c,d⟩
   ·have:=c.cell (i:=0) (v:=.int .i64 1) rfl
    simp only[J7]
    rw[if_neg (by omega)]
    exact this
   ·have:=c.cell (i:=0) (v:=.int .i64 1) rfl
    simp only[J7]
    rw[if_neg (by omega)]
    exact this
   ·have:=c.cell (i:=0) (v:=.int .i64 (1+lg X.k.insts X.known s)) rfl
    simp only[J7]
    rw[if_pos a]
    exact this
  ·rcases h3 with ⟨a,b,_⟩|⟨a,b,_⟩|⟨a,b,_⟩
   ·exact Or.inl b
   ·exact Or.inr (Or.inl b)
   ·exact Or.inr (Or.inr (Or.inl b))
 | br s a el b en r =>
  obtain⟨x',ns',fv,sv,na,nb,h1,h2,h3,h4,h5,h6,h7,h8,h9⟩:=h
  simp only[List.cons.injEq] at h1
  obtain⟨rfl,rfl⟩:=h1
  exact⟨by simp,h9,h4.cell (i:=0) rfl,Or.inr (Or.inr (Or.inr h3))⟩
theorem jg.none {X:BD} {P:Nat->Prop} {w:World} {t:PL} (h:jg X P w t []):t=.nil:=by
 cases t using PL.inv with
 | nil=>rfl
 | leaf s r=>obtain⟨x,ns',h1,_⟩:=h;cases h1
 | br s a el b en r=>obtain⟨x,ns',fv,sv,na,nb,h1,_⟩:=h;cases h1
theorem Rq (kn:dh->Int) (hk:∀s,0<=kn s∧kn s<=400001) (t:PL):∀s:Int,0<=s->s<=400001->0<=t.cost kn s∧t.cost kn s<=400001:=by
 induction t using PL.ind with
 | nil=>intro s h1 h2;exact⟨h1,h2⟩
 | leaf st r ih =>
  intro s h1 h2
  have:=hk st
  have hc:=Ho (s+(if st.kind=3 then 1+kn st else 1)) (by split<;>omega)
  exact ih _ hc.1 hc.2
 | br st a el b en r iha ihb ihr =>
  intro s h1 h2
  have ha:=iha 0 (by omega) (by omega)
  have hb:=ihb 0 (by omega) (by omega)
  have hm:=aci _ _ _ ha hb
  have hc:=Ho (s+(1+maxS (a.cost kn 0) (b.cost kn 0))) (by omega)
  exact ihr _ hc.1 hc.2
theorem aq3 (kn:dh->Int) (hk:∀s,0<=kn s∧kn s<=400001) (t:PL):0<=J7 kn t∧J7 kn t<=400002:=by
 cases t using PL.inv with
 | nil=>simp[J7]
 | leaf st r =>
  have:=hk st
  simp only[J7]
  split<;>omega
 | br st a el b en r =>
  have ha:=Rq kn hk a 0 (by omega) (by omega)
  have hb:=Rq kn hk b 0 (by omega) (by omega)
  have hm:=aci _ _ _ ha hb
  simp only[J7]
  omega
theorem ajt (n nb : Nat) (ck : Int) (w : World) (h : w.cell? ⟨nb, 0, none⟩ = some (.int .i64 ck)) : (method (n + 1) 191 (.pointer (some ⟨nb, 0, none⟩)) "loop.example/s0043/impl.most").run Tryz.prog w = .ok (169, .agg #[.int .i64 ck]) w := by
 have h1 : ((Tryz.prog.info? 191).map fun i => (i.methods.find? (·.name == "loop.example/s0043/impl.most")).map fun m => (m.path, m.func)) = some (some (#[⟨195, 0, true⟩], some (169, false))) := by kernel_rfl
 obtain⟨i,hi,h2⟩:=Option.map_eq_some_iff.1 h1
 obtain⟨m,hm,h3⟩:=Option.map_eq_some_iff.1 h2
 simp only[Prod.mk.injEq] at h3
 obtain⟨hp,hf⟩:=h3
 unfold method
 simp[typeInfo,hi,hm,hp,hf,follow,Place.get,asAddr,fieldPlace,receiverAt,go_sem,h,Result.andThen]
theorem ak4 (n nb : Nat) (ck : Int) (w : World) (h : w.cell? ⟨nb, 0, none⟩ = some (.int .i64 ck)) : (method (n + 1) 196 (.pointer (some ⟨nb, 0, none⟩)) "loop.example/s0043/impl.most").run Tryz.prog w = .ok (169, .agg #[.int .i64 ck]) w := by
 have h1 : ((Tryz.prog.info? 196).map fun i => (i.methods.find? (·.name == "loop.example/s0043/impl.most")).map fun m => (m.path, m.func)) = some (some (#[⟨198, 0, true⟩], some (169, false))) := by kernel_rfl
 obtain⟨i,hi,h2⟩:=Option.map_eq_some_iff.1 h1
 obtain⟨m,hm,h3⟩:=Option.map_eq_some_iff.1 h2
 simp only[Prod.mk.injEq] at h3
 obtain⟨hp,hf⟩:=h3
 unfold method
 simp[typeInfo,hi,hm,hp,hf,follow,Place.get,asAddr,fieldPlace,receiverAt,go_sem,h,Result.andThen]
theorem aju (n nb : Nat) (ck : Int) (w : World) (h : w.cell? ⟨nb, 0, none⟩ = some (.int .i64 ck)) : (method (n + 1) 200 (.pointer (some ⟨nb, 0, none⟩)) "loop.example/s0043/impl.most").run Tryz.prog w = .ok (169, .agg #[.int .i64 ck]) w := by
 have h1 : ((Tryz.prog.info? 200).map fun i => (i.methods.find? (·.name == "loop.example/s0043/impl.most")).map fun m => (m.path, m.func)) = some (some (#[⟨202, 0, true⟩], some (169, false))) := by kernel_rfl
 obtain⟨i,hi,h2⟩:=Option.map_eq_some_iff.1 h1
 obtain⟨m,hm,h3⟩:=Option.map_eq_some_iff.1 h2
 simp only[Prod.mk.injEq] at h3
 obtain⟨hp,hf⟩:=h3
 unfold method
 simp[typeInfo,hi,hm,hp,hf,follow,Place.get,asAddr,fieldPlace,receiverAt,go_sem,h,Result.andThen]
theorem af0 (n nb : Nat) (ck : Int) (w : World) (h : w.cell? ⟨nb, 0, none⟩ = some (.int .i64 ck)) : (method (n + 1) 204 (.pointer (some ⟨nb, 0, none⟩)) "loop.example/s0043/impl.most").run Tryz.prog w = .ok (169, .agg #[.int .i64 ck]) w := by
 have h1 : ((Tryz.prog.info? 204).map fun i => (i.methods.find? (·.name == "loop.example/s0043/impl.most")).map fun m => (m.path, m.func)) = some (some (#[⟨206, 0, true⟩], some (169, false))) := by kernel_rfl
 obtain⟨i,hi,h2⟩:=Option.map_eq_some_iff.1 h1
 obtain⟨m,hm,h3⟩:=Option.map_eq_some_iff.1 h2
 simp only[Prod.mk.injEq] at h3
 obtain⟨hp,hf⟩:=h3
 unfold method
 simp[typeInfo,hi,hm,hp,hf,follow,Place.get,asAddr,fieldPlace,receiverAt,go_sem,h,Result.andThen]
theorem acn (x:Int) (h:x<=400001):Dn x=x:=by unfold Dn;split<;>omega
theorem aco (x:Int) (h:400001<x):Dn x=400001:=by unfold Dn;rw[if_pos (by omega)]
set_option maxHeartbeats 2000000 in
theorem X9 (X:BD) (P:Nat->Prop) (lo:Nat) (t:PL) (v:Value) (nodes:List (TypeId × Nat)) (w:World) (hv:bf 1 16 U9 lo w v nodes) (hN:jg X P w t nodes) (hk:∀s,0<=lg X.k.insts X.known s∧lg X.k.insts X.known s<=400001) :
  Calls Tryz.prog 113 #[v] w (Ans (.int .i64 (t.cost (lg X.k.insts X.known) 0)) w):=by
 obtain⟨a,cap,rfl,_,hn,hx⟩:=hv
 unfold Len at hn
 have HX:=hide hx
 have HN:=hide hN
 have HK:=hide hk
 generalize hkn:lg X.k.insts X.known=kn at *
 have HKN:=hide hkn
 clear hx hN hk hkn
 go_enter Tryz.func113,Tryz.ntmps113
 go_wp2
 go_loopg [3,8] nodes.length (fun g sv i wr=>∃(k:Nat) (tk:PL) (sum:Int),k<=nodes.length∧g=nodes.length-k∧i=.int .i64 k∧sv=.int .i64 sum∧0<=sum∧sum<=400001∧t.cost kn 0=tk.cost kn sum∧jg X P w tk (nodes.drop k)∧Below w.heap.size w wr)
 case atStart=>exact⟨0,t,0,Nat.zero_le _,by omega,rfl,rfl,by omega,by omega,rfl,by simpa using uh HN,Below.refl _ _⟩
 case round =>
  obtain⟨k,tk,sum,hk,hg,rfl,rfl,hs0,hs1,awh,hnk,hbl⟩:=hrel
  have HG:=hide hg
  have HC:=hide awh
  have HNK:=hide hnk
  have qx:=hide hbl
  clear hg awh hnk
  by_cases hlt:k<nodes.length
  ·obtain⟨b,o,cs,rfl,_,hb,hcs,hc,rfl⟩:=uh HX k hlt
   have c0:=(hbl.cell (p:=⟨b,_,none⟩) hb).trans (hc 0 (by simp))
   simp only[Nat.mul_one,Nat.add_zero,List.getElem_cons_zero] at c0
   have hd:nodes.drop k=nodes[k]::nodes.drop (k+1):=List.drop_eq_getElem_cons hlt
   have hh:=uh HNK
   rw[hd] at hh
   obtain⟨h1,h2,h3,h4⟩:=hh.head
   have h3':=(hbl.cell (p:=⟨nodes[k].2,0,none⟩) (World.block_lt_of_cell? w _ h3)).trans h3
   have hcb:=aq3 kn (uh HK) tk
   rw[uh HKN] at h3'
   have HN2:=hide h2
   have HC2:Hid (t.cost kn 0=(aal tk).cost kn (Dn (sum+J7 kn tk))):=(uh HC).trans (aq2 kn tk h1 sum)
   clear hd hh h1 h2 h3 hc hcs hbl
   generalize nodes[k].1=ty at *
   generalize nodes[k].2=nb at *
   generalize J7 kn tk=ck at *
   rcases h4 with rfl|rfl|rfl|rfl
   ·have hm:=fun n=>ajt n nb ck wr h3'
    go_wp2
    all_goals
     go_roundg (nodes.length-(k+1))
     case measure=>have:=uh HG;omega
     case rel=>exact⟨k+1,aal tk,Dn (sum+ck),by omega,rfl,by go_num,(by first|rw[acn _ (by omega)]|rw[aco _ (by omega)]),(Ho _ (by omega)).1,(Ho _ (by omega)).2,uh HC2,uh HN2,(uh qx).alloc (uh qx).size _⟩
   ·have hm:=fun n=>ak4 n nb ck wr h3'
    go_wp2
    all_goals
     go_roundg (nodes.length-(k+1))
     case measure=>have:=uh HG;omega
     case rel=>exact⟨k+1,aal tk,Dn (sum+ck),by omega,rfl,by go_num,(by first|rw[acn _ (by omega)]|rw[aco _ (by omega)]),(Ho _ (by omega)).1,(Ho _ (by omega)).2,uh HC2,uh HN2,(uh qx).alloc (uh qx).size _⟩
   ·have hm:=fun n=>aju n nb ck wr h3'
    go_wp2
    all_goals
     go_roundg (nodes.length-(k+1))
     case measure=>have:=uh HG;omega
     case rel=>exact⟨k+1,aal tk,Dn (sum+ck),by omega,rfl,by go_num,(by first|rw[acn _ (by omega)]|rw[aco _ (by omega)]),(Ho _ (by omega)).1,(Ho _ (by omega)).2,uh HC2,uh HN2,(uh qx).alloc (uh qx).size _⟩
   ·have hm:=fun n=>af0 n nb ck wr h3'
    go_wp2
    all_goals
     go_roundg (nodes.length-(k+1))
     case measure=>have:=uh HG;omega
     case rel=>exact⟨k+1,aal tk,Dn (sum+ck),by omega,rfl,by go_num,(by first|rw[acn _ (by omega)]|rw[aco _ (by omega)]),(Ho _ (by omega)).1,(Ho _ (by omega)).2,uh HC2,uh HN2,(uh qx).alloc (uh qx).size _⟩
  ·have e:k=nodes.length:=by omega
   subst e
   have hh:=uh HNK
   rw[List.drop_length] at hh
   have ht:=hh.none
   subst ht
   have HF:Hid (t.cost kn 0=sum):=uh HC
   clear HC hh
   go_wp2
   go_ret
   exact⟨Nq (uh HF).symm,uh qx⟩
end Go.Proofs.YtlcgnbcgmljpaaaGreat
