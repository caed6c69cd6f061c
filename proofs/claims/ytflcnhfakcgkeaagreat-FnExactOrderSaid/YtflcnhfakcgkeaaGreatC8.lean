import Derived.Test.YtflcnhfakcgkeaaGreatC7
import Derived.Deep.RegionHeld3
namespace Go.Proofs.YtflcnhfakcgkeaaGreat
open Go.RowKit
set_option linter.unusedSimpArgs false
set_option linter.unusedVariables false
theorem uz {P:Program} {ops:Array Oper} {Q:Exit->Act->World->Prop} {md:Region.Mode} {S:World->Prop} {i:Nat} {d:Tmp} {oi:Oper} {v:Value} {fuel:Nat} {listed:Array Bool} {a:Act} {w:World} (hi:ops[i]?=some oi) (hd:oi.dst=some d)
  (hs:Region.noSelect ops=true) (hf:Region.free md ops listed i=true) (hr:(Region.ready md ops listed).contains i=true) (hQ:∀c a w,Q (.panic c) (a.put (some d) v) w->Q (.panic c) a w) (hy:YieldsIf P ops S oi v a) (hS:S w)
  (h:wpAnyH P md ops Q S fuel (listed.setIfInBounds i true) (a.put (some d) v) w):wpAnyH P md ops Q S (fuel+1) listed a w :=
 wpAnyH_take hi hs hf hr (by rw[hd];exact hQ) hy hS (by rw[hd];exact h)
set_option maxRecDepth 20000 in
set_option maxHeartbeats 8000000 in
theorem aho (x:ay) (b1 b2 b3 b4:Option Addr) (c1 c2 c3 n4 c4:Nat) (hsum:x.ins.length+x.outs.length+x.vars.length<=1048576) (code:List eu) (v:Value) (hit:∀t,t∈code->Ir t=true) (hl:code.length<=3000) (l b:Nat) (gg:Ctx)
  (hfd:Fd (l9 (aj x)) code b (l+1) [gg]) (w:World) (hni:Iu x b1 b2 b3 c1 c2 c3 w) (hv:bf 3 32 jw 0 w v code) (ks:List cu) (kv:Value) (hk:bf 2 24 jm 0 w kv ks) (hkl:ks.length<=8) (hlt0:l<code.length) (ho:code[l].op=24)
  (ih:∀m,m<l+1->∀(b0:Nat) (g:Ctx),Fd (l9 (aj x)) code b0 m [g]->∀w1 qm Ag,Iu x b1 b2 b3 c1 c2 c3 w1->bf 3 32 jw 0 w1 v code->bf 2 24 jm 0 w1 Ag qm->qm.length<=8->Calls Tryz.prog 97 #[.agg #[.string x.name,.slice b1 x.ins.length c1,.slice b2 x.outs.length c2,.slice b3 x.vars.length c3,.slice b4 n4 c4],v,.int .i64 (m:Int),Ag] w1 (Ans (.bool (g qm)) w1)) :
  Calls Tryz.prog 97 #[.agg #[.string x.name,.slice b1 x.ins.length c1,.slice b2 x.outs.length c2,.slice b3 x.vars.length c3,.slice b4 n4 c4],v,.int .i64 ((l:Int)+1),kv] w (Ans (.bool (gg ks)) w):=by
 have har:∀t,t∈code->0<=Bo t.op:=fun t ht=>(Mc t.op).2 (by have:=((zo t).1 (hit t ht)).1;omega)
 obtain⟨hlt,us,hus,pz,hty⟩:=hfd.last
 obtain⟨hi0,hir,hin⟩:=(zo code[l]).1 (hit _ (List.getElem_mem hlt))
 have HV:=hide hv
 have zl:=hide hni
 have HK:=hide hk
 obtain⟨ak,ck,rfl⟩:=hk.shape
 have hx:=hv
 obtain⟨a,cap,rfl,_,hn,hx⟩:=hx
 unfold Len at hn
 obtain⟨bb,oo,cs,rfl,_,hbb,hcs,hc,hR⟩:=hx l hlt
 obtain⟨rfl,hsn,hop,hvl⟩:=hR
 have q0:=hc 0 (by simp)
 have q1:=hc 1 (by simp)
 have q2:=hc 2 (by simp)
 simp only[Nat.mul_one,Nat.add_zero,List.getElem_cons_zero,List.getElem_cons_succ] at q0 q1 q2
 have Ld:∀w1,Calls Tryz.prog 72 #[.int .i64 code[l].op] w1 fun e w'=>e=.returned (.int .i64 (us.length:Int))∧w'=w1:=by
  intro w1
  have h1:=Ew code[l].op w1 (by unfold I64;omega)
  have h2:=Qr _ (har _ (List.getElem_mem hlt))
  have h3:=har _ (List.getElem_mem hlt)
  have h4:(us.length:Int)=Bo code[l].op:=by rw[pz];unfold Af;rw[h2];omega
  rw[h4]
  exact h1
 have hu3:us.length<=3:=by rw[pz];unfold Af;have:=Gh code[l].op;omega
 clear hx hc hcs hin hir hi0 hop hvl
 generalize code[l]=it at q0 q1 q2 hty pz Ld hsn ho
 obtain⟨op,vl,nm⟩:=it
 simp only at q0 q1 q2 pz Ld hsn ho
 have Vq:gg=l9 (aj x) ⟨op,vl,nm⟩ us:=hty
 have hu2:us.length=2:=by rw[pz,ho];decide
 obtain⟨g0,g1,rfl⟩:∃g0 g1,us=[g0,g1]:=by
  match us,hu2 with
  | [g0,g1],_=>exact⟨g0,g1,rfl⟩
 have hG0:gg ks=((qj (jv (aj x) nm) ks&&decide (ks.length<8))&&(g0 (ks++[⟨nm,true⟩])&&g1 (ks++[⟨nm,false⟩]))):=by
  rw[Vq]
  unfold l9
  rw[if_neg (by simp only;omega),if_neg (by simp only;omega),if_neg (by simp only;omega),if_pos ho]
  rfl
 have HG:=hide hG0
 clear hG0
 obtain⟨m1,s1,s2,hss,hs2,d0,d1⟩:=hus.split 1 (by simp)
 obtain⟨rfl,rfl⟩:s1=[g0]∧s2=[g1]:=by
  match s2,hs2 with
  | [z],_ =>
   match s1 with
   | []=>simp at hss
   | [y]=>simp at hss;exact⟨by rw[hss.1],by rw[hss.2]⟩
   | _::_::_=>simp at hss
 have HD0:=hide d0
 have HD1:=hide d1
 have hm1:=d1.le
 clear hu2 hss hs2 d0 d1
 clear Vq hty
 have La:=hide Ld
 have Zn:=hide hsn
 have hA:Below w.heap.size w ((w.alloc (.cells #[.string x.name,.slice b1 x.ins.length c1,.slice b2 x.outs.length c2,.slice b3 x.vars.length c3,.slice b4 n4 c4] 42)).alloc (.cells #[.int .i64 op,.int .i64 vl,.string nm] 97)):=((Below.refl _ _).alloc (Nat.le_refl _) _).alloc (by simp) _
 have HA:=hide hA
 have Je:Hid (((w.alloc (.cells #[.string x.name,.slice b1 x.ins.length c1,.slice b2 x.outs.length c2,.slice b3 x.vars.length c3,.slice b4 n4 c4] 42)).alloc (.cells #[.int .i64 op,.int .i64 vl,.string nm] 97)).heap.size=w.heap.size+2):=by
  show ((w.alloc (.cells #[.string x.name,.slice b1 x.ins.length c1,.slice b2 x.outs.length c2,.slice b3 x.vars.length c3,.slice b4 n4 c4] 42)).alloc (.cells #[.int .i64 op,.int .i64 vl,.string nm] 97)).heap.size=w.heap.size+2
  simp
 have HB0:Hid (Below (w.heap.size+2) ((w.alloc (.cells #[.string x.name,.slice b1 x.ins.length c1,.slice b2 x.outs.length c2,.slice b3 x.vars.length c3,.slice b4 n4 c4] 42)).alloc (.cells #[.int .i64 op,.int .i64 vl,.string nm] 97)) ((w.alloc (.cells #[.string x.name,.slice b1 x.ins.length c1,.slice b2 x.outs.length c2,.slice b3 x.vars.length c3,.slice b4 n4 c4] 42)).alloc (.cells #[.int .i64 op,.int .i64 vl,.string nm] 97))):=Below.refl _ _
 have o8:Hid (∀w1,Below (w.heap.size+2) ((w.alloc (.cells #[.string x.name,.slice b1 x.ins.length c1,.slice b2 x.outs.length c2,.slice b3 x.vars.length c3,.slice b4 n4 c4] 42)).alloc (.cells #[.int .i64 op,.int .i64 vl,.string nm] 97)) w1->Below w.heap.size w w1):=fun w1 h=>(uh HA).trans (h.mono (by omega))
 have Ou:Hid (∀w1 w2,Below (w.heap.size+2) ((w.alloc (.cells #[.string x.name,.slice b1 x.ins.length c1,.slice b2 x.outs.length c2,.slice b3 x.vars.length c3,.slice b4 n4 c4] 42)).alloc (.cells #[.int .i64 op,.int .i64 vl,.string nm] 97)) w1->Below w1.heap.size w1 w2->Below (w.heap.size+2) ((w.alloc (.cells #[.string x.name,.slice b1 x.ins.length c1,.slice b2 x.outs.length c2,.slice b3 x.vars.length c3,.slice b4 n4 c4] 42)).alloc (.cells #[.int .i64 op,.int .i64 vl,.string nm] 97)) w2):=fun w1 w2 h1 h2=>h1.trans (h2.mono (by have:=h1.size;rw[uh Je] at this;exact this))
 have hBN:dh ((w.alloc (.cells #[.string x.name,.slice b1 x.ins.length c1,.slice b2 x.outs.length c2,.slice b3 x.vars.length c3,.slice b4 n4 c4] 42)).alloc (.cells #[.int .i64 op,.int .i64 vl,.string nm] 97)) w.heap.size 42 #[.string x.name,.slice b1 x.ins.length c1,.slice b2 x.outs.length c2,.slice b3 x.vars.length c3,.slice b4 n4 c4]:=(jd w #[.string x.name,.slice b1 x.ins.length c1,.slice b2 x.outs.length c2,.slice b3 x.vars.length c3,.slice b4 n4 c4] 42).below ((Below.refl _ _).alloc (Nat.le_refl _) _) (by simp)
 have hBI:dh ((w.alloc (.cells #[.string x.name,.slice b1 x.ins.length c1,.slice b2 x.outs.length c2,.slice b3 x.vars.length c3,.slice b4 n4 c4] 42)).alloc (.cells #[.int .i64 op,.int .i64 vl,.string nm] 97)) (w.heap.size+1) 97 #[.int .i64 op,.int .i64 vl,.string nm]:=by
  have:=jd (w.alloc (.cells #[.string x.name,.slice b1 x.ins.length c1,.slice b2 x.outs.length c2,.slice b3 x.vars.length c3,.slice b4 n4 c4] 42)) #[.int .i64 op,.int .i64 vl,.string nm] 97
  rwa[show (w.alloc (.cells #[.string x.name,.slice b1 x.ins.length c1,.slice b2 x.outs.length c2,.slice b3 x.vars.length c3,.slice b4 n4 c4] 42)).heap.size=w.heap.size+1 from by simp] at this
 have Cj:Hid (∀w1,Below (w.heap.size+2) ((w.alloc (.cells #[.string x.name,.slice b1 x.ins.length c1,.slice b2 x.outs.length c2,.slice b3 x.vars.length c3,.slice b4 n4 c4] 42)).alloc (.cells #[.int .i64 op,.int .i64 vl,.string nm] 97)) w1->dh w1 w.heap.size 42 #[.string x.name,.slice b1 x.ins.length c1,.slice b2 x.outs.length c2,.slice b3 x.vars.length c3,.slice b4 n4 c4]):=fun w1 h=>hBN.below h (by omega)
 have Md:Hid (∀w1,Below (w.heap.size+2) ((w.alloc (.cells #[.string x.name,.slice b1 x.ins.length c1,.slice b2 x.outs.length c2,.slice b3 x.vars.length c3,.slice b4 n4 c4] 42)).alloc (.cells #[.int .i64 op,.int .i64 vl,.string nm] 97)) w1->dh w1 (w.heap.size+1) 97 #[.int .i64 op,.int .i64 vl,.string nm]):=fun w1 h=>hBI.below h (by omega)
 have HIH:Hid (∀(m b0:Nat) (g:Ctx),m<l+1->Fd (l9 (aj x)) code b0 m [g]->∀w1 qm Ag,Below (w.heap.size+2) ((w.alloc (.cells #[.string x.name,.slice b1 x.ins.length c1,.slice b2 x.outs.length c2,.slice b3 x.vars.length c3,.slice b4 n4 c4] 42)).alloc (.cells #[.int .i64 op,.int .i64 vl,.string nm] 97)) w1->bf 2 24 jm 0 w1 Ag qm->qm.length<=8->Calls Tryz.prog 97 #[.agg #[.string x.name,.slice b1 x.ins.length c1,.slice b2 x.outs.length c2,.slice b3 x.vars.length c3,.slice b4 n4 c4],.slice (some ⟨bb,oo,none⟩) code.length cap,.int .i64 (m:Int),Ag] w1 (Ans (.bool (g qm)) w1)) :=
  fun m b0 g h1 h2 w1 qm Ag h3 h4 h5=>ih m h1 b0 g h2 w1 qm Ag ((uh zl).stays (uh o8 w1 h3)) ((uh HV).stays je (uh o8 w1 h3)) h4 h5
 have Kz:Hid (∀(m m1:Nat) (g:Ctx),m<=l->Fd (l9 (aj x)) code m1 m [g]->∀w1,Below (w.heap.size+2) ((w.alloc (.cells #[.string x.name,.slice b1 x.ins.length c1,.slice b2 x.outs.length c2,.slice b3 x.vars.length c3,.slice b4 n4 c4] 42)).alloc (.cells #[.int .i64 op,.int .i64 vl,.string nm] 97)) w1->Calls Tryz.prog 42 #[.slice (some ⟨bb,oo,none⟩) code.length cap,.int .i64 (m:Int)] w1 fun e w'=>e=.returned (.int .i64 (m1:Int))∧w'=w1):=by
  intro m m1 k h1 h2 w1 h3
  have:=Gp code m (by omega) _ w1 ((uh HV).stays je (uh o8 w1 h3))
  rw[Vg har h2 (by omega)] at this
  exact this
 have HKK:Hid (∀w1,Below (w.heap.size+2) ((w.alloc (.cells #[.string x.name,.slice b1 x.ins.length c1,.slice b2 x.outs.length c2,.slice b3 x.vars.length c3,.slice b4 n4 c4] 42)).alloc (.cells #[.int .i64 op,.int .i64 vl,.string nm] 97)) w1->bf 2 24 jm 0 w1 (.slice ak ks.length ck) ks):=fun w1 h=>(uh HK).stays lg (uh o8 w1 h)
 have Sl:Hid (∀w1,Below (w.heap.size+2) ((w.alloc (.cells #[.string x.name,.slice b1 x.ins.length c1,.slice b2 x.outs.length c2,.slice b3 x.vars.length c3,.slice b4 n4 c4] 42)).alloc (.cells #[.int .i64 op,.int .i64 vl,.string nm] 97)) w1->Calls Tryz.prog 39 #[.agg #[.string x.name,.slice b1 x.ins.length c1,.slice b2 x.outs.length c2,.slice b3 x.vars.length c3,.slice b4 n4 c4],.string nm] w1 fun e w'=>∃cl,e=.returned cl∧bf 2 24 jm 0 w' cl (jv (aj x) nm)∧Below w1.heap.size w1 w'):=fun w1 h =>
  Qw x _ _ _ _ nm w1 ((uh zl).stays (uh o8 w1 h)).ins ((uh zl).stays (uh o8 w1 h)).outs ((uh zl).stays (uh o8 w1 h)).vars ⟨b4,n4,c4,rfl⟩ hsum
 have Me:=hide hus
 have HUL:=hide pz
 clear hus pz hit hfd hv hni hk hA hBN hBI har ih hsn Ld
 subst ho
 have Ak:=hide (uh Sl _ (uh HB0))
 have axz:Hid (∀w1,Below (w.heap.size+2) _ w1->_):=fun w1 h=>uh Kz l m1 g1 (Nat.le_refl _) (uh HD1) w1 h
 have HL1:Hid (∀w1,Below (w.heap.size+2) _ w1->ks.length<8->_):=fun w1 h h8=>ab1 ks _ nm true w1 (uh HKK w1 h) (uh Zn) (by omega)
 have HL2:Hid (∀w1,Below (w.heap.size+2) _ w1->ks.length<8->_):=fun w1 h h8=>ab1 ks _ nm false w1 (uh HKK w1 h) (uh Zn) (by omega)
 generalize jv (aj x) nm=clk at Ak HG
 generalize gg ks=res at HG ⊢
 clear Kz Sl La HUL Me HV zl HK
 go_enter Tryz.func97,Tryz.ntmps97
 go_wp2_with fail
 refine(uh Ak).mono ?_
 rintro e w1 ⟨cl,rfl,hcl,hb1⟩
 have hB1:=uh Ou _ _ (uh HB0) hb1
 have HB1:=hide hB1
 have HC2:=hide (Eu clk ks cl _ w1 hcl (uh HKK w1 hB1))
 obtain⟨ac,cc,rfl⟩:=hcl.shape
 clear hcl hb1 hB1 Ak
 generalize qj clk ks=r at HC2 HG
 go_wp2_with fail
 refine(uh HC2).mono ?_
 rintro e w2 ⟨rfl,hb2⟩
 have hB2:=uh Ou _ _ (uh HB1) hb2
 have HB2:=hide hB2
 have HF2:=hide (uh o8 _ hB2)
 clear hb2 hB2 HC2
 cases r
 ·rw[Bool.false_and,Bool.false_and] at HG
  go_wp2
  go_ret
  exact⟨gu (uh HG).symm,uh HF2⟩
 rw[Bool.true_and] at HG
 by_cases h8:ks.length<8
 case neg =>
  rw[decide_eq_false h8,Bool.false_and] at HG
  have d8:decide (8<=(ks.length:Int))=true:=by simp;omega
  go_wp2
  go_ret
  exact⟨gu (uh HG).symm,uh HF2⟩
 rw[decide_eq_true h8,Bool.true_and] at HG
 have d8:decide (8<=(ks.length:Int))=false:=by simp;omega
 have Ot:=hide (uh axz w2 (uh HB2))
 go_wp2_with fail
 refine(uh Ot).mono ?_
 rintro e w3 ⟨rfl,h9⟩
 obtain rfl:=h9.symm
 obtain⟨r1,hr1⟩:∃r1,g0 (ks++[⟨nm,true⟩])=r1:=⟨_,rfl⟩
 obtain⟨r2,hr2⟩:∃r2,g1 (ks++[⟨nm,false⟩])=r2:=⟨_,rfl⟩
 rw[hr1,hr2] at HG
 obtain⟨BX,ku⟩:∃BX:World->Prop,∀w',BX w'↔Below (w.heap.size+2) ((w.alloc (.cells #[.string x.name,.slice b1 x.ins.length c1,.slice b2 x.outs.length c2,.slice b3 x.vars.length c3,.slice b4 n4 c4] 42)).alloc (.cells #[.int .i64 24,.int .i64 vl,.string nm] 97)) w':=⟨_,fun _=>Iff.rfl⟩
 have Nb:Hid (∀w',BX w'->w'.cell? ⟨w.heap.size,0,none⟩=some (.string x.name)∧w'.cell? ⟨w.heap.size,1,none⟩=some (.slice b1 x.ins.length c1)∧w'.cell? ⟨w.heap.size,2,none⟩=some (.slice b2 x.outs.length c2)∧w'.cell? ⟨w.heap.size,3,none⟩=some (.slice b3 x.vars.length c3)∧w'.cell? ⟨w.heap.size,4,none⟩=some (.slice b4 n4 c4)∧w'.cell? ⟨w.heap.size+1,2,none⟩=some (.string nm)):=fun w' h=>⟨(uh Cj w' ((ku w').1 h)).cell (i:=0) (v:=.string x.name) rfl,(uh Cj w' ((ku w').1 h)).cell (i:=1) (v:=.slice b1 x.ins.length c1) rfl,(uh Cj w' ((ku w').1 h)).cell (i:=2) (v:=.slice b2 x.outs.length c2) rfl,(uh Cj w' ((ku w').1 h)).cell (i:=3) (v:=.slice b3 x.vars.length c3) rfl,(uh Cj w' ((ku w').1 h)).cell (i:=4) (v:=.slice b4 n4 c4) rfl,(uh Md w' ((ku w').1 h)).cell (i:=2) (v:=.string nm) rfl⟩
 have HOB:Hid (∀w',BX w'->Below w.heap.size w w'):=fun w' h=>uh o8 w' ((ku w').1 h)
 have arp:Hid (∀(m b0:Nat) (g:Ctx) (r:Bool) (qm:List cu),m<l+1->Fd (l9 (aj x)) code b0 m [g]->g qm=r->qm.length<=8->∀w' Ag,BX w'->bf 2 24 jm 0 w' Ag qm->Calls Tryz.prog 97 #[.agg #[.string x.name,.slice b1 x.ins.length c1,.slice b2 x.outs.length c2,.slice b3 x.vars.length c3,.slice b4 n4 c4],.slice (some ⟨bb,oo,none⟩) code.length cap,.int .i64 (m:Int),Ag] w' fun e w''=>e=.returned (.bool r)∧BX w''∧w''.cell? ⟨w.heap.size,0,none⟩=some (.string x.name)∧w''.cell? ⟨w.heap.size,1,none⟩=some (.slice b1 x.ins.length c1)∧w''.cell? ⟨w.heap.size,2,none⟩=some (.slice b2 x.outs.length c2)∧w''.cell? ⟨w.heap.size,3,none⟩=some (.slice b3 x.vars.length c3)∧w''.cell? ⟨w.heap.size,4,none⟩=some (.slice b4 n4 c4)∧w''.cell? ⟨w.heap.size+1,2,none⟩=some (.string nm)):=by
  intro m b0 g r qm hm hd hr hk8 w' Ag hb hs
  refine(uh HIH m b0 g hm hd w' qm Ag ((ku w').1 hb) hs hk8).mono ?_
  rintro e w'' ⟨rfl,h9⟩
  have h8':BX w'':=(ku w'').2 (uh Ou _ _ ((ku w').1 hb) h9)
  exact⟨by rw[hr],h8',uh Nb w'' h8'⟩
 have HM1:Hid (∀w',BX w'->Calls Tryz.prog 123 #[.slice ak ks.length ck,.string nm,.bool true] w' fun e w''=>∃a c,e=.returned (.slice a (ks.length+1) c)∧BX w''∧Hid (Calls Tryz.prog 97 #[.agg #[.string x.name,.slice b1 x.ins.length c1,.slice b2 x.outs.length c2,.slice b3 x.vars.length c3,.slice b4 n4 c4],.slice (some ⟨bb,oo,none⟩) code.length cap,.int .i64 (m1:Int),.slice a (ks.length+1) c] w'' fun e w3=>e=.returned (.bool r1)∧BX w3∧w3.cell? ⟨w.heap.size,0,none⟩=some (.string x.name)∧w3.cell? ⟨w.heap.size,1,none⟩=some (.slice b1 x.ins.length c1)∧w3.cell? ⟨w.heap.size,2,none⟩=some (.slice b2 x.outs.length c2)∧w3.cell? ⟨w.heap.size,3,none⟩=some (.slice b3 x.vars.length c3)∧w3.cell? ⟨w.heap.size,4,none⟩=some (.slice b4 n4 c4)∧w3.cell? ⟨w.heap.size+1,2,none⟩=some (.string nm))∧w''.cell? ⟨w.heap.size,0,none⟩=some (.string x.name)∧w''.cell? ⟨w.heap.size,1,none⟩=some (.slice b1 x.ins.length c1)∧w''.cell? ⟨w.heap.size,2,none⟩=some (.slice b2 x.outs.length c2)∧w''.cell? ⟨w.heap.size,3,none⟩=some (.slice b3 x.vars.length c3)∧w''.cell? ⟨w.heap.size,4,none⟩=some (.slice b4 n4 c4)∧w''.cell? ⟨w.heap.size+1,2,none⟩=some (.string nm)):=by
  intro w' hb
  refine(uh HL1 w' ((ku w').1 hb) h8).mono ?_
  rintro e w'' ⟨v',rfl,hs',h9⟩
  have h8':BX w'':=(ku w'').2 (uh Ou _ _ ((ku w').1 hb) h9)
  have hsh:=hs'.shape
  obtain⟨a',c',rfl⟩:=hsh
  have hf:=uh arp m1 _ g0 r1 _ (by omega) (uh HD0) hr1 (by rw[List.length_append];simp;omega) w'' _ h8' hs'
  rw[List.length_append] at hf ⊢
  exact⟨a',c',rfl,h8',hf,uh Nb w'' h8'⟩
 have HM2:Hid (∀w',BX w'->Calls Tryz.prog 123 #[.slice ak ks.length ck,.string nm,.bool false] w' fun e w''=>∃a c,e=.returned (.slice a (ks.length+1) c)∧BX w''∧Hid (Calls Tryz.prog 97 #[.agg #[.string x.name,.slice b1 x.ins.length c1,.slice b2 x.outs.length c2,.slice b3 x.vars.length c3,.slice b4 n4 c4],.slice (some ⟨bb,oo,none⟩) code.length cap,.int .i64 (l:Int),.slice a (ks.length+1) c] w'' fun e w3=>e=.returned (.bool r2)∧BX w3∧w3.cell? ⟨w.heap.size,0,none⟩=some (.string x.name)∧w3.cell? ⟨w.heap.size,1,none⟩=some (.slice b1 x.ins.length c1)∧w3.cell? ⟨w.heap.size,2,none⟩=some (.slice b2 x.outs.length c2)∧w3.cell? ⟨w.heap.size,3,none⟩=some (.slice b3 x.vars.length c3)∧w3.cell? ⟨w.heap.size,4,none⟩=some (.slice b4 n4 c4)∧w3.cell? ⟨w.heap.size+1,2,none⟩=some (.string nm))∧w''.cell? ⟨w.heap.size,0,none⟩=some (.string x.name)∧w''.cell? ⟨w.heap.size,1,none⟩=some (.slice b1 x.ins.length c1)∧w''.cell? ⟨w.heap.size,2,none⟩=some (.slice b2 x.outs.length c2)∧w''.cell? ⟨w.heap.size,3,none⟩=some (.slice b3 x.vars.length c3)∧w''.cell? ⟨w.heap.size,4,none⟩=some (.slice b4 n4 c4)∧w''.cell? ⟨w.heap.size+1,2,none⟩=some (.string nm)):=by
  intro w' hb
  refine(uh HL2 w' ((ku w').1 hb) h8).mono ?_
  rintro e w'' ⟨v',rfl,hs',h9⟩
  have h8':BX w'':=(ku w'').2 (uh Ou _ _ ((ku w').1 hb) h9)
  have hsh:=hs'.shape
  obtain⟨a',c',rfl⟩:=hsh
  have hf:=uh arp l _ g1 r2 _ (by omega) (uh HD1) hr2 (by rw[List.length_append];simp;omega) w'' _ h8' hs'
  rw[List.length_append] at hf ⊢
  exact⟨a',c',rfl,h8',hf,uh Nb w'' h8'⟩
 have hBd:BX w2.drew:=(ku _).2 (uh HB2).drew
 obtain⟨y0,y1,y2,y3,y4,y5⟩:=uh Nb w2 ((ku _).2 (uh HB2))
 clear HL1 HL2 Ot axz arp HIH Nb Cj Md Ou o8 HB0 HB1 HB2 HF2 ku HKK Zn HD0 HD1 hr1 hr2 HA Je
 cases r1
 ·rw[Bool.false_and] at HG
  go_wp2_with fail
  refine wp_region_held_drew (S:=(fun w'=>w'.cell? ⟨w.heap.size,0,none⟩=some (.string x.name)∧w'.cell? ⟨w.heap.size,1,none⟩=some (.slice b1 x.ins.length c1)∧w'.cell? ⟨w.heap.size,2,none⟩=some (.slice b2 x.outs.length c2)∧w'.cell? ⟨w.heap.size,3,none⟩=some (.slice b3 x.vars.length c3)∧w'.cell? ⟨w.heap.size,4,none⟩=some (.slice b4 n4 c4)∧w'.cell? ⟨w.heap.size+1,2,none⟩=some (.string nm))) (by kernel_rfl) (by go_keep) (fun hHeld=>?_)
  refine uz (i:=0) (d:=89) (v:=.agg #[.string x.name,.slice b1 x.ins.length c1,.slice b2 x.outs.length c2,.slice b3 x.vars.length c3,.slice b4 n4 c4]) rfl rfl (by kernel_rfl) (by kernel_rfl) (by kernel_rfl) (fun _ _ _ h=>h) (Or.inl ⟨by kernel_rfl,fun w9 iq=>by obtain⟨e0,e1,e2,e3,e4,e5⟩:=iq;go_simp⟩) hHeld ?_
  try simp only[Act.put,List.setIfInBounds_toArray,List.set_cons_zero,List.set_cons_succ]
  refine uz (i:=1) (d:=90) (v:=_) rfl rfl (by kernel_rfl) (by kernel_rfl) (by kernel_rfl) (fun _ _ _ h=>h) (Or.inl ⟨by kernel_rfl,fun _ _=>rfl⟩) hHeld ?_
  try simp only[Act.put,List.setIfInBounds_toArray,List.set_cons_zero,List.set_cons_succ]
  refine uz (i:=2) (d:=91) (v:=_) rfl rfl (by kernel_rfl) (by kernel_rfl) (by kernel_rfl) (fun _ _ _ h=>h) (Or.inl ⟨by kernel_rfl,fun _ _=>rfl⟩) hHeld ?_
  try simp only[Act.put,List.setIfInBounds_toArray,List.set_cons_zero,List.set_cons_succ]
  refine uz (i:=3) (d:=92) (v:=_) rfl rfl (by kernel_rfl) (by kernel_rfl) (by kernel_rfl) (fun _ _ _ h=>h) (Or.inl ⟨by kernel_rfl,fun _ _=>rfl⟩) hHeld ?_
  try simp only[Act.put,List.setIfInBounds_toArray,List.set_cons_zero,List.set_cons_succ]
  refine uz (i:=4) (d:=93) (v:=.pointer (some ⟨w.heap.size+1,2,none⟩)) rfl rfl (by kernel_rfl) (by kernel_rfl) (by kernel_rfl) (fun _ _ _ h=>h) (Or.inl ⟨by kernel_rfl,fun w9 iq=>by obtain⟨e0,e1,e2,e3,e4,e5⟩:=iq;go_simp⟩) hHeld ?_
  try simp only[Act.put,List.setIfInBounds_toArray,List.set_cons_zero,List.set_cons_succ]
  refine uz (i:=5) (d:=94) (v:=.string nm) rfl rfl (by kernel_rfl) (by kernel_rfl) (by kernel_rfl) (fun _ _ _ h=>h) (Or.inl ⟨by kernel_rfl,fun w9 iq=>by obtain⟨e0,e1,e2,e3,e4,e5⟩:=iq;go_simp⟩) hHeld ?_
  try simp only[Act.put,List.setIfInBounds_toArray,List.set_cons_zero,List.set_cons_succ]
  refine wpAnyH_ready (rs:=[6]) (by kernel_rfl) (by simp) ?_
  refine AllReadyH.cons rfl (fun K hK=>?_) AllReadyH.nil
  go_simp
  refine(uh HM1 _ hBd).mono ?_
  rintro e w4 ⟨aw4,cw4,rfl,hB4,HF1,z0,z1,z2,z3,z4,z5⟩
  refine hK.out _ _ ⟨z0,z1,z2,z3,z4,z5⟩ (fun hHeld=>?_)
  clear hK K
  try simp only[Act.put,List.setIfInBounds_toArray,List.set_cons_zero,List.set_cons_succ]
  refine wpAnyH_ready (rs:=[7]) (by kernel_rfl) (by simp) ?_
  refine AllReadyH.cons rfl (fun K hK=>?_) AllReadyH.nil
  go_simp
  refine(uh HF1).mono ?_
  rintro e w5 ⟨rfl,hB5,y0,y1,y2,y3,y4,y5⟩
  refine hK.out _ _ ⟨y0,y1,y2,y3,y4,y5⟩ (fun hHeld=>?_)
  clear hK K
  try simp only[Act.put,List.setIfInBounds_toArray,List.set_cons_zero,List.set_cons_succ]
  refine uz (i:=8) (d:=97) (v:=_) rfl rfl (by kernel_rfl) (by kernel_rfl) (by kernel_rfl) (fun _ _ _ h=>h) (Or.inl ⟨by kernel_rfl,fun _ _=>rfl⟩) hHeld ?_
  try simp only[Act.put,List.setIfInBounds_toArray,List.set_cons_zero,List.set_cons_succ]
  refine uz (i:=9) (d:=98) (v:=undef) rfl rfl (by kernel_rfl) (by kernel_rfl) (by kernel_rfl) (fun _ _ _ h=>h) (Or.inr ⟨by kernel_rfl,rfl⟩) hHeld ?_
  try simp only[Act.put,List.setIfInBounds_toArray,List.set_cons_zero,List.set_cons_succ]
  refine uz (i:=10) (d:=99) (v:=undef) rfl rfl (by kernel_rfl) (by kernel_rfl) (by kernel_rfl) (fun _ _ _ h=>h) (Or.inr ⟨by kernel_rfl,rfl⟩) hHeld ?_
  try simp only[Act.put,List.setIfInBounds_toArray,List.set_cons_zero,List.set_cons_succ]
  refine uz (i:=11) (d:=100) (v:=undef) rfl rfl (by kernel_rfl) (by kernel_rfl) (by kernel_rfl) (fun _ _ _ h=>h) (Or.inr ⟨by kernel_rfl,rfl⟩) hHeld ?_
  try simp only[Act.put,List.setIfInBounds_toArray,List.set_cons_zero,List.set_cons_succ]
  refine uz (i:=12) (d:=101) (v:=undef) rfl rfl (by kernel_rfl) (by kernel_rfl) (by kernel_rfl) (fun _ _ _ h=>h) (Or.inr ⟨by kernel_rfl,rfl⟩) hHeld ?_
  try simp only[Act.put,List.setIfInBounds_toArray,List.set_cons_zero,List.set_cons_succ]
  refine uz (i:=13) (d:=102) (v:=undef) rfl rfl (by kernel_rfl) (by kernel_rfl) (by kernel_rfl) (fun _ _ _ h=>h) (Or.inr ⟨by kernel_rfl,rfl⟩) hHeld ?_
  try simp only[Act.put,List.setIfInBounds_toArray,List.set_cons_zero,List.set_cons_succ]
  refine uz (i:=14) (d:=103) (v:=undef) rfl rfl (by kernel_rfl) (by kernel_rfl) (by kernel_rfl) (fun _ _ _ h=>h) (Or.inr ⟨by kernel_rfl,rfl⟩) hHeld ?_
  try simp only[Act.put,List.setIfInBounds_toArray,List.set_cons_zero,List.set_cons_succ]
  refine uz (i:=15) (d:=104) (v:=undef) rfl rfl (by kernel_rfl) (by kernel_rfl) (by kernel_rfl) (fun _ _ _ h=>h) (Or.inr ⟨by kernel_rfl,rfl⟩) hHeld ?_
  try simp only[Act.put,List.setIfInBounds_toArray,List.set_cons_zero,List.set_cons_succ]
  refine uz (i:=16) (d:=105) (v:=undef) rfl rfl (by kernel_rfl) (by kernel_rfl) (by kernel_rfl) (fun _ _ _ h=>h) (Or.inr ⟨by kernel_rfl,rfl⟩) hHeld ?_
  try simp only[Act.put,List.setIfInBounds_toArray,List.set_cons_zero,List.set_cons_succ]
  refine uz (i:=17) (d:=106) (v:=.bool false) rfl rfl (by kernel_rfl) (by kernel_rfl) (by kernel_rfl) (fun _ _ _ h=>h) (Or.inl ⟨by kernel_rfl,fun w9 iq=>by obtain⟨e0,e1,e2,e3,e4,e5⟩:=iq;go_simp⟩) hHeld ?_
  try simp only[Act.put,List.setIfInBounds_toArray,List.set_cons_zero,List.set_cons_succ]
  refine uz (i:=18) (d:=8) (v:=_) rfl rfl (by kernel_rfl) (by kernel_rfl) (by kernel_rfl) (fun _ _ _ h=>h) (Or.inl ⟨by kernel_rfl,fun _ _=>rfl⟩) hHeld ?_
  try simp only[Act.put,List.setIfInBounds_toArray,List.set_cons_zero,List.set_cons_succ]
  refine wpAnyH_done (by kernel_rfl) ?_ _
  have HF:=hide (uh HOB _ hB5)
  go_wp2
  go_ret
  exact⟨gu (uh HG).symm,uh HF⟩
 ·rw[Bool.true_and] at HG
  go_wp2_with fail
  go_region_held3 (fun w'=>w'.cell? ⟨w.heap.size,0,none⟩=some (.string x.name)∧w'.cell? ⟨w.heap.size,1,none⟩=some (.slice b1 x.ins.length c1)∧w'.cell? ⟨w.heap.size,2,none⟩=some (.slice b2 x.outs.length c2)∧w'.cell? ⟨w.heap.size,3,none⟩=some (.slice b3 x.vars.length c3)∧w'.cell? ⟨w.heap.size,4,none⟩=some (.slice b4 n4 c4)∧w'.cell? ⟨w.heap.size+1,2,none⟩=some (.string nm)) (go_keep) (first|(go_at_call 123;refine(uh HM1 _ hBd).mono ?_;rintro e w4 ⟨aw4,cw4,rfl,hB4,HF1,a4h,a4i,a4j,a4k,a4l,a4m⟩;clear HM1)|(go_at_call 97;refine(uh HF1).mono ?_;rintro e w5 ⟨rfl,hB5,a4n,a4o,a4p,a4q,a4r,a4s⟩;clear HF1)|(go_at_call 123;refine(uh HM2 _ hB5).mono ?_;rintro e w6 ⟨aw6,cw6,rfl,hB6,HF3,a4t,a4u,a4v,a4w,a4x,a4y⟩;clear HM2)|(go_at_call 97;refine(uh HF3).mono ?_;rintro e w7 ⟨rfl,hB7,a4z,a5a,a5b,a5c,a5d,a5e⟩;clear HF3))
  have HF:=hide (uh HOB _ hB7)
  go_wp2
  go_ret
  exact⟨gu (uh HG).symm,uh HF⟩
theorem af9 (x:ay) (b1 b2 b3 b4:Option Addr) (c1 c2 c3 n4 c4:Nat) (hsum:x.ins.length+x.outs.length+x.vars.length<=1048576) (code:List eu) (v:Value) (hit:∀t,t∈code->Ir t=true) (hl:code.length<=3000) :
  ∀(e b:Nat) (gg:Ctx),Fd (l9 (aj x)) code b e [gg]->∀w,Iu x b1 b2 b3 c1 c2 c3 w->bf 3 32 jw 0 w v code->∀ks kv,bf 2 24 jm 0 w kv ks->ks.length<=8->Calls Tryz.prog 97 #[.agg #[.string x.name,.slice b1 x.ins.length c1,.slice b2 x.outs.length c2,.slice b3 x.vars.length c3,.slice b4 n4 c4],v,.int .i64 (e:Int),kv] w (Ans (.bool (gg ks)) w):=by
 intro e
 induction e using Nat.strongRecOn with
 | _ e ih =>
  intro b gg hfd w hni hv ks kv hk hkl
  obtain⟨_,l,_,_,hlt,he,_⟩:=hfd.Sj (n:=0) rfl
  subst he
  have ec:((l+1:Nat):Int)=(l:Int)+1:=by omega
  rw[ec]
  by_cases h1:code[l].op=1∨code[l].op=2
  ·exact ak2 x b1 b2 b3 b4 c1 c2 c3 n4 c4 hsum code v hit hl l b gg hfd w hni hv ks kv hk hkl hlt h1 (fun m hm b0 g hf w1 qm Ag h1 h2 h3 h4=>ih m hm b0 g hf w1 h1 h2 qm Ag h3 h4)
  by_cases h3:code[l].op=3
  ·exact ams x b1 b2 b3 b4 c1 c2 c3 n4 c4 hsum code v hit hl l b gg hfd w hni hv ks kv hk hkl hlt h3 (fun m hm b0 g hf w1 qm Ag h1 h2 h3 h4=>ih m hm b0 g hf w1 h1 h2 qm Ag h3 h4)
  by_cases h23:code[l].op=23
  ·exact ak3 x b1 b2 b3 b4 c1 c2 c3 n4 c4 hsum code v hit hl l b gg hfd w hni hv ks kv hk hkl hlt h23 (fun m hm b0 g hf w1 qm Ag h1 h2 h3 h4=>ih m hm b0 g hf w1 h1 h2 qm Ag h3 h4)
  by_cases h24:code[l].op=24
  ·exact aho x b1 b2 b3 b4 c1 c2 c3 n4 c4 hsum code v hit hl l b gg hfd w hni hv ks kv hk hkl hlt h24 (fun m hm b0 g hf w1 qm Ag h1 h2 h3 h4=>ih m hm b0 g hf w1 h1 h2 qm Ag h3 h4)
  ·exact amu x b1 b2 b3 b4 c1 c2 c3 n4 c4 hsum code v hit hl l b gg hfd w hni hv ks kv hk hkl hlt ⟨by omega,by omega,by omega,by omega,by omega⟩ (fun m hm b0 g hf w1 qm Ag h1 h2 h3 h4=>ih m hm b0 g hf w1 h1 h2 qm Ag h3 h4)
end Go.Proofs.YtflcnhfakcgkeaaGreat
