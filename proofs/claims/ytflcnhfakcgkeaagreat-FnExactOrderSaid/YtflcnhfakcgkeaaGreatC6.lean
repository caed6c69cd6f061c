import Derived.Test.YtflcnhfakcgkeaaGreatOwnF
namespace Go.Proofs.YtflcnhfakcgkeaaGreat
open Go.RowKit
set_option linter.unusedSimpArgs false
set_option linter.unusedVariables false
abbrev Ctx:=List cu->Bool
def l9 (vs:List gy) (t:eu) (gs:List Ctx):Ctx:=fun k =>
 if t.op=1∨t.op=2 then true
 else if t.op=3 then qj (jv vs t.name) k
 else if t.op=23 then (match k.getLast? with|none=>false|some c=>Io c ⟨t.name,t.val == 1⟩)&&(qj (jv vs t.name) k.dropLast&&gs.all fun g=>g k.dropLast)
 else if t.op=24 then qj (jv vs t.name) k&&decide (k.length<8)&&((gs.headD fun _=>true) (k++[⟨t.name,true⟩])&&(gs.tail.headD fun _=>true) (k++[⟨t.name,false⟩]))
 else gs.all fun g=>g k
set_option maxRecDepth 20000 in
set_option maxHeartbeats 8000000 in
theorem ak2 (x:ay) (b1 b2 b3 b4:Option Addr) (c1 c2 c3 n4 c4:Nat) (hsum:x.ins.length+x.outs.length+x.vars.length<=1048576) (code:List eu) (v:Value) (hit:∀t,t∈code->Ir t=true) (hl:code.length<=3000) (l b:Nat) (gg:Ctx)
  (hfd:Fd (l9 (aj x)) code b (l+1) [gg]) (w:World) (hni:Iu x b1 b2 b3 c1 c2 c3 w) (hv:bf 3 32 jw 0 w v code) (ks:List cu) (kv:Value) (hk:bf 2 24 jm 0 w kv ks) (hkl:ks.length<=8) (hlt0:l<code.length) (ho:code[l].op=1∨code[l].op=2)
  (ih:∀m,m<l+1->∀(b0:Nat) (g:Ctx),Fd (l9 (aj x)) code b0 m [g]->∀w1 qm Ag,Iu x b1 b2 b3 c1 c2 c3 w1->bf 3 32 jw 0 w1 v code->bf 2 24 jm 0 w1 Ag qm->qm.length<=8->Calls Tryz.prog 97 #[.agg #[.string x.name,.slice b1 x.ins.length c1,.slice b2 x.outs.length c2,.slice b3 x.vars.length c3,.slice b4 n4 c4],v,.int .i64 (m:Int),Ag] w1 (Ans (.bool (g qm)) w1)) :
  Calls Tryz.prog 97 #[.agg #[.string x.name,.slice b1 x.ins.length c1,.slice b2 x.outs.length c2,.slice b3 x.vars.length c3,.slice b4 n4 c4],v,.int .i64 ((l:Int)+1),kv] w (Ans (.bool (gg ks)) w):=by
 have har:∀t,t∈code->0<=Bo t.op:=fun t ht=>(Mc t.op).2 (by have:=((zo t).1 (hit t ht)).1;omega)
 obtain⟨hlt,us,hus,pz,hty⟩:=hfd.last
 obtain⟨hi0,hir,hin⟩:=(zo code[l]).1 (hit _ (List.getElem_mem hlt))
 have HV:=hide hv
 have zl:=hide hni
 have HK:=hide hk
 obtain⟨ak,ck,rfl⟩:=hk.shape
 have hx:=hv
 obtain⟨a,cap,rfl,_,hn,hx⟩:=hx
 unfold Len at hn
 obtain⟨bb,oo,cs,rfl,_,hbb,hcs,hc,hR⟩:=hx l hlt
 obtain⟨rfl,hsn,hop,hvl⟩:=hR
 have q0:=hc 0 (by simp)
 have q1:=hc 1 (by simp)
 have q2:=hc 2 (by simp)
 simp only[Nat.mul_one,Nat.add_zero,List.getElem_cons_zero,List.getElem_cons_succ] at q0 q1 q2
 have Ld:∀w1,Calls Tryz.prog 72 #[.int .i64 code[l].op] w1 fun e w'=>e=.returned (.int .i64 (us.length:Int))∧w'=w1:=by
  intro w1
  have h1:=Ew code[l].op w1 (by unfold I64;omega)
  have h2:=Qr _ (har _ (List.getElem_mem hlt))
  have h3:=har _ (List.getElem_mem hlt)
  have h4:(us.length:Int)=Bo code[l].op:=by rw[pz];unfold Af;rw[h2];omega
  rw[h4]
  exact h1
 have hu3:us.length<=3:=by rw[pz];unfold Af;have:=Gh code[l].op;omega
 clear hx hc hcs hin hir hi0 hop hvl
 generalize code[l]=it at q0 q1 q2 hty pz Ld hsn ho
 obtain⟨op,vl,nm⟩:=it
 simp only at q0 q1 q2 pz Ld hsn ho
 have Vq:gg=l9 (aj x) ⟨op,vl,nm⟩ us:=hty
 have HR:Hid (gg ks=true):=by
  show gg ks=true
  rw[Vq]
  unfold l9
  rw[if_pos ho]
 clear Vq hty
 have La:=hide Ld
 have Zn:=hide hsn
 have hA:Below w.heap.size w ((w.alloc (.cells #[.string x.name,.slice b1 x.ins.length c1,.slice b2 x.outs.length c2,.slice b3 x.vars.length c3,.slice b4 n4 c4] 42)).alloc (.cells #[.int .i64 op,.int .i64 vl,.string nm] 97)):=((Below.refl _ _).alloc (Nat.le_refl _) _).alloc (by simp) _
 have HA:=hide hA
 have Je:Hid (((w.alloc (.cells #[.string x.name,.slice b1 x.ins.length c1,.slice b2 x.outs.length c2,.slice b3 x.vars.length c3,.slice b4 n4 c4] 42)).alloc (.cells #[.int .i64 op,.int .i64 vl,.string nm] 97)).heap.size=w.heap.size+2):=by
  show ((w.alloc (.cells #[.string x.name,.slice b1 x.ins.length c1,.slice b2 x.outs.length c2,.slice b3 x.vars.length c3,.slice b4 n4 c4] 42)).alloc (.cells #[.int .i64 op,.int .i64 vl,.string nm] 97)).heap.size=w.heap.size+2
  simp
 have HB0:Hid (Below (w.heap.size+2) ((w.alloc (.cells #[.string x.name,.slice b1 x.ins.length c1,.slice b2 x.outs.length c2,.slice b3 x.vars.length c3,.slice b4 n4 c4] 42)).alloc (.cells #[.int .i64 op,.int .i64 vl,.string nm] 97)) ((w.alloc (.cells #[.string x.name,.slice b1 x.ins.length c1,.slice b2 x.outs.length c2,.slice b3 x.vars.length c3,.slice b4 n4 c4] 42)).alloc (.cells #[.int .i64 op,.int .i64 vl,.string nm] 97))):=Below.refl _ _
 have o8:Hid (∀w1,Below (w.heap.size+2) ((w.alloc (.cells #[.string x.name,.slice b1 x.ins.length c1,.slice b2 x.outs.length c2,.slice b3 x.vars.length c3,.slice b4 n4 c4] 42)).alloc (.cells #[.int .i64 op,.int .i64 vl,.string nm] 97)) w1->Below w.heap.size w w1):=fun w1 h=>(uh HA).trans (h.mono (by omega))
 have Ou:Hid (∀w1 w2,Below (w.heap.size+2) ((w.alloc (.cells #[.string x.name,.slice b1 x.ins.length c1,.slice b2 x.outs.length c2,.slice b3 x.vars.length c3,.slice b4 n4 c4] 42)).alloc (.cells #[.int .i64 op,.int .i64 vl,.string nm] 97)) w1->Below w1.heap.size w1 w2->Below (w.heap.size+2) ((w.alloc (.cells #[.string x.name,.slice b1 x.ins.length c1,.slice b2 x.outs.length c2,.slice b3 x.vars.length c3,.slice b4 n4 c4] 42)).alloc (.cells #[.int .i64 op,.int .i64 vl,.string nm] 97)) w2):=fun w1 w2 h1 h2=>h1.trans (h2.mono (by have:=h1.size;rw[uh Je] at this;exact this))
 have hBN:dh ((w.alloc (.cells #[.string x.name,.slice b1 x.ins.length c1,.slice b2 x.outs.length c2,.slice b3 x.vars.length c3,.slice b4 n4 c4] 42)).alloc (.cells #[.int .i64 op,.int .i64 vl,.string nm] 97)) w.heap.size 42 #[.string x.name,.slice b1 x.ins.length c1,.slice b2 x.outs.length c2,.slice b3 x.vars.length c3,.slice b4 n4 c4]:=(jd w #[.string x.name,.slice b1 x.ins.length c1,.slice b2 x.outs.length c2,.slice b3 x.vars.length c3,.slice b4 n4 c4] 42).below ((Below.refl _ _).alloc (Nat.le_refl _) _) (by simp)
 have hBI:dh ((w.alloc (.cells #[.string x.name,.slice b1 x.ins.length c1,.slice b2 x.outs.length c2,.slice b3 x.vars.length c3,.slice b4 n4 c4] 42)).alloc (.cells #[.int .i64 op,.int .i64 vl,.string nm] 97)) (w.heap.size+1) 97 #[.int .i64 op,.int .i64 vl,.string nm]:=by
  have:=jd (w.alloc (.cells #[.string x.name,.slice b1 x.ins.length c1,.slice b2 x.outs.length c2,.slice b3 x.vars.length c3,.slice b4 n4 c4] 42)) #[.int .i64 op,.int .i64 vl,.string nm] 97
  rwa[show (w.alloc (.cells #[.string x.name,.slice b1 x.ins.length c1,.slice b2 x.outs.length c2,.slice b3 x.vars.length c3,.slice b4 n4 c4] 42)).heap.size=w.heap.size+1 from by simp] at this
 have Cj:Hid (∀w1,Below (w.heap.size+2) ((w.alloc (.cells #[.string x.name,.slice b1 x.ins.length c1,.slice b2 x.outs.length c2,.slice b3 x.vars.length c3,.slice b4 n4 c4] 42)).alloc (.cells #[.int .i64 op,.int .i64 vl,.string nm] 97)) w1->dh w1 w.heap.size 42 #[.string x.name,.slice b1 x.ins.length c1,.slice b2 x.outs.length c2,.slice b3 x.vars.length c3,.slice b4 n4 c4]):=fun w1 h=>hBN.below h (by omega)
 have Md:Hid (∀w1,Below (w.heap.size+2) ((w.alloc (.cells #[.string x.name,.slice b1 x.ins.length c1,.slice b2 x.outs.length c2,.slice b3 x.vars.length c3,.slice b4 n4 c4] 42)).alloc (.cells #[.int .i64 op,.int .i64 vl,.string nm] 97)) w1->dh w1 (w.heap.size+1) 97 #[.int .i64 op,.int .i64 vl,.string nm]):=fun w1 h=>hBI.below h (by omega)
 have HIH:Hid (∀(m b0:Nat) (g:Ctx),m<l+1->Fd (l9 (aj x)) code b0 m [g]->∀w1 qm Ag,Below (w.heap.size+2) ((w.alloc (.cells #[.string x.name,.slice b1 x.ins.length c1,.slice b2 x.outs.length c2,.slice b3 x.vars.length c3,.slice b4 n4 c4] 42)).alloc (.cells #[.int .i64 op,.int .i64 vl,.string nm] 97)) w1->bf 2 24 jm 0 w1 Ag qm->qm.length<=8->Calls Tryz.prog 97 #[.agg #[.string x.name,.slice b1 x.ins.length c1,.slice b2 x.outs.length c2,.slice b3 x.vars.length c3,.slice b4 n4 c4],.slice (some ⟨bb,oo,none⟩) code.length cap,.int .i64 (m:Int),Ag] w1 (Ans (.bool (g qm)) w1)) :=
  fun m b0 g h1 h2 w1 qm Ag h3 h4 h5=>ih m h1 b0 g h2 w1 qm Ag ((uh zl).stays (uh o8 w1 h3)) ((uh HV).stays je (uh o8 w1 h3)) h4 h5
 have Kz:Hid (∀(m m1:Nat) (g:Ctx),m<=l->Fd (l9 (aj x)) code m1 m [g]->∀w1,Below (w.heap.size+2) ((w.alloc (.cells #[.string x.name,.slice b1 x.ins.length c1,.slice b2 x.outs.length c2,.slice b3 x.vars.length c3,.slice b4 n4 c4] 42)).alloc (.cells #[.int .i64 op,.int .i64 vl,.string nm] 97)) w1->Calls Tryz.prog 42 #[.slice (some ⟨bb,oo,none⟩) code.length cap,.int .i64 (m:Int)] w1 fun e w'=>e=.returned (.int .i64 (m1:Int))∧w'=w1):=by
  intro m m1 k h1 h2 w1 h3
  have:=Gp code m (by omega) _ w1 ((uh HV).stays je (uh o8 w1 h3))
  rw[Vg har h2 (by omega)] at this
  exact this
 have HKK:Hid (∀w1,Below (w.heap.size+2) ((w.alloc (.cells #[.string x.name,.slice b1 x.ins.length c1,.slice b2 x.outs.length c2,.slice b3 x.vars.length c3,.slice b4 n4 c4] 42)).alloc (.cells #[.int .i64 op,.int .i64 vl,.string nm] 97)) w1->bf 2 24 jm 0 w1 (.slice ak ks.length ck) ks):=fun w1 h=>(uh HK).stays lg (uh o8 w1 h)
 have Sl:Hid (∀w1,Below (w.heap.size+2) ((w.alloc (.cells #[.string x.name,.slice b1 x.ins.length c1,.slice b2 x.outs.length c2,.slice b3 x.vars.length c3,.slice b4 n4 c4] 42)).alloc (.cells #[.int .i64 op,.int .i64 vl,.string nm] 97)) w1->Calls Tryz.prog 39 #[.agg #[.string x.name,.slice b1 x.ins.length c1,.slice b2 x.outs.length c2,.slice b3 x.vars.length c3,.slice b4 n4 c4],.string nm] w1 fun e w'=>∃cl,e=.returned cl∧bf 2 24 jm 0 w' cl (jv (aj x) nm)∧Below w1.heap.size w1 w'):=fun w1 h =>
  Qw x _ _ _ _ nm w1 ((uh zl).stays (uh o8 w1 h)).ins ((uh zl).stays (uh o8 w1 h)).outs ((uh zl).stays (uh o8 w1 h)).vars ⟨b4,n4,c4,rfl⟩ hsum
 have Me:=hide hus
 have HUL:=hide pz
 clear hus pz hit hfd hv hni hk hA hBN hBI har ih hsn Ld
 have HF:=hide (uh o8 _ (uh HB0))
 rcases ho with rfl|rfl
 all_goals
  go_enter Tryz.func97,Tryz.ntmps97
  go_wp2
  go_ret
  exact⟨gu (uh HR).symm,uh HF⟩
set_option maxRecDepth 20000 in
set_option maxHeartbeats 8000000 in
theorem ams (x:ay) (b1 b2 b3 b4:Option Addr) (c1 c2 c3 n4 c4:Nat) (hsum:x.ins.length+x.outs.length+x.vars.length<=1048576) (code:List eu) (v:Value) (hit:∀t,t∈code->Ir t=true) (hl:code.length<=3000) (l b:Nat) (gg:Ctx)
  (hfd:Fd (l9 (aj x)) code b (l+1) [gg]) (w:World) (hni:Iu x b1 b2 b3 c1 c2 c3 w) (hv:bf 3 32 jw 0 w v code) (ks:List cu) (kv:Value) (hk:bf 2 24 jm 0 w kv ks) (hkl:ks.length<=8) (hlt0:l<code.length) (ho:code[l].op=3)
  (ih:∀m,m<l+1->∀(b0:Nat) (g:Ctx),Fd (l9 (aj x)) code b0 m [g]->∀w1 qm Ag,Iu x b1 b2 b3 c1 c2 c3 w1->bf 3 32 jw 0 w1 v code->bf 2 24 jm 0 w1 Ag qm->qm.length<=8->Calls Tryz.prog 97 #[.agg #[.string x.name,.slice b1 x.ins.length c1,.slice b2 x.outs.length c2,.slice b3 x.vars.length c3,.slice b4 n4 c4],v,.int .i64 (m:Int),Ag] w1 (Ans (.bool (g qm)) w1)) :
  Calls Tryz.prog 97 #[.agg #[.string x.name,.slice b1 x.ins.length c1,.slice b2 x.outs.length c2,.slice b3 x.vars.length c3,.slice b4 n4 c4],v,.int .i64 ((l:Int)+1),kv] w (Ans (.bool (gg ks)) w):=by
 have har:∀t,t∈code->0<=Bo t.op:=fun t ht=>(Mc t.op).2 (by have:=((zo t).1 (hit t ht)).1;omega)
 obtain⟨hlt,us,hus,pz,hty⟩:=hfd.last
 obtain⟨hi0,hir,hin⟩:=(zo code[l]).1 (hit _ (List.getElem_mem hlt))
 have HV:=hide hv
 have zl:=hide hni
 have HK:=hide hk
 obtain⟨ak,ck,rfl⟩:=hk.shape
 have hx:=hv
 obtain⟨a,cap,rfl,_,hn,hx⟩:=hx
 unfold Len at hn
 obtain⟨bb,oo,cs,rfl,_,hbb,hcs,hc,hR⟩:=hx l hlt
 obtain⟨rfl,hsn,hop,hvl⟩:=hR
 have q0:=hc 0 (by simp)
 have q1:=hc 1 (by simp)
 have q2:=hc 2 (by simp)
 simp only[Nat.mul_one,Nat.add_zero,List.getElem_cons_zero,List.getElem_cons_succ] at q0 q1 q2
 have Ld:∀w1,Calls Tryz.prog 72 #[.int .i64 code[l].op] w1 fun e w'=>e=.returned (.int .i64 (us.length:Int))∧w'=w1:=by
  intro w1
  have h1:=Ew code[l].op w1 (by unfold I64;omega)
  have h2:=Qr _ (har _ (List.getElem_mem hlt))
  have h3:=har _ (List.getElem_mem hlt)
  have h4:(us.length:Int)=Bo code[l].op:=by rw[pz];unfold Af;rw[h2];omega
  rw[h4]
  exact h1
 have hu3:us.length<=3:=by rw[pz];unfold Af;have:=Gh code[l].op;omega
 clear hx hc hcs hin hir hi0 hop hvl
 generalize code[l]=it at q0 q1 q2 hty pz Ld hsn ho
 obtain⟨op,vl,nm⟩:=it
 simp only at q0 q1 q2 pz Ld hsn ho
 have Vq:gg=l9 (aj x) ⟨op,vl,nm⟩ us:=hty
 have HR:Hid (gg ks=qj (jv (aj x) nm) ks):=by
  show gg ks=qj (jv (aj x) nm) ks
  rw[Vq]
  unfold l9
  rw[if_neg (by simp only;omega),if_pos ho]
 clear Vq hty
 have La:=hide Ld
 have Zn:=hide hsn
 have hA:Below w.heap.size w ((w.alloc (.cells #[.string x.name,.slice b1 x.ins.length c1,.slice b2 x.outs.length c2,.slice b3 x.vars.length c3,.slice b4 n4 c4] 42)).alloc (.cells #[.int .i64 op,.int .i64 vl,.string nm] 97)):=((Below.refl _ _).alloc (Nat.le_refl _) _).alloc (by simp) _
 have HA:=hide hA
 have Je:Hid (((w.alloc (.cells #[.string x.name,.slice b1 x.ins.length c1,.slice b2 x.outs.length c2,.slice b3 x.vars.length c3,.slice b4 n4 c4] 42)).alloc (.cells #[.int .i64 op,.int .i64 vl,.string nm] 97)).heap.size=w.heap.size+2):=by
  show ((w.alloc (.cells #[.string x.name,.slice b1 x.ins.length c1,.slice b2 x.outs.length c2,.slice b3 x.vars.length c3,.slice b4 n4 c4] 42)).alloc (.cells #[.int .i64 op,.int .i64 vl,.string nm] 97)).heap.size=w.heap.size+2
  simp
 have HB0:Hid (Below (w.heap.size+2) ((w.alloc (.cells #[.string x.name,.slice b1 x.ins.length c1,.slice b2 x.outs.length c2,.slice b3 x.vars.length c3,.slice b4 n4 c4] 42)).alloc (.cells #[.int .i64 op,.int .i64 vl,.string nm] 97)) ((w.alloc (.cells #[.string x.name,.slice b1 x.ins.length c1,.slice b2 x.outs.length c2,.slice b3 x.vars.length c3,.slice b4 n4 c4] 42)).alloc (.cells #[.int .i64 op,.int .i64 vl,.string nm] 97))):=Below.refl _ _
 have o8:Hid (∀w1,Below (w.heap.size+2) ((w.alloc (.cells #[.string x.name,.slice b1 x.ins.length c1,.slice b2 x.outs.length c2,.slice b3 x.vars.length c3,.slice b4 n4 c4] 42)).alloc (.cells #[.int .i64 op,.int .i64 vl,.string nm] 97)) w1->Below w.heap.size w w1):=fun w1 h=>(uh HA).trans (h.mono (by omega))
 have Ou:Hid (∀w1 w2,Below (w.heap.size+2) ((w.alloc (.cells #[.string x.name,.slice b1 x.ins.length c1,.slice b2 x.outs.length c2,.slice b3 x.vars.length c3,.slice b4 n4 c4] 42)).alloc (.cells #[.int .i64 op,.int .i64 vl,.string nm] 97)) w1->Below w1.heap.size w1 w2->Below (w.heap.size+2) ((w.alloc (.cells #[.string x.name,.slice b1 x.ins.length c1,.slice b2 x.outs.length c2,.slice b3 x.vars.length c3,.slice b4 n4 c4] 42)).alloc (.cells #[.int .i64 op,.int .i64 vl,.string nm] 97)) w2):=fun w1 w2 h1 h2=>h1.trans (h2.mono (by have:=h1.size;rw[uh Je] at this;exact this))
 have hBN:dh ((w.alloc (.cells #[.string x.name,.slice b1 x.ins.length c1,.slice b2 x.outs.length c2,.slice b3 x.vars.length c3,.slice b4 n4 c4] 42)).alloc (.cells #[.int .i64 op,.int .i64 vl,.string nm] 97)) w.heap.size 42 #[.string x.name,.slice b1 x.ins.length c1,.slice b2 x.outs.length c2,.slice b3 x.vars.length c3,.slice b4 n4 c4]:=(jd w #[.string x.name,.slice b1 x.ins.length c1,.slice b2 x.outs.length c2,.slice b3 x.vars.length c3,.slice b4 n4 c4] 42).below ((Below.refl _ _).alloc (Nat.le_refl _) _) (by simp)
 have hBI:dh ((w.alloc (.cells #[.string x.name,.slice b1 x.ins.length c1,.slice b2 x.outs.length c2,.slice b3 x.vars.length c3,.slice b4 n4 c4] 42)).alloc (.cells #[.int .i64 op,.int .i64 vl,.string nm] 97)) (w.heap.size+1) 97 #[.int .i64 op,.int .i64 vl,.string nm]:=by
  have:=jd (w.alloc (.cells #[.string x.name,.slice b1 x.ins.length c1,.slice b2 x.outs.length c2,.slice b3 x.vars.length c3,.slice b4 n4 c4] 42)) #[.int .i64 op,.int .i64 vl,.string nm] 97
  rwa[show (w.alloc (.cells #[.string x.name,.slice b1 x.ins.length c1,.slice b2 x.outs.length c2,.slice b3 x.vars.length c3,.slice b4 n4 c4] 42)).heap.size=w.heap.size+1 from by simp] at this
 have Cj:Hid (∀w1,Below (w.heap.size+2) ((w.alloc (.cells #[.string x.name,.slice b1 x.ins.length c1,.slice b2 x.outs.length c2,.slice b3 x.vars.length c3,.slice b4 n4 c4] 42)).alloc (.cells #[.int .i64 op,.int .i64 vl,.string nm] 97)) w1->dh w1 w.heap.size 42 #[.string x.name,.slice b1 x.ins.length c1,.slice b2 x.outs.length c2,.slice b3 x.vars.length c3,.slice b4 n4 c4]):=fun w1 h=>hBN.below h (by omega)
 have Md:Hid (∀w1,Below (w.heap.size+2) ((w.alloc (.cells #[.string x.name,.slice b1 x.ins.length c1,.slice b2 x.outs.length c2,.slice b3 x.vars.length c3,.slice b4 n4 c4] 42)).alloc (.cells #[.int .i64 op,.int .i64 vl,.string nm] 97)) w1->dh w1 (w.heap.size+1) 97 #[.int .i64 op,.int .i64 vl,.string nm]):=fun w1 h=>hBI.below h (by omega)
 have HIH:Hid (∀(m b0:Nat) (g:Ctx),m<l+1->Fd (l9 (aj x)) code b0 m [g]->∀w1 qm Ag,Below (w.heap.size+2) ((w.alloc (.cells #[.string x.name,.slice b1 x.ins.length c1,.slice b2 x.outs.length c2,.slice b3 x.vars.length c3,.slice b4 n4 c4] 42)).alloc (.cells #[.int .i64 op,.int .i64 vl,.string nm] 97)) w1->bf 2 24 jm 0 w1 Ag qm->qm.length<=8->Calls Tryz.prog 97 #[.agg #[.string x.name,.slice b1 x.ins.length c1,.slice b2 x.outs.length c2,.slice b3 x.vars.length c3,.slice b4 n4 c4],.slice (some ⟨bb,oo,none⟩) code.length cap,.int .i64 (m:Int),Ag] w1 (Ans (.bool (g qm)) w1)) :=
  fun m b0 g h1 h2 w1 qm Ag h3 h4 h5=>ih m h1 b0 g h2 w1 qm Ag ((uh zl).stays (uh o8 w1 h3)) ((uh HV).stays je (uh o8 w1 h3)) h4 h5
 have Kz:Hid (∀(m m1:Nat) (g:Ctx),m<=l->Fd (l9 (aj x)) code m1 m [g]->∀w1,Below (w.heap.size+2) ((w.alloc (.cells #[.string x.name,.slice b1 x.ins.length c1,.slice b2 x.outs.length c2,.slice b3 x.vars.length c3,.slice b4 n4 c4] 42)).alloc (.cells #[.int .i64 op,.int .i64 vl,.string nm] 97)) w1->Calls Tryz.prog 42 #[.slice (some ⟨bb,oo,none⟩) code.length cap,.int .i64 (m:Int)] w1 fun e w'=>e=.returned (.int .i64 (m1:Int))∧w'=w1):=by
  intro m m1 k h1 h2 w1 h3
  have:=Gp code m (by omega) _ w1 ((uh HV).stays je (uh o8 w1 h3))
  rw[Vg har h2 (by omega)] at this
  exact this
 have HKK:Hid (∀w1,Below (w.heap.size+2) ((w.alloc (.cells #[.string x.name,.slice b1 x.ins.length c1,.slice b2 x.outs.length c2,.slice b3 x.vars.length c3,.slice b4 n4 c4] 42)).alloc (.cells #[.int .i64 op,.int .i64 vl,.string nm] 97)) w1->bf 2 24 jm 0 w1 (.slice ak ks.length ck) ks):=fun w1 h=>(uh HK).stays lg (uh o8 w1 h)
 have Sl:Hid (∀w1,Below (w.heap.size+2) ((w.alloc (.cells #[.string x.name,.slice b1 x.ins.length c1,.slice b2 x.outs.length c2,.slice b3 x.vars.length c3,.slice b4 n4 c4] 42)).alloc (.cells #[.int .i64 op,.int .i64 vl,.string nm] 97)) w1->Calls Tryz.prog 39 #[.agg #[.string x.name,.slice b1 x.ins.length c1,.slice b2 x.outs.length c2,.slice b3 x.vars.length c3,.slice b4 n4 c4],.string nm] w1 fun e w'=>∃cl,e=.returned cl∧bf 2 24 jm 0 w' cl (jv (aj x) nm)∧Below w1.heap.size w1 w'):=fun w1 h =>
  Qw x _ _ _ _ nm w1 ((uh zl).stays (uh o8 w1 h)).ins ((uh zl).stays (uh o8 w1 h)).outs ((uh zl).stays (uh o8 w1 h)).vars ⟨b4,n4,c4,rfl⟩ hsum
 have Me:=hide hus
 have HUL:=hide pz
 clear hus pz hit hfd hv hni hk hA hBN hBI har ih hsn Ld
 have Ak:=hide (uh Sl _ (uh HB0))
 subst ho
 go_enter Tryz.func97,Tryz.ntmps97
 go_wp2_with fail
 refine(uh Ak).mono ?_
 rintro e w1 ⟨cl,rfl,hcl,hb1⟩
 have hB1:=uh Ou _ _ (uh HB0) hb1
 have HB1:=hide hB1
 have HC2:=hide (Eu _ ks cl _ w1 hcl (uh HKK w1 hB1))
 obtain⟨ac,cc,rfl⟩:=hcl.shape
 clear hcl hb1 hB1 Ak
 generalize jv (aj x) nm=ck0 at *
 generalize qj ck0 ks=r at *
 go_wp2_with fail
 refine(uh HC2).mono ?_
 rintro e w2 ⟨rfl,hb2⟩
 have HF:=hide (uh o8 _ (uh Ou _ _ (uh HB1) hb2))
 clear hb2
 go_wp2
 go_ret
 exact⟨gu (uh HR).symm,uh HF⟩
set_option maxRecDepth 20000 in
set_option maxHeartbeats 8000000 in
theorem amu (x:ay) (b1 b2 b3 b4:Option Addr) (c1 c2 c3 n4 c4:Nat) (hsum:x.ins.length+x.outs.length+x.vars.length<=1048576) (code:List eu) (v:Value) (hit:∀t,t∈code->Ir t=true) (hl:code.length<=3000) (l b:Nat) (gg:Ctx)
  (hfd:Fd (l9 (aj x)) code b (l+1) [gg]) (w:World) (hni:Iu x b1 b2 b3 c1 c2 c3 w) (hv:bf 3 32 jw 0 w v code) (ks:List cu) (kv:Value) (hk:bf 2 24 jm 0 w kv ks) (hkl:ks.length<=8) (hlt0:l<code.length) (ho:¬code[l].op=1∧¬code[l].op=2∧¬code[l].op=3∧¬code[l].op=23∧¬code[l].op=24)
  (ih:∀m,m<l+1->∀(b0:Nat) (g:Ctx),Fd (l9 (aj x)) code b0 m [g]->∀w1 qm Ag,Iu x b1 b2 b3 c1 c2 c3 w1->bf 3 32 jw 0 w1 v code->bf 2 24 jm 0 w1 Ag qm->qm.length<=8->Calls Tryz.prog 97 #[.agg #[.string x.name,.slice b1 x.ins.length c1,.slice b2 x.outs.length c2,.slice b3 x.vars.length c3,.slice b4 n4 c4],v,.int .i64 (m:Int),Ag] w1 (Ans (.bool (g qm)) w1)) :
  Calls Tryz.prog 97 #[.agg #[.string x.name,.slice b1 x.ins.length c1,.slice b2 x.outs.length c2,.slice b3 x.vars.length c3,.slice b4 n4 c4],v,.int .i64 ((l:Int)+1),kv] w (Ans (.bool (gg ks)) w):=by
 have har:∀t,t∈code->0<=Bo t.op:=fun t ht=>(Mc t.op).2 (by have:=((zo t).1 (hit t ht)).1;omega)
 obtain⟨hlt,us,hus,pz,hty⟩:=hfd.last
 obtain⟨hi0,hir,hin⟩:=(zo code[l]).1 (hit _ (List.getElem_mem hlt))
 have HV:=hide hv
 have zl:=hide hni
 have HK:=hide hk
 obtain⟨ak,ck,rfl⟩:=hk.shape
 have hx:=hv
 obtain⟨a,cap,rfl,_,hn,hx⟩:=hx
 unfold Len at hn
 obtain⟨bb,oo,cs,rfl,_,hbb,hcs,hc,hR⟩:=hx l hlt
 obtain⟨rfl,hsn,hop,hvl⟩:=hR
 have q0:=hc 0 (by simp)
 have q1:=hc 1 (by simp)
 have q2:=hc 2 (by simp)
 simp only[Nat.mul_one,Nat.add_zero,List.getElem_cons_zero,List.getElem_cons_succ] at q0 q1 q2
 have Ld:∀w1,Calls Tryz.prog 72 #[.int .i64 code[l].op] w1 fun e w'=>e=.returned (.int .i64 (us.length:Int))∧w'=w1:=by
  intro w1
  have h1:=Ew code[l].op w1 (by unfold I64;omega)
  have h2:=Qr _ (har _ (List.getElem_mem hlt))
  have h3:=har _ (List.getElem_mem hlt)
  have h4:(us.length:Int)=Bo code[l].op:=by rw[pz];unfold Af;rw[h2];omega
  rw[h4]
  exact h1
 have hu3:us.length<=3:=by rw[pz];unfold Af;have:=Gh code[l].op;omega
 clear hx hc hcs hin hir hi0 hop hvl
 generalize code[l]=it at q0 q1 q2 hty pz Ld hsn ho
 obtain⟨op,vl,nm⟩:=it
 simp only at q0 q1 q2 pz Ld hsn ho
 have Vq:gg=l9 (aj x) ⟨op,vl,nm⟩ us:=hty
 have HR:Hid (gg ks=us.all fun g=>g ks):=by
  show gg ks=us.all fun g=>g ks
  rw[Vq]
  unfold l9
  rw[if_neg (by simp only;omega),if_neg (by simp only;omega),if_neg (by simp only;omega),if_neg (by simp only;omega)]
 clear Vq hty
 have La:=hide Ld
 have Zn:=hide hsn
 have hA:Below w.heap.size w ((w.alloc (.cells #[.string x.name,.slice b1 x.ins.length c1,.slice b2 x.outs.length c2,.slice b3 x.vars.length c3,.slice b4 n4 c4] 42)).alloc (.cells #[.int .i64 op,.int .i64 vl,.string nm] 97)):=((Below.refl _ _).alloc (Nat.le_refl _) _).alloc (by simp) _
 have HA:=hide hA
 have Je:Hid (((w.alloc (.cells #[.string x.name,.slice b1 x.ins.length c1,.slice b2 x.outs.length c2,.slice b3 x.vars.length c3,.slice b4 n4 c4] 42)).alloc (.cells #[.int .i64 op,.int .i64 vl,.string nm] 97)).heap.size=w.heap.size+2):=by
  show ((w.alloc (.cells #[.string x.name,.slice b1 x.ins.length c1,.slice b2 x.outs.length c2,.slice b3 x.vars.length c3,.slice b4 n4 c4] 42)).alloc (.cells #[.int .i64 op,.int .i64 vl,.string nm] 97)).heap.size=w.heap.size+2
  simp
 have HB0:Hid (Below (w.heap.size+2) ((w.alloc (.cells #[.string x.name,.slice b1 x.ins.length c1,.slice b2 x.outs.length c2,.slice b3 x.vars.length c3,.slice b4 n4 c4] 42)).alloc (.cells #[.int .i64 op,.int .i64 vl,.string nm] 97)) ((w.alloc (.cells #[.string x.name,.slice b1 x.ins.length c1,.slice b2 x.outs.length c2,.slice b3 x.vars.length c3,.slice b4 n4 c4] 42)).alloc (.cells #[.int .i64 op,.int .i64 vl,.string nm] 97))):=Below.refl _ _
 have o8:Hid (∀w1,Below (w.heap.size+2) ((w.alloc (.cells #[.string x.name,.slice b1 x.ins.length c1,.slice b2 x.outs.length c2,.slice b3 x.vars.length c3,.slice b4 n4 c4] 42)).alloc (.cells #[.int .i64 op,.int .i64 vl,.string nm] 97)) w1->Below w.heap.size w w1):=fun w1 h=>(uh HA).trans (h.mono (by omega))
 have Ou:Hid (∀w1 w2,Below (w.heap.size+2) ((w.alloc (.cells #[.string x.name,.slice b1 x.ins.length c1,.slice b2 x.outs.length c2,.slice b3 x.vars.length c3,.slice b4 n4 c4] 42)).alloc (.cells #[.int .i64 op,.int .i64 vl,.string nm] 97)) w1->Below w1.heap.size w1 w2->Below (w.heap.size+2) ((w.alloc (.cells #[.string x.name,.slice b1 x.ins.length c1,.slice b2 x.outs.length c2,.slice b3 x.vars.length c3,.slice b4 n4 c4] 42)).alloc (.cells #[.int .i64 op,.int .i64 vl,.string nm] 97)) w2):=fun w1 w2 h1 h2=>h1.trans (h2.mono (by have:=h1.size;rw[uh Je] at this;exact this))
 have hBN:dh ((w.alloc (.cells #[.string x.name,.slice b1 x.ins.length c1,.slice b2 x.outs.length c2,.slice b3 x.vars.length c3,.slice b4 n4 c4] 42)).alloc (.cells #[.int .i64 op,.int .i64 vl,.string nm] 97)) w.heap.size 42 #[.string x.name,.slice b1 x.ins.length c1,.slice b2 x.outs.length c2,.slice b3 x.vars.length c3,.slice b4 n4 c4]:=(jd w #[.string x.name,.slice b1 x.ins.length c1,.slice b2 x.outs.length c2,.slice b3 x.vars.length c3,.slice b4 n4 c4] 42).below ((Below.refl _ _).alloc (Nat.le_refl _) _) (by simp)
 have hBI:dh ((w.alloc (.cells #[.string x.name,.slice b1 x.ins.length c1,.slice b2 x.outs.length c2,.slice b3 x.vars.length c3,.slice b4 n4 c4] 42)).alloc (.cells #[.int .i64 op,.int .i64 vl,.string nm] 97)) (w.heap.size+1) 97 #[.int .i64 op,.int .i64 vl,.string nm]:=by
  have:=jd (w.alloc (.cells #[.string x.name,.slice b1 x.ins.length c1,.slice b2 x.outs.length c2,.slice b3 x.vars.length c3,.slice b4 n4 c4] 42)) #[.int .i64 op,.int .i64 vl,.string nm] 97
  rwa[show (w.alloc (.cells #[.string x.name,.slice b1 x.ins.length c1,.slice b2 x.outs.length c2,.slice b3 x.vars.length c3,.slice b4 n4 c4] 42)).heap.size=w.heap.size+1 from by simp] at this
 have Cj:Hid (∀w1,Below (w.heap.size+2) ((w.alloc (.cells #[.string x.name,.slice b1 x.ins.length c1,.slice b2 x.outs.length c2,.slice b3 x.vars.length c3,.slice b4 n4 c4] 42)).alloc (.cells #[.int .i64 op,.int .i64 vl,.string nm] 97)) w1->dh w1 w.heap.size 42 #[.string x.name,.slice b1 x.ins.length c1,.slice b2 x.outs.length c2,.slice b3 x.vars.length c3,.slice b4 n4 c4]):=fun w1 h=>hBN.below h (by omega)
 have Md:Hid (∀w1,Below (w.heap.size+2) ((w.alloc (.cells #[.string x.name,.slice b1 x.ins.length c1,.slice b2 x.outs.length c2,.slice b3 x.vars.length c3,.slice b4 n4 c4] 42)).alloc (.cells #[.int .i64 op,.int .i64 vl,.string nm] 97)) w1->dh w1 (w.heap.size+1) 97 #[.int .i64 op,.int .i64 vl,.string nm]):=fun w1 h=>hBI.below h (by omega)
 have HIH:Hid (∀(m b0:Nat) (g:Ctx),m<l+1->Fd (l9 (aj x)) code b0 m [g]->∀w1 qm Ag,Below (w.heap.size+2) ((w.alloc (.cells #[.string x.name,.slice b1 x.ins.length c1,.slice b2 x.outs.length c2,.slice b3 x.vars.length c3,.slice b4 n4 c4] 42)).alloc (.cells #[.int .i64 op,.int .i64 vl,.string nm] 97)) w1->bf 2 24 jm 0 w1 Ag qm->qm.length<=8->Calls Tryz.prog 97 #[.agg #[.string x.name,.slice b1 x.ins.length c1,.slice b2 x.outs.length c2,.slice b3 x.vars.length c3,.slice b4 n4 c4],.slice (some ⟨bb,oo,none⟩) code.length cap,.int .i64 (m:Int),Ag] w1 (Ans (.bool (g qm)) w1)) :=
  fun m b0 g h1 h2 w1 qm Ag h3 h4 h5=>ih m h1 b0 g h2 w1 qm Ag ((uh zl).stays (uh o8 w1 h3)) ((uh HV).stays je (uh o8 w1 h3)) h4 h5
 have Kz:Hid (∀(m m1:Nat) (g:Ctx),m<=l->Fd (l9 (aj x)) code m1 m [g]->∀w1,Below (w.heap.size+2) ((w.alloc (.cells #[.string x.name,.slice b1 x.ins.length c1,.slice b2 x.outs.length c2,.slice b3 x.vars.length c3,.slice b4 n4 c4] 42)).alloc (.cells #[.int .i64 op,.int .i64 vl,.string nm] 97)) w1->Calls Tryz.prog 42 #[.slice (some ⟨bb,oo,none⟩) code.length cap,.int .i64 (m:Int)] w1 fun e w'=>e=.returned (.int .i64 (m1:Int))∧w'=w1):=by
  intro m m1 k h1 h2 w1 h3
  have:=Gp code m (by omega) _ w1 ((uh HV).stays je (uh o8 w1 h3))
  rw[Vg har h2 (by omega)] at this
  exact this
 have HKK:Hid (∀w1,Below (w.heap.size+2) ((w.alloc (.cells #[.string x.name,.slice b1 x.ins.length c1,.slice b2 x.outs.length c2,.slice b3 x.vars.length c3,.slice b4 n4 c4] 42)).alloc (.cells #[.int .i64 op,.int .i64 vl,.string nm] 97)) w1->bf 2 24 jm 0 w1 (.slice ak ks.length ck) ks):=fun w1 h=>(uh HK).stays lg (uh o8 w1 h)
 have Sl:Hid (∀w1,Below (w.heap.size+2) ((w.alloc (.cells #[.string x.name,.slice b1 x.ins.length c1,.slice b2 x.outs.length c2,.slice b3 x.vars.length c3,.slice b4 n4 c4] 42)).alloc (.cells #[.int .i64 op,.int .i64 vl,.string nm] 97)) w1->Calls Tryz.prog 39 #[.agg #[.string x.name,.slice b1 x.ins.length c1,.slice b2 x.outs.length c2,.slice b3 x.vars.length c3,.slice b4 n4 c4],.string nm] w1 fun e w'=>∃cl,e=.returned cl∧bf 2 24 jm 0 w' cl (jv (aj x) nm)∧Below w1.heap.size w1 w'):=fun w1 h =>
  Qw x _ _ _ _ nm w1 ((uh zl).stays (uh o8 w1 h)).ins ((uh zl).stays (uh o8 w1 h)).outs ((uh zl).stays (uh o8 w1 h)).vars ⟨b4,n4,c4,rfl⟩ hsum
 have Me:=hide hus
 have HUL:=hide pz
 clear hus pz hit hfd hv hni hk hA hBN hBI har ih hsn Ld
 obtain⟨o1,o2,o3,o4,o5⟩:=ho
 have y1:(op == 1)=false:=by simpa using o1
 have y2:(op == 2)=false:=by simpa using o2
 have y3:(op == 3)=false:=by simpa using o3
 have y4:(op == 23)=false:=by simpa using o4
 have y5:(op == 24)=false:=by simpa using o5
 clear o1 o2 o3 o4 o5
 go_enter Tryz.func97,Tryz.ntmps97
 go_wp2
 go_loopg [10,13] us.length (fun gh la kk wr=>∃(j m:Nat) (u1 u2:List Ctx),j<=us.length∧gh=us.length-j∧kk=.int .i64 j∧la=.int .i64 m∧us=u1++u2∧u2.length=j∧Fd (l9 (aj x)) code b m u1∧m<=l∧(u2.all fun g=>g ks)=true∧Below (w.heap.size+2) ((w.alloc (.cells #[.string x.name,.slice b1 x.ins.length c1,.slice b2 x.outs.length c2,.slice b3 x.vars.length c3,.slice b4 n4 c4] 42)).alloc (.cells #[.int .i64 op,.int .i64 vl,.string nm] 97)) wr)
 case atStart=>exact⟨0,l,us,[],Nat.zero_le _,by omega,rfl,rfl,by simp,rfl,uh Me,Nat.le_refl _,rfl,uh HB0⟩
 case round =>
  obtain⟨j,m,u1,u2,hj,hgj,rfl,rfl,hsp,hu2,hfu,hml,hall,hbl⟩:=hrel
  rename World=>wN
  have Oe:=hide hgj
  have Qs:=hide hsp
  have HFU:=hide hfu
  have Xx:=hide hu2
  have uy:=hide hall
  have yj:=hide hbl
  have ach:u1.length+j=us.length:=by rw[hsp,List.length_append,hu2]
  have r0:=(uh Md wN hbl).cell (i:=0) (v:=.int .i64 op) rfl
  clear hgj hsp hfu hu2 hall
  by_cases hjn:j<us.length
  ·obtain⟨m1,v1,v2,e1,hv2,d1,d2⟩:=(uh HFU).split 1 (by omega)
   match v2,hv2 with
   | [k0],_ =>
    have P8:=(uh Cj wN hbl).cell (i:=0) (v:=.string x.name) rfl
    have P9:=(uh Cj wN hbl).cell (i:=1) (v:=.slice b1 x.ins.length c1) rfl
    have Qa:=(uh Cj wN hbl).cell (i:=2) (v:=.slice b2 x.outs.length c2) rfl
    have Qb:=(uh Cj wN hbl).cell (i:=3) (v:=.slice b3 x.vars.length c3) rfl
    have Qc:=(uh Cj wN hbl).cell (i:=4) (v:=.slice b4 n4 c4) rfl
    have Ak:=hide (uh HIH m m1 k0 (by omega) d2 wN ks _ hbl (uh HKK wN hbl) hkl)
    have HC2:=hide (uh Kz m m1 k0 hml d2)
    have HD1:=hide d1
    have hm1:=d2.le
    have Na:Hid (us=v1++(k0::u2)):=by
     show us=v1++(k0::u2)
     rw[uh Qs,e1,List.append_assoc]
     rfl
    have jo:Hid (k0 ks=false->gg ks=false):=fun h=>by
     rw[uh HR,uh Na,List.all_append,List.all_cons,h,Bool.false_and,Bool.and_false]
    have Cb:Hid (k0 ks=true->((k0::u2).all fun g=>g ks)=true):=fun h=>by
     rw[List.all_cons,h,uh uy]
     rfl
    clear e1 d1 d2 hbl
    generalize k0 ks=r at *
    go_wp2_with fail
    refine(uh La _).mono ?_
    rintro e w9 ⟨rfl,h9⟩
    obtain rfl:=h9.symm
    go_wp2_with fail
    refine(uh Ak).mono ?_
    rintro e w3 ⟨rfl,hb3⟩
    have hB3:=uh Ou _ _ (uh yj) hb3
    have HB3:=hide hB3
    have Ot:=hide (uh HC2 w3 hB3)
    clear hb3 hB3 Ak HC2
    cases r
    ·have HN:=hide (uh jo rfl)
     have HF:=hide (uh o8 _ (uh HB3))
     go_wp2
     go_ret
     exact⟨gu (uh HN).symm,uh HF⟩
    ·have HY:=hide (uh Cb rfl)
     go_wp2_with fail
     refine(uh Ot).mono ?_
     rintro e w6 ⟨rfl,h9⟩
     obtain rfl:=h9.symm
     go_wp2
     go_roundg (us.length-(j+1))
     case measure=>have:=uh Oe;omega
     case rel=>exact⟨j+1,m1,v1,k0::u2,by omega,rfl,by go_num,rfl,uh Na,by rw[List.length_cons,uh Xx],uh HD1,by omega,uh HY,uh HB3⟩
  ·have e0:u1=[]:=List.eq_nil_of_length_eq_zero (by omega)
   subst e0
   have HY:Hid (gg ks=true):=by
    show gg ks=true
    rw[uh HR,uh Qs]
    exact uh uy
   have HF:=hide (uh o8 _ hbl)
   have Z9:j=us.length:=by omega
   subst Z9
   go_wp2_with fail
   refine(uh La _).mono ?_
   rintro e w9 ⟨rfl,h9⟩
   obtain rfl:=h9.symm
   go_wp2
   go_ret
   exact⟨gu (uh HY).symm,uh HF⟩
end Go.Proofs.YtflcnhfakcgkeaaGreat
