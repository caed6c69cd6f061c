import Derived.Test.YtflcnhfakcgkeaaGreatCE1
import Derived.Test.YtflcnhfakcgkeaaGreatSpecShape
import Derived.Deep.RegionHeld3
import Derived.Deep.QuietTactic
import Derived.BigQuiet
namespace Go.Proofs.YtflcnhfakcgkeaaGreat
open Go.RowKit
set_option linter.unusedSimpArgs false
set_option linter.unusedVariables false
theorem al2 (vs:List gy) (c:List eu) (h:Df c=true):Fd (ny vs) c 0 c.length [Nc vs c]:=by
 unfold Df at h
 simp only[Bool.and_eq_true] at h
 obtain⟨s,hs⟩:=adz (ny vs) h.2
 have:Nc vs c=s:=ad1 hs
 rw[this]
 exact hs
theorem ahs (vs:List gy) (c:List eu) (h:Df c=true):Fd (l9 vs) c 0 c.length [Ol vs c]:=by
 unfold Df at h
 simp only[Bool.and_eq_true] at h
 obtain⟨s,hs⟩:=adz (l9 vs) h.2
 have:Ol vs c=s:=ad1 hs
 rw[this]
 exact hs
theorem amx (l:List ByteArray) (h:0<l.length):l.headD ⟨#[]⟩=l[0]:=by
 cases l with
 | nil=>simp at h
 | cons z zs=>rfl
theorem Ey (c:List eu) (h:Df c=true):(∀t,t∈c->Ir t=true)∧c.length<=3000:=by
 unfold Df at h
 simp only[Bool.and_eq_true,decide_eq_true_iff] at h
 exact⟨fun t ht=>List.all_eq_true.1 h.1.2 t ht,h.1.1⟩
theorem Pv (e:qg) (h:Eb e=true):∀c,c∈dw e->Df c=true:=by
 unfold Eb at h
 simp only[Bool.and_eq_true,decide_eq_true_iff] at h
 obtain⟨⟨_,_⟩,h5⟩:=h
 unfold dw
 by_cases g:e.call.size=0
 ·rw[if_pos g] at h5 ⊢
  simp only[Bool.and_eq_true] at h5
  intro c hc
  simp only[List.mem_singleton] at hc
  subst hc
  exact h5.2
 ·rw[if_neg g] at h5 ⊢
  simp only[Bool.and_eq_true] at h5
  exact fun c hc=>List.all_eq_true.1 h5.2 c hc
set_option maxRecDepth 20000 in
set_option maxHeartbeats 8000000 in
theorem aht (ns:List ay) (i:Nat) (hi:i<ns.length) (pv:Value) (e:qg) (v1 v2 v3:Value) (w:World) (hp:bf 5 112 o7 0 w pv ns) (h1:bf 1 16 Cc 0 w v1 e.lhs) (h2:bf 3 32 jw 0 w v2 e.code) (h3:bf 1 24 yu 0 w v3 e.args)
  (heq:Eb e=true) (hsum:ns[i].ins.length+ns[i].outs.length+ns[i].vars.length<=1048576) (hck:∀nm,(jv (aj ns[i]) nm).length<=8) :
  Calls Tryz.prog 68 #[.agg #[pv],.int .i64 (i:Int),.agg #[v1,v2,.string e.call,v3]] w (Ans (.int .i64 (Aw ns i (aj ns[i]) e)) w):=by
 have hlh:1<=e.lhs.length∧e.lhs.length<=500∧e.args.length<=500:=by
  unfold Eb at heq
  simp only[Bool.and_eq_true,decide_eq_true_iff] at heq
  exact heq.1.1
 have hsmall:=Vr e heq
 have Ov:=hide (fun w1 (hb:Below w.heap.size w w1) a=>ad2 e a v2 v3 w w1 hb h2 h3)
 have HCB:=hide (Pv e heq)
 have Ht:=hide (fun w1 (hb:Below w.heap.size w w1)=>aae ns pv i e.call w1 (hp.stays jk hb) (Nat.le_of_lt hi))
 have HPN:=hide (fun g (hg:g<ns.length)=>hp.at' g hg)
 obtain⟨bp,op,cpp,hpe,hbp,cs,ae6,hcc,iv,ov,vv,evv,rfl,hnm,hiv,hov,hvv,Vs⟩:=hp.at' i hi
 obtain⟨ap,cp,rfl⟩:=hp.shape
 simp only[Value.slice.injEq] at hpe
 obtain⟨rfl,_,rfl⟩:=hpe
 obtain⟨b1,c1,rfl⟩:=hiv.shape
 obtain⟨b2,c2,rfl⟩:=hov.shape
 obtain⟨b3,c3,rfl⟩:=hvv.shape
 obtain⟨b4,c4,rfl⟩:=Vs.shape
 have np:=hp.len'
 have m0:=hcc 0 (by simp)
 have m1:=hcc 1 (by simp)
 have m2:=hcc 2 (by simp)
 have m3:=hcc 3 (by simp)
 have m4:=hcc 4 (by simp)
 simp only[Nat.add_zero,List.getElem_cons_zero,List.getElem_cons_succ] at m0 m1 m2 m3 m4
 have hni:Iu ns[i] b1 b2 b3 c1 c2 c3 w:=⟨hiv,hov,hvv⟩
 have zl:=hide hni
 have HFT:Hid (∀vs,e.call.size=0->Aw ns i vs e=Iw vs e [(uj vs e).type] [(uj vs e).type] (uj vs e).clock):=fun vs h=>by unfold Aw;rw[if_pos h]
 have U5:Hid (∀vs,e.call.size≠0->jh ns i e.call<0->Aw ns i vs e=5):=fun vs h h'=>by
  unfold Aw
  rw[if_neg h]
  split
  ·rw[if_pos (Or.inl h')]
  ·rfl
 have HFG:Hid (∀vs g (hg:g<ns.length),e.call.size≠0->jh ns i e.call=g->Aw ns i vs e=if ns[g].ins.length≠e.args.length∨ns[g].outs.length≠e.lhs.length then 5 else Iw vs e (ns[g].ins.map (·.type)) (ns[g].outs.map (·.type)) (uj vs e).clock):=fun vs g hg h h'=>by
  unfold Aw
  rw[if_neg h,h',Int.toNat_natCast,List.getElem?_eq_getElem hg]
  simp only
  by_cases hc:ns[g].ins.length≠e.args.length∨ns[g].outs.length≠e.lhs.length
  ·rw[if_pos hc,if_pos (Or.inr hc)]
  ·rw[if_neg hc,if_neg (by rintro(h|h);omega;exact hc h)]
 have hfb:=J7 ns i e.call
 clear hcc hiv hov hvv Vs hp hnm ae6
 have hlen0:0<e.lhs.length:=by omega
 obtain⟨bl,ol,cll,hlv,hbl,csl,ae6,hcl0,hRl⟩:=h1.at' 0 hlen0
 obtain⟨rfl,hsl0⟩:=hRl
 have y0:=hcl0 0 (by simp)
 simp only[Nat.zero_mul,Nat.add_zero,List.getElem_cons_zero] at y0
 have HF0:Hid (∀vs,uj vs e=jg vs e.lhs[0]):=fun vs=>by
  unfold uj
  rw[amx e.lhs hlen0]
 have H1:=hide h1
 clear hcl0 ae6
 generalize ns[i]=x at *
 generalize hvs:aj x=vs at *
 have Vt:=hide hvs
 clear hvs
 obtain⟨lhs,code,cl,args⟩:=e
 simp only at *
 obtain⟨l1,zn,rfl⟩:=h1.shape
 obtain⟨l2,zx,rfl⟩:=h2.shape
 obtain⟨l3,zy,rfl⟩:=h3.shape
 simp only[Value.slice.injEq] at hlv
 obtain⟨rfl,_,rfl⟩:=hlv
 generalize hl0:lhs[0]=x0 at *
 have HL0:=hide hl0
 clear hl0
 have n1:=h1.len'
 clear h1 h2 h3 hni
 have hA:Below w.heap.size w (((((w.alloc (.cells #[.slice (some ⟨bp,op,none⟩) ns.length cp] 30)).alloc (.cells #[.slice (some ⟨bl,ol,none⟩) lhs.length zn,.slice l2 code.length zx,.string cl,.slice l3 args.length zy] 48)).alloc (.cells #[.string x.name,.slice b1 x.ins.length c1,.slice b2 x.outs.length c2,.slice b3 x.vars.length c3,.slice b4 x.eqs.length c4] 42)).alloc (.cells #[] 68)).alloc (.cells #[] 68)):=((((((Below.refl _ _).alloc (Nat.le_refl _) _).alloc (by simp only[World.size_alloc];omega) _).alloc (by simp only[World.size_alloc];omega) _).alloc (by simp only[World.size_alloc];omega) _).alloc (by simp only[World.size_alloc];omega) _)
 have hAz:(((((w.alloc (.cells #[.slice (some ⟨bp,op,none⟩) ns.length cp] 30)).alloc (.cells #[.slice (some ⟨bl,ol,none⟩) lhs.length zn,.slice l2 code.length zx,.string cl,.slice l3 args.length zy] 48)).alloc (.cells #[.string x.name,.slice b1 x.ins.length c1,.slice b2 x.outs.length c2,.slice b3 x.vars.length c3,.slice b4 x.eqs.length c4] 42)).alloc (.cells #[] 68)).alloc (.cells #[] 68)).heap.size=w.heap.size+5:=by simp
 have hA1:dh (((((w.alloc (.cells #[.slice (some ⟨bp,op,none⟩) ns.length cp] 30)).alloc (.cells #[.slice (some ⟨bl,ol,none⟩) lhs.length zn,.slice l2 code.length zx,.string cl,.slice l3 args.length zy] 48)).alloc (.cells #[.string x.name,.slice b1 x.ins.length c1,.slice b2 x.outs.length c2,.slice b3 x.vars.length c3,.slice b4 x.eqs.length c4] 42)).alloc (.cells #[] 68)).alloc (.cells #[] 68)) w.heap.size 30 #[.slice (some ⟨bp,op,none⟩) ns.length cp]:=(jd w #[.slice (some ⟨bp,op,none⟩) ns.length cp] 30).below (((((Below.refl _ _).alloc (Nat.le_refl _) _).alloc (by simp) _).alloc (by simp) _).alloc (by simp) _) (by simp)
 have hA2:dh (((((w.alloc (.cells #[.slice (some ⟨bp,op,none⟩) ns.length cp] 30)).alloc (.cells #[.slice (some ⟨bl,ol,none⟩) lhs.length zn,.slice l2 code.length zx,.string cl,.slice l3 args.length zy] 48)).alloc (.cells #[.string x.name,.slice b1 x.ins.length c1,.slice b2 x.outs.length c2,.slice b3 x.vars.length c3,.slice b4 x.eqs.length c4] 42)).alloc (.cells #[] 68)).alloc (.cells #[] 68)) (w.heap.size+1) 48 #[.slice (some ⟨bl,ol,none⟩) lhs.length zn,.slice l2 code.length zx,.string cl,.slice l3 args.length zy]:=by
  have h0:=jd (w.alloc (.cells #[.slice (some ⟨bp,op,none⟩) ns.length cp] 30)) #[.slice (some ⟨bl,ol,none⟩) lhs.length zn,.slice l2 code.length zx,.string cl,.slice l3 args.length zy] 48
  rw[show (w.alloc (.cells #[.slice (some ⟨bp,op,none⟩) ns.length cp] 30)).heap.size=w.heap.size+1 from by simp] at h0
  exact h0.below ((((Below.refl _ _).alloc (Nat.le_refl _) _).alloc (by simp) _).alloc (by simp) _) (by simp)
 have hA3:dh (((((w.alloc (.cells #[.slice (some ⟨bp,op,none⟩) ns.length cp] 30)).alloc (.cells #[.slice (some ⟨bl,ol,none⟩) lhs.length zn,.slice l2 code.length zx,.string cl,.slice l3 args.length zy] 48)).alloc (.cells #[.string x.name,.slice b1 x.ins.length c1,.slice b2 x.outs.length c2,.slice b3 x.vars.length c3,.slice b4 x.eqs.length c4] 42)).alloc (.cells #[] 68)).alloc (.cells #[] 68)) (w.heap.size+2) 42 #[.string x.name,.slice b1 x.ins.length c1,.slice b2 x.outs.length c2,.slice b3 x.vars.length c3,.slice b4 x.eqs.length c4]:=by
  have h0:=jd ((w.alloc (.cells #[.slice (some ⟨bp,op,none⟩) ns.length cp] 30)).alloc (.cells #[.slice (some ⟨bl,ol,none⟩) lhs.length zn,.slice l2 code.length zx,.string cl,.slice l3 args.length zy] 48)) #[.string x.name,.slice b1 x.ins.length c1,.slice b2 x.outs.length c2,.slice b3 x.vars.length c3,.slice b4 x.eqs.length c4] 42
  rw[show ((w.alloc (.cells #[.slice (some ⟨bp,op,none⟩) ns.length cp] 30)).alloc (.cells #[.slice (some ⟨bl,ol,none⟩) lhs.length zn,.slice l2 code.length zx,.string cl,.slice l3 args.length zy] 48)).heap.size=w.heap.size+2 from by simp] at h0
  exact h0.below (((Below.refl _ _).alloc (Nat.le_refl _) _).alloc (by simp) _) (by simp)
 obtain⟨BX,ku⟩:∃BX:World->Prop,∀w',BX w'↔Below (w.heap.size+5) (((((w.alloc (.cells #[.slice (some ⟨bp,op,none⟩) ns.length cp] 30)).alloc (.cells #[.slice (some ⟨bl,ol,none⟩) lhs.length zn,.slice l2 code.length zx,.string cl,.slice l3 args.length zy] 48)).alloc (.cells #[.string x.name,.slice b1 x.ins.length c1,.slice b2 x.outs.length c2,.slice b3 x.vars.length c3,.slice b4 x.eqs.length c4] 42)).alloc (.cells #[] 68)).alloc (.cells #[] 68)) w':=⟨_,fun _=>Iff.rfl⟩
 have jy:Hid (∀w1,BX w1->Below w.heap.size w w1):=fun w1 h=>hA.trans (((ku w1).1 h).mono (by omega))
 have Bq:Hid (∀w1 w2,BX w1->Below w1.heap.size w1 w2->BX w2):=fun w1 w2 h h2=>(ku w2).2 (((ku w1).1 h).trans (h2.mono (by have:=((ku w1).1 h).size;omega)))
 have Bf:Hid (∀w1,BX w1->w1.cell? ⟨w.heap.size,0,none⟩=some (.slice (some ⟨bp,op,none⟩) ns.length cp)∧w1.cell? ⟨w.heap.size+1,0,none⟩=some (.slice (some ⟨bl,ol,none⟩) lhs.length zn)∧w1.cell? ⟨w.heap.size+1,1,none⟩=some (.slice l2 code.length zx)∧w1.cell? ⟨w.heap.size+1,2,none⟩=some (.string cl)∧w1.cell? ⟨w.heap.size+1,3,none⟩=some (.slice l3 args.length zy)∧w1.cell? ⟨w.heap.size+2,0,none⟩=some (.string x.name)∧w1.cell? ⟨w.heap.size+2,1,none⟩=some (.slice b1 x.ins.length c1)∧w1.cell? ⟨w.heap.size+2,2,none⟩=some (.slice b2 x.outs.length c2)∧w1.cell? ⟨w.heap.size+2,3,none⟩=some (.slice b3 x.vars.length c3)∧w1.cell? ⟨w.heap.size+2,4,none⟩=some (.slice b4 x.eqs.length c4)):=fun w1 h=>⟨(hA1.below ((ku w1).1 h) (by omega)).cell (i:=0) (v:=.slice (some ⟨bp,op,none⟩) ns.length cp) rfl,(hA2.below ((ku w1).1 h) (by omega)).cell (i:=0) (v:=.slice (some ⟨bl,ol,none⟩) lhs.length zn) rfl,(hA2.below ((ku w1).1 h) (by omega)).cell (i:=1) (v:=.slice l2 code.length zx) rfl,(hA2.below ((ku w1).1 h) (by omega)).cell (i:=2) (v:=.string cl) rfl,(hA2.below ((ku w1).1 h) (by omega)).cell (i:=3) (v:=.slice l3 args.length zy) rfl,(hA3.below ((ku w1).1 h) (by omega)).cell (i:=0) (v:=.string x.name) rfl,(hA3.below ((ku w1).1 h) (by omega)).cell (i:=1) (v:=.slice b1 x.ins.length c1) rfl,(hA3.below ((ku w1).1 h) (by omega)).cell (i:=2) (v:=.slice b2 x.outs.length c2) rfl,(hA3.below ((ku w1).1 h) (by omega)).cell (i:=3) (v:=.slice b3 x.vars.length c3) rfl,(hA3.below ((ku w1).1 h) (by omega)).cell (i:=4) (v:=.slice b4 x.eqs.length c4) rfl⟩
 have Vu:Hid (∀w1,BX w1->w.heap.size+5<=w1.heap.size):=fun w1 h=>by have:=((ku w1).1 h).size;omega
 have HX7:Hid (∀w1 (a:Addr) v,BX w1->w.heap.size+5<=a.block->BX (w1.setCell a v)):=fun w1 a v h ha=>(ku _).2 (((ku w1).1 h).setCell ha v)
 have HX0:Hid (BX (((((w.alloc (.cells #[.slice (some ⟨bp,op,none⟩) ns.length cp] 30)).alloc (.cells #[.slice (some ⟨bl,ol,none⟩) lhs.length zn,.slice l2 code.length zx,.string cl,.slice l3 args.length zy] 48)).alloc (.cells #[.string x.name,.slice b1 x.ins.length c1,.slice b2 x.outs.length c2,.slice b3 x.vars.length c3,.slice b4 x.eqs.length c4] 42)).alloc (.cells #[] 68)).alloc (.cells #[] 68))):=(ku _).2 (Below.refl _ _)
 have HXd:Hid (BX (((((w.alloc (.cells #[.slice (some ⟨bp,op,none⟩) ns.length cp] 30)).alloc (.cells #[.slice (some ⟨bl,ol,none⟩) lhs.length zn,.slice l2 code.length zx,.string cl,.slice l3 args.length zy] 48)).alloc (.cells #[.string x.name,.slice b1 x.ins.length c1,.slice b2 x.outs.length c2,.slice b3 x.vars.length c3,.slice b4 x.eqs.length c4] 42)).alloc (.cells #[] 68)).alloc (.cells #[] 68)).drew):=(ku _).2 (Below.refl _ _).drew
 have HV:Hid (∀nm w',BX w'->Calls Tryz.prog 66 #[.agg #[.string x.name,.slice b1 x.ins.length c1,.slice b2 x.outs.length c2,.slice b3 x.vars.length c3,.slice b4 x.eqs.length c4],.string nm] w' fun e w''=>∃ac cc,e=.returned (.tuple #[.agg #[.string (jg vs nm).name,.int .i64 (jg vs nm).type,.slice ac (jg vs nm).clock.length cc],.int .i64 (uq vs nm)])∧Hid (bf 2 24 jm 0 w (.slice ac (jg vs nm).clock.length cc) (jg vs nm).clock)∧BX w''∧w''.cell? ⟨bl,ol,none⟩=some (.string x0)∧w''.cell? ⟨w.heap.size,0,none⟩=some (.slice (some ⟨bp,op,none⟩) ns.length cp)∧w''.cell? ⟨w.heap.size+1,0,none⟩=some (.slice (some ⟨bl,ol,none⟩) lhs.length zn)∧w''.cell? ⟨w.heap.size+1,1,none⟩=some (.slice l2 code.length zx)∧w''.cell? ⟨w.heap.size+1,2,none⟩=some (.string cl)∧w''.cell? ⟨w.heap.size+1,3,none⟩=some (.slice l3 args.length zy)∧w''.cell? ⟨w.heap.size+2,0,none⟩=some (.string x.name)∧w''.cell? ⟨w.heap.size+2,1,none⟩=some (.slice b1 x.ins.length c1)∧w''.cell? ⟨w.heap.size+2,2,none⟩=some (.slice b2 x.outs.length c2)∧w''.cell? ⟨w.heap.size+2,3,none⟩=some (.slice b3 x.vars.length c3)∧w''.cell? ⟨w.heap.size+2,4,none⟩=some (.slice b4 x.eqs.length c4)):=by
  intro nm w' hb
  refine(Si x _ _ _ _ nm w w' (uh jy w' hb) (uh zl).ins (uh zl).outs (uh zl).vars ⟨b4,x.eqs.length,c4,rfl⟩ hsum).mono ?_
  rintro e w'' ⟨cl',rfl,hS,hb2⟩
  rw[uh Vt] at hS ⊢
  have h8:=uh Bq _ _ hb hb2
  obtain⟨ac,cc,rfl⟩:=hS.shape
  exact⟨ac,cc,rfl,hS,h8,by rw[(uh jy w'' h8).cell (p:=⟨bl,_,none⟩) hbl];exact y0,uh Bf w'' h8⟩
 have hdr:=uh Bf _ (uh HX0)
 have yd:(((((w.alloc (.cells #[.slice (some ⟨bp,op,none⟩) ns.length cp] 30)).alloc (.cells #[.slice (some ⟨bl,ol,none⟩) lhs.length zn,.slice l2 code.length zx,.string cl,.slice l3 args.length zy] 48)).alloc (.cells #[.string x.name,.slice b1 x.ins.length c1,.slice b2 x.outs.length c2,.slice b3 x.vars.length c3,.slice b4 x.eqs.length c4] 42)).alloc (.cells #[] 68)).alloc (.cells #[] 68)).cell? ⟨bl,ol,none⟩=some (.string x0):=by rw[(uh jy _ (uh HX0)).cell (p:=⟨bl,_,none⟩) hbl];exact y0
 clear hA hAz hA1 hA2 hA3 ku
 have hi':(i:Int)<(ns.length:Int):=by omega
 have a5g:bl<w.heap.size:=hbl
 have HVC:=hide (uh HV x0 _ (uh HXd))
 have ax1:Hid (Calls Tryz.prog 66 #[.agg #[.string x.name,.slice b1 x.ins.length c1,.slice b2 x.outs.length c2,.slice b3 x.vars.length c3,.slice b4 x.eqs.length c4],.string x0] ((((((w.alloc (.cells #[.slice (some ⟨bp,op,none⟩) ns.length cp] 30)).alloc (.cells #[.slice (some ⟨bl,ol,none⟩) lhs.length zn,.slice l2 code.length zx,.string cl,.slice l3 args.length zy] 48)).alloc (.cells #[.string x.name,.slice b1 x.ins.length c1,.slice b2 x.outs.length c2,.slice b3 x.vars.length c3,.slice b4 x.eqs.length c4] 42)).alloc (.cells #[] 68)).alloc (.cells #[] 68)).alloc (.cells #[.string ⟨#[]⟩,.int .i64 0,.slice none 0 0] 68)).drew fun e w''=>∃ac cc,e=.returned (.tuple #[.agg #[.string (jg vs x0).name,.int .i64 (jg vs x0).type,.slice ac (jg vs x0).clock.length cc],.int .i64 (uq vs x0)])∧Hid (bf 2 24 jm 0 w (.slice ac (jg vs x0).clock.length cc) (jg vs x0).clock)∧BX w''∧w''.cell? ⟨bl,ol,none⟩=some (.string x0)∧w''.cell? ⟨w.heap.size,0,none⟩=some (.slice (some ⟨bp,op,none⟩) ns.length cp)∧w''.cell? ⟨w.heap.size+1,0,none⟩=some (.slice (some ⟨bl,ol,none⟩) lhs.length zn)∧w''.cell? ⟨w.heap.size+1,1,none⟩=some (.slice l2 code.length zx)∧w''.cell? ⟨w.heap.size+1,2,none⟩=some (.string cl)∧w''.cell? ⟨w.heap.size+1,3,none⟩=some (.slice l3 args.length zy)∧w''.cell? ⟨w.heap.size+2,0,none⟩=some (.string x.name)∧w''.cell? ⟨w.heap.size+2,1,none⟩=some (.slice b1 x.ins.length c1)∧w''.cell? ⟨w.heap.size+2,2,none⟩=some (.slice b2 x.outs.length c2)∧w''.cell? ⟨w.heap.size+2,3,none⟩=some (.slice b3 x.vars.length c3)∧w''.cell? ⟨w.heap.size+2,4,none⟩=some (.slice b4 x.eqs.length c4)∧Hid (dh w'' (((((w.alloc (.cells #[.slice (some ⟨bp,op,none⟩) ns.length cp] 30)).alloc (.cells #[.slice (some ⟨bl,ol,none⟩) lhs.length zn,.slice l2 code.length zx,.string cl,.slice l3 args.length zy] 48)).alloc (.cells #[.string x.name,.slice b1 x.ins.length c1,.slice b2 x.outs.length c2,.slice b3 x.vars.length c3,.slice b4 x.eqs.length c4] 42)).alloc (.cells #[] 68)).alloc (.cells #[] 68)).heap.size 68 #[.string ⟨#[]⟩,.int .i64 0,.slice none 0 0])):=by
  have hbz:Below (((((w.alloc (.cells #[.slice (some ⟨bp,op,none⟩) ns.length cp] 30)).alloc (.cells #[.slice (some ⟨bl,ol,none⟩) lhs.length zn,.slice l2 code.length zx,.string cl,.slice l3 args.length zy] 48)).alloc (.cells #[.string x.name,.slice b1 x.ins.length c1,.slice b2 x.outs.length c2,.slice b3 x.vars.length c3,.slice b4 x.eqs.length c4] 42)).alloc (.cells #[] 68)).alloc (.cells #[] 68)).heap.size (((((w.alloc (.cells #[.slice (some ⟨bp,op,none⟩) ns.length cp] 30)).alloc (.cells #[.slice (some ⟨bl,ol,none⟩) lhs.length zn,.slice l2 code.length zx,.string cl,.slice l3 args.length zy] 48)).alloc (.cells #[.string x.name,.slice b1 x.ins.length c1,.slice b2 x.outs.length c2,.slice b3 x.vars.length c3,.slice b4 x.eqs.length c4] 42)).alloc (.cells #[] 68)).alloc (.cells #[] 68)) ((((((w.alloc (.cells #[.slice (some ⟨bp,op,none⟩) ns.length cp] 30)).alloc (.cells #[.slice (some ⟨bl,ol,none⟩) lhs.length zn,.slice l2 code.length zx,.string cl,.slice l3 args.length zy] 48)).alloc (.cells #[.string x.name,.slice b1 x.ins.length c1,.slice b2 x.outs.length c2,.slice b3 x.vars.length c3,.slice b4 x.eqs.length c4] 42)).alloc (.cells #[] 68)).alloc (.cells #[] 68)).alloc (.cells #[.string ⟨#[]⟩,.int .i64 0,.slice none 0 0] 68)).drew:=((Below.refl _ _).alloc (Nat.le_refl _) _).drew
  have hxz:=uh Bq _ _ (uh HX0) hbz
  refine(Si x _ _ _ _ x0 w _ (uh jy _ hxz) (uh zl).ins (uh zl).outs (uh zl).vars ⟨b4,x.eqs.length,c4,rfl⟩ hsum).mono ?_
  rintro e w'' ⟨cl',rfl,hS,hb2⟩
  rw[uh Vt] at hS ⊢
  have h8:=uh Bq _ _ hxz hb2
  obtain⟨ac,cc,rfl⟩:=hS.shape
  refine⟨ac,cc,rfl,hS,h8,by rw[(uh jy w'' h8).cell (p:=⟨bl,_,none⟩) hbl];exact y0,?_⟩
  obtain⟨q0,q1,q2,q3,q4,q5,q6,q7,q8,q9⟩:=uh Bf w'' h8
  exact⟨q0,q1,q2,q3,q4,q5,q6,q7,q8,q9,(show dh ((((((w.alloc (.cells #[.slice (some ⟨bp,op,none⟩) ns.length cp] 30)).alloc (.cells #[.slice (some ⟨bl,ol,none⟩) lhs.length zn,.slice l2 code.length zx,.string cl,.slice l3 args.length zy] 48)).alloc (.cells #[.string x.name,.slice b1 x.ins.length c1,.slice b2 x.outs.length c2,.slice b3 x.vars.length c3,.slice b4 x.eqs.length c4] 42)).alloc (.cells #[] 68)).alloc (.cells #[] 68)).alloc (.cells #[.string ⟨#[]⟩,.int .i64 0,.slice none 0 0] 68)).drew (((((w.alloc (.cells #[.slice (some ⟨bp,op,none⟩) ns.length cp] 30)).alloc (.cells #[.slice (some ⟨bl,ol,none⟩) lhs.length zn,.slice l2 code.length zx,.string cl,.slice l3 args.length zy] 48)).alloc (.cells #[.string x.name,.slice b1 x.ins.length c1,.slice b2 x.outs.length c2,.slice b3 x.vars.length c3,.slice b4 x.eqs.length c4] 42)).alloc (.cells #[] 68)).alloc (.cells #[] 68)).heap.size 68 #[.string ⟨#[]⟩,.int .i64 0,.slice none 0 0] from jd (((((w.alloc (.cells #[.slice (some ⟨bp,op,none⟩) ns.length cp] 30)).alloc (.cells #[.slice (some ⟨bl,ol,none⟩) lhs.length zn,.slice l2 code.length zx,.string cl,.slice l3 args.length zy] 48)).alloc (.cells #[.string x.name,.slice b1 x.ins.length c1,.slice b2 x.outs.length c2,.slice b3 x.vars.length c3,.slice b4 x.eqs.length c4] 42)).alloc (.cells #[] 68)).alloc (.cells #[] 68)) #[.string ⟨#[]⟩,.int .i64 0,.slice none 0 0] 68).below hb2 (by simp)⟩
 go_enter Tryz.func68,Tryz.ntmps68
 go_wp2_with fail
 obtain⟨d0,d1,d2,d3,d4,d5,d6,d7,d8,d9⟩:=hdr
 generalize hWS:(((((w.alloc (.cells #[.slice (some ⟨bp,op,none⟩) ns.length cp] 30)).alloc (.cells #[.slice (some ⟨bl,ol,none⟩) lhs.length zn,.slice l2 code.length zx,.string cl,.slice l3 args.length zy] 48)).alloc (.cells #[.string x.name,.slice b1 x.ins.length c1,.slice b2 x.outs.length c2,.slice b3 x.vars.length c3,.slice b4 x.eqs.length c4] 42)).alloc (.cells #[] 68)).alloc (.cells #[] 68))=wS at *
 have hwz:wS.heap.size=w.heap.size+5:=by rw[←hWS];simp
 clear hWS
 have a1:wS.heap.size≠bl:=by omega
 have a2:wS.heap.size≠w.heap.size+1:=by omega
 have a3:wS.heap.size≠w.heap.size+2:=by omega
 have HWZ:=hide hwz
 clear hwz
 go_region_held3 (fun w'=>w'.cell? ⟨bl,ol,none⟩=some (.string x0)∧w'.cell? ⟨w.heap.size+1,0,none⟩=some (.slice (some ⟨bl,ol,none⟩) lhs.length zn)∧w'.cell? ⟨w.heap.size+2,0,none⟩=some (.string x.name)∧w'.cell? ⟨w.heap.size+2,1,none⟩=some (.slice b1 x.ins.length c1)∧w'.cell? ⟨w.heap.size+2,2,none⟩=some (.slice b2 x.outs.length c2)∧w'.cell? ⟨w.heap.size+2,3,none⟩=some (.slice b3 x.vars.length c3)∧w'.cell? ⟨w.heap.size+2,4,none⟩=some (.slice b4 x.eqs.length c4)) (go_keep) (first|(go_at_call 66;refine(uh HVC).mono ?_;rintro e w6 ⟨ac,cc,rfl,E5,hB6,y6,z0,z1,z2,z3,z4,z5,z6,z7,z8,z9⟩;have e1:=World.new_ne w6 _ y6;have e2:=World.new_ne w6 _ z1;have e3:=World.new_ne w6 _ z5)|(go_at_call 66;refine(uh ax1).mono ?_;rintro e w6 ⟨ac,cc,rfl,E5,hB6,y6,z0,z1,z2,z3,z4,z5,z6,z7,z8,z9,HZB⟩;have f0:=(uh HZB).cell (i:=0) (v:=.string ⟨#[]⟩) rfl;have f1:=(uh HZB).cell (i:=1) (v:=.int .i64 0) rfl;have f2:=(uh HZB).cell (i:=2) (v:=.slice none 0 0) rfl;have g0:=(uh HZB).free 0;have g1:=(uh HZB).free 1;have g2:=(uh HZB).free 2))
 have hF:=jd w6 #[.string (jg vs x0).name,.int .i64 (jg vs x0).type,.slice ac (jg vs x0).clock.length cc] 68
 have hBF:=uh Bq _ _ hB6 ((Below.refl _ w6).alloc (Nat.le_refl _) (.cells #[.string (jg vs x0).name,.int .i64 (jg vs x0).type,.slice ac (jg vs x0).clock.length cc] 68))
 have hfb:=uh Vu _ hB6
 generalize w6.alloc (.cells #[.string (jg vs x0).name,.int .i64 (jg vs x0).type,.slice ac (jg vs x0).clock.length cc] 68)=wF at hF hBF ⊢
 generalize w6.heap.size=fb at hF hfb ⊢
 clear hB6 y6 z0 z1 z2 z3 z4 z5 z6 z7 z8 z9 e1 e2 e3
 rotate_left
 have hF:=dh.ahm (x:=.string (jg vs x0).name) (y:=.int .i64 (jg vs x0).type) (z:=.slice ac (jg vs x0).clock.length cc) (uh HZB)
 have hfb:w.heap.size+5<=wS.heap.size:=Nat.le_of_eq (uh HWZ).symm
 have hBF:=uh HX7 _ ⟨wS.heap.size,2,none⟩ (.slice ac (jg vs x0).clock.length cc) (uh HX7 _ ⟨wS.heap.size,1,none⟩ (.int .i64 (jg vs x0).type) (uh HX7 _ ⟨wS.heap.size,0,none⟩ (.string (jg vs x0).name) hB6 hfb) hfb) hfb
 generalize ((w6.setCell ⟨wS.heap.size,0,none⟩ (.string (jg vs x0).name)).setCell ⟨wS.heap.size,1,none⟩ (.int .i64 (jg vs x0).type)).setCell ⟨wS.heap.size,2,none⟩ (.slice ac (jg vs x0).clock.length cc)=wF at hF hBF ⊢
 generalize wS.heap.size=fb at hF hfb ⊢
 clear hB6 y6 z0 z1 z2 z3 z4 z5 z6 z7 z8 z9 f0 f1 f2 g0 g1 g2 HZB
 all_goals
  have HFV:=hide (uh HF0 vs)
  have HZ1:Hid (∀w',Below wF.heap.size wF w'->BX w'):=fun w' h=>uh Bq _ _ hBF h
  have HZ2:Hid (∀w',Below wF.heap.size wF w'->w'.cell? ⟨fb,0,none⟩=some (.string (jg vs x0).name)∧w'.cell? ⟨fb,1,none⟩=some (.int .i64 (jg vs x0).type)∧w'.cell? ⟨fb,2,none⟩=some (.slice ac (jg vs x0).clock.length cc)):=fun w' h=>⟨(hF.below h hF.lt).cell (i:=0) (v:=.string (jg vs x0).name) rfl,(hF.below h hF.lt).cell (i:=1) (v:=.int .i64 (jg vs x0).type) rfl,(hF.below h hF.lt).cell (i:=2) (v:=.slice ac (jg vs x0).clock.length cc) rfl⟩
  have hk8:(jg vs x0).clock.length<=8:=hck x0
  have a5h:=hide hck
  generalize jg vs x0=fv at *
  generalize uq vs x0=fi at *
  have hfl:=hF.lt
  have HBF:=hide hBF
  clear hF hBF HVC ax1 HXd HX0 HX7 HF0 d0 d1 d2 d3 d4 d5 d6 d7 d8 d9 yd a1 a2 a3 HWZ hck
  by_cases g:cl.size=0
  ·have d4:=Aa cl g
   have Ij:=xg cl g
   have Qy:=hide (uh HFT vs g)
   rw[uh HFV] at Qy
   obtain⟨q0,q1,q2,q3,q4,q5,q6,q7,q8,q9⟩:=uh Bf wF (uh HBF)
   obtain⟨t0,t1,t2⟩:=uh HZ2 wF (Below.refl _ _)
   clear HFT U5 HFG Ht HPN
   have Gj:Hid (Below wF.heap.size wF (wF.alloc (.cells #[.string ⟨#[]⟩,.int .i64 fv.type,.slice none 0 0] 68))):=(Below.refl _ _).alloc (Nat.le_refl _) _
   have HTI:Hid (ae5 (wF.alloc (.cells #[.string ⟨#[]⟩,.int .i64 fv.type,.slice none 0 0] 68)) (.slice (some ⟨wF.heap.size,0,none⟩) 1 1) [fv.type]):=ax0 fv.type 68
   have hiL:(dw ⟨lhs,code,cl,args⟩).length=1:=by unfold dw;rw[if_pos g];rfl
   have hoL:lhs.length=1:=by
    unfold Eb at heq
    rw[if_pos g] at heq
    simp only[Bool.and_eq_true,decide_eq_true_iff] at heq
    exact heq.2.1.1
   have hL1:=uh Vu _ (uh HBF)
   have hw1:w.heap.size<wF.heap.size:=by omega
   have hw2:w.heap.size+1<wF.heap.size:=by omega
   have hw3:w.heap.size+2<wF.heap.size:=by omega
   have HQ:=hide (ady vs ⟨lhs,code,cl,args⟩ [fv.type] [fv.type] fv.clock)
   rw[←uh Qy] at HQ
   have Ak:=hide (fun w' (hb:Below wF.heap.size wF w')=>uh Ov w' (uh jy _ (uh HZ1 _ hb)) (.slice (some ⟨bl,ol,none⟩) lhs.length zn))
   generalize Aw ns i vs ⟨lhs,code,cl,args⟩=R at *
   generalize dw ⟨lhs,code,cl,args⟩=iy at *
   simp only at HQ
   clear Qy Ov
   have HQL:Hid (iy.length=([fv.type]:List Int).length∧lhs.length=([fv.type]:List Int).length):=⟨hiL,hoL⟩
   clear hiL hoL
   go_wp2_with fail
   refine(uh Ak _ (uh Gj)).mono ?_
   rintro e w8 ⟨vc,rfl,Kt,_,hb8⟩
   have HB8:Hid (Below wF.heap.size wF w8):=(uh Gj).trans (hb8.mono (uh Gj).size)
   have ae7:=hide ((uh HTI).stays hb8)
   have ahu:=ae7
   obtain⟨av,cv,rfl⟩:=Kt.shape
   obtain⟨_,_,hvv,_,hvn,Gw⟩:=Kt
   simp only[Value.slice.injEq] at hvv
   obtain⟨rfl,_,rfl⟩:=hvv
   have Jf:=hide Gw
   have hc5:=hsmall.1
   clear Gw hb8 hvn q0 q1 q2 q3 q4 q5 q6 q7 q8 q9 t0 t1 t2
   go_wp2
   go_loopg [95] iy.length (fun g k' wr=>∃(k:Nat),k<=iy.length∧g=iy.length-k∧k'=.int .i64 k∧Ei vs iy [fv.type] k=true∧Below w8.heap.size w8 wr)
   case atStart=>exact⟨0,Nat.zero_le _,by omega,rfl,rfl,Below.refl _ _⟩
   case round =>
    obtain⟨k,hk,hg,rfl,hty,vg⟩:=hrel
    rename World=>wk
    have HG:=hide hg
    have oh:=hide hty
    have HB9:=hide vg
    have hbk:Below wF.heap.size wF wk:=(uh HB8).trans (vg.mono (uh HB8).size)
    have Ob:=hide hbk
    clear hg hty
    by_cases hlt:k<iy.length
    ·obtain⟨ba,oa,Le,jr,_,hba,Gx,hca,⟨va,rfl,hE⟩⟩:=uh Jf k hlt
     subst jr
     have r0:wk.cell? ⟨ba,oa+k,none⟩=some va:=by rw[vg.cell (p:=⟨ba,_,none⟩) hba];simpa using hca 0 (by simp)
     have hkl:k<([fv.type]:List Int).length:=by have:=(uh HQL).1;omega
     obtain⟨ai,ci,Xy,hxi⟩:=(uh ae7).stays vg
     obtain⟨bi,oi,hbi,acp,hci⟩:=hxi k hkl
     simp only[Value.slice.injEq] at Xy
     obtain⟨hv1,hv2,hv3⟩:=Xy
     clear hv2 hv3
     subst hv1;simp only[Option.some.injEq,Addr.mk.injEq] at hbi;obtain⟨rfl,rfl,_⟩:=hbi
     have Ec:(k:Int)<1:=by simp at hkl;omega
     simp only[Nat.zero_add] at hci
     have hcb:=uh HCB iy[k] (List.getElem_mem hlt)
     have Px:=uh HZ1 _ hbk
     have Yr:Below wk.heap.size wk wk.drew:=(Below.refl _ wk).drew
     have hwT:=hE.stays je ((uh jy _ Px).trans (Yr.mono (uh jy _ Px).size))
     have HTc:=hide (af8 x b1 b2 b3 b4 c1 c2 c3 x.eqs.length c4 hsum iy[k] va (Ey _ hcb).1 (Ey _ hcb).2 iy[k].length 0 (Nc (aj x) iy[k]) (al2 _ _ hcb) wk.drew ((uh zl).stays ((uh jy _ Px).trans (Yr.mono (uh jy _ Px).size))) hwT)
     rw[uh Vt] at HTc
     obtain⟨ae,ce,rfl⟩:=hE.shape
     obtain⟨P8,P9,Qa,Qb,Qc,Ul,Um,Un,Uo,Ur⟩:=uh Bf wk Px
     have jo:=hide (fun h=>(uh HQ).1 (adx vs iy [fv.type] k hlt hkl h))
     have Cb:=hide (fun h=>ae2 vs iy [fv.type] k hlt hkl (uh oh) h)
     have nE:=hE.len'
     have hltk:(k:Int)<(iy.length:Int):=by omega
     clear hca Gx hE hwT hxi
     generalize Nc vs iy[k]=ty at *
     generalize ([fv.type]:List Int)[k]=tk at *
     have HTp:Hid (Calls Tryz.prog 96 #[.agg #[.string x.name,.slice b1 x.ins.length c1,.slice b2 x.outs.length c2,.slice b3 x.vars.length c3,.slice b4 x.eqs.length c4],.slice ae iy[k].length ce,.int .i64 (iy[k].length:Int)] wk.drew fun e w''=>e=.returned (.int .i64 ty)∧Hid (Below wk.heap.size wk w'')∧w''.cell? ⟨wF.heap.size,k*3+1,none⟩=some (.int .i64 tk)∧w''.cell? ⟨w.heap.size+2,0,none⟩=some (.string x.name)∧w''.cell? ⟨w.heap.size+2,1,none⟩=some (.slice b1 x.ins.length c1)∧w''.cell? ⟨w.heap.size+2,2,none⟩=some (.slice b2 x.outs.length c2)∧w''.cell? ⟨w.heap.size+2,3,none⟩=some (.slice b3 x.vars.length c3)∧w''.cell? ⟨w.heap.size+2,4,none⟩=some (.slice b4 x.eqs.length c4)):=by
      refine(uh HTc).mono ?_
      rintro e w'' ⟨rfl,h9⟩
      have h8:Below wk.heap.size wk w'':=Yr.trans h9
      have Wx:=uh Bq _ _ Px h8
      obtain⟨_,_,_,_,_,x5,x6,x7,x8,x9⟩:=uh Bf w'' Wx
      exact⟨rfl,h8,by rw[h8.cell (p:=⟨wF.heap.size,_,none⟩) acp];exact hci,x5,x6,x7,x8,x9⟩
     generalize iy[k].length=el at *
     clear HTc hcb vg hbk Px Yr
     by_cases he:ty=tk
     ·have de:(ty != tk)=false:=by simp[he]
      have Fa:=hide (uh Cb he)
      clear he jo Cb
      go_wp2_with fail
      go_region_held3 (fun w'=>w'.cell? ⟨wF.heap.size,k*3+1,none⟩=some (.int .i64 tk)∧w'.cell? ⟨w.heap.size+2,0,none⟩=some (.string x.name)∧w'.cell? ⟨w.heap.size+2,1,none⟩=some (.slice b1 x.ins.length c1)∧w'.cell? ⟨w.heap.size+2,2,none⟩=some (.slice b2 x.outs.length c2)∧w'.cell? ⟨w.heap.size+2,3,none⟩=some (.slice b3 x.vars.length c3)∧w'.cell? ⟨w.heap.size+2,4,none⟩=some (.slice b4 x.eqs.length c4)) (go_keep) (first|(go_at_call 96;refine(uh HTp).mono ?_;rintro e w9 ⟨rfl,acr,u1,u2,u3,u4,u5,u6⟩))
      go_wp2
      go_roundg (iy.length-(k+1))
      case measure=>have:=uh HG;omega
      case rel=>exact⟨k+1,by omega,rfl,by go_num,uh Fa,(uh HB9).trans ((uh acr).mono (uh HB9).size)⟩
     ·have de:(ty != tk)=true:=by simp[he]
      have Fa:=hide (uh jo he)
      clear he jo Cb
      go_wp2_with fail
      go_region_held3 (fun w'=>w'.cell? ⟨wF.heap.size,k*3+1,none⟩=some (.int .i64 tk)∧w'.cell? ⟨w.heap.size+2,0,none⟩=some (.string x.name)∧w'.cell? ⟨w.heap.size+2,1,none⟩=some (.slice b1 x.ins.length c1)∧w'.cell? ⟨w.heap.size+2,2,none⟩=some (.slice b2 x.outs.length c2)∧w'.cell? ⟨w.heap.size+2,3,none⟩=some (.slice b3 x.vars.length c3)∧w'.cell? ⟨w.heap.size+2,4,none⟩=some (.slice b4 x.eqs.length c4)) (go_keep) (first|(go_at_call 96;refine(uh HTp).mono ?_;rintro e w9 ⟨rfl,acr,u1,u2,u3,u4,u5,u6⟩))
      have gq:=hide (uh jy _ (uh HZ1 _ ((uh Ob).trans ((uh acr).mono (uh Ob).size))))
      go_wp2
      go_ret
      exact⟨yx (uh Fa).symm,uh gq⟩
    ·have e:k=iy.length:=by omega
     subst e
     obtain⟨P8,P9,Qa,Qb,Qc,Ul,Um,Un,Uo,Ur⟩:=uh Bf wk (uh HZ1 _ hbk)
     have Yt:=oh
     have ahv:=hide ((uh ahu).stays vg)
     clear vg hbk Jf HTI ae7 ahu
     go_wp2
     clear P8 P9 Qa Qb Qc Ul Um Un Uo Ur
     go_loopg [115] lhs.length (fun g k' wr=>∃(k2:Nat),k2<=lhs.length∧g=lhs.length-k2∧k'=.int .i64 k2∧Cm vs lhs [fv.type] k2=true∧Below wk.heap.size wk wr)
     case atStart=>exact⟨0,Nat.zero_le _,by omega,rfl,rfl,Below.refl _ _⟩
     case round =>
      obtain⟨k2,hk2,hg2,rfl,hto,hb2⟩:=hrel
      rename World=>wl
      have HG2:=hide hg2
      have HTO:=hide hto
      have HB2:=hide hb2
      have Yu:Below wF.heap.size wF wl:=(uh Ob).trans (hb2.mono (uh Ob).size)
      have yj:=hide Yu
      have Yv:=uh HZ1 _ Yu
      obtain⟨P8,P9,Qa,Qb,Qc,Ul,Um,Un,Uo,Ur⟩:=uh Bf wl Yv
      clear hg2 hto
      by_cases hlt2:k2<lhs.length
      ·obtain⟨b5,o5,c5,hv5,hb5,cs5,Yw,Vw,⟨rfl,Yx⟩⟩:=(uh H1).at' k2 hlt2
       simp only[Value.slice.injEq,Option.some.injEq,Addr.mk.injEq] at hv5
       obtain⟨⟨rfl,rfl,hz1⟩,hz2,hz3⟩:=hv5
       clear hz1 hz2 hz3
       have r0:wl.cell? ⟨bl,ol+k2,none⟩=some (.string lhs[k2]):=by
        rw[(uh jy _ Yv).cell (p:=⟨bl,_,none⟩) hb5]
        simpa using Vw 0 (by simp)
       have hkl:k2<([fv.type]:List Int).length:=by have:=(uh HQL).2;omega
       have HVk:=hide (Si x (.slice b1 x.ins.length c1) (.slice b2 x.outs.length c2) (.slice b3 x.vars.length c3) (.slice b4 x.eqs.length c4) lhs[k2] w wl (uh jy _ Yv) (uh zl).ins (uh zl).outs (uh zl).vars ⟨b4,x.eqs.length,c4,rfl⟩ hsum)
       unfold Xw at HVk
       rw[uh Vt] at HVk
       have jo:=hide (fun h=>(uh HQ).2.1 (uh Yt) (ae3 vs lhs [fv.type] k2 hlt2 hkl h))
       have Cb:=hide (fun h=>aci vs lhs [fv.type] k2 hlt2 hkl (uh HTO) h)
       have hltk:(k2:Int)<(lhs.length:Int):=by omega
       obtain⟨ai,ci,Xy,hxi⟩:=(uh ahv).stays hb2
       obtain⟨bi,oi,hbi,acp,hci⟩:=hxi k2 hkl
       simp only[Value.slice.injEq] at Xy
       obtain⟨hv1,hv2,hv3⟩:=Xy
       clear hv2 hv3
       subst hv1;simp only[Option.some.injEq,Addr.mk.injEq] at hbi;obtain⟨rfl,rfl,_⟩:=hbi
       have Ec:(k2:Int)<1:=by simp at hkl;omega
       simp only[Nat.zero_add] at hci
       clear Vw Yw Yx hxi
       generalize lhs[k2]=nm at *
       generalize ([fv.type]:List Int)[k2]=tk at *
       generalize jg vs nm=vv at *
       generalize uq vs nm=vi at *
       go_wp2_with fail
       refine(uh HVk).mono ?_
       rintro e w9 ⟨cl2,rfl,hS2,acs⟩
       obtain⟨ac2,Oc,rfl⟩:=hS2.shape
       have Gg:Hid (Below wl.heap.size wl (w9.alloc (.cells #[.string vv.name,.int .i64 vv.type,.slice ac2 vv.clock.length Oc] 68))):=acs.alloc acs.size _
       have z1:(w9.alloc (.cells #[.string vv.name,.int .i64 vv.type,.slice ac2 vv.clock.length Oc] 68)).cell? ⟨w9.heap.size,1,none⟩=some (.int .i64 vv.type):=(World.cell?_alloc_at _ _ _ _ rfl).trans rfl
       have z2:(w9.alloc (.cells #[.string vv.name,.int .i64 vv.type,.slice ac2 vv.clock.length Oc] 68)).cell? ⟨wF.heap.size,k2*3+1,none⟩=some (.int .i64 tk):=by rw[(uh Gg).cell (p:=⟨wF.heap.size,_,none⟩) acp];exact hci
       clear acs hS2 hci P8 P9 Qa Qb Qc Ul Um Un Uo Ur r0 Yv hb2 Yu
       go_wp2_with fail
       generalize w9.alloc (.cells #[.string vv.name,.int .i64 vv.type,.slice ac2 vv.clock.length Oc] 68)=wV at z1 z2 Gg ⊢
       have ahw:Hid (Below wl.heap.size wl wV.drew):=(uh Gg).drew
       by_cases he:vv.type=tk
       ·have de:(vv.type != tk)=false:=by simp[he]
        have Fa:=hide (uh Cb he)
        clear he jo Cb
        go_region_held3 (fun w'=>w'.cell? ⟨w9.heap.size,1,none⟩=some (.int .i64 vv.type)∧w'.cell? ⟨wF.heap.size,k2*3+1,none⟩=some (.int .i64 tk)) (go_keep) (fail)
        go_wp2
        go_roundg (lhs.length-(k2+1))
        case measure=>have:=uh HG2;omega
        case rel=>exact⟨k2+1,by omega,rfl,by go_num,uh Fa,(uh HB2).trans ((uh ahw).mono (uh HB2).size)⟩
       ·have de:(vv.type != tk)=true:=by simp[he]
        have Fa:=hide (uh jo he)
        clear he jo Cb
        go_region_held3 (fun w'=>w'.cell? ⟨w9.heap.size,1,none⟩=some (.int .i64 vv.type)∧w'.cell? ⟨wF.heap.size,k2*3+1,none⟩=some (.int .i64 tk)) (go_keep) (fail)
        have gq:=hide (uh jy _ (uh HZ1 _ ((uh yj).trans ((uh ahw).mono (uh yj).size))))
        go_wp2
        go_ret
        exact⟨yx (uh Fa).symm,uh gq⟩
      ·have e:k2=lhs.length:=by omega
       subst e
       have acu:=HTO
       clear ahv hb2 Yu
       go_wp2
       clear P8 P9 Qa Qb Qc Ul Um Un Uo Ur
       go_loopg [138] lhs.length (fun g k' wr=>∃(k3:Nat),k3<=lhs.length∧g=lhs.length-k3∧k'=.int .i64 k3∧Em vs lhs fv.clock k3=true∧Below wl.heap.size wl wr)
       case atStart=>exact⟨0,Nat.zero_le _,by omega,rfl,rfl,Below.refl _ _⟩
       case round =>
        obtain⟨k3,hk3,hg3,rfl,ahx,hb3⟩:=hrel
        rename World=>wm
        have Jg:=hide hg3
        have ahy:=hide ahx
        have HB3:=hide hb3
        have hbm:Below wF.heap.size wF wm:=(uh yj).trans (hb3.mono (uh yj).size)
        have Az:=hide hbm
        have Di:=uh HZ1 _ hbm
        obtain⟨P8,P9,Qa,Qb,Qc,Ul,Um,Un,Uo,Ur⟩:=uh Bf wm Di
        obtain⟨t0,t1,t2⟩:=uh HZ2 wm hbm
        clear hg3 ahx
        by_cases hlt3:k3<lhs.length
        ·obtain⟨b5,o5,c5,hv5,hb5,cs5,Yw,Vw,⟨rfl,Yx⟩⟩:=(uh H1).at' k3 hlt3
         simp only[Value.slice.injEq,Option.some.injEq,Addr.mk.injEq] at hv5
         obtain⟨⟨rfl,rfl,hz1⟩,hz2,hz3⟩:=hv5
         clear hz1 hz2 hz3
         have r0:wm.cell? ⟨bl,ol+k3,none⟩=some (.string lhs[k3]):=by
          rw[(uh jy _ Di).cell (p:=⟨bl,_,none⟩) hb5]
          simpa using Vw 0 (by simp)
         have jo:=hide (fun h=>(uh HQ).2.2.1 (uh Yt) (uh acu) (abk vs lhs fv.clock k3 hlt3 h))
         have Cb:=hide (fun h=>acj vs lhs fv.clock k3 hlt3 (uh ahy) h)
         have hltk:(k3:Int)<(lhs.length:Int):=by omega
         have hdm:Below wF.heap.size wF wm.drew:=hbm.drew
         have HCc:Hid (Calls Tryz.prog 39 #[.agg #[.string x.name,.slice b1 x.ins.length c1,.slice b2 x.outs.length c2,.slice b3 x.vars.length c3,.slice b4 x.eqs.length c4],.string lhs[k3]] wm.drew fun e w''=>∃a c,e=.returned (.slice a (jv vs lhs[k3]).length c)∧Hid (Below wF.heap.size wF w'')∧Hid (Below wm.heap.size wm w'')∧Hid (Calls Tryz.prog 67 #[.slice a (jv vs lhs[k3]).length c,.slice ac fv.clock.length cc] w'' fun e w3=>e=.returned (.bool (qj (jv vs lhs[k3]) fv.clock))∧Hid (Below wm.heap.size wm w3)∧w3.cell? ⟨fb,2,none⟩=some (.slice ac fv.clock.length cc)∧w3.cell? ⟨w.heap.size+2,0,none⟩=some (.string x.name)∧w3.cell? ⟨w.heap.size+2,1,none⟩=some (.slice b1 x.ins.length c1)∧w3.cell? ⟨w.heap.size+2,2,none⟩=some (.slice b2 x.outs.length c2)∧w3.cell? ⟨w.heap.size+2,3,none⟩=some (.slice b3 x.vars.length c3)∧w3.cell? ⟨w.heap.size+2,4,none⟩=some (.slice b4 x.eqs.length c4))∧w''.cell? ⟨fb,2,none⟩=some (.slice ac fv.clock.length cc)∧w''.cell? ⟨w.heap.size+2,0,none⟩=some (.string x.name)∧w''.cell? ⟨w.heap.size+2,1,none⟩=some (.slice b1 x.ins.length c1)∧w''.cell? ⟨w.heap.size+2,2,none⟩=some (.slice b2 x.outs.length c2)∧w''.cell? ⟨w.heap.size+2,3,none⟩=some (.slice b3 x.vars.length c3)∧w''.cell? ⟨w.heap.size+2,4,none⟩=some (.slice b4 x.eqs.length c4)):=by
          refine(Yo x _ _ _ _ lhs[k3] w wm.drew (uh jy _ (uh HZ1 _ hdm)) (uh zl).ins (uh zl).outs (uh zl).vars ⟨b4,x.eqs.length,c4,rfl⟩ hsum).mono ?_
          rintro e w'' ⟨cl',rfl,hS,h9⟩
          rw[uh Vt] at hS
          have Xz:Below wm.heap.size wm w'':=((Below.refl _ wm).drew).trans h9
          have hf9:Below wF.heap.size wF w'':=hbm.trans (Xz.mono hbm.size)
          obtain⟨a',c',rfl⟩:=hS.shape
          obtain⟨_,_,u2⟩:=uh HZ2 w'' hf9
          obtain⟨_,_,_,_,_,x5,x6,x7,x8,x9⟩:=uh Bf w'' (uh HZ1 _ hf9)
          refine⟨a',c',rfl,hf9,Xz,?_,u2,x5,x6,x7,x8,x9⟩
          show Calls Tryz.prog 67 _ w'' _
          refine(Eu (jv vs lhs[k3]) fv.clock _ _ w'' (hS.stays lg (uh jy _ (uh HZ1 _ hf9))) ((uh E5).stays lg (uh jy _ (uh HZ1 _ hf9)))).mono ?_
          rintro e w3 ⟨rfl,h10⟩
          have hm3:Below wm.heap.size wm w3:=Xz.trans (h10.mono Xz.size)
          have hf3:Below wF.heap.size wF w3:=hbm.trans (hm3.mono hbm.size)
          obtain⟨_,_,v2⟩:=uh HZ2 w3 hf3
          obtain⟨_,_,_,_,_,y5,y6,y7,y8,y9⟩:=uh Bf w3 (uh HZ1 _ hf3)
          exact⟨rfl,hm3,v2,y5,y6,y7,y8,y9⟩
         clear Vw Yw Yx hdm hbm Di hb3
         generalize qj (jv vs lhs[k3]) fv.clock=sc at *
         generalize (jv vs lhs[k3]).length=cln at *
         generalize lhs[k3]=nm at *
         cases sc
         ·have Fa:=hide (uh jo rfl)
          clear jo Cb
          go_wp2_with fail
          go_region_held3 (fun w'=>w'.cell? ⟨fb,2,none⟩=some (.slice ac fv.clock.length cc)∧w'.cell? ⟨w.heap.size+2,0,none⟩=some (.string x.name)∧w'.cell? ⟨w.heap.size+2,1,none⟩=some (.slice b1 x.ins.length c1)∧w'.cell? ⟨w.heap.size+2,2,none⟩=some (.slice b2 x.outs.length c2)∧w'.cell? ⟨w.heap.size+2,3,none⟩=some (.slice b3 x.vars.length c3)∧w'.cell? ⟨w.heap.size+2,4,none⟩=some (.slice b4 x.eqs.length c4)) (go_keep) (first|(go_at_call 39;refine(uh HCc).mono ?_;rintro e w9 ⟨a9,c9,rfl,HF9,HM9,Vx,u0,u1,u2,u3,u4,u5⟩;clear HCc)|(go_at_call 67;refine(uh Vx).mono ?_;rintro e w10 ⟨rfl,acv,v0,v1,v2,v3,v4,v5⟩;clear Vx))
          have gq:=hide (uh jy _ (uh HZ1 _ ((uh Az).trans ((uh acv).mono (uh Az).size))))
          go_wp2
          go_ret
          exact⟨yx (uh Fa).symm,uh gq⟩
         ·have Fa:=hide (uh Cb rfl)
          clear jo Cb
          go_wp2_with fail
          go_region_held3 (fun w'=>w'.cell? ⟨fb,2,none⟩=some (.slice ac fv.clock.length cc)∧w'.cell? ⟨w.heap.size+2,0,none⟩=some (.string x.name)∧w'.cell? ⟨w.heap.size+2,1,none⟩=some (.slice b1 x.ins.length c1)∧w'.cell? ⟨w.heap.size+2,2,none⟩=some (.slice b2 x.outs.length c2)∧w'.cell? ⟨w.heap.size+2,3,none⟩=some (.slice b3 x.vars.length c3)∧w'.cell? ⟨w.heap.size+2,4,none⟩=some (.slice b4 x.eqs.length c4)) (go_keep) (first|(go_at_call 39;refine(uh HCc).mono ?_;rintro e w9 ⟨a9,c9,rfl,HF9,HM9,Vx,u0,u1,u2,u3,u4,u5⟩;clear HCc)|(go_at_call 67;refine(uh Vx).mono ?_;rintro e w10 ⟨rfl,acv,v0,v1,v2,v3,v4,v5⟩;clear Vx))
          go_wp2
          go_roundg (lhs.length-(k3+1))
          case measure=>have:=uh Jg;omega
          case rel=>exact⟨k3+1,by omega,rfl,by go_num,uh Fa,(uh HB3).trans ((uh acv).mono (uh HB3).size)⟩
        ·have e:k3=lhs.length:=by omega
         subst e
         have ahz:=ahy
         have HC2:=hide (uh Ak wm hbm)
         clear Ak Di hb3 hbm t0 t1 t2
         go_wp2_with fail
         refine(uh HC2).mono ?_
         rintro e w8' ⟨vc,rfl,Kt,_,hb8⟩
         have ah0:Hid (Below wF.heap.size wF w8'):=(uh Az).trans (hb8.mono (uh Az).size)
         obtain⟨av2,cv2,rfl⟩:=Kt.shape
         obtain⟨_,_,hvv,_,hvn,Gw⟩:=Kt
         simp only[Value.slice.injEq] at hvv
         obtain⟨rfl,_,rfl⟩:=hvv
         have Jf:=hide Gw
         clear Gw hb8 hvn P8 P9 Qa Qb Qc Ul Um Un Uo Ur
         go_wp2
         go_loopg [153] iy.length (fun g k' wr=>∃(k4:Nat),k4<=iy.length∧g=iy.length-k4∧k'=.int .i64 k4∧E8 vs iy fv.clock k4=true∧Below w8'.heap.size w8' wr)
         case atStart=>exact⟨0,Nat.zero_le _,by omega,rfl,rfl,Below.refl _ _⟩
         case round =>
          obtain⟨k4,hk4,hg4,rfl,ah1,hb4⟩:=hrel
          rename World=>wq
          have HG4:=hide hg4
          have ah2:=hide ah1
          have HB4:=hide hb4
          have hbq:Below wF.heap.size wF wq:=(uh ah0).trans (hb4.mono (uh ah0).size)
          have Ik:=hide hbq
          have Jm:=uh HZ1 _ hbq
          clear hg4 ah1
          by_cases hlt4:k4<iy.length
          ·obtain⟨ba,oa,Le,jr,_,hba,Gx,hca,⟨va,rfl,hE⟩⟩:=uh Jf k4 hlt4
           subst jr
           have r0:wq.cell? ⟨ba,oa+k4,none⟩=some va:=by rw[hb4.cell (p:=⟨ba,_,none⟩) hba];simpa using hca 0 (by simp)
           have hcb:=uh HCB iy[k4] (List.getElem_mem hlt4)
           have HTc:=hide (af9 x b1 b2 b3 b4 c1 c2 c3 x.eqs.length c4 hsum iy[k4] va (Ey _ hcb).1 (Ey _ hcb).2 iy[k4].length 0 (Ol (aj x) iy[k4]) (ahs _ _ hcb) wq ((uh zl).stays (uh jy _ Jm)) (hE.stays je (uh jy _ Jm)) fv.clock _ ((uh E5).stays lg (uh jy _ Jm)) hk8)
           rw[uh Vt] at HTc
           obtain⟨ae,ce,rfl⟩:=hE.shape
           have nE:=hE.len'
           obtain⟨P8,P9,Qa,Qb,Qc,Ul,Um,Un,Uo,Ur⟩:=uh Bf wq Jm
           obtain⟨t0,t1,t2⟩:=uh HZ2 wq hbq
           have jo:=hide (fun h=>(uh HQ).2.2.2.1 (uh Yt) (uh acu) (uh ahz) (ae4 vs iy fv.clock k4 hlt4 h))
           have Cb:=hide (fun h=>acn vs iy fv.clock k4 hlt4 (uh ah2) h)
           have hltk:(k4:Int)<(iy.length:Int):=by omega
           clear hca Gx hE hcb hb4 hbq Jm
           generalize Ol vs iy[k4] fv.clock=ft at *
           generalize iy[k4].length=el at *
           cases ft
           ·have Fa:=hide (uh jo rfl)
            clear jo Cb
            go_wp2_with fail
            refine(uh HTc).mono ?_
            rintro e w9 ⟨rfl,vg⟩
            have gq:=hide (uh jy _ (uh HZ1 _ ((uh Ik).trans (vg.mono (uh Ik).size))))
            clear vg
            go_wp2
            go_ret
            exact⟨yx (uh Fa).symm,uh gq⟩
           ·have Fa:=hide (uh Cb rfl)
            clear jo Cb
            go_wp2_with fail
            refine(uh HTc).mono ?_
            rintro e w9 ⟨rfl,vg⟩
            have arq:=hide vg
            clear vg
            go_wp2
            go_roundg (iy.length-(k4+1))
            case measure=>have:=uh HG4;omega
            case rel=>exact⟨k4+1,by omega,rfl,by go_num,uh Fa,(uh HB4).trans ((uh arq).mono (uh HB4).size)⟩
          ·have e:k4=iy.length:=by omega
           subst e
           have gq:=hide (uh jy _ Jm)
           have Fa:=hide ((uh HQ).2.2.2.2 (uh Yt) (uh acu) (uh ahz) (uh ah2))
           go_wp2
           go_ret
           exact⟨yx (uh Fa).symm,uh gq⟩
  ·have d4:=Ae cl g
   have Ij:=vk cl g
   obtain⟨q0,q1,q2,q3,q4,q5,q6,q7,q8,q9⟩:=uh Bf wF (uh HBF)
   have HFI:=hide (uh Ht wF (uh jy _ (uh HBF)))
   by_cases hneg:jh ns i cl<0
   ·have Us:=hide (uh U5 vs g hneg)
    have dn:decide (jh ns i cl<0)=true:=decide_eq_true hneg
    clear HFT U5 HFG Ht HPN g Ov
    generalize Aw ns i vs ⟨lhs,code,cl,args⟩=R at *
    generalize jh ns i cl=fi2 at *
    go_wp2_with fail
    refine(uh HFI).mono ?_
    rintro e w7 ⟨rfl,hb7⟩
    have G8:=hide (uh jy _ (uh HZ1 _ hb7))
    have ah3:Hid (∀n,Below w.heap.size w (w7.drewN n)):=fun n=>⟨(uh G8).os,(uh G8).tape,(uh G8).output,(uh G8).size,(uh G8).block⟩
    clear hb7
    go_wp2_with fail
    go_quiet ((fail))
    go_wp2
    go_ret
    exact⟨yx (uh Us).symm,uh ah3 _⟩
   ·obtain⟨gi,hgi⟩:=Int.eq_ofNat_of_zero_le (show 0<=jh ns i cl by omega)
    have hgl:gi<ns.length:=by omega
    obtain⟨bg,og,cg,hgv,hbg,csg,_,ars,iv2,ov2,vv2,ev2,rfl,_,amy,am0,_,_⟩:=uh HPN gi hgl
    simp only[Value.slice.injEq,Option.some.injEq,Addr.mk.injEq] at hgv
    obtain⟨⟨hz1,hz2,hz3⟩,hz4,hz5⟩:=hgv
    subst hz1 hz2
    clear hz3 hz4 hz5
    have p1:=ars 1 (by simp)
    have p2:=ars 2 (by simp)
    simp only[List.getElem_cons_zero,List.getElem_cons_succ] at p1 p2
    have HRG:=hide (uh HFG vs gi hgl g hgi)
    have aru:=hide (avj amy)
    have arv:=hide (avj am0)
    obtain⟨ai2,ci2,rfl⟩:=amy.shape
    obtain⟨ao2,co2,rfl⟩:=am0.shape
    have n8:=amy.len'
    have n9:=am0.len'
    rw[hgi] at HFI
    have hg':(gi:Int)<(ns.length:Int):=by omega
    clear HFT U5 HFG Ht HPN ars amy am0
    obtain⟨its,hits⟩:∃its,its=ns[gi].ins.map (·.type):=⟨_,rfl⟩
    obtain⟨Fv,am1⟩:∃Fv,Fv=ns[gi].outs.map (·.type):=⟨_,rfl⟩
    have hil:ns[gi].ins.length=its.length:=by rw[hits,List.length_map]
    have hol:ns[gi].outs.length=Fv.length:=by rw[am1,List.length_map]
    rw[←hits,←am1,hil,hol] at HRG
    rw[←hits,hil] at aru
    rw[←am1,hol] at arv
    rw[hil] at p1 n8
    rw[hol] at p2 n9
    have e7:(dw ⟨lhs,code,cl,args⟩).length=args.length:=by unfold dw;rw[if_neg g]
    clear hits am1 hil hol hgi g hneg hfb
    have dn:decide ((gi:Int)<0)=false:=by rw[decide_eq_false_iff_not];omega
    by_cases hA:its.length=args.length
    case neg =>
     have Us:Hid (Aw ns i vs ⟨lhs,code,cl,args⟩=5):=(uh HRG).trans (by rw[if_pos (Or.inl hA)])
     have d1:((its.length:Int) != (args.length:Int))=true:=by simp;omega
     clear HRG Ov e7
     generalize Aw ns i vs ⟨lhs,code,cl,args⟩=R at *
     go_wp2_with fail
     refine(uh HFI).mono ?_
     rintro e w7 ⟨rfl,hb7⟩
     have Iz:=uh HZ1 _ hb7
     have G8:=hide (uh jy _ Iz)
     have ah3:Hid (∀n,Below w.heap.size w (w7.drewN n)):=fun n=>⟨(uh G8).os,(uh G8).tape,(uh G8).output,(uh G8).size,(uh G8).block⟩
     have s1:w7.cell? ⟨bp,op+gi*5+1,none⟩=some (.slice ai2 its.length ci2):=by rw[(uh G8).cell (p:=⟨bp,_,none⟩) hbp];exact p1
     obtain⟨r0,r1,r2,r3,r4,r5,r6,r7,r8,r9⟩:=uh Bf w7 Iz
     clear hb7 Iz q0 q1 q2 q3 q4 q5 q6 q7 q8 q9
     go_wp2_with fail
     go_quiet ((fail))
     go_wp2
     go_ret
     exact⟨yx (uh Us).symm,uh ah3 _⟩
    have d1:((its.length:Int) != (args.length:Int))=false:=by simp;omega
    by_cases hO:Fv.length=lhs.length
    case neg =>
     have Us:Hid (Aw ns i vs ⟨lhs,code,cl,args⟩=5):=(uh HRG).trans (by rw[if_pos (Or.inr hO)])
     have d2:((Fv.length:Int) != (lhs.length:Int))=true:=by simp;omega
     have HA9:=hide hA
     clear HRG Ov e7 hA
     generalize Aw ns i vs ⟨lhs,code,cl,args⟩=R at *
     go_wp2_with fail
     refine(uh HFI).mono ?_
     rintro e w7 ⟨rfl,hb7⟩
     have Iz:=uh HZ1 _ hb7
     have G8:=hide (uh jy _ Iz)
     have ah3:Hid (∀n,Below w.heap.size w (w7.drewN n)):=fun n=>⟨(uh G8).os,(uh G8).tape,(uh G8).output,(uh G8).size,(uh G8).block⟩
     have s1:w7.cell? ⟨bp,op+gi*5+1,none⟩=some (.slice ai2 its.length ci2):=by rw[(uh G8).cell (p:=⟨bp,_,none⟩) hbp];exact p1
     have s2:w7.cell? ⟨bp,op+gi*5+2,none⟩=some (.slice ao2 Fv.length co2):=by rw[(uh G8).cell (p:=⟨bp,_,none⟩) hbp];exact p2
     obtain⟨r0,r1,r2,r3,r4,r5,r6,r7,r8,r9⟩:=uh Bf w7 Iz
     clear hb7 Iz q0 q1 q2 q3 q4 q5 q6 q7 q8 q9
     go_wp2_with fail
     go_quiet ((fail))
     go_wp2
     go_ret
     exact⟨yx (uh Us).symm,uh ah3 _⟩
    have d2:((Fv.length:Int) != (lhs.length:Int))=false:=by simp;omega
    have Qy:Hid (Aw ns i vs ⟨lhs,code,cl,args⟩=Iw vs ⟨lhs,code,cl,args⟩ its Fv fv.clock):=(uh HRG).trans (by rw[if_neg (by rintro(h|h);exact h hA;exact h hO),uh HFV])
    have ax2:(dw ⟨lhs,code,cl,args⟩).length=its.length:=by omega
    have Rt:=hide (And.intro ax2 hO.symm)
    clear HRG hA hO e7 ax2
    go_wp2_with fail
    refine(uh HFI).mono ?_
    rintro e w7 ⟨rfl,hb7⟩
    have Iz:=uh HZ1 _ hb7
    have G8:=hide (uh jy _ Iz)
    have s1:w7.cell? ⟨bp,op+gi*5+1,none⟩=some (.slice ai2 its.length ci2):=by rw[(uh G8).cell (p:=⟨bp,_,none⟩) hbp];exact p1
    have s2:w7.cell? ⟨bp,op+gi*5+2,none⟩=some (.slice ao2 Fv.length co2):=by rw[(uh G8).cell (p:=⟨bp,_,none⟩) hbp];exact p2
    obtain⟨r0,r1,r2,r3,r4,r5,r6,r7,r8,r9⟩:=uh Bf w7 Iz
    have ax3:Hid (∀n,Below wF.heap.size wF (w7.drewN n)):=fun n=>⟨hb7.os,hb7.tape,hb7.output,hb7.size,hb7.block⟩
    clear hb7 Iz q0 q1 q2 q3 q4 q5 q6 q7 q8 q9
    go_wp2_with fail
    go_quiet ((fail))
    have Gj:=hide (uh ax3 nq)
    generalize w7.drewN nq=wT at Gj ⊢
    clear r0 r1 r2 r3 r4 r5 r6 r7 r8 r9 s1 s2 ax3 G8
    have arw:=uh HZ1 _ (uh Gj)
    have hbT:=uh jy _ arw
    obtain⟨q0,q1,q2,q3,q4,q5,q6,q7,q8,q9⟩:=uh Bf wT arw
    obtain⟨t0,t1,t2⟩:=uh HZ2 wT (uh Gj)
    have s1:wT.cell? ⟨bp,op+gi*5+1,none⟩=some (.slice ai2 its.length ci2):=by rw[hbT.cell (p:=⟨bp,_,none⟩) hbp];exact p1
    have s2:wT.cell? ⟨bp,op+gi*5+2,none⟩=some (.slice ao2 Fv.length co2):=by rw[hbT.cell (p:=⟨bp,_,none⟩) hbp];exact p2
    have HTI:=hide ((uh aru).stays hbT)
    have HTO:=hide ((uh arv).stays hbT)
    have hiL:=(uh Rt).1
    have hoL:=(uh Rt).2
    clear arw hbT aru arv Rt
    have HQ:=hide (ady vs ⟨lhs,code,cl,args⟩ its Fv fv.clock)
    rw[←uh Qy] at HQ
    have Ak:=hide (fun w' (hb:Below wF.heap.size wF w')=>uh Ov w' (uh jy _ (uh HZ1 _ hb)) (.slice (some ⟨bl,ol,none⟩) lhs.length zn))
    generalize Aw ns i vs ⟨lhs,code,cl,args⟩=R at *
    generalize dw ⟨lhs,code,cl,args⟩=iy at *
    simp only at HQ
    clear Qy Ov
    have HQL:Hid (iy.length=(its:List Int).length∧lhs.length=(Fv:List Int).length):=⟨hiL,hoL⟩
    clear hiL hoL
    go_wp2_with fail
    refine(uh Ak _ (uh Gj)).mono ?_
    rintro e w8 ⟨vc,rfl,Kt,_,hb8⟩
    have HB8:Hid (Below wF.heap.size wF w8):=(uh Gj).trans (hb8.mono (uh Gj).size)
    have ae7:=hide ((uh HTI).stays hb8)
    have ahu:=hide ((uh HTO).stays hb8)
    obtain⟨av,cv,rfl⟩:=Kt.shape
    obtain⟨_,_,hvv,_,hvn,Gw⟩:=Kt
    simp only[Value.slice.injEq] at hvv
    obtain⟨rfl,_,rfl⟩:=hvv
    have Jf:=hide Gw
    have hc5:=hsmall.1
    clear Gw hb8 hvn q0 q1 q2 q3 q4 q5 q6 q7 q8 q9 t0 t1 t2
    go_wp2
    go_loopg [95] iy.length (fun g k' wr=>∃(k:Nat),k<=iy.length∧g=iy.length-k∧k'=.int .i64 k∧Ei vs iy its k=true∧Below w8.heap.size w8 wr)
    case atStart=>exact⟨0,Nat.zero_le _,by omega,rfl,rfl,Below.refl _ _⟩
    case round =>
     obtain⟨k,hk,hg,rfl,hty,vg⟩:=hrel
     rename World=>wk
     have HG:=hide hg
     have oh:=hide hty
     have HB9:=hide vg
     have hbk:Below wF.heap.size wF wk:=(uh HB8).trans (vg.mono (uh HB8).size)
     have Ob:=hide hbk
     clear hg hty
     by_cases hlt:k<iy.length
     ·obtain⟨ba,oa,Le,jr,_,hba,Gx,hca,⟨va,rfl,hE⟩⟩:=uh Jf k hlt
      subst jr
      have r0:wk.cell? ⟨ba,oa+k,none⟩=some va:=by rw[vg.cell (p:=⟨ba,_,none⟩) hba];simpa using hca 0 (by simp)
      have hkl:k<(its:List Int).length:=by have:=(uh HQL).1;omega
      obtain⟨ai,ci,Xy,hxi⟩:=(uh ae7).stays vg
      obtain⟨bi,oi,hbi,acp,hci⟩:=hxi k hkl
      simp only[Value.slice.injEq] at Xy
      obtain⟨hv1,hv2,hv3⟩:=Xy
      clear hv2 hv3
      subst hv1;subst hbi
      have Ec:(k:Int)<(its.length:Int):=by omega
      skip
      have hcb:=uh HCB iy[k] (List.getElem_mem hlt)
      have Px:=uh HZ1 _ hbk
      have Yr:Below wk.heap.size wk wk.drew:=(Below.refl _ wk).drew
      have hwT:=hE.stays je ((uh jy _ Px).trans (Yr.mono (uh jy _ Px).size))
      have HTc:=hide (af8 x b1 b2 b3 b4 c1 c2 c3 x.eqs.length c4 hsum iy[k] va (Ey _ hcb).1 (Ey _ hcb).2 iy[k].length 0 (Nc (aj x) iy[k]) (al2 _ _ hcb) wk.drew ((uh zl).stays ((uh jy _ Px).trans (Yr.mono (uh jy _ Px).size))) hwT)
      rw[uh Vt] at HTc
      obtain⟨ae,ce,rfl⟩:=hE.shape
      obtain⟨P8,P9,Qa,Qb,Qc,Ul,Um,Un,Uo,Ur⟩:=uh Bf wk Px
      have jo:=hide (fun h=>(uh HQ).1 (adx vs iy its k hlt hkl h))
      have Cb:=hide (fun h=>ae2 vs iy its k hlt hkl (uh oh) h)
      have nE:=hE.len'
      have hltk:(k:Int)<(iy.length:Int):=by omega
      clear hca Gx hE hwT hxi
      generalize Nc vs iy[k]=ty at *
      generalize (its:List Int)[k]=tk at *
      have HTp:Hid (Calls Tryz.prog 96 #[.agg #[.string x.name,.slice b1 x.ins.length c1,.slice b2 x.outs.length c2,.slice b3 x.vars.length c3,.slice b4 x.eqs.length c4],.slice ae iy[k].length ce,.int .i64 (iy[k].length:Int)] wk.drew fun e w''=>e=.returned (.int .i64 ty)∧Hid (Below wk.heap.size wk w'')∧w''.cell? ⟨bi,oi+k*3+1,none⟩=some (.int .i64 tk)∧w''.cell? ⟨w.heap.size+2,0,none⟩=some (.string x.name)∧w''.cell? ⟨w.heap.size+2,1,none⟩=some (.slice b1 x.ins.length c1)∧w''.cell? ⟨w.heap.size+2,2,none⟩=some (.slice b2 x.outs.length c2)∧w''.cell? ⟨w.heap.size+2,3,none⟩=some (.slice b3 x.vars.length c3)∧w''.cell? ⟨w.heap.size+2,4,none⟩=some (.slice b4 x.eqs.length c4)):=by
       refine(uh HTc).mono ?_
       rintro e w'' ⟨rfl,h9⟩
       have h8:Below wk.heap.size wk w'':=Yr.trans h9
       have Wx:=uh Bq _ _ Px h8
       obtain⟨_,_,_,_,_,x5,x6,x7,x8,x9⟩:=uh Bf w'' Wx
       exact⟨rfl,h8,by rw[h8.cell (p:=⟨bi,_,none⟩) acp];exact hci,x5,x6,x7,x8,x9⟩
      generalize iy[k].length=el at *
      clear HTc hcb vg hbk Px Yr
      by_cases he:ty=tk
      ·have de:(ty != tk)=false:=by simp[he]
       have Fa:=hide (uh Cb he)
       clear he jo Cb
       go_wp2_with fail
       go_region_held3 (fun w'=>w'.cell? ⟨bi,oi+k*3+1,none⟩=some (.int .i64 tk)∧w'.cell? ⟨w.heap.size+2,0,none⟩=some (.string x.name)∧w'.cell? ⟨w.heap.size+2,1,none⟩=some (.slice b1 x.ins.length c1)∧w'.cell? ⟨w.heap.size+2,2,none⟩=some (.slice b2 x.outs.length c2)∧w'.cell? ⟨w.heap.size+2,3,none⟩=some (.slice b3 x.vars.length c3)∧w'.cell? ⟨w.heap.size+2,4,none⟩=some (.slice b4 x.eqs.length c4)) (go_keep) (first|(go_at_call 96;refine(uh HTp).mono ?_;rintro e w9 ⟨rfl,acr,u1,u2,u3,u4,u5,u6⟩))
       go_wp2
       go_roundg (iy.length-(k+1))
       case measure=>have:=uh HG;omega
       case rel=>exact⟨k+1,by omega,rfl,by go_num,uh Fa,(uh HB9).trans ((uh acr).mono (uh HB9).size)⟩
      ·have de:(ty != tk)=true:=by simp[he]
       have Fa:=hide (uh jo he)
       clear he jo Cb
       go_wp2_with fail
       go_region_held3 (fun w'=>w'.cell? ⟨bi,oi+k*3+1,none⟩=some (.int .i64 tk)∧w'.cell? ⟨w.heap.size+2,0,none⟩=some (.string x.name)∧w'.cell? ⟨w.heap.size+2,1,none⟩=some (.slice b1 x.ins.length c1)∧w'.cell? ⟨w.heap.size+2,2,none⟩=some (.slice b2 x.outs.length c2)∧w'.cell? ⟨w.heap.size+2,3,none⟩=some (.slice b3 x.vars.length c3)∧w'.cell? ⟨w.heap.size+2,4,none⟩=some (.slice b4 x.eqs.length c4)) (go_keep) (first|(go_at_call 96;refine(uh HTp).mono ?_;rintro e w9 ⟨rfl,acr,u1,u2,u3,u4,u5,u6⟩))
       have gq:=hide (uh jy _ (uh HZ1 _ ((uh Ob).trans ((uh acr).mono (uh Ob).size))))
       go_wp2
       go_ret
       exact⟨yx (uh Fa).symm,uh gq⟩
     ·have e:k=iy.length:=by omega
      subst e
      obtain⟨P8,P9,Qa,Qb,Qc,Ul,Um,Un,Uo,Ur⟩:=uh Bf wk (uh HZ1 _ hbk)
      have Yt:=oh
      have ahv:=hide ((uh ahu).stays vg)
      clear vg hbk Jf HTI ae7 ahu
      go_wp2
      clear P8 P9 Qa Qb Qc Ul Um Un Uo Ur
      go_loopg [115] lhs.length (fun g k' wr=>∃(k2:Nat),k2<=lhs.length∧g=lhs.length-k2∧k'=.int .i64 k2∧Cm vs lhs Fv k2=true∧Below wk.heap.size wk wr)
      case atStart=>exact⟨0,Nat.zero_le _,by omega,rfl,rfl,Below.refl _ _⟩
      case round =>
       obtain⟨k2,hk2,hg2,rfl,hto,hb2⟩:=hrel
       rename World=>wl
       have HG2:=hide hg2
       have HTO:=hide hto
       have HB2:=hide hb2
       have Yu:Below wF.heap.size wF wl:=(uh Ob).trans (hb2.mono (uh Ob).size)
       have yj:=hide Yu
       have Yv:=uh HZ1 _ Yu
       obtain⟨P8,P9,Qa,Qb,Qc,Ul,Um,Un,Uo,Ur⟩:=uh Bf wl Yv
       clear hg2 hto
       by_cases hlt2:k2<lhs.length
       ·obtain⟨b5,o5,c5,hv5,hb5,cs5,Yw,Vw,⟨rfl,Yx⟩⟩:=(uh H1).at' k2 hlt2
        simp only[Value.slice.injEq,Option.some.injEq,Addr.mk.injEq] at hv5
        obtain⟨⟨rfl,rfl,hz1⟩,hz2,hz3⟩:=hv5
        clear hz1 hz2 hz3
        have r0:wl.cell? ⟨bl,ol+k2,none⟩=some (.string lhs[k2]):=by
         rw[(uh jy _ Yv).cell (p:=⟨bl,_,none⟩) hb5]
         simpa using Vw 0 (by simp)
        have hkl:k2<(Fv:List Int).length:=by have:=(uh HQL).2;omega
        have HVk:=hide (Si x (.slice b1 x.ins.length c1) (.slice b2 x.outs.length c2) (.slice b3 x.vars.length c3) (.slice b4 x.eqs.length c4) lhs[k2] w wl (uh jy _ Yv) (uh zl).ins (uh zl).outs (uh zl).vars ⟨b4,x.eqs.length,c4,rfl⟩ hsum)
        unfold Xw at HVk
        rw[uh Vt] at HVk
        have jo:=hide (fun h=>(uh HQ).2.1 (uh Yt) (ae3 vs lhs Fv k2 hlt2 hkl h))
        have Cb:=hide (fun h=>aci vs lhs Fv k2 hlt2 hkl (uh HTO) h)
        have hltk:(k2:Int)<(lhs.length:Int):=by omega
        obtain⟨ai,ci,Xy,hxi⟩:=(uh ahv).stays hb2
        obtain⟨bi,oi,hbi,acp,hci⟩:=hxi k2 hkl
        simp only[Value.slice.injEq] at Xy
        obtain⟨hv1,hv2,hv3⟩:=Xy
        clear hv2 hv3
        subst hv1;subst hbi
        have Ec:(k2:Int)<(Fv.length:Int):=by omega
        skip
        clear Vw Yw Yx hxi
        generalize lhs[k2]=nm at *
        generalize (Fv:List Int)[k2]=tk at *
        generalize jg vs nm=vv at *
        generalize uq vs nm=vi at *
        go_wp2_with fail
        refine(uh HVk).mono ?_
        rintro e w9 ⟨cl2,rfl,hS2,acs⟩
        obtain⟨ac2,Oc,rfl⟩:=hS2.shape
        have Gg:Hid (Below wl.heap.size wl (w9.alloc (.cells #[.string vv.name,.int .i64 vv.type,.slice ac2 vv.clock.length Oc] 68))):=acs.alloc acs.size _
        have z1:(w9.alloc (.cells #[.string vv.name,.int .i64 vv.type,.slice ac2 vv.clock.length Oc] 68)).cell? ⟨w9.heap.size,1,none⟩=some (.int .i64 vv.type):=(World.cell?_alloc_at _ _ _ _ rfl).trans rfl
        have z2:(w9.alloc (.cells #[.string vv.name,.int .i64 vv.type,.slice ac2 vv.clock.length Oc] 68)).cell? ⟨bi,oi+k2*3+1,none⟩=some (.int .i64 tk):=by rw[(uh Gg).cell (p:=⟨bi,_,none⟩) acp];exact hci
        clear acs hS2 hci P8 P9 Qa Qb Qc Ul Um Un Uo Ur r0 Yv hb2 Yu
        go_wp2_with fail
        generalize w9.alloc (.cells #[.string vv.name,.int .i64 vv.type,.slice ac2 vv.clock.length Oc] 68)=wV at z1 z2 Gg ⊢
        have ahw:Hid (Below wl.heap.size wl wV.drew):=(uh Gg).drew
        by_cases he:vv.type=tk
        ·have de:(vv.type != tk)=false:=by simp[he]
         have Fa:=hide (uh Cb he)
         clear he jo Cb
         go_region_held3 (fun w'=>w'.cell? ⟨w9.heap.size,1,none⟩=some (.int .i64 vv.type)∧w'.cell? ⟨bi,oi+k2*3+1,none⟩=some (.int .i64 tk)) (go_keep) (fail)
         go_wp2
         go_roundg (lhs.length-(k2+1))
         case measure=>have:=uh HG2;omega
         case rel=>exact⟨k2+1,by omega,rfl,by go_num,uh Fa,(uh HB2).trans ((uh ahw).mono (uh HB2).size)⟩
        ·have de:(vv.type != tk)=true:=by simp[he]
         have Fa:=hide (uh jo he)
         clear he jo Cb
         go_region_held3 (fun w'=>w'.cell? ⟨w9.heap.size,1,none⟩=some (.int .i64 vv.type)∧w'.cell? ⟨bi,oi+k2*3+1,none⟩=some (.int .i64 tk)) (go_keep) (fail)
         have gq:=hide (uh jy _ (uh HZ1 _ ((uh yj).trans ((uh ahw).mono (uh yj).size))))
         go_wp2
         go_ret
         exact⟨yx (uh Fa).symm,uh gq⟩
       ·have e:k2=lhs.length:=by omega
        subst e
        have acu:=HTO
        clear ahv hb2 Yu
        go_wp2
        clear P8 P9 Qa Qb Qc Ul Um Un Uo Ur
        go_loopg [138] lhs.length (fun g k' wr=>∃(k3:Nat),k3<=lhs.length∧g=lhs.length-k3∧k'=.int .i64 k3∧Em vs lhs fv.clock k3=true∧Below wl.heap.size wl wr)
        case atStart=>exact⟨0,Nat.zero_le _,by omega,rfl,rfl,Below.refl _ _⟩
        case round =>
         obtain⟨k3,hk3,hg3,rfl,ahx,hb3⟩:=hrel
         rename World=>wm
         have Jg:=hide hg3
         have ahy:=hide ahx
         have HB3:=hide hb3
         have hbm:Below wF.heap.size wF wm:=(uh yj).trans (hb3.mono (uh yj).size)
         have Az:=hide hbm
         have Di:=uh HZ1 _ hbm
         obtain⟨P8,P9,Qa,Qb,Qc,Ul,Um,Un,Uo,Ur⟩:=uh Bf wm Di
         obtain⟨t0,t1,t2⟩:=uh HZ2 wm hbm
         clear hg3 ahx
         by_cases hlt3:k3<lhs.length
         ·obtain⟨b5,o5,c5,hv5,hb5,cs5,Yw,Vw,⟨rfl,Yx⟩⟩:=(uh H1).at' k3 hlt3
          simp only[Value.slice.injEq,Option.some.injEq,Addr.mk.injEq] at hv5
          obtain⟨⟨rfl,rfl,hz1⟩,hz2,hz3⟩:=hv5
          clear hz1 hz2 hz3
          have r0:wm.cell? ⟨bl,ol+k3,none⟩=some (.string lhs[k3]):=by
           rw[(uh jy _ Di).cell (p:=⟨bl,_,none⟩) hb5]
           simpa using Vw 0 (by simp)
          have jo:=hide (fun h=>(uh HQ).2.2.1 (uh Yt) (uh acu) (abk vs lhs fv.clock k3 hlt3 h))
          have Cb:=hide (fun h=>acj vs lhs fv.clock k3 hlt3 (uh ahy) h)
          have hltk:(k3:Int)<(lhs.length:Int):=by omega
          have hdm:Below wF.heap.size wF wm.drew:=hbm.drew
          have HCc:Hid (Calls Tryz.prog 39 #[.agg #[.string x.name,.slice b1 x.ins.length c1,.slice b2 x.outs.length c2,.slice b3 x.vars.length c3,.slice b4 x.eqs.length c4],.string lhs[k3]] wm.drew fun e w''=>∃a c,e=.returned (.slice a (jv vs lhs[k3]).length c)∧Hid (Below wF.heap.size wF w'')∧Hid (Below wm.heap.size wm w'')∧Hid (Calls Tryz.prog 67 #[.slice a (jv vs lhs[k3]).length c,.slice ac fv.clock.length cc] w'' fun e w3=>e=.returned (.bool (qj (jv vs lhs[k3]) fv.clock))∧Hid (Below wm.heap.size wm w3)∧w3.cell? ⟨fb,2,none⟩=some (.slice ac fv.clock.length cc)∧w3.cell? ⟨w.heap.size+2,0,none⟩=some (.string x.name)∧w3.cell? ⟨w.heap.size+2,1,none⟩=some (.slice b1 x.ins.length c1)∧w3.cell? ⟨w.heap.size+2,2,none⟩=some (.slice b2 x.outs.length c2)∧w3.cell? ⟨w.heap.size+2,3,none⟩=some (.slice b3 x.vars.length c3)∧w3.cell? ⟨w.heap.size+2,4,none⟩=some (.slice b4 x.eqs.length c4))∧w''.cell? ⟨fb,2,none⟩=some (.slice ac fv.clock.length cc)∧w''.cell? ⟨w.heap.size+2,0,none⟩=some (.string x.name)∧w''.cell? ⟨w.heap.size+2,1,none⟩=some (.slice b1 x.ins.length c1)∧w''.cell? ⟨w.heap.size+2,2,none⟩=some (.slice b2 x.outs.length c2)∧w''.cell? ⟨w.heap.size+2,3,none⟩=some (.slice b3 x.vars.length c3)∧w''.cell? ⟨w.heap.size+2,4,none⟩=some (.slice b4 x.eqs.length c4)):=by
           refine(Yo x _ _ _ _ lhs[k3] w wm.drew (uh jy _ (uh HZ1 _ hdm)) (uh zl).ins (uh zl).outs (uh zl).vars ⟨b4,x.eqs.length,c4,rfl⟩ hsum).mono ?_
           rintro e w'' ⟨cl',rfl,hS,h9⟩
           rw[uh Vt] at hS
           have Xz:Below wm.heap.size wm w'':=((Below.refl _ wm).drew).trans h9
           have hf9:Below wF.heap.size wF w'':=hbm.trans (Xz.mono hbm.size)
           obtain⟨a',c',rfl⟩:=hS.shape
           obtain⟨_,_,u2⟩:=uh HZ2 w'' hf9
           obtain⟨_,_,_,_,_,x5,x6,x7,x8,x9⟩:=uh Bf w'' (uh HZ1 _ hf9)
           refine⟨a',c',rfl,hf9,Xz,?_,u2,x5,x6,x7,x8,x9⟩
           show Calls Tryz.prog 67 _ w'' _
           refine(Eu (jv vs lhs[k3]) fv.clock _ _ w'' (hS.stays lg (uh jy _ (uh HZ1 _ hf9))) ((uh E5).stays lg (uh jy _ (uh HZ1 _ hf9)))).mono ?_
           rintro e w3 ⟨rfl,h10⟩
           have hm3:Below wm.heap.size wm w3:=Xz.trans (h10.mono Xz.size)
           have hf3:Below wF.heap.size wF w3:=hbm.trans (hm3.mono hbm.size)
           obtain⟨_,_,v2⟩:=uh HZ2 w3 hf3
           obtain⟨_,_,_,_,_,y5,y6,y7,y8,y9⟩:=uh Bf w3 (uh HZ1 _ hf3)
           exact⟨rfl,hm3,v2,y5,y6,y7,y8,y9⟩
          clear Vw Yw Yx hdm hbm Di hb3
          generalize qj (jv vs lhs[k3]) fv.clock=sc at *
          generalize (jv vs lhs[k3]).length=cln at *
          generalize lhs[k3]=nm at *
          cases sc
          ·have Fa:=hide (uh jo rfl)
           clear jo Cb
           go_wp2_with fail
           go_region_held3 (fun w'=>w'.cell? ⟨fb,2,none⟩=some (.slice ac fv.clock.length cc)∧w'.cell? ⟨w.heap.size+2,0,none⟩=some (.string x.name)∧w'.cell? ⟨w.heap.size+2,1,none⟩=some (.slice b1 x.ins.length c1)∧w'.cell? ⟨w.heap.size+2,2,none⟩=some (.slice b2 x.outs.length c2)∧w'.cell? ⟨w.heap.size+2,3,none⟩=some (.slice b3 x.vars.length c3)∧w'.cell? ⟨w.heap.size+2,4,none⟩=some (.slice b4 x.eqs.length c4)) (go_keep) (first|(go_at_call 39;refine(uh HCc).mono ?_;rintro e w9 ⟨a9,c9,rfl,HF9,HM9,Vx,u0,u1,u2,u3,u4,u5⟩;clear HCc)|(go_at_call 67;refine(uh Vx).mono ?_;rintro e w10 ⟨rfl,acv,v0,v1,v2,v3,v4,v5⟩;clear Vx))
           have gq:=hide (uh jy _ (uh HZ1 _ ((uh Az).trans ((uh acv).mono (uh Az).size))))
           go_wp2
           go_ret
           exact⟨yx (uh Fa).symm,uh gq⟩
          ·have Fa:=hide (uh Cb rfl)
           clear jo Cb
           go_wp2_with fail
           go_region_held3 (fun w'=>w'.cell? ⟨fb,2,none⟩=some (.slice ac fv.clock.length cc)∧w'.cell? ⟨w.heap.size+2,0,none⟩=some (.string x.name)∧w'.cell? ⟨w.heap.size+2,1,none⟩=some (.slice b1 x.ins.length c1)∧w'.cell? ⟨w.heap.size+2,2,none⟩=some (.slice b2 x.outs.length c2)∧w'.cell? ⟨w.heap.size+2,3,none⟩=some (.slice b3 x.vars.length c3)∧w'.cell? ⟨w.heap.size+2,4,none⟩=some (.slice b4 x.eqs.length c4)) (go_keep) (first|(go_at_call 39;refine(uh HCc).mono ?_;rintro e w9 ⟨a9,c9,rfl,HF9,HM9,Vx,u0,u1,u2,u3,u4,u5⟩;clear HCc)|(go_at_call 67;refine(uh Vx).mono ?_;rintro e w10 ⟨rfl,acv,v0,v1,v2,v3,v4,v5⟩;clear Vx))
           go_wp2
           go_roundg (lhs.length-(k3+1))
           case measure=>have:=uh Jg;omega
           case rel=>exact⟨k3+1,by omega,rfl,by go_num,uh Fa,(uh HB3).trans ((uh acv).mono (uh HB3).size)⟩
         ·have e:k3=lhs.length:=by omega
          subst e
          have ahz:=ahy
          have HC2:=hide (uh Ak wm hbm)
          clear Ak Di hb3 hbm t0 t1 t2
          go_wp2_with fail
          refine(uh HC2).mono ?_
          rintro e w8' ⟨vc,rfl,Kt,_,hb8⟩
          have ah0:Hid (Below wF.heap.size wF w8'):=(uh Az).trans (hb8.mono (uh Az).size)
          obtain⟨av2,cv2,rfl⟩:=Kt.shape
          obtain⟨_,_,hvv,_,hvn,Gw⟩:=Kt
          simp only[Value.slice.injEq] at hvv
          obtain⟨rfl,_,rfl⟩:=hvv
          have Jf:=hide Gw
          clear Gw hb8 hvn P8 P9 Qa Qb Qc Ul Um Un Uo Ur
          go_wp2
          go_loopg [153] iy.length (fun g k' wr=>∃(k4:Nat),k4<=iy.length∧g=iy.length-k4∧k'=.int .i64 k4∧E8 vs iy fv.clock k4=true∧Below w8'.heap.size w8' wr)
          case atStart=>exact⟨0,Nat.zero_le _,by omega,rfl,rfl,Below.refl _ _⟩
          case round =>
           obtain⟨k4,hk4,hg4,rfl,ah1,hb4⟩:=hrel
           rename World=>wq
           have HG4:=hide hg4
           have ah2:=hide ah1
           have HB4:=hide hb4
           have hbq:Below wF.heap.size wF wq:=(uh ah0).trans (hb4.mono (uh ah0).size)
           have Ik:=hide hbq
           have Jm:=uh HZ1 _ hbq
           clear hg4 ah1
           by_cases hlt4:k4<iy.length
           ·obtain⟨ba,oa,Le,jr,_,hba,Gx,hca,⟨va,rfl,hE⟩⟩:=uh Jf k4 hlt4
            subst jr
            have r0:wq.cell? ⟨ba,oa+k4,none⟩=some va:=by rw[hb4.cell (p:=⟨ba,_,none⟩) hba];simpa using hca 0 (by simp)
            have hcb:=uh HCB iy[k4] (List.getElem_mem hlt4)
            have HTc:=hide (af9 x b1 b2 b3 b4 c1 c2 c3 x.eqs.length c4 hsum iy[k4] va (Ey _ hcb).1 (Ey _ hcb).2 iy[k4].length 0 (Ol (aj x) iy[k4]) (ahs _ _ hcb) wq ((uh zl).stays (uh jy _ Jm)) (hE.stays je (uh jy _ Jm)) fv.clock _ ((uh E5).stays lg (uh jy _ Jm)) hk8)
            rw[uh Vt] at HTc
            obtain⟨ae,ce,rfl⟩:=hE.shape
            have nE:=hE.len'
            obtain⟨P8,P9,Qa,Qb,Qc,Ul,Um,Un,Uo,Ur⟩:=uh Bf wq Jm
            obtain⟨t0,t1,t2⟩:=uh HZ2 wq hbq
            have jo:=hide (fun h=>(uh HQ).2.2.2.1 (uh Yt) (uh acu) (uh ahz) (ae4 vs iy fv.clock k4 hlt4 h))
            have Cb:=hide (fun h=>acn vs iy fv.clock k4 hlt4 (uh ah2) h)
            have hltk:(k4:Int)<(iy.length:Int):=by omega
            clear hca Gx hE hcb hb4 hbq Jm
            generalize Ol vs iy[k4] fv.clock=ft at *
            generalize iy[k4].length=el at *
            cases ft
            ·have Fa:=hide (uh jo rfl)
             clear jo Cb
             go_wp2_with fail
             refine(uh HTc).mono ?_
             rintro e w9 ⟨rfl,vg⟩
             have gq:=hide (uh jy _ (uh HZ1 _ ((uh Ik).trans (vg.mono (uh Ik).size))))
             clear vg
             go_wp2
             go_ret
             exact⟨yx (uh Fa).symm,uh gq⟩
            ·have Fa:=hide (uh Cb rfl)
             clear jo Cb
             go_wp2_with fail
             refine(uh HTc).mono ?_
             rintro e w9 ⟨rfl,vg⟩
             have arq:=hide vg
             clear vg
             go_wp2
             go_roundg (iy.length-(k4+1))
             case measure=>have:=uh HG4;omega
             case rel=>exact⟨k4+1,by omega,rfl,by go_num,uh Fa,(uh HB4).trans ((uh arq).mono (uh HB4).size)⟩
           ·have e:k4=iy.length:=by omega
            subst e
            have gq:=hide (uh jy _ Jm)
            have Fa:=hide ((uh HQ).2.2.2.2 (uh Yt) (uh acu) (uh ahz) (uh ah2))
            go_wp2
            go_ret
            exact⟨yx (uh Fa).symm,uh gq⟩
end Go.Proofs.YtflcnhfakcgkeaaGreat
