import Derived.Test.YtfioeoihociilaaGreatCE1
import Derived.Test.YtfioeoihociilaaGreatSpecShape
import Derived.Deep.RegionHeld3
import Derived.Deep.QuietTactic
import Derived.BigQuiet
namespace Go.Proofs.YtfioeoihociilaaGreat
open Go.RowKit
set_option linter.unusedSimpArgs false
set_option linter.unusedVariables false
theorem code_ty (vs : List DVar) (c : List DItem) (h : cdB c = true) : Fd (tyItem vs) c 0 c.length [tyV vs c]:=by
 unfold cdB at h
 simp only [Bool.and_eq_true] at h
 obtain ⟨s,hs⟩:=fd_all (tyItem vs) h.2
 have : tyV vs c = s:=fdV_of hs
 rw [this]
 exact hs
theorem code_fit (vs : List DVar) (c : List DItem) (h : cdB c = true) : Fd (fitItem vs) c 0 c.length [fitV vs c]:=by
 unfold cdB at h
 simp only [Bool.and_eq_true] at h
 obtain ⟨s,hs⟩:=fd_all (fitItem vs) h.2
 have : fitV vs c = s:=fdV_of hs
 rw [this]
 exact hs
theorem first_head (l : List ByteArray) (h : 0 < l.length) : l.headD ⟨#[]⟩ = l[0]:=by
 cases l with
 | nil => simp at h
 | cons z zs => rfl
theorem code_items (c : List DItem) (h : cdB c = true) : (∀ t,t ∈ c → itB t = true) ∧ c.length ≤ 3000:=by
 unfold cdB at h
 simp only [Bool.and_eq_true,decide_eq_true_iff] at h
 exact ⟨fun t ht => List.all_eq_true.1 h.1.2 t ht,h.1.1⟩
theorem eq_codes (e : DEq) (h : eqB e = true) : ∀ c,c ∈ codesOf e → cdB c = true:=by
 unfold eqB at h
 simp only [Bool.and_eq_true,decide_eq_true_iff] at h
 obtain ⟨⟨_,_⟩,h5⟩:=h
 unfold codesOf
 by_cases g : e.call.size = 0
 ·rw [if_pos g] at h5 ⊢
  simp only [Bool.and_eq_true] at h5
  intro c hc
  simp only [List.mem_singleton] at hc
  subst hc
  exact h5.2
 ·rw [if_neg g] at h5 ⊢
  simp only [Bool.and_eq_true] at h5
  exact fun c hc => List.all_eq_true.1 h5.2 c hc
set_option maxRecDepth 20000 in
set_option maxHeartbeats 8000000 in
theorem l2EqFault_ok (ns : List DNode) (i : Nat) (hi : i < ns.length) (pv : Value) (e : DEq) (v1 v2 v3 : Value) (w : World) (hp : SlAt 5 112 RNode 0 w pv ns) (h1 : SlAt 1 16 RStr 0 w v1 e.lhs) (h2 : SlAt 3 32 RItem 0 w v2 e.code) (h3 : SlAt 1 24 RItems 0 w v3 e.args)
  (heq : eqB e = true) (hsum : ns[i].ins.length + ns[i].outs.length + ns[i].vars.length ≤ 1048576) (hck : ∀ nm,(clkOf (allV ns[i]) nm).length ≤ 8) :
  Calls Tryz.prog 26 #[.agg #[pv],.int .i64 (i : Int),.agg #[v1,v2,.string e.call,v3]] w (Ans (.int .i64 (eqFault ns i (allV ns[i]) e)) w):=by
 have hlh : 1 ≤ e.lhs.length ∧ e.lhs.length ≤ 500 ∧ e.args.length ≤ 500:=by
  unfold eqB at heq
  simp only [Bool.and_eq_true,decide_eq_true_iff] at heq
  exact heq.1.1
 have hsmall:=eq_small e heq
 have HCD:=hide (fun w1 (hb : Below w.heap.size w w1) a => l2Codes_in e a v2 v3 w w1 hb h2 h3)
 have HCB:=hide (eq_codes e heq)
 have HFN:=hide (fun w1 (hb : Below w.heap.size w w1) => l2Find_ok ns pv i e.call w1 (hp.stays RNode_kept hb) (Nat.le_of_lt hi))
 have HPN:=hide (fun g (hg : g < ns.length) => hp.at' g hg)
 obtain ⟨bp,op,cpp,hpe,hbp,cs,hcsl,hcc,iv,ov,vv,evv,rfl,hnm,hiv,hov,hvv,hevv⟩:=hp.at' i hi
 obtain ⟨ap,cp,rfl⟩:=hp.shape
 simp only [Value.slice.injEq] at hpe
 obtain ⟨rfl,_,rfl⟩:=hpe
 obtain ⟨b1,c1,rfl⟩:=hiv.shape
 obtain ⟨b2,c2,rfl⟩:=hov.shape
 obtain ⟨b3,c3,rfl⟩:=hvv.shape
 obtain ⟨b4,c4,rfl⟩:=hevv.shape
 have np:=hp.len'
 have m0:=hcc 0 (by simp)
 have m1:=hcc 1 (by simp)
 have m2:=hcc 2 (by simp)
 have m3:=hcc 3 (by simp)
 have m4:=hcc 4 (by simp)
 simp only [Nat.add_zero,List.getElem_cons_zero,List.getElem_cons_succ] at m0 m1 m2 m3 m4
 have hni : NIn ns[i] b1 b2 b3 c1 c2 c3 w:=⟨hiv,hov,hvv⟩
 have HNI:=hide hni
 have HFT : Hid (∀ vs,e.call.size = 0 → eqFault ns i vs e = eqTail vs e [(firstV vs e).type] [(firstV vs e).type] (firstV vs e).clock):=fun vs h => by unfold eqFault; rw [if_pos h]
 have HFC : Hid (∀ vs,e.call.size ≠ 0 → findI ns i e.call < 0 → eqFault ns i vs e = 5):=fun vs h h' => by
  unfold eqFault
  rw [if_neg h]
  split
  ·rw [if_pos (Or.inl h')]
  ·rfl
 have HFG : Hid (∀ vs g (hg : g < ns.length),e.call.size ≠ 0 → findI ns i e.call = g → eqFault ns i vs e = if ns[g].ins.length ≠ e.args.length ∨ ns[g].outs.length ≠ e.lhs.length then 5 else eqTail vs e (ns[g].ins.map (·.type)) (ns[g].outs.map (·.type)) (firstV vs e).clock):=fun vs g hg h h' => by
  unfold eqFault
  rw [if_neg h,h',Int.toNat_natCast,List.getElem?_eq_getElem hg]
  simp only
  by_cases hc : ns[g].ins.length ≠ e.args.length ∨ ns[g].outs.length ≠ e.lhs.length
  ·rw [if_pos hc,if_pos (Or.inr hc)]
  ·rw [if_neg hc,if_neg (by rintro (h | h); omega; exact hc h)]
 have hfb:=find_bd ns i e.call
 clear hcc hiv hov hvv hevv hp hnm hcsl
 have hlen0 : 0 < e.lhs.length:=by omega
 obtain ⟨bl,ol,cll,hlv,hbl,csl,hcsl,hcl0,hRl⟩:=h1.at' 0 hlen0
 obtain ⟨rfl,hsl0⟩:=hRl
 have y0:=hcl0 0 (by simp)
 simp only [Nat.zero_mul,Nat.add_zero,List.getElem_cons_zero] at y0
 have HF0 : Hid (∀ vs,firstV vs e = lookV vs e.lhs[0]):=fun vs => by
  unfold firstV
  rw [first_head e.lhs hlen0]
 have H1:=hide h1
 clear hcl0 hcsl
 generalize ns[i] = x at *
 generalize hvs : allV x = vs at *
 have HVS:=hide hvs
 clear hvs
 obtain ⟨lhs,code,cl,args⟩:=e
 simp only at *
 obtain ⟨l1,l1c,rfl⟩:=h1.shape
 obtain ⟨l2,l2c,rfl⟩:=h2.shape
 obtain ⟨l3,l3c,rfl⟩:=h3.shape
 simp only [Value.slice.injEq] at hlv
 obtain ⟨rfl,_,rfl⟩:=hlv
 generalize hl0 : lhs[0] = x0 at *
 have HL0:=hide hl0
 clear hl0
 have n1:=h1.len'
 clear h1 h2 h3 hni
 have hA : Below w.heap.size w (((((w.alloc (.cells #[.slice (some ⟨bp,op,none⟩) ns.length cp] 30)).alloc (.cells #[.slice (some ⟨bl,ol,none⟩) lhs.length l1c,.slice l2 code.length l2c,.string cl,.slice l3 args.length l3c] 70)).alloc (.cells #[.string x.name,.slice b1 x.ins.length c1,.slice b2 x.outs.length c2,.slice b3 x.vars.length c3,.slice b4 x.eqs.length c4] 45)).alloc (.cells #[] 63)).alloc (.cells #[] 63)):=((((((Below.refl _ _).alloc (Nat.le_refl _) _).alloc (by simp only [World.size_alloc]; omega) _).alloc (by simp only [World.size_alloc]; omega) _).alloc (by simp only [World.size_alloc]; omega) _).alloc (by simp only [World.size_alloc]; omega) _)
 have hAz : (((((w.alloc (.cells #[.slice (some ⟨bp,op,none⟩) ns.length cp] 30)).alloc (.cells #[.slice (some ⟨bl,ol,none⟩) lhs.length l1c,.slice l2 code.length l2c,.string cl,.slice l3 args.length l3c] 70)).alloc (.cells #[.string x.name,.slice b1 x.ins.length c1,.slice b2 x.outs.length c2,.slice b3 x.vars.length c3,.slice b4 x.eqs.length c4] 45)).alloc (.cells #[] 63)).alloc (.cells #[] 63)).heap.size = w.heap.size + 5:=by simp
 have hA1 : BlkAt (((((w.alloc (.cells #[.slice (some ⟨bp,op,none⟩) ns.length cp] 30)).alloc (.cells #[.slice (some ⟨bl,ol,none⟩) lhs.length l1c,.slice l2 code.length l2c,.string cl,.slice l3 args.length l3c] 70)).alloc (.cells #[.string x.name,.slice b1 x.ins.length c1,.slice b2 x.outs.length c2,.slice b3 x.vars.length c3,.slice b4 x.eqs.length c4] 45)).alloc (.cells #[] 63)).alloc (.cells #[] 63)) w.heap.size 30 #[.slice (some ⟨bp,op,none⟩) ns.length cp]:=(blk_box w #[.slice (some ⟨bp,op,none⟩) ns.length cp] 30).below (((((Below.refl _ _).alloc (Nat.le_refl _) _).alloc (by simp) _).alloc (by simp) _).alloc (by simp) _) (by simp)
 have hA2 : BlkAt (((((w.alloc (.cells #[.slice (some ⟨bp,op,none⟩) ns.length cp] 30)).alloc (.cells #[.slice (some ⟨bl,ol,none⟩) lhs.length l1c,.slice l2 code.length l2c,.string cl,.slice l3 args.length l3c] 70)).alloc (.cells #[.string x.name,.slice b1 x.ins.length c1,.slice b2 x.outs.length c2,.slice b3 x.vars.length c3,.slice b4 x.eqs.length c4] 45)).alloc (.cells #[] 63)).alloc (.cells #[] 63)) (w.heap.size + 1) 70 #[.slice (some ⟨bl,ol,none⟩) lhs.length l1c,.slice l2 code.length l2c,.string cl,.slice l3 args.length l3c]:=by
  have h0:=blk_box (w.alloc (.cells #[.slice (some ⟨bp,op,none⟩) ns.length cp] 30)) #[.slice (some ⟨bl,ol,none⟩) lhs.length l1c,.slice l2 code.length l2c,.string cl,.slice l3 args.length l3c] 70
  rw [show (w.alloc (.cells #[.slice (some ⟨bp,op,none⟩) ns.length cp] 30)).heap.size = w.heap.size + 1 from by simp] at h0
  exact h0.below ((((Below.refl _ _).alloc (Nat.le_refl _) _).alloc (by simp) _).alloc (by simp) _) (by simp)
 have hA3 : BlkAt (((((w.alloc (.cells #[.slice (some ⟨bp,op,none⟩) ns.length cp] 30)).alloc (.cells #[.slice (some ⟨bl,ol,none⟩) lhs.length l1c,.slice l2 code.length l2c,.string cl,.slice l3 args.length l3c] 70)).alloc (.cells #[.string x.name,.slice b1 x.ins.length c1,.slice b2 x.outs.length c2,.slice b3 x.vars.length c3,.slice b4 x.eqs.length c4] 45)).alloc (.cells #[] 63)).alloc (.cells #[] 63)) (w.heap.size + 2) 45 #[.string x.name,.slice b1 x.ins.length c1,.slice b2 x.outs.length c2,.slice b3 x.vars.length c3,.slice b4 x.eqs.length c4]:=by
  have h0:=blk_box ((w.alloc (.cells #[.slice (some ⟨bp,op,none⟩) ns.length cp] 30)).alloc (.cells #[.slice (some ⟨bl,ol,none⟩) lhs.length l1c,.slice l2 code.length l2c,.string cl,.slice l3 args.length l3c] 70)) #[.string x.name,.slice b1 x.ins.length c1,.slice b2 x.outs.length c2,.slice b3 x.vars.length c3,.slice b4 x.eqs.length c4] 45
  rw [show ((w.alloc (.cells #[.slice (some ⟨bp,op,none⟩) ns.length cp] 30)).alloc (.cells #[.slice (some ⟨bl,ol,none⟩) lhs.length l1c,.slice l2 code.length l2c,.string cl,.slice l3 args.length l3c] 70)).heap.size = w.heap.size + 2 from by simp] at h0
  exact h0.below (((Below.refl _ _).alloc (Nat.le_refl _) _).alloc (by simp) _) (by simp)
 obtain ⟨BX,hBX⟩ : ∃ BX : World → Prop,∀ w',BX w' ↔ Below (w.heap.size + 5) (((((w.alloc (.cells #[.slice (some ⟨bp,op,none⟩) ns.length cp] 30)).alloc (.cells #[.slice (some ⟨bl,ol,none⟩) lhs.length l1c,.slice l2 code.length l2c,.string cl,.slice l3 args.length l3c] 70)).alloc (.cells #[.string x.name,.slice b1 x.ins.length c1,.slice b2 x.outs.length c2,.slice b3 x.vars.length c3,.slice b4 x.eqs.length c4] 45)).alloc (.cells #[] 63)).alloc (.cells #[] 63)) w':=⟨_,fun _ => Iff.rfl⟩
 have HX1 : Hid (∀ w1,BX w1 → Below w.heap.size w w1):=fun w1 h => hA.trans (((hBX w1).1 h).mono (by omega))
 have HX2 : Hid (∀ w1 w2,BX w1 → Below w1.heap.size w1 w2 → BX w2):=fun w1 w2 h h2 => (hBX w2).2 (((hBX w1).1 h).trans (h2.mono (by have:=((hBX w1).1 h).size; omega)))
 have HX4 : Hid (∀ w1,BX w1 → w1.cell? ⟨w.heap.size,0,none⟩ = some (.slice (some ⟨bp,op,none⟩) ns.length cp) ∧ w1.cell? ⟨w.heap.size + 1,0,none⟩ = some (.slice (some ⟨bl,ol,none⟩) lhs.length l1c) ∧ w1.cell? ⟨w.heap.size + 1,1,none⟩ = some (.slice l2 code.length l2c) ∧ w1.cell? ⟨w.heap.size + 1,2,none⟩ = some (.string cl) ∧ w1.cell? ⟨w.heap.size + 1,3,none⟩ = some (.slice l3 args.length l3c) ∧ w1.cell? ⟨w.heap.size + 2,0,none⟩ = some (.string x.name) ∧ w1.cell? ⟨w.heap.size + 2,1,none⟩ = some (.slice b1 x.ins.length c1) ∧ w1.cell? ⟨w.heap.size + 2,2,none⟩ = some (.slice b2 x.outs.length c2) ∧ w1.cell? ⟨w.heap.size + 2,3,none⟩ = some (.slice b3 x.vars.length c3) ∧ w1.cell? ⟨w.heap.size + 2,4,none⟩ = some (.slice b4 x.eqs.length c4)):=fun w1 h => ⟨(hA1.below ((hBX w1).1 h) (by omega)).cell (i:=0) (v:=.slice (some ⟨bp,op,none⟩) ns.length cp) rfl,(hA2.below ((hBX w1).1 h) (by omega)).cell (i:=0) (v:=.slice (some ⟨bl,ol,none⟩) lhs.length l1c) rfl,(hA2.below ((hBX w1).1 h) (by omega)).cell (i:=1) (v:=.slice l2 code.length l2c) rfl,(hA2.below ((hBX w1).1 h) (by omega)).cell (i:=2) (v:=.string cl) rfl,(hA2.below ((hBX w1).1 h) (by omega)).cell (i:=3) (v:=.slice l3 args.length l3c) rfl,(hA3.below ((hBX w1).1 h) (by omega)).cell (i:=0) (v:=.string x.name) rfl,(hA3.below ((hBX w1).1 h) (by omega)).cell (i:=1) (v:=.slice b1 x.ins.length c1) rfl,(hA3.below ((hBX w1).1 h) (by omega)).cell (i:=2) (v:=.slice b2 x.outs.length c2) rfl,(hA3.below ((hBX w1).1 h) (by omega)).cell (i:=3) (v:=.slice b3 x.vars.length c3) rfl,(hA3.below ((hBX w1).1 h) (by omega)).cell (i:=4) (v:=.slice b4 x.eqs.length c4) rfl⟩
 have HX5 : Hid (∀ w1,BX w1 → w.heap.size + 5 ≤ w1.heap.size):=fun w1 h => by have:=((hBX w1).1 h).size; omega
 have HX7 : Hid (∀ w1 (a : Addr) v,BX w1 → w.heap.size + 5 ≤ a.block → BX (w1.setCell a v)):=fun w1 a v h ha => (hBX _).2 (((hBX w1).1 h).setCell ha v)
 have HX0 : Hid (BX (((((w.alloc (.cells #[.slice (some ⟨bp,op,none⟩) ns.length cp] 30)).alloc (.cells #[.slice (some ⟨bl,ol,none⟩) lhs.length l1c,.slice l2 code.length l2c,.string cl,.slice l3 args.length l3c] 70)).alloc (.cells #[.string x.name,.slice b1 x.ins.length c1,.slice b2 x.outs.length c2,.slice b3 x.vars.length c3,.slice b4 x.eqs.length c4] 45)).alloc (.cells #[] 63)).alloc (.cells #[] 63))):=(hBX _).2 (Below.refl _ _)
 have HXd : Hid (BX (((((w.alloc (.cells #[.slice (some ⟨bp,op,none⟩) ns.length cp] 30)).alloc (.cells #[.slice (some ⟨bl,ol,none⟩) lhs.length l1c,.slice l2 code.length l2c,.string cl,.slice l3 args.length l3c] 70)).alloc (.cells #[.string x.name,.slice b1 x.ins.length c1,.slice b2 x.outs.length c2,.slice b3 x.vars.length c3,.slice b4 x.eqs.length c4] 45)).alloc (.cells #[] 63)).alloc (.cells #[] 63)).drew):=(hBX _).2 (Below.refl _ _).drew
 have HV : Hid (∀ nm w',BX w' → Calls Tryz.prog 23 #[.agg #[.string x.name,.slice b1 x.ins.length c1,.slice b2 x.outs.length c2,.slice b3 x.vars.length c3,.slice b4 x.eqs.length c4],.string nm] w' fun e w'' => ∃ ac cc,e = .returned (.tuple #[.agg #[.string (lookV vs nm).name,.int .i64 (lookV vs nm).type,.slice ac (lookV vs nm).clock.length cc],.int .i64 (lookI vs nm)]) ∧ Hid (SlAt 2 24 RCond 0 w (.slice ac (lookV vs nm).clock.length cc) (lookV vs nm).clock) ∧ BX w'' ∧ w''.cell? ⟨bl,ol,none⟩ = some (.string x0) ∧ w''.cell? ⟨w.heap.size,0,none⟩ = some (.slice (some ⟨bp,op,none⟩) ns.length cp) ∧ w''.cell? ⟨w.heap.size + 1,0,none⟩ = some (.slice (some ⟨bl,ol,none⟩) lhs.length l1c) ∧ w''.cell? ⟨w.heap.size + 1,1,none⟩ = some (.slice l2 code.length l2c) ∧ w''.cell? ⟨w.heap.size + 1,2,none⟩ = some (.string cl) ∧ w''.cell? ⟨w.heap.size + 1,3,none⟩ = some (.slice l3 args.length l3c) ∧ w''.cell? ⟨w.heap.size + 2,0,none⟩ = some (.string x.name) ∧ w''.cell? ⟨w.heap.size + 2,1,none⟩ = some (.slice b1 x.ins.length c1) ∧ w''.cell? ⟨w.heap.size + 2,2,none⟩ = some (.slice b2 x.outs.length c2) ∧ w''.cell? ⟨w.heap.size + 2,3,none⟩ = some (.slice b3 x.vars.length c3) ∧ w''.cell? ⟨w.heap.size + 2,4,none⟩ = some (.slice b4 x.eqs.length c4)):=by
  intro nm w' hb
  refine (l2Var_in x _ _ _ _ nm w w' (uh HX1 w' hb) (uh HNI).ins (uh HNI).outs (uh HNI).vars ⟨b4,x.eqs.length,c4,rfl⟩ hsum).mono ?_
  rintro e w'' ⟨cl',rfl,hS,hb2⟩
  rw [uh HVS] at hS ⊢
  have h8:=uh HX2 _ _ hb hb2
  obtain ⟨ac,cc,rfl⟩:=hS.shape
  exact ⟨ac,cc,rfl,hS,h8,by rw [(uh HX1 w'' h8).cell (p:=⟨bl,_,none⟩) hbl]; exact y0,uh HX4 w'' h8⟩
 have hdr:=uh HX4 _ (uh HX0)
 have yd : (((((w.alloc (.cells #[.slice (some ⟨bp,op,none⟩) ns.length cp] 30)).alloc (.cells #[.slice (some ⟨bl,ol,none⟩) lhs.length l1c,.slice l2 code.length l2c,.string cl,.slice l3 args.length l3c] 70)).alloc (.cells #[.string x.name,.slice b1 x.ins.length c1,.slice b2 x.outs.length c2,.slice b3 x.vars.length c3,.slice b4 x.eqs.length c4] 45)).alloc (.cells #[] 63)).alloc (.cells #[] 63)).cell? ⟨bl,ol,none⟩ = some (.string x0):=by rw [(uh HX1 _ (uh HX0)).cell (p:=⟨bl,_,none⟩) hbl]; exact y0
 clear hA hAz hA1 hA2 hA3 hBX
 have hi' : (i : Int) < (ns.length : Int):=by omega
 have hbl5 : bl < w.heap.size:=hbl
 have HVC:=hide (uh HV x0 _ (uh HXd))
 have HVC2 : Hid (Calls Tryz.prog 23 #[.agg #[.string x.name,.slice b1 x.ins.length c1,.slice b2 x.outs.length c2,.slice b3 x.vars.length c3,.slice b4 x.eqs.length c4],.string x0] ((((((w.alloc (.cells #[.slice (some ⟨bp,op,none⟩) ns.length cp] 30)).alloc (.cells #[.slice (some ⟨bl,ol,none⟩) lhs.length l1c,.slice l2 code.length l2c,.string cl,.slice l3 args.length l3c] 70)).alloc (.cells #[.string x.name,.slice b1 x.ins.length c1,.slice b2 x.outs.length c2,.slice b3 x.vars.length c3,.slice b4 x.eqs.length c4] 45)).alloc (.cells #[] 63)).alloc (.cells #[] 63)).alloc (.cells #[.string ⟨#[]⟩,.int .i64 0,.slice none 0 0] 63)).drew fun e w'' => ∃ ac cc,e = .returned (.tuple #[.agg #[.string (lookV vs x0).name,.int .i64 (lookV vs x0).type,.slice ac (lookV vs x0).clock.length cc],.int .i64 (lookI vs x0)]) ∧ Hid (SlAt 2 24 RCond 0 w (.slice ac (lookV vs x0).clock.length cc) (lookV vs x0).clock) ∧ BX w'' ∧ w''.cell? ⟨bl,ol,none⟩ = some (.string x0) ∧ w''.cell? ⟨w.heap.size,0,none⟩ = some (.slice (some ⟨bp,op,none⟩) ns.length cp) ∧ w''.cell? ⟨w.heap.size + 1,0,none⟩ = some (.slice (some ⟨bl,ol,none⟩) lhs.length l1c) ∧ w''.cell? ⟨w.heap.size + 1,1,none⟩ = some (.slice l2 code.length l2c) ∧ w''.cell? ⟨w.heap.size + 1,2,none⟩ = some (.string cl) ∧ w''.cell? ⟨w.heap.size + 1,3,none⟩ = some (.slice l3 args.length l3c) ∧ w''.cell? ⟨w.heap.size + 2,0,none⟩ = some (.string x.name) ∧ w''.cell? ⟨w.heap.size + 2,1,none⟩ = some (.slice b1 x.ins.length c1) ∧ w''.cell? ⟨w.heap.size + 2,2,none⟩ = some (.slice b2 x.outs.length c2) ∧ w''.cell? ⟨w.heap.size + 2,3,none⟩ = some (.slice b3 x.vars.length c3) ∧ w''.cell? ⟨w.heap.size + 2,4,none⟩ = some (.slice b4 x.eqs.length c4) ∧ Hid (BlkAt w'' (((((w.alloc (.cells #[.slice (some ⟨bp,op,none⟩) ns.length cp] 30)).alloc (.cells #[.slice (some ⟨bl,ol,none⟩) lhs.length l1c,.slice l2 code.length l2c,.string cl,.slice l3 args.length l3c] 70)).alloc (.cells #[.string x.name,.slice b1 x.ins.length c1,.slice b2 x.outs.length c2,.slice b3 x.vars.length c3,.slice b4 x.eqs.length c4] 45)).alloc (.cells #[] 63)).alloc (.cells #[] 63)).heap.size 63 #[.string ⟨#[]⟩,.int .i64 0,.slice none 0 0])):=by
  have hbz : Below (((((w.alloc (.cells #[.slice (some ⟨bp,op,none⟩) ns.length cp] 30)).alloc (.cells #[.slice (some ⟨bl,ol,none⟩) lhs.length l1c,.slice l2 code.length l2c,.string cl,.slice l3 args.length l3c] 70)).alloc (.cells #[.string x.name,.slice b1 x.ins.length c1,.slice b2 x.outs.length c2,.slice b3 x.vars.length c3,.slice b4 x.eqs.length c4] 45)).alloc (.cells #[] 63)).alloc (.cells #[] 63)).heap.size (((((w.alloc (.cells #[.slice (some ⟨bp,op,none⟩) ns.length cp] 30)).alloc (.cells #[.slice (some ⟨bl,ol,none⟩) lhs.length l1c,.slice l2 code.length l2c,.string cl,.slice l3 args.length l3c] 70)).alloc (.cells #[.string x.name,.slice b1 x.ins.length c1,.slice b2 x.outs.length c2,.slice b3 x.vars.length c3,.slice b4 x.eqs.length c4] 45)).alloc (.cells #[] 63)).alloc (.cells #[] 63)) ((((((w.alloc (.cells #[.slice (some ⟨bp,op,none⟩) ns.length cp] 30)).alloc (.cells #[.slice (some ⟨bl,ol,none⟩) lhs.length l1c,.slice l2 code.length l2c,.string cl,.slice l3 args.length l3c] 70)).alloc (.cells #[.string x.name,.slice b1 x.ins.length c1,.slice b2 x.outs.length c2,.slice b3 x.vars.length c3,.slice b4 x.eqs.length c4] 45)).alloc (.cells #[] 63)).alloc (.cells #[] 63)).alloc (.cells #[.string ⟨#[]⟩,.int .i64 0,.slice none 0 0] 63)).drew:=((Below.refl _ _).alloc (Nat.le_refl _) _).drew
  have hxz:=uh HX2 _ _ (uh HX0) hbz
  refine (l2Var_in x _ _ _ _ x0 w _ (uh HX1 _ hxz) (uh HNI).ins (uh HNI).outs (uh HNI).vars ⟨b4,x.eqs.length,c4,rfl⟩ hsum).mono ?_
  rintro e w'' ⟨cl',rfl,hS,hb2⟩
  rw [uh HVS] at hS ⊢
  have h8:=uh HX2 _ _ hxz hb2
  obtain ⟨ac,cc,rfl⟩:=hS.shape
  refine ⟨ac,cc,rfl,hS,h8,by rw [(uh HX1 w'' h8).cell (p:=⟨bl,_,none⟩) hbl]; exact y0,?_⟩
  obtain ⟨q0,q1,q2,q3,q4,q5,q6,q7,q8,q9⟩:=uh HX4 w'' h8
  exact ⟨q0,q1,q2,q3,q4,q5,q6,q7,q8,q9,(show BlkAt ((((((w.alloc (.cells #[.slice (some ⟨bp,op,none⟩) ns.length cp] 30)).alloc (.cells #[.slice (some ⟨bl,ol,none⟩) lhs.length l1c,.slice l2 code.length l2c,.string cl,.slice l3 args.length l3c] 70)).alloc (.cells #[.string x.name,.slice b1 x.ins.length c1,.slice b2 x.outs.length c2,.slice b3 x.vars.length c3,.slice b4 x.eqs.length c4] 45)).alloc (.cells #[] 63)).alloc (.cells #[] 63)).alloc (.cells #[.string ⟨#[]⟩,.int .i64 0,.slice none 0 0] 63)).drew (((((w.alloc (.cells #[.slice (some ⟨bp,op,none⟩) ns.length cp] 30)).alloc (.cells #[.slice (some ⟨bl,ol,none⟩) lhs.length l1c,.slice l2 code.length l2c,.string cl,.slice l3 args.length l3c] 70)).alloc (.cells #[.string x.name,.slice b1 x.ins.length c1,.slice b2 x.outs.length c2,.slice b3 x.vars.length c3,.slice b4 x.eqs.length c4] 45)).alloc (.cells #[] 63)).alloc (.cells #[] 63)).heap.size 63 #[.string ⟨#[]⟩,.int .i64 0,.slice none 0 0] from blk_box (((((w.alloc (.cells #[.slice (some ⟨bp,op,none⟩) ns.length cp] 30)).alloc (.cells #[.slice (some ⟨bl,ol,none⟩) lhs.length l1c,.slice l2 code.length l2c,.string cl,.slice l3 args.length l3c] 70)).alloc (.cells #[.string x.name,.slice b1 x.ins.length c1,.slice b2 x.outs.length c2,.slice b3 x.vars.length c3,.slice b4 x.eqs.length c4] 45)).alloc (.cells #[] 63)).alloc (.cells #[] 63)) #[.string ⟨#[]⟩,.int .i64 0,.slice none 0 0] 63).below hb2 (by simp)⟩
 go_enter Tryz.func26,Tryz.ntmps26
 go_wp2_with fail
 obtain ⟨d0,d1,d2,d3,d4,d5,d6,d7,d8,d9⟩:=hdr
 generalize hWS : (((((w.alloc (.cells #[.slice (some ⟨bp,op,none⟩) ns.length cp] 30)).alloc (.cells #[.slice (some ⟨bl,ol,none⟩) lhs.length l1c,.slice l2 code.length l2c,.string cl,.slice l3 args.length l3c] 70)).alloc (.cells #[.string x.name,.slice b1 x.ins.length c1,.slice b2 x.outs.length c2,.slice b3 x.vars.length c3,.slice b4 x.eqs.length c4] 45)).alloc (.cells #[] 63)).alloc (.cells #[] 63)) = wS at *
 have hwz : wS.heap.size = w.heap.size + 5:=by rw [← hWS]; simp
 clear hWS
 have a1 : wS.heap.size ≠ bl:=by omega
 have a2 : wS.heap.size ≠ w.heap.size + 1:=by omega
 have a3 : wS.heap.size ≠ w.heap.size + 2:=by omega
 have HWZ:=hide hwz
 clear hwz
 go_region_held3 (fun w' => w'.cell? ⟨bl,ol,none⟩ = some (.string x0) ∧ w'.cell? ⟨w.heap.size + 1,0,none⟩ = some (.slice (some ⟨bl,ol,none⟩) lhs.length l1c) ∧ w'.cell? ⟨w.heap.size + 2,0,none⟩ = some (.string x.name) ∧ w'.cell? ⟨w.heap.size + 2,1,none⟩ = some (.slice b1 x.ins.length c1) ∧ w'.cell? ⟨w.heap.size + 2,2,none⟩ = some (.slice b2 x.outs.length c2) ∧ w'.cell? ⟨w.heap.size + 2,3,none⟩ = some (.slice b3 x.vars.length c3) ∧ w'.cell? ⟨w.heap.size + 2,4,none⟩ = some (.slice b4 x.eqs.length c4)) (go_keep) (first | (go_at_call 23; refine (uh HVC).mono ?_; rintro e w6 ⟨ac,cc,rfl,HCK,hB6,y6,z0,z1,z2,z3,z4,z5,z6,z7,z8,z9⟩; have e1:=World.new_ne w6 _ y6; have e2:=World.new_ne w6 _ z1; have e3:=World.new_ne w6 _ z5) | (go_at_call 23; refine (uh HVC2).mono ?_; rintro e w6 ⟨ac,cc,rfl,HCK,hB6,y6,z0,z1,z2,z3,z4,z5,z6,z7,z8,z9,HZB⟩; have f0:=(uh HZB).cell (i:=0) (v:=.string ⟨#[]⟩) rfl; have f1:=(uh HZB).cell (i:=1) (v:=.int .i64 0) rfl; have f2:=(uh HZB).cell (i:=2) (v:=.slice none 0 0) rfl; have g0:=(uh HZB).free 0; have g1:=(uh HZB).free 1; have g2:=(uh HZB).free 2))
 have hF:=blk_box w6 #[.string (lookV vs x0).name,.int .i64 (lookV vs x0).type,.slice ac (lookV vs x0).clock.length cc] 63
 have hBF:=uh HX2 _ _ hB6 ((Below.refl _ w6).alloc (Nat.le_refl _) (.cells #[.string (lookV vs x0).name,.int .i64 (lookV vs x0).type,.slice ac (lookV vs x0).clock.length cc] 63))
 have hfb:=uh HX5 _ hB6
 generalize w6.alloc (.cells #[.string (lookV vs x0).name,.int .i64 (lookV vs x0).type,.slice ac (lookV vs x0).clock.length cc] 63) = wF at hF hBF ⊢
 generalize w6.heap.size = fb at hF hfb ⊢
 clear hB6 y6 z0 z1 z2 z3 z4 z5 z6 z7 z8 z9 e1 e2 e3
 rotate_left
 have hF:=BlkAt.set3 (x:=.string (lookV vs x0).name) (y:=.int .i64 (lookV vs x0).type) (z:=.slice ac (lookV vs x0).clock.length cc) (uh HZB)
 have hfb : w.heap.size + 5 ≤ wS.heap.size:=Nat.le_of_eq (uh HWZ).symm
 have hBF:=uh HX7 _ ⟨wS.heap.size,2,none⟩ (.slice ac (lookV vs x0).clock.length cc) (uh HX7 _ ⟨wS.heap.size,1,none⟩ (.int .i64 (lookV vs x0).type) (uh HX7 _ ⟨wS.heap.size,0,none⟩ (.string (lookV vs x0).name) hB6 hfb) hfb) hfb
 generalize ((w6.setCell ⟨wS.heap.size,0,none⟩ (.string (lookV vs x0).name)).setCell ⟨wS.heap.size,1,none⟩ (.int .i64 (lookV vs x0).type)).setCell ⟨wS.heap.size,2,none⟩ (.slice ac (lookV vs x0).clock.length cc) = wF at hF hBF ⊢
 generalize wS.heap.size = fb at hF hfb ⊢
 clear hB6 y6 z0 z1 z2 z3 z4 z5 z6 z7 z8 z9 f0 f1 f2 g0 g1 g2 HZB
 all_goals
  have HFV:=hide (uh HF0 vs)
  have HZ1 : Hid (∀ w',Below wF.heap.size wF w' → BX w'):=fun w' h => uh HX2 _ _ hBF h
  have HZ2 : Hid (∀ w',Below wF.heap.size wF w' → w'.cell? ⟨fb,0,none⟩ = some (.string (lookV vs x0).name) ∧ w'.cell? ⟨fb,1,none⟩ = some (.int .i64 (lookV vs x0).type) ∧ w'.cell? ⟨fb,2,none⟩ = some (.slice ac (lookV vs x0).clock.length cc)):=fun w' h => ⟨(hF.below h hF.lt).cell (i:=0) (v:=.string (lookV vs x0).name) rfl,(hF.below h hF.lt).cell (i:=1) (v:=.int .i64 (lookV vs x0).type) rfl,(hF.below h hF.lt).cell (i:=2) (v:=.slice ac (lookV vs x0).clock.length cc) rfl⟩
  have hk8 : (lookV vs x0).clock.length ≤ 8:=hck x0
  have HCKv:=hide hck
  generalize lookV vs x0 = fv at *
  generalize lookI vs x0 = fi at *
  have hfl:=hF.lt
  have HBF:=hide hBF
  clear hF hBF HVC HVC2 HXd HX0 HX7 HF0 d0 d1 d2 d3 d4 d5 d6 d7 d8 d9 yd a1 a2 a3 HWZ hck
  by_cases g : cl.size = 0
  ·have d4:=empty_yes cl g
   have d4':=isEmpty_yes cl g
   have HRES:=hide (uh HFT vs g)
   rw [uh HFV] at HRES
   obtain ⟨q0,q1,q2,q3,q4,q5,q6,q7,q8,q9⟩:=uh HX4 wF (uh HBF)
   obtain ⟨t0,t1,t2⟩:=uh HZ2 wF (Below.refl _ _)
   clear HFT HFC HFG HFN HPN
   have HBT : Hid (Below wF.heap.size wF (wF.alloc (.cells #[.string ⟨#[]⟩,.int .i64 fv.type,.slice none 0 0] 63))):=(Below.refl _ _).alloc (Nat.le_refl _) _
   have HTI : Hid (TyAt (wF.alloc (.cells #[.string ⟨#[]⟩,.int .i64 fv.type,.slice none 0 0] 63)) (.slice (some ⟨wF.heap.size,0,none⟩) 1 1) [fv.type]):=ty_one fv.type 63
   have hiL : (codesOf ⟨lhs,code,cl,args⟩).length = 1:=by unfold codesOf; rw [if_pos g]; rfl
   have hoL : lhs.length = 1:=by
    unfold eqB at heq
    rw [if_pos g] at heq
    simp only [Bool.and_eq_true,decide_eq_true_iff] at heq
    exact heq.2.1.1
   have hL1:=uh HX5 _ (uh HBF)
   have hw1 : w.heap.size < wF.heap.size:=by omega
   have hw2 : w.heap.size + 1 < wF.heap.size:=by omega
   have hw3 : w.heap.size + 2 < wF.heap.size:=by omega
   have HQ:=hide (eqTail_all vs ⟨lhs,code,cl,args⟩ [fv.type] [fv.type] fv.clock)
   rw [← uh HRES] at HQ
   have HC1:=hide (fun w' (hb : Below wF.heap.size wF w') => uh HCD w' (uh HX1 _ (uh HZ1 _ hb)) (.slice (some ⟨bl,ol,none⟩) lhs.length l1c))
   generalize eqFault ns i vs ⟨lhs,code,cl,args⟩ = R at *
   generalize codesOf ⟨lhs,code,cl,args⟩ = cds at *
   simp only at HQ
   clear HRES HCD
   have HQL : Hid (cds.length = ([fv.type] : List Int).length ∧ lhs.length = ([fv.type] : List Int).length):=⟨hiL,hoL⟩
   clear hiL hoL
   go_wp2_with fail
   refine (uh HC1 _ (uh HBT)).mono ?_
   rintro e w8 ⟨vc,rfl,hcds,_,hb8⟩
   have HB8 : Hid (Below wF.heap.size wF w8):=(uh HBT).trans (hb8.mono (uh HBT).size)
   have HTI8:=hide ((uh HTI).stays hb8)
   have HTO8:=HTI8
   obtain ⟨av,cv,rfl⟩:=hcds.shape
   obtain ⟨_,_,hvv,_,hvn,hvx⟩:=hcds
   simp only [Value.slice.injEq] at hvv
   obtain ⟨rfl,_,rfl⟩:=hvv
   have HVX:=hide hvx
   have hc5:=hsmall.1
   clear hvx hb8 hvn q0 q1 q2 q3 q4 q5 q6 q7 q8 q9 t0 t1 t2
   go_wp2
   go_loopg [95] cds.length (fun g k' wr => ∃ (k : Nat),k ≤ cds.length ∧ g = cds.length - k ∧ k' = .int .i64 k ∧ tysTo vs cds [fv.type] k = true ∧ Below w8.heap.size w8 wr)
   case atStart => exact ⟨0,Nat.zero_le _,by omega,rfl,rfl,Below.refl _ _⟩
   case round =>
    obtain ⟨k,hk,hg,rfl,hty,hb9⟩:=hrel
    rename World => wk
    have HG:=hide hg
    have HTY:=hide hty
    have HB9:=hide hb9
    have hbk : Below wF.heap.size wF wk:=(uh HB8).trans (hb9.mono (uh HB8).size)
    have HBK:=hide hbk
    clear hg hty
    by_cases hlt : k < cds.length
    ·obtain ⟨ba,oa,csa,hbo,_,hba,hcsa,hca,⟨va,rfl,hE⟩⟩:=uh HVX k hlt
     subst hbo
     have r0 : wk.cell? ⟨ba,oa + k,none⟩ = some va:=by rw [hb9.cell (p:=⟨ba,_,none⟩) hba]; simpa using hca 0 (by simp)
     have hkl : k < ([fv.type] : List Int).length:=by have:=(uh HQL).1; omega
     obtain ⟨ai,ci,hvi,hxi⟩:=(uh HTI8).stays hb9
     obtain ⟨bi,oi,hbi,hbl2,hci⟩:=hxi k hkl
     simp only [Value.slice.injEq] at hvi
     obtain ⟨hv1,hv2,hv3⟩:=hvi
     clear hv2 hv3
     subst hv1; simp only [Option.some.injEq,Addr.mk.injEq] at hbi; obtain ⟨rfl,rfl,_⟩:=hbi
     have hkI : (k : Int) < 1:=by simp at hkl; omega
     simp only [Nat.zero_add] at hci
     have hcb:=uh HCB cds[k] (List.getElem_mem hlt)
     have hbxk:=uh HZ1 _ hbk
     have hxdk : Below wk.heap.size wk wk.drew:=(Below.refl _ wk).drew
     have hwT:=hE.stays RItem_kept ((uh HX1 _ hbxk).trans (hxdk.mono (uh HX1 _ hbxk).size))
     have HTc:=hide (l2Type_ok x b1 b2 b3 b4 c1 c2 c3 x.eqs.length c4 hsum cds[k] va (code_items _ hcb).1 (code_items _ hcb).2 cds[k].length 0 (tyV (allV x) cds[k]) (code_ty _ _ hcb) wk.drew ((uh HNI).stays ((uh HX1 _ hbxk).trans (hxdk.mono (uh HX1 _ hbxk).size))) hwT)
     rw [uh HVS] at HTc
     obtain ⟨ae,ce,rfl⟩:=hE.shape
     obtain ⟨nc0,nc1,nc2,nc3,nc4,nc5,nc6,nc7,nc8,nc9⟩:=uh HX4 wk hbxk
     have HNO:=hide (fun h => (uh HQ).1 (tys_no vs cds [fv.type] k hlt hkl h))
     have HYES:=hide (fun h => tys_yes vs cds [fv.type] k hlt hkl (uh HTY) h)
     have nE:=hE.len'
     have hltk : (k : Int) < (cds.length : Int):=by omega
     clear hca hcsa hE hwT hxi
     generalize tyV vs cds[k] = ty at *
     generalize ([fv.type] : List Int)[k] = tk at *
     have HTp : Hid (Calls Tryz.prog 48 #[.agg #[.string x.name,.slice b1 x.ins.length c1,.slice b2 x.outs.length c2,.slice b3 x.vars.length c3,.slice b4 x.eqs.length c4],.slice ae cds[k].length ce,.int .i64 (cds[k].length : Int)] wk.drew fun e w'' => e = .returned (.int .i64 ty) ∧ Hid (Below wk.heap.size wk w'') ∧ w''.cell? ⟨wF.heap.size,k * 3 + 1,none⟩ = some (.int .i64 tk) ∧ w''.cell? ⟨w.heap.size + 2,0,none⟩ = some (.string x.name) ∧ w''.cell? ⟨w.heap.size + 2,1,none⟩ = some (.slice b1 x.ins.length c1) ∧ w''.cell? ⟨w.heap.size + 2,2,none⟩ = some (.slice b2 x.outs.length c2) ∧ w''.cell? ⟨w.heap.size + 2,3,none⟩ = some (.slice b3 x.vars.length c3) ∧ w''.cell? ⟨w.heap.size + 2,4,none⟩ = some (.slice b4 x.eqs.length c4)):=by
      refine (uh HTc).mono ?_
      rintro e w'' ⟨rfl,h9⟩
      have h8 : Below wk.heap.size wk w'':=hxdk.trans h9
      have hx8:=uh HX2 _ _ hbxk h8
      obtain ⟨_,_,_,_,_,x5,x6,x7,x8,x9⟩:=uh HX4 w'' hx8
      exact ⟨rfl,h8,by rw [h8.cell (p:=⟨wF.heap.size,_,none⟩) hbl2]; exact hci,x5,x6,x7,x8,x9⟩
     generalize cds[k].length = el at *
     clear HTc hcb hb9 hbk hbxk hxdk
     by_cases he : ty = tk
     ·have de : (ty != tk) = false:=by simp [he]
      have HY2:=hide (uh HYES he)
      clear he HNO HYES
      go_wp2_with fail
      go_region_held3 (fun w' => w'.cell? ⟨wF.heap.size,k * 3 + 1,none⟩ = some (.int .i64 tk) ∧ w'.cell? ⟨w.heap.size + 2,0,none⟩ = some (.string x.name) ∧ w'.cell? ⟨w.heap.size + 2,1,none⟩ = some (.slice b1 x.ins.length c1) ∧ w'.cell? ⟨w.heap.size + 2,2,none⟩ = some (.slice b2 x.outs.length c2) ∧ w'.cell? ⟨w.heap.size + 2,3,none⟩ = some (.slice b3 x.vars.length c3) ∧ w'.cell? ⟨w.heap.size + 2,4,none⟩ = some (.slice b4 x.eqs.length c4)) (go_keep) (first | (go_at_call 48; refine (uh HTp).mono ?_; rintro e w9 ⟨rfl,HB10,u1,u2,u3,u4,u5,u6⟩))
      go_wp2
      go_roundg (cds.length - (k + 1))
      case measure => have:=uh HG; omega
      case rel => exact ⟨k + 1,by omega,rfl,by go_num,uh HY2,(uh HB9).trans ((uh HB10).mono (uh HB9).size)⟩
     ·have de : (ty != tk) = true:=by simp [he]
      have HY2:=hide (uh HNO he)
      clear he HNO HYES
      go_wp2_with fail
      go_region_held3 (fun w' => w'.cell? ⟨wF.heap.size,k * 3 + 1,none⟩ = some (.int .i64 tk) ∧ w'.cell? ⟨w.heap.size + 2,0,none⟩ = some (.string x.name) ∧ w'.cell? ⟨w.heap.size + 2,1,none⟩ = some (.slice b1 x.ins.length c1) ∧ w'.cell? ⟨w.heap.size + 2,2,none⟩ = some (.slice b2 x.outs.length c2) ∧ w'.cell? ⟨w.heap.size + 2,3,none⟩ = some (.slice b3 x.vars.length c3) ∧ w'.cell? ⟨w.heap.size + 2,4,none⟩ = some (.slice b4 x.eqs.length c4)) (go_keep) (first | (go_at_call 48; refine (uh HTp).mono ?_; rintro e w9 ⟨rfl,HB10,u1,u2,u3,u4,u5,u6⟩))
      have HFIN:=hide (uh HX1 _ (uh HZ1 _ ((uh HBK).trans ((uh HB10).mono (uh HBK).size))))
      go_wp2
      go_ret
      exact ⟨ret_int (uh HY2).symm,uh HFIN⟩
    ·have e : k = cds.length:=by omega
     subst e
     obtain ⟨nc0,nc1,nc2,nc3,nc4,nc5,nc6,nc7,nc8,nc9⟩:=uh HX4 wk (uh HZ1 _ hbk)
     have HTYS:=HTY
     have HTIK:=hide ((uh HTO8).stays hb9)
     clear hb9 hbk HVX HTI HTI8 HTO8
     go_wp2
     clear nc0 nc1 nc2 nc3 nc4 nc5 nc6 nc7 nc8 nc9
     go_loopg [115] lhs.length (fun g k' wr => ∃ (k2 : Nat),k2 ≤ lhs.length ∧ g = lhs.length - k2 ∧ k' = .int .i64 k2 ∧ outsTo vs lhs [fv.type] k2 = true ∧ Below wk.heap.size wk wr)
     case atStart => exact ⟨0,Nat.zero_le _,by omega,rfl,rfl,Below.refl _ _⟩
     case round =>
      obtain ⟨k2,hk2,hg2,rfl,hto,hb2⟩:=hrel
      rename World => wl
      have HG2:=hide hg2
      have HTO:=hide hto
      have HB2:=hide hb2
      have hbl' : Below wF.heap.size wF wl:=(uh HBK).trans (hb2.mono (uh HBK).size)
      have HBL:=hide hbl'
      have hbxl:=uh HZ1 _ hbl'
      obtain ⟨nc0,nc1,nc2,nc3,nc4,nc5,nc6,nc7,nc8,nc9⟩:=uh HX4 wl hbxl
      clear hg2 hto
      by_cases hlt2 : k2 < lhs.length
      ·obtain ⟨b5,o5,c5,hv5,hb5,cs5,hcs5,hc5',⟨rfl,hsn5⟩⟩:=(uh H1).at' k2 hlt2
       simp only [Value.slice.injEq,Option.some.injEq,Addr.mk.injEq] at hv5
       obtain ⟨⟨rfl,rfl,hz1⟩,hz2,hz3⟩:=hv5
       clear hz1 hz2 hz3
       have r0 : wl.cell? ⟨bl,ol + k2,none⟩ = some (.string lhs[k2]):=by
        rw [(uh HX1 _ hbxl).cell (p:=⟨bl,_,none⟩) hb5]
        simpa using hc5' 0 (by simp)
       have hkl : k2 < ([fv.type] : List Int).length:=by have:=(uh HQL).2; omega
       have HVk:=hide (l2Var_in x (.slice b1 x.ins.length c1) (.slice b2 x.outs.length c2) (.slice b3 x.vars.length c3) (.slice b4 x.eqs.length c4) lhs[k2] w wl (uh HX1 _ hbxl) (uh HNI).ins (uh HNI).outs (uh HNI).vars ⟨b4,x.eqs.length,c4,rfl⟩ hsum)
       unfold VarOutI at HVk
       rw [uh HVS] at HVk
       have HNO:=hide (fun h => (uh HQ).2.1 (uh HTYS) (outs_no vs lhs [fv.type] k2 hlt2 hkl h))
       have HYES:=hide (fun h => outs_yes vs lhs [fv.type] k2 hlt2 hkl (uh HTO) h)
       have hltk : (k2 : Int) < (lhs.length : Int):=by omega
       obtain ⟨ai,ci,hvi,hxi⟩:=(uh HTIK).stays hb2
       obtain ⟨bi,oi,hbi,hbl2,hci⟩:=hxi k2 hkl
       simp only [Value.slice.injEq] at hvi
       obtain ⟨hv1,hv2,hv3⟩:=hvi
       clear hv2 hv3
       subst hv1; simp only [Option.some.injEq,Addr.mk.injEq] at hbi; obtain ⟨rfl,rfl,_⟩:=hbi
       have hkI : (k2 : Int) < 1:=by simp at hkl; omega
       simp only [Nat.zero_add] at hci
       clear hc5' hcs5 hsn5 hxi
       generalize lhs[k2] = nm at *
       generalize ([fv.type] : List Int)[k2] = tk at *
       generalize lookV vs nm = vv at *
       generalize lookI vs nm = vi at *
       go_wp2_with fail
       refine (uh HVk).mono ?_
       rintro e w9 ⟨cl2,rfl,hS2,hb10⟩
       obtain ⟨ac2,cc2,rfl⟩:=hS2.shape
       have HAL : Hid (Below wl.heap.size wl (w9.alloc (.cells #[.string vv.name,.int .i64 vv.type,.slice ac2 vv.clock.length cc2] 63))):=hb10.alloc hb10.size _
       have z1 : (w9.alloc (.cells #[.string vv.name,.int .i64 vv.type,.slice ac2 vv.clock.length cc2] 63)).cell? ⟨w9.heap.size,1,none⟩ = some (.int .i64 vv.type):=(World.cell?_alloc_at _ _ _ _ rfl).trans rfl
       have z2 : (w9.alloc (.cells #[.string vv.name,.int .i64 vv.type,.slice ac2 vv.clock.length cc2] 63)).cell? ⟨wF.heap.size,k2 * 3 + 1,none⟩ = some (.int .i64 tk):=by rw [(uh HAL).cell (p:=⟨wF.heap.size,_,none⟩) hbl2]; exact hci
       clear hb10 hS2 hci nc0 nc1 nc2 nc3 nc4 nc5 nc6 nc7 nc8 nc9 r0 hbxl hb2 hbl'
       go_wp2_with fail
       generalize w9.alloc (.cells #[.string vv.name,.int .i64 vv.type,.slice ac2 vv.clock.length cc2] 63) = wV at z1 z2 HAL ⊢
       have HALd : Hid (Below wl.heap.size wl wV.drew):=(uh HAL).drew
       by_cases he : vv.type = tk
       ·have de : (vv.type != tk) = false:=by simp [he]
        have HY2:=hide (uh HYES he)
        clear he HNO HYES
        go_region_held3 (fun w' => w'.cell? ⟨w9.heap.size,1,none⟩ = some (.int .i64 vv.type) ∧ w'.cell? ⟨wF.heap.size,k2 * 3 + 1,none⟩ = some (.int .i64 tk)) (go_keep) (fail)
        go_wp2
        go_roundg (lhs.length - (k2 + 1))
        case measure => have:=uh HG2; omega
        case rel => exact ⟨k2 + 1,by omega,rfl,by go_num,uh HY2,(uh HB2).trans ((uh HALd).mono (uh HB2).size)⟩
       ·have de : (vv.type != tk) = true:=by simp [he]
        have HY2:=hide (uh HNO he)
        clear he HNO HYES
        go_region_held3 (fun w' => w'.cell? ⟨w9.heap.size,1,none⟩ = some (.int .i64 vv.type) ∧ w'.cell? ⟨wF.heap.size,k2 * 3 + 1,none⟩ = some (.int .i64 tk)) (go_keep) (fail)
        have HFIN:=hide (uh HX1 _ (uh HZ1 _ ((uh HBL).trans ((uh HALd).mono (uh HBL).size))))
        go_wp2
        go_ret
        exact ⟨ret_int (uh HY2).symm,uh HFIN⟩
      ·have e : k2 = lhs.length:=by omega
       subst e
       have HOUS:=HTO
       clear HTIK hb2 hbl'
       go_wp2
       clear nc0 nc1 nc2 nc3 nc4 nc5 nc6 nc7 nc8 nc9
       go_loopg [138] lhs.length (fun g k' wr => ∃ (k3 : Nat),k3 ≤ lhs.length ∧ g = lhs.length - k3 ∧ k' = .int .i64 k3 ∧ clksTo vs lhs fv.clock k3 = true ∧ Below wl.heap.size wl wr)
       case atStart => exact ⟨0,Nat.zero_le _,by omega,rfl,rfl,Below.refl _ _⟩
       case round =>
        obtain ⟨k3,hk3,hg3,rfl,hto3,hb3⟩:=hrel
        rename World => wm
        have HG3:=hide hg3
        have HTO3:=hide hto3
        have HB3:=hide hb3
        have hbm : Below wF.heap.size wF wm:=(uh HBL).trans (hb3.mono (uh HBL).size)
        have HBM:=hide hbm
        have hbxm:=uh HZ1 _ hbm
        obtain ⟨nc0,nc1,nc2,nc3,nc4,nc5,nc6,nc7,nc8,nc9⟩:=uh HX4 wm hbxm
        obtain ⟨t0,t1,t2⟩:=uh HZ2 wm hbm
        clear hg3 hto3
        by_cases hlt3 : k3 < lhs.length
        ·obtain ⟨b5,o5,c5,hv5,hb5,cs5,hcs5,hc5',⟨rfl,hsn5⟩⟩:=(uh H1).at' k3 hlt3
         simp only [Value.slice.injEq,Option.some.injEq,Addr.mk.injEq] at hv5
         obtain ⟨⟨rfl,rfl,hz1⟩,hz2,hz3⟩:=hv5
         clear hz1 hz2 hz3
         have r0 : wm.cell? ⟨bl,ol + k3,none⟩ = some (.string lhs[k3]):=by
          rw [(uh HX1 _ hbxm).cell (p:=⟨bl,_,none⟩) hb5]
          simpa using hc5' 0 (by simp)
         have HNO:=hide (fun h => (uh HQ).2.2.1 (uh HTYS) (uh HOUS) (clks_no vs lhs fv.clock k3 hlt3 h))
         have HYES:=hide (fun h => clks_yes vs lhs fv.clock k3 hlt3 (uh HTO3) h)
         have hltk : (k3 : Int) < (lhs.length : Int):=by omega
         have hdm : Below wF.heap.size wF wm.drew:=hbm.drew
         have HCc : Hid (Calls Tryz.prog 49 #[.agg #[.string x.name,.slice b1 x.ins.length c1,.slice b2 x.outs.length c2,.slice b3 x.vars.length c3,.slice b4 x.eqs.length c4],.string lhs[k3]] wm.drew fun e w'' => ∃ a c,e = .returned (.slice a (clkOf vs lhs[k3]).length c) ∧ Hid (Below wF.heap.size wF w'') ∧ Hid (Below wm.heap.size wm w'') ∧ Hid (Calls Tryz.prog 24 #[.slice a (clkOf vs lhs[k3]).length c,.slice ac fv.clock.length cc] w'' fun e w3 => e = .returned (.bool (sameC (clkOf vs lhs[k3]) fv.clock)) ∧ Hid (Below wm.heap.size wm w3) ∧ w3.cell? ⟨fb,2,none⟩ = some (.slice ac fv.clock.length cc) ∧ w3.cell? ⟨w.heap.size + 2,0,none⟩ = some (.string x.name) ∧ w3.cell? ⟨w.heap.size + 2,1,none⟩ = some (.slice b1 x.ins.length c1) ∧ w3.cell? ⟨w.heap.size + 2,2,none⟩ = some (.slice b2 x.outs.length c2) ∧ w3.cell? ⟨w.heap.size + 2,3,none⟩ = some (.slice b3 x.vars.length c3) ∧ w3.cell? ⟨w.heap.size + 2,4,none⟩ = some (.slice b4 x.eqs.length c4)) ∧ w''.cell? ⟨fb,2,none⟩ = some (.slice ac fv.clock.length cc) ∧ w''.cell? ⟨w.heap.size + 2,0,none⟩ = some (.string x.name) ∧ w''.cell? ⟨w.heap.size + 2,1,none⟩ = some (.slice b1 x.ins.length c1) ∧ w''.cell? ⟨w.heap.size + 2,2,none⟩ = some (.slice b2 x.outs.length c2) ∧ w''.cell? ⟨w.heap.size + 2,3,none⟩ = some (.slice b3 x.vars.length c3) ∧ w''.cell? ⟨w.heap.size + 2,4,none⟩ = some (.slice b4 x.eqs.length c4)):=by
          refine (l2Clock_in x _ _ _ _ lhs[k3] w wm.drew (uh HX1 _ (uh HZ1 _ hdm)) (uh HNI).ins (uh HNI).outs (uh HNI).vars ⟨b4,x.eqs.length,c4,rfl⟩ hsum).mono ?_
          rintro e w'' ⟨cl',rfl,hS,h9⟩
          rw [uh HVS] at hS
          have hm9 : Below wm.heap.size wm w'':=((Below.refl _ wm).drew).trans h9
          have hf9 : Below wF.heap.size wF w'':=hbm.trans (hm9.mono hbm.size)
          obtain ⟨a',c',rfl⟩:=hS.shape
          obtain ⟨_,_,u2⟩:=uh HZ2 w'' hf9
          obtain ⟨_,_,_,_,_,x5,x6,x7,x8,x9⟩:=uh HX4 w'' (uh HZ1 _ hf9)
          refine ⟨a',c',rfl,hf9,hm9,?_,u2,x5,x6,x7,x8,x9⟩
          show Calls Tryz.prog 24 _ w'' _
          refine (l1SameClock_ok (clkOf vs lhs[k3]) fv.clock _ _ w'' (hS.stays RCond_kept (uh HX1 _ (uh HZ1 _ hf9))) ((uh HCK).stays RCond_kept (uh HX1 _ (uh HZ1 _ hf9)))).mono ?_
          rintro e w3 ⟨rfl,h10⟩
          have hm3 : Below wm.heap.size wm w3:=hm9.trans (h10.mono hm9.size)
          have hf3 : Below wF.heap.size wF w3:=hbm.trans (hm3.mono hbm.size)
          obtain ⟨_,_,v2⟩:=uh HZ2 w3 hf3
          obtain ⟨_,_,_,_,_,y5,y6,y7,y8,y9⟩:=uh HX4 w3 (uh HZ1 _ hf3)
          exact ⟨rfl,hm3,v2,y5,y6,y7,y8,y9⟩
         clear hc5' hcs5 hsn5 hdm hbm hbxm hb3
         generalize sameC (clkOf vs lhs[k3]) fv.clock = sc at *
         generalize (clkOf vs lhs[k3]).length = cln at *
         generalize lhs[k3] = nm at *
         cases sc
         ·have HY2:=hide (uh HNO rfl)
          clear HNO HYES
          go_wp2_with fail
          go_region_held3 (fun w' => w'.cell? ⟨fb,2,none⟩ = some (.slice ac fv.clock.length cc) ∧ w'.cell? ⟨w.heap.size + 2,0,none⟩ = some (.string x.name) ∧ w'.cell? ⟨w.heap.size + 2,1,none⟩ = some (.slice b1 x.ins.length c1) ∧ w'.cell? ⟨w.heap.size + 2,2,none⟩ = some (.slice b2 x.outs.length c2) ∧ w'.cell? ⟨w.heap.size + 2,3,none⟩ = some (.slice b3 x.vars.length c3) ∧ w'.cell? ⟨w.heap.size + 2,4,none⟩ = some (.slice b4 x.eqs.length c4)) (go_keep) (first | (go_at_call 49; refine (uh HCc).mono ?_; rintro e w9 ⟨a9,c9,rfl,HF9,HM9,HS9,u0,u1,u2,u3,u4,u5⟩; clear HCc) | (go_at_call 24; refine (uh HS9).mono ?_; rintro e w10 ⟨rfl,HM10,v0,v1,v2,v3,v4,v5⟩; clear HS9))
          have HFIN:=hide (uh HX1 _ (uh HZ1 _ ((uh HBM).trans ((uh HM10).mono (uh HBM).size))))
          go_wp2
          go_ret
          exact ⟨ret_int (uh HY2).symm,uh HFIN⟩
         ·have HY2:=hide (uh HYES rfl)
          clear HNO HYES
          go_wp2_with fail
          go_region_held3 (fun w' => w'.cell? ⟨fb,2,none⟩ = some (.slice ac fv.clock.length cc) ∧ w'.cell? ⟨w.heap.size + 2,0,none⟩ = some (.string x.name) ∧ w'.cell? ⟨w.heap.size + 2,1,none⟩ = some (.slice b1 x.ins.length c1) ∧ w'.cell? ⟨w.heap.size + 2,2,none⟩ = some (.slice b2 x.outs.length c2) ∧ w'.cell? ⟨w.heap.size + 2,3,none⟩ = some (.slice b3 x.vars.length c3) ∧ w'.cell? ⟨w.heap.size + 2,4,none⟩ = some (.slice b4 x.eqs.length c4)) (go_keep) (first | (go_at_call 49; refine (uh HCc).mono ?_; rintro e w9 ⟨a9,c9,rfl,HF9,HM9,HS9,u0,u1,u2,u3,u4,u5⟩; clear HCc) | (go_at_call 24; refine (uh HS9).mono ?_; rintro e w10 ⟨rfl,HM10,v0,v1,v2,v3,v4,v5⟩; clear HS9))
          go_wp2
          go_roundg (lhs.length - (k3 + 1))
          case measure => have:=uh HG3; omega
          case rel => exact ⟨k3 + 1,by omega,rfl,by go_num,uh HY2,(uh HB3).trans ((uh HM10).mono (uh HB3).size)⟩
        ·have e : k3 = lhs.length:=by omega
         subst e
         have HCLS:=HTO3
         have HC2:=hide (uh HC1 wm hbm)
         clear HC1 hbxm hb3 hbm t0 t1 t2
         go_wp2_with fail
         refine (uh HC2).mono ?_
         rintro e w8' ⟨vc,rfl,hcds,_,hb8⟩
         have HB8' : Hid (Below wF.heap.size wF w8'):=(uh HBM).trans (hb8.mono (uh HBM).size)
         obtain ⟨av2,cv2,rfl⟩:=hcds.shape
         obtain ⟨_,_,hvv,_,hvn,hvx⟩:=hcds
         simp only [Value.slice.injEq] at hvv
         obtain ⟨rfl,_,rfl⟩:=hvv
         have HVX:=hide hvx
         clear hvx hb8 hvn nc0 nc1 nc2 nc3 nc4 nc5 nc6 nc7 nc8 nc9
         go_wp2
         go_loopg [153] cds.length (fun g k' wr => ∃ (k4 : Nat),k4 ≤ cds.length ∧ g = cds.length - k4 ∧ k' = .int .i64 k4 ∧ fitsTo vs cds fv.clock k4 = true ∧ Below w8'.heap.size w8' wr)
         case atStart => exact ⟨0,Nat.zero_le _,by omega,rfl,rfl,Below.refl _ _⟩
         case round =>
          obtain ⟨k4,hk4,hg4,rfl,hto4,hb4⟩:=hrel
          rename World => wq
          have HG4:=hide hg4
          have HTO4:=hide hto4
          have HB4:=hide hb4
          have hbq : Below wF.heap.size wF wq:=(uh HB8').trans (hb4.mono (uh HB8').size)
          have HBQ:=hide hbq
          have hbxq:=uh HZ1 _ hbq
          clear hg4 hto4
          by_cases hlt4 : k4 < cds.length
          ·obtain ⟨ba,oa,csa,hbo,_,hba,hcsa,hca,⟨va,rfl,hE⟩⟩:=uh HVX k4 hlt4
           subst hbo
           have r0 : wq.cell? ⟨ba,oa + k4,none⟩ = some va:=by rw [hb4.cell (p:=⟨ba,_,none⟩) hba]; simpa using hca 0 (by simp)
           have hcb:=uh HCB cds[k4] (List.getElem_mem hlt4)
           have HTc:=hide (l2Fits_ok x b1 b2 b3 b4 c1 c2 c3 x.eqs.length c4 hsum cds[k4] va (code_items _ hcb).1 (code_items _ hcb).2 cds[k4].length 0 (fitV (allV x) cds[k4]) (code_fit _ _ hcb) wq ((uh HNI).stays (uh HX1 _ hbxq)) (hE.stays RItem_kept (uh HX1 _ hbxq)) fv.clock _ ((uh HCK).stays RCond_kept (uh HX1 _ hbxq)) hk8)
           rw [uh HVS] at HTc
           obtain ⟨ae,ce,rfl⟩:=hE.shape
           have nE:=hE.len'
           obtain ⟨nc0,nc1,nc2,nc3,nc4,nc5,nc6,nc7,nc8,nc9⟩:=uh HX4 wq hbxq
           obtain ⟨t0,t1,t2⟩:=uh HZ2 wq hbq
           have HNO:=hide (fun h => (uh HQ).2.2.2.1 (uh HTYS) (uh HOUS) (uh HCLS) (fits_no vs cds fv.clock k4 hlt4 h))
           have HYES:=hide (fun h => fits_yes vs cds fv.clock k4 hlt4 (uh HTO4) h)
           have hltk : (k4 : Int) < (cds.length : Int):=by omega
           clear hca hcsa hE hcb hb4 hbq hbxq
           generalize fitV vs cds[k4] fv.clock = ft at *
           generalize cds[k4].length = el at *
           cases ft
           ·have HY2:=hide (uh HNO rfl)
            clear HNO HYES
            go_wp2_with fail
            refine (uh HTc).mono ?_
            rintro e w9 ⟨rfl,hb9⟩
            have HFIN:=hide (uh HX1 _ (uh HZ1 _ ((uh HBQ).trans (hb9.mono (uh HBQ).size))))
            clear hb9
            go_wp2
            go_ret
            exact ⟨ret_int (uh HY2).symm,uh HFIN⟩
           ·have HY2:=hide (uh HYES rfl)
            clear HNO HYES
            go_wp2_with fail
            refine (uh HTc).mono ?_
            rintro e w9 ⟨rfl,hb9⟩
            have HB9':=hide hb9
            clear hb9
            go_wp2
            go_roundg (cds.length - (k4 + 1))
            case measure => have:=uh HG4; omega
            case rel => exact ⟨k4 + 1,by omega,rfl,by go_num,uh HY2,(uh HB4).trans ((uh HB9').mono (uh HB4).size)⟩
          ·have e : k4 = cds.length:=by omega
           subst e
           have HFIN:=hide (uh HX1 _ hbxq)
           have HY2:=hide ((uh HQ).2.2.2.2 (uh HTYS) (uh HOUS) (uh HCLS) (uh HTO4))
           go_wp2
           go_ret
           exact ⟨ret_int (uh HY2).symm,uh HFIN⟩
  ·have d4:=empty_no cl g
   have d4':=isEmpty_no cl g
   obtain ⟨q0,q1,q2,q3,q4,q5,q6,q7,q8,q9⟩:=uh HX4 wF (uh HBF)
   have HFI:=hide (uh HFN wF (uh HX1 _ (uh HBF)))
   by_cases hneg : findI ns i cl < 0
   ·have HR5:=hide (uh HFC vs g hneg)
    have dn : decide (findI ns i cl < 0) = true:=decide_eq_true hneg
    clear HFT HFC HFG HFN HPN g HCD
    generalize eqFault ns i vs ⟨lhs,code,cl,args⟩ = R at *
    generalize findI ns i cl = fi2 at *
    go_wp2_with fail
    refine (uh HFI).mono ?_
    rintro e w7 ⟨rfl,hb7⟩
    have HB7:=hide (uh HX1 _ (uh HZ1 _ hb7))
    have HB7n : Hid (∀ n,Below w.heap.size w (w7.drewN n)):=fun n => ⟨(uh HB7).os,(uh HB7).tape,(uh HB7).output,(uh HB7).size,(uh HB7).block⟩
    clear hb7
    go_wp2_with fail
    go_quiet ((fail))
    go_wp2
    go_ret
    exact ⟨ret_int (uh HR5).symm,uh HB7n _⟩
   ·obtain ⟨gi,hgi⟩:=Int.eq_ofNat_of_zero_le (show 0 ≤ findI ns i cl by omega)
    have hgl : gi < ns.length:=by omega
    obtain ⟨bg,og,cg,hgv,hbg,csg,_,hccg,iv2,ov2,vv2,ev2,rfl,_,hiv2,hov2,_,_⟩:=uh HPN gi hgl
    simp only [Value.slice.injEq,Option.some.injEq,Addr.mk.injEq] at hgv
    obtain ⟨⟨hz1,hz2,hz3⟩,hz4,hz5⟩:=hgv
    subst hz1 hz2
    clear hz3 hz4 hz5
    have p1:=hccg 1 (by simp)
    have p2:=hccg 2 (by simp)
    simp only [List.getElem_cons_zero,List.getElem_cons_succ] at p1 p2
    have HRG:=hide (uh HFG vs gi hgl g hgi)
    have HTI0:=hide (ty_of hiv2)
    have HTO0:=hide (ty_of hov2)
    obtain ⟨ai2,ci2,rfl⟩:=hiv2.shape
    obtain ⟨ao2,co2,rfl⟩:=hov2.shape
    have n8:=hiv2.len'
    have n9:=hov2.len'
    rw [hgi] at HFI
    have hg' : (gi : Int) < (ns.length : Int):=by omega
    clear HFT HFC HFG HFN HPN hccg hiv2 hov2
    obtain ⟨its,hits⟩ : ∃ its,its = ns[gi].ins.map (·.type):=⟨_,rfl⟩
    obtain ⟨ots,hots⟩ : ∃ ots,ots = ns[gi].outs.map (·.type):=⟨_,rfl⟩
    have hil : ns[gi].ins.length = its.length:=by rw [hits,List.length_map]
    have hol : ns[gi].outs.length = ots.length:=by rw [hots,List.length_map]
    rw [← hits,← hots,hil,hol] at HRG
    rw [← hits,hil] at HTI0
    rw [← hots,hol] at HTO0
    rw [hil] at p1 n8
    rw [hol] at p2 n9
    have e7 : (codesOf ⟨lhs,code,cl,args⟩).length = args.length:=by unfold codesOf; rw [if_neg g]
    clear hits hots hil hol hgi g hneg hfb
    have dn : decide ((gi : Int) < 0) = false:=by rw [decide_eq_false_iff_not]; omega
    by_cases hA : its.length = args.length
    case neg =>
     have HR5 : Hid (eqFault ns i vs ⟨lhs,code,cl,args⟩ = 5):=(uh HRG).trans (by rw [if_pos (Or.inl hA)])
     have d1 : ((its.length : Int) != (args.length : Int)) = true:=by simp; omega
     clear HRG HCD e7
     generalize eqFault ns i vs ⟨lhs,code,cl,args⟩ = R at *
     go_wp2_with fail
     refine (uh HFI).mono ?_
     rintro e w7 ⟨rfl,hb7⟩
     have hbx7:=uh HZ1 _ hb7
     have HB7:=hide (uh HX1 _ hbx7)
     have HB7n : Hid (∀ n,Below w.heap.size w (w7.drewN n)):=fun n => ⟨(uh HB7).os,(uh HB7).tape,(uh HB7).output,(uh HB7).size,(uh HB7).block⟩
     have s1 : w7.cell? ⟨bp,op + gi * 5 + 1,none⟩ = some (.slice ai2 its.length ci2):=by rw [(uh HB7).cell (p:=⟨bp,_,none⟩) hbp]; exact p1
     obtain ⟨r0,r1,r2,r3,r4,r5,r6,r7,r8,r9⟩:=uh HX4 w7 hbx7
     clear hb7 hbx7 q0 q1 q2 q3 q4 q5 q6 q7 q8 q9
     go_wp2_with fail
     go_quiet ((fail))
     go_wp2
     go_ret
     exact ⟨ret_int (uh HR5).symm,uh HB7n _⟩
    have d1 : ((its.length : Int) != (args.length : Int)) = false:=by simp; omega
    by_cases hO : ots.length = lhs.length
    case neg =>
     have HR5 : Hid (eqFault ns i vs ⟨lhs,code,cl,args⟩ = 5):=(uh HRG).trans (by rw [if_pos (Or.inr hO)])
     have d2 : ((ots.length : Int) != (lhs.length : Int)) = true:=by simp; omega
     have HA9:=hide hA
     clear HRG HCD e7 hA
     generalize eqFault ns i vs ⟨lhs,code,cl,args⟩ = R at *
     go_wp2_with fail
     refine (uh HFI).mono ?_
     rintro e w7 ⟨rfl,hb7⟩
     have hbx7:=uh HZ1 _ hb7
     have HB7:=hide (uh HX1 _ hbx7)
     have HB7n : Hid (∀ n,Below w.heap.size w (w7.drewN n)):=fun n => ⟨(uh HB7).os,(uh HB7).tape,(uh HB7).output,(uh HB7).size,(uh HB7).block⟩
     have s1 : w7.cell? ⟨bp,op + gi * 5 + 1,none⟩ = some (.slice ai2 its.length ci2):=by rw [(uh HB7).cell (p:=⟨bp,_,none⟩) hbp]; exact p1
     have s2 : w7.cell? ⟨bp,op + gi * 5 + 2,none⟩ = some (.slice ao2 ots.length co2):=by rw [(uh HB7).cell (p:=⟨bp,_,none⟩) hbp]; exact p2
     obtain ⟨r0,r1,r2,r3,r4,r5,r6,r7,r8,r9⟩:=uh HX4 w7 hbx7
     clear hb7 hbx7 q0 q1 q2 q3 q4 q5 q6 q7 q8 q9
     go_wp2_with fail
     go_quiet ((fail))
     go_wp2
     go_ret
     exact ⟨ret_int (uh HR5).symm,uh HB7n _⟩
    have d2 : ((ots.length : Int) != (lhs.length : Int)) = false:=by simp; omega
    have HRES : Hid (eqFault ns i vs ⟨lhs,code,cl,args⟩ = eqTail vs ⟨lhs,code,cl,args⟩ its ots fv.clock):=(uh HRG).trans (by rw [if_neg (by rintro (h | h); exact h hA; exact h hO),uh HFV])
    have hiL0 : (codesOf ⟨lhs,code,cl,args⟩).length = its.length:=by omega
    have HLL:=hide (And.intro hiL0 hO.symm)
    clear HRG hA hO e7 hiL0
    go_wp2_with fail
    refine (uh HFI).mono ?_
    rintro e w7 ⟨rfl,hb7⟩
    have hbx7:=uh HZ1 _ hb7
    have HB7:=hide (uh HX1 _ hbx7)
    have s1 : w7.cell? ⟨bp,op + gi * 5 + 1,none⟩ = some (.slice ai2 its.length ci2):=by rw [(uh HB7).cell (p:=⟨bp,_,none⟩) hbp]; exact p1
    have s2 : w7.cell? ⟨bp,op + gi * 5 + 2,none⟩ = some (.slice ao2 ots.length co2):=by rw [(uh HB7).cell (p:=⟨bp,_,none⟩) hbp]; exact p2
    obtain ⟨r0,r1,r2,r3,r4,r5,r6,r7,r8,r9⟩:=uh HX4 w7 hbx7
    have HBT0 : Hid (∀ n,Below wF.heap.size wF (w7.drewN n)):=fun n => ⟨hb7.os,hb7.tape,hb7.output,hb7.size,hb7.block⟩
    clear hb7 hbx7 q0 q1 q2 q3 q4 q5 q6 q7 q8 q9
    go_wp2_with fail
    go_quiet ((fail))
    have HBT:=hide (uh HBT0 nq)
    generalize w7.drewN nq = wT at HBT ⊢
    clear r0 r1 r2 r3 r4 r5 r6 r7 r8 r9 s1 s2 HBT0 HB7
    have hbxT:=uh HZ1 _ (uh HBT)
    have hbT:=uh HX1 _ hbxT
    obtain ⟨q0,q1,q2,q3,q4,q5,q6,q7,q8,q9⟩:=uh HX4 wT hbxT
    obtain ⟨t0,t1,t2⟩:=uh HZ2 wT (uh HBT)
    have s1 : wT.cell? ⟨bp,op + gi * 5 + 1,none⟩ = some (.slice ai2 its.length ci2):=by rw [hbT.cell (p:=⟨bp,_,none⟩) hbp]; exact p1
    have s2 : wT.cell? ⟨bp,op + gi * 5 + 2,none⟩ = some (.slice ao2 ots.length co2):=by rw [hbT.cell (p:=⟨bp,_,none⟩) hbp]; exact p2
    have HTI:=hide ((uh HTI0).stays hbT)
    have HTO:=hide ((uh HTO0).stays hbT)
    have hiL:=(uh HLL).1
    have hoL:=(uh HLL).2
    clear hbxT hbT HTI0 HTO0 HLL
    have HQ:=hide (eqTail_all vs ⟨lhs,code,cl,args⟩ its ots fv.clock)
    rw [← uh HRES] at HQ
    have HC1:=hide (fun w' (hb : Below wF.heap.size wF w') => uh HCD w' (uh HX1 _ (uh HZ1 _ hb)) (.slice (some ⟨bl,ol,none⟩) lhs.length l1c))
    generalize eqFault ns i vs ⟨lhs,code,cl,args⟩ = R at *
    generalize codesOf ⟨lhs,code,cl,args⟩ = cds at *
    simp only at HQ
    clear HRES HCD
    have HQL : Hid (cds.length = (its : List Int).length ∧ lhs.length = (ots : List Int).length):=⟨hiL,hoL⟩
    clear hiL hoL
    go_wp2_with fail
    refine (uh HC1 _ (uh HBT)).mono ?_
    rintro e w8 ⟨vc,rfl,hcds,_,hb8⟩
    have HB8 : Hid (Below wF.heap.size wF w8):=(uh HBT).trans (hb8.mono (uh HBT).size)
    have HTI8:=hide ((uh HTI).stays hb8)
    have HTO8:=hide ((uh HTO).stays hb8)
    obtain ⟨av,cv,rfl⟩:=hcds.shape
    obtain ⟨_,_,hvv,_,hvn,hvx⟩:=hcds
    simp only [Value.slice.injEq] at hvv
    obtain ⟨rfl,_,rfl⟩:=hvv
    have HVX:=hide hvx
    have hc5:=hsmall.1
    clear hvx hb8 hvn q0 q1 q2 q3 q4 q5 q6 q7 q8 q9 t0 t1 t2
    go_wp2
    go_loopg [95] cds.length (fun g k' wr => ∃ (k : Nat),k ≤ cds.length ∧ g = cds.length - k ∧ k' = .int .i64 k ∧ tysTo vs cds its k = true ∧ Below w8.heap.size w8 wr)
    case atStart => exact ⟨0,Nat.zero_le _,by omega,rfl,rfl,Below.refl _ _⟩
    case round =>
     obtain ⟨k,hk,hg,rfl,hty,hb9⟩:=hrel
     rename World => wk
     have HG:=hide hg
     have HTY:=hide hty
     have HB9:=hide hb9
     have hbk : Below wF.heap.size wF wk:=(uh HB8).trans (hb9.mono (uh HB8).size)
     have HBK:=hide hbk
     clear hg hty
     by_cases hlt : k < cds.length
     ·obtain ⟨ba,oa,csa,hbo,_,hba,hcsa,hca,⟨va,rfl,hE⟩⟩:=uh HVX k hlt
      subst hbo
      have r0 : wk.cell? ⟨ba,oa + k,none⟩ = some va:=by rw [hb9.cell (p:=⟨ba,_,none⟩) hba]; simpa using hca 0 (by simp)
      have hkl : k < (its : List Int).length:=by have:=(uh HQL).1; omega
      obtain ⟨ai,ci,hvi,hxi⟩:=(uh HTI8).stays hb9
      obtain ⟨bi,oi,hbi,hbl2,hci⟩:=hxi k hkl
      simp only [Value.slice.injEq] at hvi
      obtain ⟨hv1,hv2,hv3⟩:=hvi
      clear hv2 hv3
      subst hv1; subst hbi
      have hkI : (k : Int) < (its.length : Int):=by omega
      skip
      have hcb:=uh HCB cds[k] (List.getElem_mem hlt)
      have hbxk:=uh HZ1 _ hbk
      have hxdk : Below wk.heap.size wk wk.drew:=(Below.refl _ wk).drew
      have hwT:=hE.stays RItem_kept ((uh HX1 _ hbxk).trans (hxdk.mono (uh HX1 _ hbxk).size))
      have HTc:=hide (l2Type_ok x b1 b2 b3 b4 c1 c2 c3 x.eqs.length c4 hsum cds[k] va (code_items _ hcb).1 (code_items _ hcb).2 cds[k].length 0 (tyV (allV x) cds[k]) (code_ty _ _ hcb) wk.drew ((uh HNI).stays ((uh HX1 _ hbxk).trans (hxdk.mono (uh HX1 _ hbxk).size))) hwT)
      rw [uh HVS] at HTc
      obtain ⟨ae,ce,rfl⟩:=hE.shape
      obtain ⟨nc0,nc1,nc2,nc3,nc4,nc5,nc6,nc7,nc8,nc9⟩:=uh HX4 wk hbxk
      have HNO:=hide (fun h => (uh HQ).1 (tys_no vs cds its k hlt hkl h))
      have HYES:=hide (fun h => tys_yes vs cds its k hlt hkl (uh HTY) h)
      have nE:=hE.len'
      have hltk : (k : Int) < (cds.length : Int):=by omega
      clear hca hcsa hE hwT hxi
      generalize tyV vs cds[k] = ty at *
      generalize (its : List Int)[k] = tk at *
      have HTp : Hid (Calls Tryz.prog 48 #[.agg #[.string x.name,.slice b1 x.ins.length c1,.slice b2 x.outs.length c2,.slice b3 x.vars.length c3,.slice b4 x.eqs.length c4],.slice ae cds[k].length ce,.int .i64 (cds[k].length : Int)] wk.drew fun e w'' => e = .returned (.int .i64 ty) ∧ Hid (Below wk.heap.size wk w'') ∧ w''.cell? ⟨bi,oi + k * 3 + 1,none⟩ = some (.int .i64 tk) ∧ w''.cell? ⟨w.heap.size + 2,0,none⟩ = some (.string x.name) ∧ w''.cell? ⟨w.heap.size + 2,1,none⟩ = some (.slice b1 x.ins.length c1) ∧ w''.cell? ⟨w.heap.size + 2,2,none⟩ = some (.slice b2 x.outs.length c2) ∧ w''.cell? ⟨w.heap.size + 2,3,none⟩ = some (.slice b3 x.vars.length c3) ∧ w''.cell? ⟨w.heap.size + 2,4,none⟩ = some (.slice b4 x.eqs.length c4)):=by
       refine (uh HTc).mono ?_
       rintro e w'' ⟨rfl,h9⟩
       have h8 : Below wk.heap.size wk w'':=hxdk.trans h9
       have hx8:=uh HX2 _ _ hbxk h8
       obtain ⟨_,_,_,_,_,x5,x6,x7,x8,x9⟩:=uh HX4 w'' hx8
       exact ⟨rfl,h8,by rw [h8.cell (p:=⟨bi,_,none⟩) hbl2]; exact hci,x5,x6,x7,x8,x9⟩
      generalize cds[k].length = el at *
      clear HTc hcb hb9 hbk hbxk hxdk
      by_cases he : ty = tk
      ·have de : (ty != tk) = false:=by simp [he]
       have HY2:=hide (uh HYES he)
       clear he HNO HYES
       go_wp2_with fail
       go_region_held3 (fun w' => w'.cell? ⟨bi,oi + k * 3 + 1,none⟩ = some (.int .i64 tk) ∧ w'.cell? ⟨w.heap.size + 2,0,none⟩ = some (.string x.name) ∧ w'.cell? ⟨w.heap.size + 2,1,none⟩ = some (.slice b1 x.ins.length c1) ∧ w'.cell? ⟨w.heap.size + 2,2,none⟩ = some (.slice b2 x.outs.length c2) ∧ w'.cell? ⟨w.heap.size + 2,3,none⟩ = some (.slice b3 x.vars.length c3) ∧ w'.cell? ⟨w.heap.size + 2,4,none⟩ = some (.slice b4 x.eqs.length c4)) (go_keep) (first | (go_at_call 48; refine (uh HTp).mono ?_; rintro e w9 ⟨rfl,HB10,u1,u2,u3,u4,u5,u6⟩))
       go_wp2
       go_roundg (cds.length - (k + 1))
       case measure => have:=uh HG; omega
       case rel => exact ⟨k + 1,by omega,rfl,by go_num,uh HY2,(uh HB9).trans ((uh HB10).mono (uh HB9).size)⟩
      ·have de : (ty != tk) = true:=by simp [he]
       have HY2:=hide (uh HNO he)
       clear he HNO HYES
       go_wp2_with fail
       go_region_held3 (fun w' => w'.cell? ⟨bi,oi + k * 3 + 1,none⟩ = some (.int .i64 tk) ∧ w'.cell? ⟨w.heap.size + 2,0,none⟩ = some (.string x.name) ∧ w'.cell? ⟨w.heap.size + 2,1,none⟩ = some (.slice b1 x.ins.length c1) ∧ w'.cell? ⟨w.heap.size + 2,2,none⟩ = some (.slice b2 x.outs.length c2) ∧ w'.cell? ⟨w.heap.size + 2,3,none⟩ = some (.slice b3 x.vars.length c3) ∧ w'.cell? ⟨w.heap.size + 2,4,none⟩ = some (.slice b4 x.eqs.length c4)) (go_keep) (first | (go_at_call 48; refine (uh HTp).mono ?_; rintro e w9 ⟨rfl,HB10,u1,u2,u3,u4,u5,u6⟩))
       have HFIN:=hide (uh HX1 _ (uh HZ1 _ ((uh HBK).trans ((uh HB10).mono (uh HBK).size))))
       go_wp2
       go_ret
       exact ⟨ret_int (uh HY2).symm,uh HFIN⟩
     ·have e : k = cds.length:=by omega
      subst e
      obtain ⟨nc0,nc1,nc2,nc3,nc4,nc5,nc6,nc7,nc8,nc9⟩:=uh HX4 wk (uh HZ1 _ hbk)
      have HTYS:=HTY
      have HTIK:=hide ((uh HTO8).stays hb9)
      clear hb9 hbk HVX HTI HTI8 HTO8
      go_wp2
      clear nc0 nc1 nc2 nc3 nc4 nc5 nc6 nc7 nc8 nc9
      go_loopg [115] lhs.length (fun g k' wr => ∃ (k2 : Nat),k2 ≤ lhs.length ∧ g = lhs.length - k2 ∧ k' = .int .i64 k2 ∧ outsTo vs lhs ots k2 = true ∧ Below wk.heap.size wk wr)
      case atStart => exact ⟨0,Nat.zero_le _,by omega,rfl,rfl,Below.refl _ _⟩
      case round =>
       obtain ⟨k2,hk2,hg2,rfl,hto,hb2⟩:=hrel
       rename World => wl
       have HG2:=hide hg2
       have HTO:=hide hto
       have HB2:=hide hb2
       have hbl' : Below wF.heap.size wF wl:=(uh HBK).trans (hb2.mono (uh HBK).size)
       have HBL:=hide hbl'
       have hbxl:=uh HZ1 _ hbl'
       obtain ⟨nc0,nc1,nc2,nc3,nc4,nc5,nc6,nc7,nc8,nc9⟩:=uh HX4 wl hbxl
       clear hg2 hto
       by_cases hlt2 : k2 < lhs.length
       ·obtain ⟨b5,o5,c5,hv5,hb5,cs5,hcs5,hc5',⟨rfl,hsn5⟩⟩:=(uh H1).at' k2 hlt2
        simp only [Value.slice.injEq,Option.some.injEq,Addr.mk.injEq] at hv5
        obtain ⟨⟨rfl,rfl,hz1⟩,hz2,hz3⟩:=hv5
        clear hz1 hz2 hz3
        have r0 : wl.cell? ⟨bl,ol + k2,none⟩ = some (.string lhs[k2]):=by
         rw [(uh HX1 _ hbxl).cell (p:=⟨bl,_,none⟩) hb5]
         simpa using hc5' 0 (by simp)
        have hkl : k2 < (ots : List Int).length:=by have:=(uh HQL).2; omega
        have HVk:=hide (l2Var_in x (.slice b1 x.ins.length c1) (.slice b2 x.outs.length c2) (.slice b3 x.vars.length c3) (.slice b4 x.eqs.length c4) lhs[k2] w wl (uh HX1 _ hbxl) (uh HNI).ins (uh HNI).outs (uh HNI).vars ⟨b4,x.eqs.length,c4,rfl⟩ hsum)
        unfold VarOutI at HVk
        rw [uh HVS] at HVk
        have HNO:=hide (fun h => (uh HQ).2.1 (uh HTYS) (outs_no vs lhs ots k2 hlt2 hkl h))
        have HYES:=hide (fun h => outs_yes vs lhs ots k2 hlt2 hkl (uh HTO) h)
        have hltk : (k2 : Int) < (lhs.length : Int):=by omega
        obtain ⟨ai,ci,hvi,hxi⟩:=(uh HTIK).stays hb2
        obtain ⟨bi,oi,hbi,hbl2,hci⟩:=hxi k2 hkl
        simp only [Value.slice.injEq] at hvi
        obtain ⟨hv1,hv2,hv3⟩:=hvi
        clear hv2 hv3
        subst hv1; subst hbi
        have hkI : (k2 : Int) < (ots.length : Int):=by omega
        skip
        clear hc5' hcs5 hsn5 hxi
        generalize lhs[k2] = nm at *
        generalize (ots : List Int)[k2] = tk at *
        generalize lookV vs nm = vv at *
        generalize lookI vs nm = vi at *
        go_wp2_with fail
        refine (uh HVk).mono ?_
        rintro e w9 ⟨cl2,rfl,hS2,hb10⟩
        obtain ⟨ac2,cc2,rfl⟩:=hS2.shape
        have HAL : Hid (Below wl.heap.size wl (w9.alloc (.cells #[.string vv.name,.int .i64 vv.type,.slice ac2 vv.clock.length cc2] 63))):=hb10.alloc hb10.size _
        have z1 : (w9.alloc (.cells #[.string vv.name,.int .i64 vv.type,.slice ac2 vv.clock.length cc2] 63)).cell? ⟨w9.heap.size,1,none⟩ = some (.int .i64 vv.type):=(World.cell?_alloc_at _ _ _ _ rfl).trans rfl
        have z2 : (w9.alloc (.cells #[.string vv.name,.int .i64 vv.type,.slice ac2 vv.clock.length cc2] 63)).cell? ⟨bi,oi + k2 * 3 + 1,none⟩ = some (.int .i64 tk):=by rw [(uh HAL).cell (p:=⟨bi,_,none⟩) hbl2]; exact hci
        clear hb10 hS2 hci nc0 nc1 nc2 nc3 nc4 nc5 nc6 nc7 nc8 nc9 r0 hbxl hb2 hbl'
        go_wp2_with fail
        generalize w9.alloc (.cells #[.string vv.name,.int .i64 vv.type,.slice ac2 vv.clock.length cc2] 63) = wV at z1 z2 HAL ⊢
        have HALd : Hid (Below wl.heap.size wl wV.drew):=(uh HAL).drew
        by_cases he : vv.type = tk
        ·have de : (vv.type != tk) = false:=by simp [he]
         have HY2:=hide (uh HYES he)
         clear he HNO HYES
         go_region_held3 (fun w' => w'.cell? ⟨w9.heap.size,1,none⟩ = some (.int .i64 vv.type) ∧ w'.cell? ⟨bi,oi + k2 * 3 + 1,none⟩ = some (.int .i64 tk)) (go_keep) (fail)
         go_wp2
         go_roundg (lhs.length - (k2 + 1))
         case measure => have:=uh HG2; omega
         case rel => exact ⟨k2 + 1,by omega,rfl,by go_num,uh HY2,(uh HB2).trans ((uh HALd).mono (uh HB2).size)⟩
        ·have de : (vv.type != tk) = true:=by simp [he]
         have HY2:=hide (uh HNO he)
         clear he HNO HYES
         go_region_held3 (fun w' => w'.cell? ⟨w9.heap.size,1,none⟩ = some (.int .i64 vv.type) ∧ w'.cell? ⟨bi,oi + k2 * 3 + 1,none⟩ = some (.int .i64 tk)) (go_keep) (fail)
         have HFIN:=hide (uh HX1 _ (uh HZ1 _ ((uh HBL).trans ((uh HALd).mono (uh HBL).size))))
         go_wp2
         go_ret
         exact ⟨ret_int (uh HY2).symm,uh HFIN⟩
       ·have e : k2 = lhs.length:=by omega
        subst e
        have HOUS:=HTO
        clear HTIK hb2 hbl'
        go_wp2
        clear nc0 nc1 nc2 nc3 nc4 nc5 nc6 nc7 nc8 nc9
        go_loopg [138] lhs.length (fun g k' wr => ∃ (k3 : Nat),k3 ≤ lhs.length ∧ g = lhs.length - k3 ∧ k' = .int .i64 k3 ∧ clksTo vs lhs fv.clock k3 = true ∧ Below wl.heap.size wl wr)
        case atStart => exact ⟨0,Nat.zero_le _,by omega,rfl,rfl,Below.refl _ _⟩
        case round =>
         obtain ⟨k3,hk3,hg3,rfl,hto3,hb3⟩:=hrel
         rename World => wm
         have HG3:=hide hg3
         have HTO3:=hide hto3
         have HB3:=hide hb3
         have hbm : Below wF.heap.size wF wm:=(uh HBL).trans (hb3.mono (uh HBL).size)
         have HBM:=hide hbm
         have hbxm:=uh HZ1 _ hbm
         obtain ⟨nc0,nc1,nc2,nc3,nc4,nc5,nc6,nc7,nc8,nc9⟩:=uh HX4 wm hbxm
         obtain ⟨t0,t1,t2⟩:=uh HZ2 wm hbm
         clear hg3 hto3
         by_cases hlt3 : k3 < lhs.length
         ·obtain ⟨b5,o5,c5,hv5,hb5,cs5,hcs5,hc5',⟨rfl,hsn5⟩⟩:=(uh H1).at' k3 hlt3
          simp only [Value.slice.injEq,Option.some.injEq,Addr.mk.injEq] at hv5
          obtain ⟨⟨rfl,rfl,hz1⟩,hz2,hz3⟩:=hv5
          clear hz1 hz2 hz3
          have r0 : wm.cell? ⟨bl,ol + k3,none⟩ = some (.string lhs[k3]):=by
           rw [(uh HX1 _ hbxm).cell (p:=⟨bl,_,none⟩) hb5]
           simpa using hc5' 0 (by simp)
          have HNO:=hide (fun h => (uh HQ).2.2.1 (uh HTYS) (uh HOUS) (clks_no vs lhs fv.clock k3 hlt3 h))
          have HYES:=hide (fun h => clks_yes vs lhs fv.clock k3 hlt3 (uh HTO3) h)
          have hltk : (k3 : Int) < (lhs.length : Int):=by omega
          have hdm : Below wF.heap.size wF wm.drew:=hbm.drew
          have HCc : Hid (Calls Tryz.prog 49 #[.agg #[.string x.name,.slice b1 x.ins.length c1,.slice b2 x.outs.length c2,.slice b3 x.vars.length c3,.slice b4 x.eqs.length c4],.string lhs[k3]] wm.drew fun e w'' => ∃ a c,e = .returned (.slice a (clkOf vs lhs[k3]).length c) ∧ Hid (Below wF.heap.size wF w'') ∧ Hid (Below wm.heap.size wm w'') ∧ Hid (Calls Tryz.prog 24 #[.slice a (clkOf vs lhs[k3]).length c,.slice ac fv.clock.length cc] w'' fun e w3 => e = .returned (.bool (sameC (clkOf vs lhs[k3]) fv.clock)) ∧ Hid (Below wm.heap.size wm w3) ∧ w3.cell? ⟨fb,2,none⟩ = some (.slice ac fv.clock.length cc) ∧ w3.cell? ⟨w.heap.size + 2,0,none⟩ = some (.string x.name) ∧ w3.cell? ⟨w.heap.size + 2,1,none⟩ = some (.slice b1 x.ins.length c1) ∧ w3.cell? ⟨w.heap.size + 2,2,none⟩ = some (.slice b2 x.outs.length c2) ∧ w3.cell? ⟨w.heap.size + 2,3,none⟩ = some (.slice b3 x.vars.length c3) ∧ w3.cell? ⟨w.heap.size + 2,4,none⟩ = some (.slice b4 x.eqs.length c4)) ∧ w''.cell? ⟨fb,2,none⟩ = some (.slice ac fv.clock.length cc) ∧ w''.cell? ⟨w.heap.size + 2,0,none⟩ = some (.string x.name) ∧ w''.cell? ⟨w.heap.size + 2,1,none⟩ = some (.slice b1 x.ins.length c1) ∧ w''.cell? ⟨w.heap.size + 2,2,none⟩ = some (.slice b2 x.outs.length c2) ∧ w''.cell? ⟨w.heap.size + 2,3,none⟩ = some (.slice b3 x.vars.length c3) ∧ w''.cell? ⟨w.heap.size + 2,4,none⟩ = some (.slice b4 x.eqs.length c4)):=by
           refine (l2Clock_in x _ _ _ _ lhs[k3] w wm.drew (uh HX1 _ (uh HZ1 _ hdm)) (uh HNI).ins (uh HNI).outs (uh HNI).vars ⟨b4,x.eqs.length,c4,rfl⟩ hsum).mono ?_
           rintro e w'' ⟨cl',rfl,hS,h9⟩
           rw [uh HVS] at hS
           have hm9 : Below wm.heap.size wm w'':=((Below.refl _ wm).drew).trans h9
           have hf9 : Below wF.heap.size wF w'':=hbm.trans (hm9.mono hbm.size)
           obtain ⟨a',c',rfl⟩:=hS.shape
           obtain ⟨_,_,u2⟩:=uh HZ2 w'' hf9
           obtain ⟨_,_,_,_,_,x5,x6,x7,x8,x9⟩:=uh HX4 w'' (uh HZ1 _ hf9)
           refine ⟨a',c',rfl,hf9,hm9,?_,u2,x5,x6,x7,x8,x9⟩
           show Calls Tryz.prog 24 _ w'' _
           refine (l1SameClock_ok (clkOf vs lhs[k3]) fv.clock _ _ w'' (hS.stays RCond_kept (uh HX1 _ (uh HZ1 _ hf9))) ((uh HCK).stays RCond_kept (uh HX1 _ (uh HZ1 _ hf9)))).mono ?_
           rintro e w3 ⟨rfl,h10⟩
           have hm3 : Below wm.heap.size wm w3:=hm9.trans (h10.mono hm9.size)
           have hf3 : Below wF.heap.size wF w3:=hbm.trans (hm3.mono hbm.size)
           obtain ⟨_,_,v2⟩:=uh HZ2 w3 hf3
           obtain ⟨_,_,_,_,_,y5,y6,y7,y8,y9⟩:=uh HX4 w3 (uh HZ1 _ hf3)
           exact ⟨rfl,hm3,v2,y5,y6,y7,y8,y9⟩
          clear hc5' hcs5 hsn5 hdm hbm hbxm hb3
          generalize sameC (clkOf vs lhs[k3]) fv.clock = sc at *
          generalize (clkOf vs lhs[k3]).length = cln at *
          generalize lhs[k3] = nm at *
          cases sc
          ·have HY2:=hide (uh HNO rfl)
           clear HNO HYES
           go_wp2_with fail
           go_region_held3 (fun w' => w'.cell? ⟨fb,2,none⟩ = some (.slice ac fv.clock.length cc) ∧ w'.cell? ⟨w.heap.size + 2,0,none⟩ = some (.string x.name) ∧ w'.cell? ⟨w.heap.size + 2,1,none⟩ = some (.slice b1 x.ins.length c1) ∧ w'.cell? ⟨w.heap.size + 2,2,none⟩ = some (.slice b2 x.outs.length c2) ∧ w'.cell? ⟨w.heap.size + 2,3,none⟩ = some (.slice b3 x.vars.length c3) ∧ w'.cell? ⟨w.heap.size + 2,4,none⟩ = some (.slice b4 x.eqs.length c4)) (go_keep) (first | (go_at_call 49; refine (uh HCc).mono ?_; rintro e w9 ⟨a9,c9,rfl,HF9,HM9,HS9,u0,u1,u2,u3,u4,u5⟩; clear HCc) | (go_at_call 24; refine (uh HS9).mono ?_; rintro e w10 ⟨rfl,HM10,v0,v1,v2,v3,v4,v5⟩; clear HS9))
           have HFIN:=hide (uh HX1 _ (uh HZ1 _ ((uh HBM).trans ((uh HM10).mono (uh HBM).size))))
           go_wp2
           go_ret
           exact ⟨ret_int (uh HY2).symm,uh HFIN⟩
          ·have HY2:=hide (uh HYES rfl)
           clear HNO HYES
           go_wp2_with fail
           go_region_held3 (fun w' => w'.cell? ⟨fb,2,none⟩ = some (.slice ac fv.clock.length cc) ∧ w'.cell? ⟨w.heap.size + 2,0,none⟩ = some (.string x.name) ∧ w'.cell? ⟨w.heap.size + 2,1,none⟩ = some (.slice b1 x.ins.length c1) ∧ w'.cell? ⟨w.heap.size + 2,2,none⟩ = some (.slice b2 x.outs.length c2) ∧ w'.cell? ⟨w.heap.size + 2,3,none⟩ = some (.slice b3 x.vars.length c3) ∧ w'.cell? ⟨w.heap.size + 2,4,none⟩ = some (.slice b4 x.eqs.length c4)) (go_keep) (first | (go_at_call 49; refine (uh HCc).mono ?_; rintro e w9 ⟨a9,c9,rfl,HF9,HM9,HS9,u0,u1,u2,u3,u4,u5⟩; clear HCc) | (go_at_call 24; refine (uh HS9).mono ?_; rintro e w10 ⟨rfl,HM10,v0,v1,v2,v3,v4,v5⟩; clear HS9))
           go_wp2
           go_roundg (lhs.length - (k3 + 1))
           case measure => have:=uh HG3; omega
           case rel => exact ⟨k3 + 1,by omega,rfl,by go_num,uh HY2,(uh HB3).trans ((uh HM10).mono (uh HB3).size)⟩
         ·have e : k3 = lhs.length:=by omega
          subst e
          have HCLS:=HTO3
          have HC2:=hide (uh HC1 wm hbm)
          clear HC1 hbxm hb3 hbm t0 t1 t2
          go_wp2_with fail
          refine (uh HC2).mono ?_
          rintro e w8' ⟨vc,rfl,hcds,_,hb8⟩
          have HB8' : Hid (Below wF.heap.size wF w8'):=(uh HBM).trans (hb8.mono (uh HBM).size)
          obtain ⟨av2,cv2,rfl⟩:=hcds.shape
          obtain ⟨_,_,hvv,_,hvn,hvx⟩:=hcds
          simp only [Value.slice.injEq] at hvv
          obtain ⟨rfl,_,rfl⟩:=hvv
          have HVX:=hide hvx
          clear hvx hb8 hvn nc0 nc1 nc2 nc3 nc4 nc5 nc6 nc7 nc8 nc9
          go_wp2
          go_loopg [153] cds.length (fun g k' wr => ∃ (k4 : Nat),k4 ≤ cds.length ∧ g = cds.length - k4 ∧ k' = .int .i64 k4 ∧ fitsTo vs cds fv.clock k4 = true ∧ Below w8'.heap.size w8' wr)
          case atStart => exact ⟨0,Nat.zero_le _,by omega,rfl,rfl,Below.refl _ _⟩
          case round =>
           obtain ⟨k4,hk4,hg4,rfl,hto4,hb4⟩:=hrel
           rename World => wq
           have HG4:=hide hg4
           have HTO4:=hide hto4
           have HB4:=hide hb4
           have hbq : Below wF.heap.size wF wq:=(uh HB8').trans (hb4.mono (uh HB8').size)
           have HBQ:=hide hbq
           have hbxq:=uh HZ1 _ hbq
           clear hg4 hto4
           by_cases hlt4 : k4 < cds.length
           ·obtain ⟨ba,oa,csa,hbo,_,hba,hcsa,hca,⟨va,rfl,hE⟩⟩:=uh HVX k4 hlt4
            subst hbo
            have r0 : wq.cell? ⟨ba,oa + k4,none⟩ = some va:=by rw [hb4.cell (p:=⟨ba,_,none⟩) hba]; simpa using hca 0 (by simp)
            have hcb:=uh HCB cds[k4] (List.getElem_mem hlt4)
            have HTc:=hide (l2Fits_ok x b1 b2 b3 b4 c1 c2 c3 x.eqs.length c4 hsum cds[k4] va (code_items _ hcb).1 (code_items _ hcb).2 cds[k4].length 0 (fitV (allV x) cds[k4]) (code_fit _ _ hcb) wq ((uh HNI).stays (uh HX1 _ hbxq)) (hE.stays RItem_kept (uh HX1 _ hbxq)) fv.clock _ ((uh HCK).stays RCond_kept (uh HX1 _ hbxq)) hk8)
            rw [uh HVS] at HTc
            obtain ⟨ae,ce,rfl⟩:=hE.shape
            have nE:=hE.len'
            obtain ⟨nc0,nc1,nc2,nc3,nc4,nc5,nc6,nc7,nc8,nc9⟩:=uh HX4 wq hbxq
            obtain ⟨t0,t1,t2⟩:=uh HZ2 wq hbq
            have HNO:=hide (fun h => (uh HQ).2.2.2.1 (uh HTYS) (uh HOUS) (uh HCLS) (fits_no vs cds fv.clock k4 hlt4 h))
            have HYES:=hide (fun h => fits_yes vs cds fv.clock k4 hlt4 (uh HTO4) h)
            have hltk : (k4 : Int) < (cds.length : Int):=by omega
            clear hca hcsa hE hcb hb4 hbq hbxq
            generalize fitV vs cds[k4] fv.clock = ft at *
            generalize cds[k4].length = el at *
            cases ft
            ·have HY2:=hide (uh HNO rfl)
             clear HNO HYES
             go_wp2_with fail
             refine (uh HTc).mono ?_
             rintro e w9 ⟨rfl,hb9⟩
             have HFIN:=hide (uh HX1 _ (uh HZ1 _ ((uh HBQ).trans (hb9.mono (uh HBQ).size))))
             clear hb9
             go_wp2
             go_ret
             exact ⟨ret_int (uh HY2).symm,uh HFIN⟩
            ·have HY2:=hide (uh HYES rfl)
             clear HNO HYES
             go_wp2_with fail
             refine (uh HTc).mono ?_
             rintro e w9 ⟨rfl,hb9⟩
             have HB9':=hide hb9
             clear hb9
             go_wp2
             go_roundg (cds.length - (k4 + 1))
             case measure => have:=uh HG4; omega
             case rel => exact ⟨k4 + 1,by omega,rfl,by go_num,uh HY2,(uh HB4).trans ((uh HB9').mono (uh HB4).size)⟩
           ·have e : k4 = cds.length:=by omega
            subst e
            have HFIN:=hide (uh HX1 _ hbxq)
            have HY2:=hide ((uh HQ).2.2.2.2 (uh HTYS) (uh HOUS) (uh HCLS) (uh HTO4))
            go_wp2
            go_ret
            exact ⟨ret_int (uh HY2).symm,uh HFIN⟩
end Go.Proofs.YtfioeoihociilaaGreat
