import Derived.Test.YtfioeoihociilaaGreatWgtD
namespace Go.Proofs.YtfioeoihociilaaGreat
open Go.RowKit
set_option linter.unusedSimpArgs false
set_option linter.unusedVariables false
theorem ret_two {a b : Int} {p : Int × Int} (h : p = (a,b)) : Ending.returned (.tuple #[.int .i64 a,.int .i64 b]) = .returned (.tuple #[.int .i64 p.1,.int .i64 p.2]):=by rw [h]
theorem SlAt.pre {α : Type} {sz byt lo : Nat} {R : Nat → World → List Value → α → Prop} {w : World} {a : Option Addr} {n c : Nat} {xs : List α} (h : SlAt sz byt R lo w (.slice a n c) xs) (k : Nat) (hk : k ≤ xs.length) : SlAt sz byt R lo w (.slice a k c) (xs.take k):=by
 obtain ⟨a',c',hv,⟨h1,h2⟩,h3,hx⟩:=h
 simp only [Value.slice.injEq] at hv
 obtain ⟨rfl,_,rfl⟩:=hv
 have hl : (xs.take k).length = k:=by rw [List.length_take]; omega
 have hm : k * byt ≤ xs.length * byt:=Nat.mul_le_mul_right _ hk
 refine ⟨a,c,by rw [hl],⟨by rw [hl]; unfold Len at *; omega,by omega⟩,by rw [hl]; unfold Len at *; omega,fun i hi => ?_⟩
 obtain ⟨b,o,cs,r1,r2,r3,r4,r5,r6⟩:=hx i (by omega)
 exact ⟨b,o,cs,r1,r2,r3,r4,r5,by rw [List.getElem_take]; exact r6⟩
theorem OwnV.notBlk {w : World} {base b : Nat} {T : TypeId} {cs : Array Value} {v : Value} {xs : List ByteArray} (h : OwnV elStr w base v xs) (hr : BlkAt w b T cs) (hT : T ≠ 9) : some b ≠ v.ownBlock:=by
 obtain ⟨h1,h2⟩:=h
 rcases h2 with ⟨rfl,_⟩ | ⟨g,cap,cur,hv,hgb,hh,r⟩
 ·intro e; cases e
 ·intro e
  subst hv
  simp only [Value.ownBlock,Option.some.injEq] at e
  subst e
  unfold BlkAt at hr
  rw [hh] at hr
  simp only [Option.some.injEq,Obj.cells.injEq] at hr
  exact hT hr.2.1.symm
theorem BlkAt.grown {w w' : World} {b : Nat} {T : TypeId} {cs : Array Value} {row : Option Nat} (h : BlkAt w b T cs) (hg : w.grownBy w' row) (hne : some b ≠ row) : BlkAt w' b T cs:=(hg.block b h.lt hne).trans h
set_option maxRecDepth 20000 in
set_option maxHeartbeats 8000000 in
theorem l2NodeFault_ok (ns : List DNode) (i : Nat) (hi : i < ns.length) (pv : Value) (w : World) (hp : SlAt 5 112 RNode 0 w pv ns) (hsh : shapeB ns = true) :
  Calls Tryz.prog 11 #[.agg #[pv],.int .i64 (i : Int)] w fun e w' => e = .returned (.tuple #[.int .i64 (nodeFault ns i ns[i]).1,.int .i64 (nodeFault ns i ns[i]).2]) ∧ Below w.heap.size w w':=by
 have hnb : nodeB ns[i] = true:=by
  unfold shapeB at hsh
  simp only [Bool.and_eq_true] at hsh
  exact List.all_eq_true.1 hsh.2 _ (List.getElem_mem hi)
 have hnd:=(node_iff ns[i]).1 hnb
 have hsum : ns[i].ins.length + ns[i].outs.length + ns[i].vars.length ≤ 1048576:=by omega
 have hnl:=shape_len2 ns hsh
 have HFN:=hide (fun w1 (hb : Below w.heap.size w w1) => l2Find_ok ns pv i ns[i].name w1 (hp.stays RNode_kept hb) (Nat.le_of_lt hi))
 have HWS:=hide (fun w1 (hb : Below w.heap.size w w1) => l2Weights_ok ns pv w1 (hp.stays RNode_kept hb) (shape_small ns hsh) hnl)
 have HEQF:=hide (fun e (he : e ∈ ns[i].eqs) v1 v2 v3 w1 (hb : Below w.heap.size w w1) h1 h2 h3 => l2EqFault_ok ns i hi pv e v1 v2 v3 w1 (hp.stays RNode_kept hb) h1 h2 h3 (List.all_eq_true.1 hnd.2.2.2.2.2 e he) hsum (clk_len hnb))
 have HSMALL:=hide (fun e (he : e ∈ ns[i].eqs) => eq_small e (List.all_eq_true.1 hnd.2.2.2.2.2 e he))
 have HLH : Hid (∀ e,e ∈ ns[i].eqs → e.lhs.length ≤ 500):=fun e he => by
  have:=List.all_eq_true.1 hnd.2.2.2.2.2 e he
  unfold eqB at this
  simp only [Bool.and_eq_true,decide_eq_true_iff] at this
  exact this.1.1.2.1
 have HSN:=hide (seen_names hnb)
 have HCKL:=hide (clk_len hnb)
 have HRN:=hide (fun e he (nm : ByteArray) hm => (show Len nm.size from by have:=name_len (reads_names hnb e he nm hm); unfold Len; omega))
 have HVB:=hide (node_vars hnb)
 have HLN : Hid (∀ e,e ∈ ns[i].eqs → ∀ nm,nm ∈ e.lhs → nameB nm = true):=fun e he nm hm => by
  have:=List.all_eq_true.1 hnd.2.2.2.2.2 e he
  unfold eqB at this
  simp only [Bool.and_eq_true] at this
  exact List.all_eq_true.1 this.1.2 nm hm
 have hdim:=hnd.1
 obtain ⟨bp,op,cpp,hpe,hbp,cs,hcsl,hcc,iv,ov,vv,evv,rfl,hnm,hiv,hov,hvv,hevv⟩:=hp.at' i hi
 obtain ⟨ap,cp,rfl⟩:=hp.shape
 simp only [Value.slice.injEq] at hpe
 obtain ⟨rfl,_,rfl⟩:=hpe
 obtain ⟨b1,c1,rfl⟩:=hiv.shape
 obtain ⟨b2,c2,rfl⟩:=hov.shape
 obtain ⟨b3,c3,rfl⟩:=hvv.shape
 obtain ⟨b4,c4,rfl⟩:=hevv.shape
 have np:=hp.len'
 have m0:=hcc 0 (by simp)
 have m1:=hcc 1 (by simp)
 have m2:=hcc 2 (by simp)
 have m3:=hcc 3 (by simp)
 have m4:=hcc 4 (by simp)
 simp only [Nat.add_zero,List.getElem_cons_zero,List.getElem_cons_succ] at m0 m1 m2 m3 m4
 have HNI : Hid (NIn ns[i] b1 b2 b3 c1 c2 c3 w):=⟨hiv,hov,hvv⟩
 have H4:=hide hevv
 have n4:=hevv.len'
 have HNX:=hide (fun (h : ¬ 0 ≤ findI ns i ns[i].name) => h)
 clear hcc hiv hov hvv hevv hp hnm hcsl hnd hnb
 generalize hxx : ns[i] = x at *
 clear hxx
 have HVI:=hide (fun nm w1 (hb : Below w.heap.size w w1) => l2Var_in x (.slice b1 x.ins.length c1) (.slice b2 x.outs.length c2) (.slice b3 x.vars.length c3) (.slice b4 x.eqs.length c4) nm w w1 hb (uh HNI).ins (uh HNI).outs (uh HNI).vars ⟨b4,x.eqs.length,c4,rfl⟩ hsum)
 have HVR:=hide (fun w1 (hb : Below w.heap.size w w1) => l1Vars_in x (.slice b1 x.ins.length c1) (.slice b2 x.outs.length c2) (.slice b3 x.vars.length c3) (.slice b4 x.eqs.length c4) w w1 hb (uh HNI).ins (uh HNI).outs (uh HNI).vars hsum)
 have HCYC:=hide (fun w1 (hb : Below w.heap.size w w1) => l2Cyclic_ok x x.eqs.length rfl b1 b2 b3 b4 c1 c2 c3 c4 hsum w1 ((uh HNI).stays hb) ((uh H4).stays REq_kept hb) hdim.2.2.1 hdim.2.2.2 (fun e he => ⟨uh HSMALL e he,uh HLH e he⟩) (uh HCKL) (uh HRN))
 unfold VarOutI at HVI
 have HVL : Hid ((allV x).length = x.ins.length + x.outs.length + x.vars.length):=by
  show (allV x).length = _
  unfold allV
  rw [List.length_append,List.length_append]
 have HVE : Hid (allV x = x.ins ++ x.outs ++ x.vars):=rfl
 rw [← uh HVE] at HVR
 have hA : Below w.heap.size w ((w.alloc (.cells #[.slice (some ⟨bp,op,none⟩) ns.length cp] 30)).alloc (.cells #[.string x.name,.slice b1 x.ins.length c1,.slice b2 x.outs.length c2,.slice b3 x.vars.length c3,.slice b4 x.eqs.length c4] 45)):=((Below.refl _ _).alloc (Nat.le_refl _) _).alloc (by simp) _
 have hAz : ((w.alloc (.cells #[.slice (some ⟨bp,op,none⟩) ns.length cp] 30)).alloc (.cells #[.string x.name,.slice b1 x.ins.length c1,.slice b2 x.outs.length c2,.slice b3 x.vars.length c3,.slice b4 x.eqs.length c4] 45)).heap.size = w.heap.size + 2:=by simp
 have hA1 : BlkAt ((w.alloc (.cells #[.slice (some ⟨bp,op,none⟩) ns.length cp] 30)).alloc (.cells #[.string x.name,.slice b1 x.ins.length c1,.slice b2 x.outs.length c2,.slice b3 x.vars.length c3,.slice b4 x.eqs.length c4] 45)) w.heap.size 30 #[.slice (some ⟨bp,op,none⟩) ns.length cp]:=(blk_box w #[.slice (some ⟨bp,op,none⟩) ns.length cp] 30).below ((Below.refl _ _).alloc (Nat.le_refl _) _) (by simp)
 have hA2 : BlkAt ((w.alloc (.cells #[.slice (some ⟨bp,op,none⟩) ns.length cp] 30)).alloc (.cells #[.string x.name,.slice b1 x.ins.length c1,.slice b2 x.outs.length c2,.slice b3 x.vars.length c3,.slice b4 x.eqs.length c4] 45)) (w.heap.size + 1) 45 #[.string x.name,.slice b1 x.ins.length c1,.slice b2 x.outs.length c2,.slice b3 x.vars.length c3,.slice b4 x.eqs.length c4]:=by
  have h0:=blk_box (w.alloc (.cells #[.slice (some ⟨bp,op,none⟩) ns.length cp] 30)) #[.string x.name,.slice b1 x.ins.length c1,.slice b2 x.outs.length c2,.slice b3 x.vars.length c3,.slice b4 x.eqs.length c4] 45
  rw [show (w.alloc (.cells #[.slice (some ⟨bp,op,none⟩) ns.length cp] 30)).heap.size = w.heap.size + 1 from by simp] at h0
  exact h0
 obtain ⟨BX,hBX⟩ : ∃ BX : World → Prop,∀ w',BX w' ↔ Below (w.heap.size + 2) ((w.alloc (.cells #[.slice (some ⟨bp,op,none⟩) ns.length cp] 30)).alloc (.cells #[.string x.name,.slice b1 x.ins.length c1,.slice b2 x.outs.length c2,.slice b3 x.vars.length c3,.slice b4 x.eqs.length c4] 45)) w':=⟨_,fun _ => Iff.rfl⟩
 have HX1 : Hid (∀ w1,BX w1 → Below w.heap.size w w1):=fun w1 h => hA.trans (((hBX w1).1 h).mono (by omega))
 have HX2 : Hid (∀ w1 w2,BX w1 → Below w1.heap.size w1 w2 → BX w2):=fun w1 w2 h h2 => (hBX w2).2 (((hBX w1).1 h).trans (h2.mono (by have:=((hBX w1).1 h).size; omega)))
 have HX3 : Hid (∀ w1 w2 v ys,BX w1 → OwnV elStr w1 (w.heap.size + 2) v ys → w1.grownBy w2 v.ownBlock → BX w2):=fun w1 w2 v ys h ho hg => (hBX w2).2 (ho.grown ((hBX w1).1 h) hg (by have:=((hBX w1).1 h).size; omega) (Nat.le_refl _))
 have HX4 : Hid (∀ w1,BX w1 → w1.cell? ⟨w.heap.size,0,none⟩ = some (.slice (some ⟨bp,op,none⟩) ns.length cp) ∧ w1.cell? ⟨w.heap.size + 1,0,none⟩ = some (.string x.name) ∧ w1.cell? ⟨w.heap.size + 1,1,none⟩ = some (.slice b1 x.ins.length c1) ∧ w1.cell? ⟨w.heap.size + 1,2,none⟩ = some (.slice b2 x.outs.length c2) ∧ w1.cell? ⟨w.heap.size + 1,3,none⟩ = some (.slice b3 x.vars.length c3) ∧ w1.cell? ⟨w.heap.size + 1,4,none⟩ = some (.slice b4 x.eqs.length c4)):=fun w1 h => ⟨(hA1.below ((hBX w1).1 h) (by omega)).cell (i:=0) (v:=.slice (some ⟨bp,op,none⟩) ns.length cp) rfl,(hA2.below ((hBX w1).1 h) (by omega)).cell (i:=0) (v:=.string x.name) rfl,(hA2.below ((hBX w1).1 h) (by omega)).cell (i:=1) (v:=.slice b1 x.ins.length c1) rfl,(hA2.below ((hBX w1).1 h) (by omega)).cell (i:=2) (v:=.slice b2 x.outs.length c2) rfl,(hA2.below ((hBX w1).1 h) (by omega)).cell (i:=3) (v:=.slice b3 x.vars.length c3) rfl,(hA2.below ((hBX w1).1 h) (by omega)).cell (i:=4) (v:=.slice b4 x.eqs.length c4) rfl⟩
 have HX5 : Hid (∀ w1,BX w1 → w.heap.size + 2 ≤ w1.heap.size):=fun w1 h => by have:=((hBX w1).1 h).size; omega
 have HX0 : Hid (BX ((w.alloc (.cells #[.slice (some ⟨bp,op,none⟩) ns.length cp] 30)).alloc (.cells #[.string x.name,.slice b1 x.ins.length c1,.slice b2 x.outs.length c2,.slice b3 x.vars.length c3,.slice b4 x.eqs.length c4] 45))):=(hBX _).2 (Below.refl _ _)
 have HC0:=hide (uh HFN ((w.alloc (.cells #[.slice (some ⟨bp,op,none⟩) ns.length cp] 30)).alloc (.cells #[.string x.name,.slice b1 x.ins.length c1,.slice b2 x.outs.length c2,.slice b3 x.vars.length c3,.slice b4 x.eqs.length c4] 45)) hA)
 clear hA hAz hA1 hA2 hBX HFN
 have hi' : (i : Int) < (ns.length : Int):=by omega
 by_cases hfn : 0 ≤ findI ns i x.name
 ·have HR:=hide (nf_name hfn)
  have dd : decide (0 ≤ findI ns i x.name) = true:=decide_eq_true hfn
  generalize nodeFault ns i x = RR at *
  generalize findI ns i x.name = fi at *
  go_enter Tryz.func11,Tryz.ntmps11
  go_wp2_with fail
  refine (uh HC0).mono ?_
  rintro e w1 ⟨rfl,hb1⟩
  have HB1:=hide (uh HX1 _ (uh HX2 _ _ (uh HX0) hb1))
  clear hb1
  go_wp2
  refine bodyPost_ret (v:=.tuple #[.int .i64 2,.int .i64 0]) (by simp [results,Tryz.results11,go_sem]) rfl ?_
  exact ⟨ret_two (uh HR),uh HB1⟩
 have HN1:=hide hfn
 have dd : decide (0 ≤ findI ns i x.name) = false:=decide_eq_false hfn
 clear hfn HNX
 have HNF1:=hide (fun k h => nf_dup (ns:=ns) (i:=i) (x:=x) (uh HN1) (k:=k) h)
 have HNF2:=hide (fun h k h' => nf_decl (ns:=ns) (i:=i) (x:=x) (uh HN1) h (k:=k) h')
 have HNF3:=hide (fun h h' k h'' => nf_eq (ns:=ns) (i:=i) (x:=x) (uh HN1) h h' (k:=k) h'')
 have HNF4:=hide (fun h h' h'' => nf_rest (ns:=ns) (i:=i) (x:=x) (uh HN1) h h' h'')
 generalize findI ns i x.name = fi at *
 generalize nodeFault ns i x = RR at *
 have hvl : (allV x).length ≤ 500:=by rw [uh HVL]; omega
 generalize hvs : allV x = vs at *
 have HVS:=hide hvs
 clear hvs
 go_enter Tryz.func11,Tryz.ntmps11
 go_wp2_with fail
 refine (uh HC0).mono ?_
 rintro e w1 ⟨rfl,hb1⟩
 have hbx1:=uh HX2 _ _ (uh HX0) hb1
 have HBX1:=hide hbx1
 obtain ⟨q0,q1,q2,q3,q4,q5⟩:=uh HX4 w1 hbx1
 have HC1:=hide (uh HVR w1 (uh HX1 _ hbx1))
 clear hb1 hbx1 HC0 HVR
 go_wp2_with fail
 refine (uh HC1).mono ?_
 rintro e w2 ⟨vv,rfl,hVV,hb2⟩
 have hbx2:=uh HX2 _ _ (uh HBX1) hb2
 have HBX2:=hide hbx2
 obtain ⟨av,cv,rfl⟩:=hVV.shape
 obtain ⟨_,_,hvv,_,hvn,hvx⟩:=hVV
 simp only [Value.slice.injEq] at hvv
 obtain ⟨rfl,_,rfl⟩:=hvv
 have HVX:=hide hvx
 clear hvx hvn hb2 hbx2 HC1 q0 q1 q2 q3 q4 q5
 go_wp2
 go_loopg [42] vs.length (fun g k' wr => ∃ (k : Nat),k ≤ vs.length ∧ g = vs.length - k ∧ k' = .int .i64 k ∧ (∀ j,j < k → dupB vs j = false) ∧ Below w2.heap.size w2 wr)
 case atStart => exact ⟨0,Nat.zero_le _,by omega,rfl,fun j hj => absurd hj (Nat.not_lt_zero _),Below.refl _ _⟩
 case round =>
  obtain ⟨k,hk,hg,rfl,hno,hb⟩:=hrel
  rename World => wr
  have HG:=hide hg
  have HNO:=hide hno
  have HB:=hide hb
  have hbx:=uh HX2 _ _ (uh HBX2) hb
  have HBX:=hide hbx
  have hsz:=uh HX5 _ hbx
  obtain ⟨q0,q1,q2,q3,q4,q5⟩:=uh HX4 wr hbx
  clear hg hno
  by_cases hlt : k < vs.length
  ·obtain ⟨ba,oa,csa,hbo,_,hba,hcsa,hca,hRa⟩:=uh HVX k hlt
   subst hbo
   have hc : ∀ j (hj : j < csa.length),wr.cell? ⟨ba,oa + k * 3 + j,none⟩ = some csa[j]:=fun j hj => by rw [hb.cell (p:=⟨ba,_,none⟩) hba]; exact hca j hj
   obtain ⟨ckv,rfl,hsn,hty,hcl⟩:=hRa
   have r0:=hc 0 (by simp)
   have r1:=hc 1 (by simp)
   have r2:=hc 2 (by simp)
   simp only [Nat.add_zero,List.getElem_cons_zero,List.getElem_cons_succ] at r0 r1 r2
   obtain ⟨ack,cck,rfl⟩:=hcl.shape
   have HD:=hide (dup_at vs k hlt)
   have hal : Below wr.heap.size wr (wr.alloc (.cells #[.string vs[k].name,.int .i64 vs[k].type,.slice ack vs[k].clock.length cck] 63)):=(Below.refl _ _).alloc (Nat.le_refl _) _
   have HC:=hide (uh HVI vs[k].name _ (uh HX1 _ (uh HX2 _ _ hbx hal)))
   have HAL:=hide hal
   have hw1 : w.heap.size < wr.heap.size:=by omega
   have hw2 : w.heap.size + 1 < wr.heap.size:=by omega
   have hltk : (k : Int) < (vs.length : Int):=by omega
   have hbz : ba < wr.heap.size:=Nat.lt_of_lt_of_le hba hb.size
   clear hc hca hcsa hsn hty hcl hal hb hbx
   generalize lookV vs vs[k].name = lv at *
   generalize hli : lookI vs vs[k].name = li at *
   clear hli
   generalize vs[k].name = nm at *
   generalize vs[k].type = ty at *
   generalize vs[k].clock.length = kl at *
   by_cases hd : li < (k : Int)
   ·have d1 : decide (li < (k : Int)) = true:=decide_eq_true hd
    have HR:=hide (uh HNF1 k (first_hit hlt (by rw [uh HD]; exact d1) (uh HNO)))
    clear HNF1 HNF2 HNF3 HNF4 HD
    go_wp2_with fail
    refine (uh HC).mono ?_
    rintro e w3 ⟨cl3,rfl,hcl3,hb3⟩
    obtain ⟨a3,c3',rfl⟩:=hcl3.shape
    have HF : Hid (Below w.heap.size w (w3.alloc (.cells #[.string lv.name,.int .i64 lv.type,.slice a3 lv.clock.length c3'] 63))):=uh HX1 _ (uh HX2 _ _ (uh HX2 _ _ (uh HBX) (uh HAL)) (hb3.alloc hb3.size _))
    clear hb3 hcl3
    go_wp2
    refine bodyPost_ret (v:=.tuple #[.int .i64 2,.int .i64 ((k : Int) + 1)]) (by simp [results,Tryz.results11,go_sem]) rfl ?_
    exact ⟨ret_two (uh HR),uh HF⟩
   ·have d1 : decide (li < (k : Int)) = false:=decide_eq_false hd
    have HN2 : Hid (∀ j,j < k + 1 → dupB vs j = false):=fun j hj => by
     by_cases e : j = k
     ·subst e; rw [uh HD]; exact d1
     ·exact uh HNO j (by omega)
    go_wp2_with fail
    refine (uh HC).mono ?_
    rintro e w3 ⟨cl3,rfl,hcl3,hb3⟩
    obtain ⟨a3,c3',rfl⟩:=hcl3.shape
    have HF : Hid (Below wr.heap.size wr (w3.alloc (.cells #[.string lv.name,.int .i64 lv.type,.slice a3 lv.clock.length c3'] 63))):=(uh HAL).trans ((hb3.alloc hb3.size _).mono (uh HAL).size)
    clear hb3 hcl3
    go_wp2
    go_roundg (vs.length - (k + 1))
    case measure => have:=uh HG; omega
    case rel => exact ⟨k + 1,by omega,rfl,by go_num,uh HN2,(uh HB).trans ((uh HF).mono (uh HB).size)⟩
  ·have e : k = vs.length:=by omega
   subst e
   have HS1:=hide (first_none (uh HNO))
   have HNF2':=hide (uh HNF2 (uh HS1))
   have HNF3':=hide (uh HNF3 (uh HS1))
   have HNF4':=hide (uh HNF4 (uh HS1))
   clear HNF1 HNF2 HNF3 HNF4 HS1 q0 q1 q2 q3 q4 q5 hb hbx
   go_wp2
   go_loopg [62] vs.length (fun g k' wr => ∃ (k : Nat),k ≤ vs.length ∧ g = vs.length - k ∧ k' = .int .i64 k ∧ (∀ j,j < k → clkBad vs j = false) ∧ Below w2.heap.size w2 wr)
   case atStart => exact ⟨0,Nat.zero_le _,by omega,rfl,fun j hj => absurd hj (Nat.not_lt_zero _),uh HB⟩
   case round =>
    obtain ⟨k,hk,hg,rfl,hno,hb⟩:=hrel
    rename World => ws
    have HG2:=hide hg
    have HNO2:=hide hno
    have HB2:=hide hb
    have hbx:=uh HX2 _ _ (uh HBX2) hb
    have HBXs:=hide hbx
    have hsz2:=uh HX5 _ hbx
    clear hg hno
    by_cases hlt : k < vs.length
    ·obtain ⟨ba,oa,csa,hbo,_,hba,hcsa,hca,hRa⟩:=uh HVX k hlt
     subst hbo
     have hc : ∀ j (hj : j < csa.length),ws.cell? ⟨ba,oa + k * 3 + j,none⟩ = some csa[j]:=fun j hj => by rw [hb.cell (p:=⟨ba,_,none⟩) hba]; exact hca j hj
     obtain ⟨ckv,rfl,hsn,hty,hcl⟩:=hRa
     have r0:=hc 0 (by simp)
     have r1:=hc 1 (by simp)
     have r2:=hc 2 (by simp)
     simp only [Nat.add_zero,List.getElem_cons_zero,List.getElem_cons_succ] at r0 r1 r2
     have HCLK:=hide hcl
     have nck:=hcl.len'
     have hcapk : vs[k].clock.length ≤ (match ckv with | .slice _ _ c => c | _ => 0):=by
      obtain ⟨a,cap,rfl,⟨_,h⟩,_⟩:=hcl
      exact h
     obtain ⟨ack,cck,rfl⟩:=hcl.shape
     simp only at hcapk
     have HCA:=hide (clk_at vs k hlt)
     have hltk : (k : Int) < (vs.length : Int):=by omega
     have hbz : ba < ws.heap.size:=Nat.lt_of_lt_of_le hba hb.size
     clear hc hca hcsa hsn hty hcl
     generalize vs[k].name = vnm at *
     generalize vs[k].type = vty at *
     generalize vs[k].clock = ks at *
     obtain ⟨wv,hwv⟩ : ∃ wv,wv = ws.alloc (.cells #[.string vnm,.int .i64 vty,.slice ack ks.length cck] 63):=⟨_,rfl⟩
     have hbv : Below ws.heap.size ws wv:=by rw [hwv]; exact (Below.refl _ _).alloc (Nat.le_refl _) _
     have hBV : BlkAt wv ws.heap.size 63 #[.string vnm,.int .i64 vty,.slice ack ks.length cck]:=by rw [hwv]; exact blk_box _ _ _
     have HBV:=hide hbv
     have HBB:=hide hBV
     have hszv : wv.heap.size = ws.heap.size + 1:=by rw [hwv]; simp
     clear hb hbx hbv hBV
     go_wp2
     rw [← hwv]
     clear hwv
     go_loopg [70] ks.length (fun g j' wr => ∃ (j : Nat),j ≤ ks.length ∧ g = ks.length - j ∧ j' = .int .i64 j ∧ (∀ q,q < j → condBad vs ks q = false) ∧ Below wv.heap.size wv wr)
     case atStart => exact ⟨0,Nat.zero_le _,by omega,rfl,fun j hj => absurd hj (Nat.not_lt_zero _),Below.refl _ _⟩
     case round =>
      obtain ⟨j,hj,hgj,rfl,hnoj,hbj⟩:=hrel
      rename World => wt
      have HGJ:=hide hgj
      have HNOJ:=hide hnoj
      have HBJ:=hide hbj
      have hbst : Below ws.heap.size ws wt:=(uh HBV).trans (hbj.mono (uh HBV).size)
      have HBST:=hide hbst
      have hbxt:=uh HX2 _ _ (uh HBXs) hbst
      have HBXt:=hide hbxt
      have hszt:=uh HX5 _ hbxt
      clear hgj hnoj
      by_cases hltj : j < ks.length
      ·obtain ⟨bc,oc,csc,hbo,_,hbc,hcsc,hcc,⟨rfl,hsc⟩⟩:=(show ∃ b o cs,ack = some ⟨b,o,none⟩ ∧ 0 ≤ b ∧ b < w.heap.size ∧ cs.length = 2 ∧ (∀ q (hq : q < cs.length),w.cell? ⟨b,o + j * 2 + q,none⟩ = some cs[q]) ∧ RCond 0 w cs ks[j] from by
        obtain ⟨a,cap,hv,_,_,hx⟩:=uh HCLK
        simp only [Value.slice.injEq] at hv
        obtain ⟨rfl,_,_⟩:=hv
        exact hx j hltj)
       subst hbo
       have hcw : ∀ q (hq : q < 2),wt.cell? ⟨bc,oc + j * 2 + q,none⟩ = some _:=fun q hq => by rw [(uh HX1 _ hbxt).cell (p:=⟨bc,_,none⟩) hbc]; exact hcc q hq
       have e0:=hcw 0 (by simp)
       have e1:=hcw 1 (by simp)
       simp only [Nat.add_zero,List.getElem_cons_zero,List.getElem_cons_succ] at e0 e1
       obtain ⟨q0,q1,q2,q3,q4,q5⟩:=uh HX4 wt hbxt
       have HCO:=hide (cond_at vs ks j hltj)
       have hal : Below wt.heap.size wt (wt.alloc (.cells #[.string ks[j].name,.bool ks[j].on] 65)):=(Below.refl _ _).alloc (Nat.le_refl _) _
       have HC:=hide (uh HVI ks[j].name _ (uh HX1 _ (uh HX2 _ _ hbxt hal)))
       have HAL:=hide hal
       have hw1 : w.heap.size < wt.heap.size:=by omega
       have hw2 : w.heap.size + 1 < wt.heap.size:=by omega
       have hltj' : (j : Int) < (ks.length : Int):=by omega
       have hjc : (j : Int) ≤ (cck : Int):=by omega
       have hj0 : (0 : Int) ≤ (j : Int):=by omega
       have u2 : wt.cell? ⟨ws.heap.size,2,none⟩ = some (.slice (some ⟨bc,oc,none⟩) ks.length cck):=((uh HBB).below hbj (by omega)).cell (i:=2) (v:=.slice (some ⟨bc,oc,none⟩) ks.length cck) rfl
       have hws : ws.heap.size < wt.heap.size:=by have:=hbj.size; omega
       have HSME : Hid (∀ u w',Below w.heap.size w w' → SlAt 2 24 RCond 0 w u (clkOf vs ks[j].name) → Calls Tryz.prog 24 #[u,.slice (some ⟨bc,oc,none⟩) j cck] w' (Ans (.bool (sameC (clkOf vs ks[j].name) (ks.take j))) w')):=fun u w' hb' hu => l1SameClock_ok _ _ _ _ w' (hu.stays RCond_kept hb') (((uh HCLK).pre j (by omega)).stays RCond_kept hb')
       have HSB : Hid (condBad vs ks j = true → RR = (3,(k : Int))):=fun h => uh HNF2' k (first_hit hlt (by rw [uh HCA]; exact first_some hltj h) (uh HNO2))
       have HSG : Hid (condBad vs ks j = false → ∀ q,q < j + 1 → condBad vs ks q = false):=fun h q hq => by
        by_cases e : q = j
        ·subst e; exact h
        ·exact uh HNOJ q (by omega)
       rw [uh HCO] at HSB HSG
       clear hcc hcw hcsc hal hbj hbst hbxt HCO hsc
       have HCE : Hid (clkOf vs ks[j].name = (lookV vs ks[j].name).clock):=rfl
       rw [uh HCE] at HSME HSB HSG
       clear HCE
       generalize lookV vs ks[j].name = lv at *
       generalize hli : lookI vs ks[j].name = li at *
       clear hli
       generalize ks[j].name = cnm at *
       generalize ks[j].on = con at *
       go_wp2_with fail
       refine (uh HC).mono ?_
       rintro e w3 ⟨cl3,rfl,hcl3,hb3⟩
       obtain ⟨a3,c3',rfl⟩:=hcl3.shape
       have hb4 : Below wt.heap.size wt (w3.alloc (.cells #[.string lv.name,.int .i64 lv.type,.slice a3 lv.clock.length c3'] 63)):=(uh HAL).trans ((hb3.alloc hb3.size _).mono (uh HAL).size)
       have z1 : (w3.alloc (.cells #[.string lv.name,.int .i64 lv.type,.slice a3 lv.clock.length c3'] 63)).cell? ⟨w3.heap.size,1,none⟩ = some (.int .i64 lv.type):=(World.cell?_alloc_at _ _ _ _ rfl).trans rfl
       have z2 : (w3.alloc (.cells #[.string lv.name,.int .i64 lv.type,.slice a3 lv.clock.length c3'] 63)).cell? ⟨w3.heap.size,2,none⟩ = some (.slice a3 lv.clock.length c3'):=(World.cell?_alloc_at _ _ _ _ rfl).trans rfl
       have z3 : (w3.alloc (.cells #[.string lv.name,.int .i64 lv.type,.slice a3 lv.clock.length c3'] 63)).cell? ⟨ws.heap.size,2,none⟩ = some (.slice (some ⟨bc,oc,none⟩) ks.length cck):=by rw [hb4.cell (p:=⟨ws.heap.size,_,none⟩) hws]; exact u2
       have HB4:=hide hb4
       have HCL3:=hide hcl3
       clear hb3 hcl3 hb4 e0 e1 q0 q1 q2 q3 q4 q5 u2
       go_wp2_with fail
       generalize w3.alloc (.cells #[.string lv.name,.int .i64 lv.type,.slice a3 lv.clock.length c3'] 63) = w5 at z1 z2 z3 HB4 ⊢
       generalize w3.heap.size = f5 at z1 z2 ⊢
       have hbx5:=uh HX2 _ _ (uh HBXt) (uh HB4)
       have HFn : Hid (∀ n,Below w.heap.size w (w5.drewN n)):=fun n => ⟨(uh HX1 _ hbx5).os,(uh HX1 _ hbx5).tape,(uh HX1 _ hbx5).output,(uh HX1 _ hbx5).size,(uh HX1 _ hbx5).block⟩
       by_cases hl0 : li < 0
       ·have d1 : decide (li < 0) = true:=decide_eq_true hl0
        have HR:=hide (uh HSB (by rw [d1,Bool.true_or,Bool.true_or]))
        clear HSB HSG hbx5
        go_quiet ((fail))
        go_wp2
        refine bodyPost_ret (v:=.tuple #[.int .i64 3,.int .i64 (k : Int)]) (by simp [results,Tryz.results11,go_sem]) rfl ?_
        exact ⟨ret_two (uh HR),uh HFn _⟩
       have d1 : decide (li < 0) = false:=decide_eq_false hl0
       rw [d1,Bool.false_or] at HSB HSG
       by_cases ht : lv.type = 2
       case neg =>
        have d2 : (lv.type != 2) = true:=by simp [ht]
        have HR:=hide (uh HSB (by rw [d2,Bool.true_or]))
        clear HSB HSG hbx5 hl0
        go_quiet ((fail))
        go_wp2
        refine bodyPost_ret (v:=.tuple #[.int .i64 3,.int .i64 (k : Int)]) (by simp [results,Tryz.results11,go_sem]) rfl ?_
        exact ⟨ret_two (uh HR),uh HFn _⟩
       have d2 : (lv.type != 2) = false:=by simp [ht]
       rw [d2,Bool.false_or] at HSB HSG
       have hd5 : Below w.heap.size w w5.drew:=(uh HX1 _ hbx5).drew
       have HSC : Hid (Calls Tryz.prog 24 #[.slice a3 lv.clock.length c3',.slice (some ⟨bc,oc,none⟩) j cck] w5.drew fun e w'' => e = .returned (.bool (sameC lv.clock (ks.take j))) ∧ Hid (Below wt.heap.size wt w'') ∧ w''.cell? ⟨f5,1,none⟩ = some (.int .i64 lv.type) ∧ w''.cell? ⟨f5,2,none⟩ = some (.slice a3 lv.clock.length c3') ∧ w''.cell? ⟨ws.heap.size,2,none⟩ = some (.slice (some ⟨bc,oc,none⟩) ks.length cck)):=by
        refine (uh HSME _ w5.drew hd5 (uh HCL3)).mono ?_
        rintro e w'' ⟨rfl,h9⟩
        have h8 : Below w5.heap.size w5 w'':=((Below.refl _ w5).drew).trans h9
        exact ⟨rfl,(uh HB4).trans (h8.mono (uh HB4).size),by rw [h8.cell (p:=⟨f5,_,none⟩) (World.block_lt_of_cell? _ _ z1)]; exact z1,by rw [h8.cell (p:=⟨f5,_,none⟩) (World.block_lt_of_cell? _ _ z2)]; exact z2,by rw [h8.cell (p:=⟨ws.heap.size,_,none⟩) (World.block_lt_of_cell? _ _ z3)]; exact z3⟩
       clear HSME hbx5 hd5 hl0
       have HT2:=hide ht
       clear ht
       generalize sameC lv.clock (ks.take j) = sc at *
       cases sc
       ·have HR:=hide (uh HSB rfl)
        clear HSB HSG
        go_region_held3 (fun w' => w'.cell? ⟨f5,1,none⟩ = some (.int .i64 lv.type) ∧ w'.cell? ⟨f5,2,none⟩ = some (.slice a3 lv.clock.length c3') ∧ w'.cell? ⟨ws.heap.size,2,none⟩ = some (.slice (some ⟨bc,oc,none⟩) ks.length cck)) (go_keep) (first | (go_at_call 24; refine (uh HSC).mono ?_; rintro e w6 ⟨rfl,HB6,u1,u2,u3⟩))
        have HF:=hide (uh HX1 _ (uh HX2 _ _ (uh HBXt) (uh HB6)))
        go_wp2
        refine bodyPost_ret (v:=.tuple #[.int .i64 3,.int .i64 (k : Int)]) (by simp [results,Tryz.results11,go_sem]) rfl ?_
        exact ⟨ret_two (uh HR),uh HF⟩
       ·have HN3:=hide (uh HSG rfl)
        clear HSB HSG
        go_region_held3 (fun w' => w'.cell? ⟨f5,1,none⟩ = some (.int .i64 lv.type) ∧ w'.cell? ⟨f5,2,none⟩ = some (.slice a3 lv.clock.length c3') ∧ w'.cell? ⟨ws.heap.size,2,none⟩ = some (.slice (some ⟨bc,oc,none⟩) ks.length cck)) (go_keep) (first | (go_at_call 24; refine (uh HSC).mono ?_; rintro e w6 ⟨rfl,HB6,u1,u2,u3⟩))
        go_wp2
        go_roundg (ks.length - (j + 1))
        case measure => have:=uh HGJ; omega
        case rel => exact ⟨j + 1,by omega,rfl,by go_num,uh HN3,(uh HBJ).trans ((uh HB6).mono (uh HBJ).size)⟩
      ·have e : j = ks.length:=by omega
       subst e
       have HNK : Hid (∀ q,q < k + 1 → clkBad vs q = false):=fun q hq => by
        by_cases e : q = k
        ·subst e
         rw [uh HCA,first_none (uh HNOJ)]
         rfl
        ·exact uh HNO2 q (by omega)
       clear hbj hbst hbxt
       go_wp2
       go_roundg (vs.length - (k + 1))
       case measure => have:=uh HG2; omega
       case rel => exact ⟨k + 1,by omega,rfl,by go_num,uh HNK,(uh HB2).trans ((uh HBST).mono (uh HB2).size)⟩
    ·have e : k = vs.length:=by omega
     subst e
     have HS2:=hide (first_none (uh HNO2))
     have HNF3'':=hide (uh HNF3' (uh HS2))
     have HNF4'':=hide (uh HNF4' (uh HS2))
     clear HNF2' HNF3' HNF4' HS2 HVX HB HBX HB2 hb hbx
     have HXS : Hid (BX (ws.alloc (.cells #[] 9))):=uh HX2 _ _ (uh HBXs) ((Below.refl _ _).alloc (Nat.le_refl _) _)
     have HOS:=hide (OwnV.start (E:=elStr) ws (w.heap.size + 2) hsz2)
     obtain ⟨q0,q1,q2,q3,q4,q5⟩:=uh HX4 ws (uh HBXs)
     have hw1 : w.heap.size < ws.heap.size:=by omega
     have hw2 : w.heap.size + 1 < ws.heap.size:=by omega
     go_wp2
     clear q0 q1 q2 q3 q4 q5 hw1 hw2
     go_loopg [18,19,106] x.eqs.length (fun g sv cn k' wr => ∃ (k : Nat),k ≤ x.eqs.length ∧ g = x.eqs.length - k ∧ k' = .int .i64 k ∧ cn = .int .i64 ((innTot x.eqs k : Nat) : Int) ∧ OwnV elStr wr (w.heap.size + 2) sv (seenTo x.eqs k) ∧ (∀ j,j < k → (eqCode ns i x j != 0) = false) ∧ BX wr)
     case atStart => exact ⟨0,Nat.zero_le _,by omega,rfl,rfl,uh HOS,fun j hj => absurd hj (Nat.not_lt_zero _),uh HXS⟩
     case round =>
      obtain ⟨k,hk,hg,rfl,rfl,hown,hno,hbx⟩:=hrel
      rename World => wa
      have HG3:=hide hg
      have HOW:=hide hown
      have HNO3:=hide hno
      have HBXa:=hide hbx
      have hsza:=uh HX5 _ hbx
      have hit:=innTot_le x.eqs (fun e he => by
       have h1:=uh HSMALL e he
       have h4:=innerTo_le (decide (e.call.size = 0)) (codesOf e) (codesOf e).length
       have h3:=lensTo_le (codesOf e) 3000 h1.2 (codesOf e).length
       have h5 : (codesOf e).length * 3000 ≤ 500 * 3000:=Nat.mul_le_mul_right _ h1.1
       unfold innerN
       omega) k
      have hsl:=seen_len x.eqs (uh HLH) k
      obtain ⟨q0,q1,q2,q3,q4,q5⟩:=uh HX4 wa hbx
      clear hg hno hown
      by_cases hlt : k < x.eqs.length
      ·obtain ⟨b,o,cs,hbo,_,hb,hcs,hc0,hR⟩:=(show ∃ b o cs,b4 = some ⟨b,o,none⟩ ∧ 0 ≤ b ∧ b < w.heap.size ∧ cs.length = 4 ∧ (∀ j (hj : j < cs.length),w.cell? ⟨b,o + k * 4 + j,none⟩ = some cs[j]) ∧ REq 0 w cs x.eqs[k] from by
        obtain ⟨a,cap,hv,_,_,hx⟩:=uh H4
        simp only [Value.slice.injEq] at hv
        obtain ⟨rfl,_,_⟩:=hv
        exact hx k hlt)
       subst hbo
       obtain ⟨l0,k0,g0,rfl,_,hl0,hk0,hg0⟩:=hR
       have hc : ∀ j (hj : j < 4),wa.cell? ⟨b,o + k * 4 + j,none⟩ = some _:=fun j hj => by rw [(uh HX1 _ hbx).cell (p:=⟨b,_,none⟩) hb]; exact hc0 j hj
       have r0:=hc 0 (by simp)
       have r1:=hc 1 (by simp)
       have r2:=hc 2 (by simp)
       have r3:=hc 3 (by simp)
       simp only [Nat.add_zero,List.getElem_cons_zero,List.getElem_cons_succ] at r0 r1 r2 r3
       have hmem : x.eqs[k] ∈ x.eqs:=List.getElem_mem hlt
       have HEC:=hide (fun w1 (hb : Below w.heap.size w w1) => uh HEQF x.eqs[k] hmem l0 k0 g0 w1 hb (hl0.stays RStr_kept hb) (hk0.stays RItem_kept hb) (hg0.stays RItems_kept hb))
       have HINN:=hide (fun w1 (hb : Below w.heap.size w w1) => l2Inner_ok x.eqs[k] l0 k0 g0 w1 (hk0.stays RItem_kept hb) (hg0.stays RItems_kept hb) (uh HSMALL _ hmem).2 (uh HSMALL _ hmem).1)
       have HL:=hide hl0
       have nl0:=hl0.len'
       have hl5:=uh HLH _ hmem
       have HLNk:=hide (uh HLN _ hmem)
       have hinn : innerN x.eqs[k] ≤ 1500000:=by
        have h1:=uh HSMALL _ hmem
        have h4:=innerTo_le (decide (x.eqs[k].call.size = 0)) (codesOf x.eqs[k]) (codesOf x.eqs[k]).length
        have h3:=lensTo_le (codesOf x.eqs[k]) 3000 h1.2 (codesOf x.eqs[k]).length
        have h5 : (codesOf x.eqs[k]).length * 3000 ≤ 500 * 3000:=Nat.mul_le_mul_right _ h1.1
        unfold innerN
        omega
       have HEA:=hide (eq_at ns i x k hlt)
       have HSS : Hid (seenTo x.eqs (k + 1) = seenTo x.eqs k ++ x.eqs[k].lhs):=by
        show seenTo x.eqs (k + 1) = _
        rw [seenTo,List.getElem?_eq_getElem hlt]
       have HIS : Hid (innTot x.eqs (k + 1) = innTot x.eqs k + innerN x.eqs[k]):=by
        show innTot x.eqs (k + 1) = _
        rw [innTot,List.getElem?_eq_getElem hlt]
       have HRK : Hid ((eqCode ns i x k != 0) = true → RR = (eqCode ns i x k,(k : Int))):=fun h => uh HNF3'' k (first_hit hlt h (uh HNO3))
       have HRG : Hid ((eqCode ns i x k != 0) = false → ∀ j,j < k + 1 → (eqCode ns i x j != 0) = false):=fun h j hj => by
        by_cases e : j = k
        ·subst e; exact h
        ·exact uh HNO3 j (by omega)
       rw [uh HVS] at HEA
       obtain ⟨la,lc,rfl⟩:=hl0.shape
       obtain ⟨ka,kc,rfl⟩:=hk0.shape
       obtain ⟨ga,gc,rfl⟩:=hg0.shape
       clear hc hc0 hcs hl0 hk0 hg0 hmem
       have hsn0:=uh HSN k
       generalize eqFault ns i vs x.eqs[k] = ef at *
       generalize eqCode ns i x k = ec at *
       generalize innerN x.eqs[k] = inn at *
       generalize innTot x.eqs k = it0 at *
       generalize seenTo x.eqs k = seen at *
       generalize x.eqs[k].code.length = e2 at *
       generalize x.eqs[k].args.length = e3 at *
       generalize x.eqs[k].call = ecl at *
       generalize x.eqs[k].lhs = lhs at *
       obtain ⟨wb,hwb⟩ : ∃ wb,wb = wa.alloc (.cells #[.slice la lhs.length lc,.slice ka e2 kc,.string ecl,.slice ga e3 gc] 70):=⟨_,rfl⟩
       have hbb : Below wa.heap.size wa wb:=by rw [hwb]; exact (Below.refl _ _).alloc (Nat.le_refl _) _
       have hBE : BlkAt wb wa.heap.size 70 #[.slice la lhs.length lc,.slice ka e2 kc,.string ecl,.slice ga e3 gc]:=by rw [hwb]; exact blk_box _ _ _
       have HBE:=hide hBE
       have HOWb:=hide ((uh HOW).below hbb)
       have HBXb:=hide (uh HX2 _ _ hbx hbb)
       obtain ⟨aS,cS,rfl⟩:=(uh HOW).slice
       have hltk : (k : Int) < (x.eqs.length : Int):=by omega
       clear hbb hBE hbx
       go_wp2
       rw [← hwb]
       clear hwb q0 q1 q2 q3 q4 q5 r0 r1 r2 r3
       go_loopg [18,114] lhs.length (fun g sv m' wr => ∃ (m : Nat),m ≤ lhs.length ∧ g = lhs.length - m ∧ m' = .int .i64 m ∧ OwnV elStr wr (w.heap.size + 2) sv (seen ++ lhs.take m) ∧ (∀ q,q < m → lhsBad vs x.ins.length seen lhs q = false) ∧ BX wr ∧ BlkAt wr wa.heap.size 70 #[.slice la lhs.length lc,.slice ka e2 kc,.string ecl,.slice ga e3 gc])
       case atStart => exact ⟨0,Nat.zero_le _,by omega,rfl,by simpa using uh HOWb,fun j hj => absurd hj (Nat.not_lt_zero _),uh HBXb,uh HBE⟩
       case round =>
        obtain ⟨m,hm,hgm,rfl,hownm,hnom,hbxm,hbe⟩:=hrel
        rename World => wc
        have HGM:=hide hgm
        have HOM:=hide hownm
        have HNOM:=hide hnom
        have HBXm:=hide hbxm
        have HBEm:=hide hbe
        have hszm:=uh HX5 _ hbxm
        have hlm : (seen ++ lhs.take m).length ≤ 260000:=by rw [List.length_append,List.length_take]; omega
        obtain ⟨q0,q1,q2,q3,q4,q5⟩:=uh HX4 wc hbxm
        clear hgm hnom
        by_cases hltm : m < lhs.length
        ·obtain ⟨bs,os,cs5,hbo,_,hbs,hcs5,hcc5,⟨rfl,hsn5⟩⟩:=(show ∃ b o cs,la = some ⟨b,o,none⟩ ∧ 0 ≤ b ∧ b < w.heap.size ∧ cs.length = 1 ∧ (∀ q (hq : q < cs.length),w.cell? ⟨b,o + m * 1 + q,none⟩ = some cs[q]) ∧ RStr 0 w cs lhs[m] from by
          obtain ⟨a,cap,hv,_,_,hx⟩:=uh HL
          simp only [Value.slice.injEq] at hv
          obtain ⟨rfl,_,_⟩:=hv
          exact hx m hltm)
         subst hbo
         have e0 : wc.cell? ⟨bs,os + m,none⟩ = some (.string lhs[m]):=by
          rw [(uh HX1 _ hbxm).cell (p:=⟨bs,_,none⟩) hbs]
          simpa using hcc5 0 (by simp)
         have HC:=hide (uh HVI lhs[m] wc (uh HX1 _ hbxm))
         have HLA:=hide (lhs_at vs x.ins.length seen lhs m hltm)
         have HTK : Hid (seen ++ lhs.take (m + 1) = seen ++ lhs.take m ++ [lhs[m]]):=by
          show _ = _
          rw [List.take_succ_eq_append_getElem hltm,List.append_assoc]
         have hal : Below wc.heap.size wc wc:=Below.refl _ _
         have HINm : Hid (∀ w' sv,OwnV elStr w' (w.heap.size + 2) sv (seen ++ lhs.take m) → Calls Tryz.prog 25 #[sv,.string lhs[m]] w' fun e w'' => e = .returned (.bool (inB (seen ++ lhs.take m) lhs[m])) ∧ w'' = w'):=fun w' sv ho => l1In_ok _ sv lhs[m] w' (ho.at (R:=RStr) (fun z hz => ⟨rfl,by
          have hn : nameB z = true:=by
           rcases List.mem_append.1 hz with h | h
           ·exact hsn0 z h
           ·exact uh HLNk z (List.mem_of_mem_take h)
          have:=name_len hn
          unfold Len
          omega⟩) (by show (seen ++ lhs.take m).length * 16 ≤ _; omega))
         have HSB : Hid (lhsBad vs x.ins.length seen lhs m = true → RR = (4,(k : Int))):=fun h => by
          have hec : ec = 4:=by rw [uh HEA,first_some hltm h]; rfl
          rw [uh HRK (by rw [hec]; rfl),hec]
         have HSG : Hid (lhsBad vs x.ins.length seen lhs m = false → ∀ q,q < m + 1 → lhsBad vs x.ins.length seen lhs q = false):=fun h q hq => by
          by_cases e : q = m
          ·subst e; exact h
          ·exact uh HNOM q (by omega)
         rw [uh HLA] at HSB HSG
         have hltm' : (m : Int) < (lhs.length : Int):=by omega
         have hbz : bs < wc.heap.size:=Nat.lt_of_lt_of_le hbs (uh HX1 _ hbxm).size
         clear hcc5 hcs5 hsn5 hal HLA hownm hbxm hbe
         generalize inB (seen ++ lhs.take m) lhs[m] = ib at *
         generalize lookV vs lhs[m] = lv at *
         generalize hli : lookI vs lhs[m] = li at *
         clear hli
         generalize lhs[m] = nm at *
         generalize seen ++ lhs.take m = ys at *
         obtain ⟨aM,cM,rfl⟩:=(uh HOM).slice
         go_wp2_with fail
         refine (uh HC).mono ?_
         rintro e w3 ⟨cl3,rfl,hcl3,hb3⟩
         obtain ⟨a3,c3',rfl⟩:=hcl3.shape
         have hb4 : Below wc.heap.size wc (w3.alloc (.cells #[.string lv.name,.int .i64 lv.type,.slice a3 lv.clock.length c3'] 63)):=hb3.alloc hb3.size _
         have HB4:=hide hb4
         have hbx4:=uh HX2 _ _ (uh HBXm) hb4
         have HBX4:=hide hbx4
         have hsz3 : wc.heap.size ≤ w3.heap.size:=hb3.size
         have hw1 : w.heap.size < w3.heap.size:=by omega
         have hw2 : w.heap.size + 1 < w3.heap.size:=by omega
         have hbx3:=uh HX2 _ _ (uh HBXm) hb3
         clear q0 q1 q2 q3 q4 q5 e0
         obtain ⟨q0,q1,q2,q3,q4,q5⟩:=uh HX4 w3 hbx3
         have HI4:=hide (uh HINm _ _ ((uh HOM).below hb4))
         clear hb3 hcl3 hb4 hbx4 hbx3 HC HINm
         by_cases hl0 : li < (x.ins.length : Int)
         ·have d1 : decide (li < (x.ins.length : Int)) = true:=decide_eq_true hl0
          have HR:=hide (uh HSB (by rw [d1,Bool.true_or]))
          have HF:=hide (uh HX1 _ (uh HBX4))
          clear HSB HSG
          go_wp2
          refine bodyPost_ret (v:=.tuple #[.int .i64 4,.int .i64 (k : Int)]) (by simp [results,Tryz.results11,go_sem]) rfl ?_
          exact ⟨ret_two (uh HR),uh HF⟩
         have d1 : decide (li < (x.ins.length : Int)) = false:=decide_eq_false hl0
         rw [d1,Bool.false_or] at HSB HSG
         clear hl0
         cases ib
         case true =>
          have HR:=hide (uh HSB rfl)
          have HF:=hide (uh HX1 _ (uh HBX4))
          clear HSB HSG
          go_wp2_with fail
          refine (uh HI4).mono ?_
          rintro e w5 ⟨rfl,h5⟩
          obtain rfl:=h5.symm
          go_wp2
          refine bodyPost_ret (v:=.tuple #[.int .i64 4,.int .i64 (k : Int)]) (by simp [results,Tryz.results11,go_sem]) rfl ?_
          exact ⟨ret_two (uh HR),uh HF⟩
         have HN4:=hide (uh HSG rfl)
         clear HSB HSG
         go_wp2_with fail
         refine (uh HI4).mono ?_
         rintro e w5 ⟨rfl,h5⟩
         obtain rfl:=h5.symm
         clear h5 q0 q1 q2 q3 q4 q5
         generalize w3.alloc (.cells #[.string lv.name,.int .i64 lv.type,.slice a3 lv.clock.length c3'] 63) = w5 at HB4 HBX4 ⊢
         have hal5 : Below wc.heap.size wc (w5.alloc (.cells #[.string nm] 9)):=(uh HB4).alloc (uh HB4).size _
         have HOA:=hide ((uh HOM).below hal5)
         have HXA:=hide (uh HX2 _ _ (uh HBXm) hal5)
         have HEA5:=hide ((uh HBEm).below hal5 (uh HBEm).lt)
         have hs5:=uh HX5 _ (uh HBX4)
         clear hal5
         go_wp2_with (at_builtin; go_must (refine wpList_append_oneF elStr _ rfl _ _ rfl (w.heap.size + 2) _ ys rfl (uh HOA) w5.heap.size nm rfl (fun j u hu => by rw [World.cell?_alloc_at _ _ _ _ rfl]; simpa [elStr] using hu) (by simp [elStr]; omega) (by simp; omega) ?_))
         intro v9 w9 hown9 hgr9
         have HO9:=hide hown9
         have HX9:=hide (uh HX3 _ _ _ _ (uh HXA) (uh HOA) hgr9)
         have HE9:=hide ((uh HEA5).grown hgr9 ((uh HOA).notBlk (uh HEA5) (by decide)))
         clear hown9 hgr9
         go_wp2
         go_roundg (lhs.length - (m + 1))
         case measure => have:=uh HGM; omega
         case rel => exact ⟨m + 1,by omega,rfl,by go_num,by rw [uh HTK]; exact uh HO9,uh HN4,uh HX9,uh HE9⟩
        ·have e : m = lhs.length:=by omega
         subst e
         have hec : ec = ef:=by rw [uh HEA,first_none (uh HNOM)]; rfl
         have hO:=uh HOM
         rw [List.take_length,← uh HSS] at hO
         have HOF:=hide hO
         have HC:=hide (uh HEC wc (uh HX1 _ hbxm))
         have u0:=hbe.cell (i:=0) (v:=.slice la lhs.length lc) rfl
         have u1:=hbe.cell (i:=1) (v:=.slice ka e2 kc) rfl
         have u2:=hbe.cell (i:=2) (v:=.string ecl) rfl
         have u3:=hbe.cell (i:=3) (v:=.slice ga e3 gc) rfl
         subst hec
         clear hO hownm hbxm hbe HEA
         by_cases hf : ec = 0
         ·have d1 : (ec != 0) = false:=by simp [hf]
          have HN5:=hide (uh HRG d1)
          clear HRK HRG hf
          go_wp2_with fail
          refine (uh HC).mono ?_
          rintro e w6 ⟨rfl,hb6⟩
          have hbx6:=uh HX2 _ _ (uh HBXm) hb6
          have HBX6:=hide hbx6
          have HO6:=hide ((uh HOF).below hb6)
          have hbe6:=(uh HBEm).below hb6 (uh HBEm).lt
          have y0:=hbe6.cell (i:=0) (v:=.slice la lhs.length lc) rfl
          have y1:=hbe6.cell (i:=1) (v:=.slice ka e2 kc) rfl
          have y2:=hbe6.cell (i:=2) (v:=.string ecl) rfl
          have y3:=hbe6.cell (i:=3) (v:=.slice ga e3 gc) rfl
          have HI6:=hide (uh HINN w6 (uh HX1 _ hbx6))
          clear hb6 hbx6 hbe6 u0 u1 u2 u3 q0 q1 q2 q3 q4 q5
          go_wp2_with fail
          refine (uh HI6).mono ?_
          rintro e w7 ⟨rfl,hb7⟩
          have HO7:=hide ((uh HO6).below hb7)
          have HBX7:=hide (uh HX2 _ _ (uh HBX6) hb7)
          clear hb7 y0 y1 y2 y3
          go_wp2
          go_roundg (x.eqs.length - (k + 1))
          case measure => have:=uh HG3; omega
          case rel => exact ⟨k + 1,by omega,rfl,by go_num,int_eq (by rw [uh HIS]; omega),uh HO7,uh HN5,uh HBX7⟩
         ·have d1 : (ec != 0) = true:=by simp [hf]
          have HR:=hide (uh HRK d1)
          clear HRK HRG hf
          go_wp2_with fail
          refine (uh HC).mono ?_
          rintro e w6 ⟨rfl,hb6⟩
          have HF:=hide (uh HX1 _ (uh HX2 _ _ (uh HBXm) hb6))
          clear hb6
          go_wp2
          refine bodyPost_ret (v:=.tuple #[.int .i64 ec,.int .i64 (k : Int)]) (by simp [results,Tryz.results11,go_sem]) rfl ?_
          exact ⟨ret_two (uh HR),uh HF⟩
      ·have e : k = x.eqs.length:=by omega
       subst e
       have HR4:=hide (uh HNF4'' (first_none (uh HNO3)))
       clear HNF3'' HNF4'' HNO3
       obtain ⟨aS,cS,rfl⟩:=(uh HOW).slice
       generalize (seenTo x.eqs x.eqs.length).length = sl at *
       generalize innTot x.eqs x.eqs.length = it0 at *
       have HC:=hide (uh HCYC wa (uh HX1 _ hbx))
       clear HOW hbx
       by_cases hA : sl = x.outs.length + x.vars.length
       case neg =>
        have hR:=uh HR4
        rw [if_pos hA] at hR
        have HR:=hide hR
        have d1 : ((sl : Int) != (x.outs.length : Int) + (x.vars.length : Int)) = true:=by simp; omega
        have HFn : Hid (∀ n,Below w.heap.size w (wa.drewN n)):=fun n => ⟨(uh HX1 _ (uh HBXa)).os,(uh HX1 _ (uh HBXa)).tape,(uh HX1 _ (uh HBXa)).output,(uh HX1 _ (uh HBXa)).size,(uh HX1 _ (uh HBXa)).block⟩
        clear hR HR4 hA
        go_wp2_with fail
        go_quiet ((fail))
        go_wp2
        refine bodyPost_ret (v:=.tuple #[.int .i64 4,.int .i64 (x.eqs.length : Int)]) (by simp [results,Tryz.results11,go_sem]) rfl ?_
        exact ⟨ret_two (uh HR),uh HFn _⟩
       have hR:=uh HR4
       rw [if_neg (by simpa using hA)] at hR
       have HR5:=hide hR
       have d1 : ((sl : Int) != (x.outs.length : Int) + (x.vars.length : Int)) = false:=by simp; omega
       clear hR HR4 hA
       cases hcy : cycB x
       case true =>
        rw [hcy] at HR5 HC
        have HR : Hid (RR = (8,0)):=(uh HR5).trans (by rw [if_pos rfl])
        clear HR5 hcy
        go_wp2_with fail
        refine (uh HC).mono ?_
        rintro e w6 ⟨rfl,hb6⟩
        have HF:=hide (uh HX1 _ (uh HX2 _ _ (uh HBXa) hb6))
        clear hb6
        go_wp2
        refine bodyPost_ret (v:=.tuple #[.int .i64 8,.int .i64 0]) (by simp [results,Tryz.results11,go_sem]) rfl ?_
        exact ⟨ret_two (uh HR),uh HF⟩
       rw [hcy] at HR5 HC
       have HR6 : Hid (RR = if 20000 < (wsTo ns ns.length).getD i 0 ∨ 500 < vs.length + it0 ∨ 500 < x.eqs.length + it0 then (9,0) else (0,0)):=(uh HR5).trans (by rw [if_neg (by simp)])
       clear HR5 hcy
       go_wp2_with fail
       refine (uh HC).mono ?_
       rintro e w6 ⟨rfl,hb6⟩
       have hbx6:=uh HX2 _ _ (uh HBXa) hb6
       have HBX6:=hide hbx6
       have HW6:=hide (uh HWS w6 (uh HX1 _ hbx6))
       clear q0 q1 q2 q3 q4 q5 HC
       obtain ⟨q0,q1,q2,q3,q4,q5⟩:=uh HX4 w6 hbx6
       clear hb6 hbx6
       go_wp2_with fail
       refine (uh HW6).mono ?_
       rintro e w7 ⟨vw,rfl,hSw,hb7⟩
       have hbx7:=uh HX2 _ _ (uh HBX6) hb7
       have HF:=hide (uh HX1 _ hbx7)
       have hwl:=wsTo_length ns ns.length
       obtain ⟨bw,ow,cw,hvw,hbw,csw,_,hccw,rfl,_⟩:=hSw.at' i (by rw [hwl]; exact hi)
       have z0:=hccw 0 (by simp)
       simp only [List.getElem_cons_zero,Nat.add_zero,Nat.mul_one] at z0
       rw [hwl] at hvw
       have HGD : (wsTo ns ns.length).getD i 0 = (wsTo ns ns.length)[i]'(by rw [hwl]; exact hi):=by simp [List.getD,hwl,hi]
       rw [HGD] at HR6
       clear HGD
       generalize (wsTo ns ns.length)[i]'(by rw [hwl]; exact hi) = wt at *
       subst hvw
       clear q0 q1 q2 q3 q4 q5
       obtain ⟨q0,q1,q2,q3,q4,q5⟩:=uh HX4 w7 hbx7
       clear hSw hccw hwl hb7 hbx7 HW6
       have hvl2 : vs.length ≤ 500:=hvl
       by_cases hW : 20000 < wt
       ·have e1 : decide (20000 < wt) = true:=decide_eq_true hW
        have HR : Hid (RR = (9,0)):=(uh HR6).trans (by rw [if_pos (Or.inl hW)])
        clear HR6
        go_wp2
        refine bodyPost_ret (v:=.tuple #[.int .i64 9,.int .i64 0]) (by simp [results,Tryz.results11,go_sem]) rfl ?_
        exact ⟨ret_two (uh HR),uh HF⟩
       have e1 : decide (20000 < wt) = false:=decide_eq_false hW
       by_cases hV : 500 < vs.length + it0
       ·have e2 : decide ((500 : Int) < (vs.length : Int) + (it0 : Int)) = true:=decide_eq_true (by omega)
        have HR : Hid (RR = (9,0)):=(uh HR6).trans (by rw [if_pos (Or.inr (Or.inl hV))])
        clear HR6
        go_wp2
        refine bodyPost_ret (v:=.tuple #[.int .i64 9,.int .i64 0]) (by simp [results,Tryz.results11,go_sem]) rfl ?_
        exact ⟨ret_two (uh HR),uh HF⟩
       have e2 : decide ((500 : Int) < (vs.length : Int) + (it0 : Int)) = false:=decide_eq_false (by omega)
       by_cases hE : 500 < x.eqs.length + it0
       ·have e3 : decide ((500 : Int) < (x.eqs.length : Int) + (it0 : Int)) = true:=decide_eq_true (by omega)
        have HR : Hid (RR = (9,0)):=(uh HR6).trans (by rw [if_pos (Or.inr (Or.inr hE))])
        clear HR6
        go_wp2
        refine bodyPost_ret (v:=.tuple #[.int .i64 9,.int .i64 0]) (by simp [results,Tryz.results11,go_sem]) rfl ?_
        exact ⟨ret_two (uh HR),uh HF⟩
       ·have e3 : decide ((500 : Int) < (x.eqs.length : Int) + (it0 : Int)) = false:=decide_eq_false (by omega)
        have HR : Hid (RR = (0,0)):=(uh HR6).trans (by rw [if_neg (by rintro (h | h | h); exact hW h; exact hV h; exact hE h)])
        clear HR6
        go_wp2
        refine bodyPost_ret (v:=.tuple #[.int .i64 0,.int .i64 0]) (by simp [results,Tryz.results11,go_sem]) rfl ?_
        exact ⟨ret_two (uh HR),uh HF⟩
end Go.Proofs.YtfioeoihociilaaGreat
