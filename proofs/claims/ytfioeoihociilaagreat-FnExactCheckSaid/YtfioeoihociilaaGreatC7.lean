import Derived.Test.YtfioeoihociilaaGreatC6
import Derived.Deep.QuietTactic
import Derived.BigQuiet
namespace Go.Proofs.YtfioeoihociilaaGreat
open Go.RowKit
set_option linter.unusedSimpArgs false
set_option linter.unusedVariables false
theorem blw_dn {B : Nat} {a w : World} (h : Below B a w) (n : Nat) : Below B a (w.drewN n):=⟨h.os,h.tape,h.output,h.size,h.block⟩
theorem cond_pre {w : World} {a : Option Addr} {c n : Nat} {ks : List DCond} {k : DCond} (h : SlAt 2 24 RCond 0 w (.slice a n c) (ks ++ [k])) : SlAt 2 24 RCond 0 w (.slice a ks.length c) ks:=by
 obtain ⟨a',c',he,⟨h1,h2⟩,h3,hx⟩:=h
 simp only [Value.slice.injEq] at he
 obtain ⟨rfl,_,rfl⟩:=he
 rw [List.length_append] at h1 h2 h3
 refine ⟨a,c,rfl,⟨?_,by omega⟩,by unfold Len at *; omega,fun i hi => ?_⟩
 ·unfold Len at *
  rw [Nat.add_mul] at h1
  omega
 ·obtain ⟨b,o,cs,h4,h5,h6,h7,h8,h9⟩:=hx i (by rw [List.length_append]; omega)
  refine ⟨b,o,cs,h4,h5,h6,h7,h8,?_⟩
  rwa [List.getElem_append_left hi] at h9
theorem cond_last {w : World} {a : Option Addr} {c n : Nat} {ks : List DCond} {k : DCond} (h : SlAt 2 24 RCond 0 w (.slice a n c) (ks ++ [k])) : ∃ b o,a = some ⟨b,o,none⟩ ∧ b < w.heap.size ∧ w.cell? ⟨b,o + ks.length * 2,none⟩ = some (.string k.name) ∧ w.cell? ⟨b,o + ks.length * 2 + 1,none⟩ = some (.bool k.on) ∧ ks.length + 1 ≤ c:=by
 obtain ⟨a',c',he,⟨h1,h2⟩,h3,hx⟩:=h
 simp only [Value.slice.injEq] at he
 obtain ⟨rfl,_,rfl⟩:=he
 obtain ⟨b,o,cs,rfl,h5,h6,h7,h8,h9⟩:=hx ks.length (by rw [List.length_append]; simp)
 rw [List.getElem_append_right (Nat.le_refl _)] at h9
 simp only [Nat.sub_self,List.getElem_cons_zero] at h9
 obtain ⟨rfl,_⟩:=h9
 exact ⟨b,o,rfl,h6,by simpa using h8 0 (by simp),by simpa using h8 1 (by simp),by rw [List.length_append] at h2; simpa using h2⟩
set_option maxRecDepth 20000 in
set_option maxHeartbeats 8000000 in
theorem l2Fits_when (x : DNode) (b1 b2 b3 b4 : Option Addr) (c1 c2 c3 n4 c4 : Nat) (hsum : x.ins.length + x.outs.length + x.vars.length ≤ 1048576) (code : List DItem) (v : Value) (hit : ∀ t,t ∈ code → itB t = true) (hl : code.length ≤ 3000) (l b : Nat) (gg : Ctx)
  (hfd : Fd (fitItem (allV x)) code b (l + 1) [gg]) (w : World) (hni : NIn x b1 b2 b3 c1 c2 c3 w) (hv : SlAt 3 32 RItem 0 w v code) (ks : List DCond) (kv : Value) (hk : SlAt 2 24 RCond 0 w kv ks) (hkl : ks.length ≤ 8) (hlt0 : l < code.length) (ho : code[l].op = 23)
  (ih : ∀ m,m < l + 1 → ∀ (b0 : Nat) (g : Ctx),Fd (fitItem (allV x)) code b0 m [g] → ∀ w1 ks1 kv1,NIn x b1 b2 b3 c1 c2 c3 w1 → SlAt 3 32 RItem 0 w1 v code → SlAt 2 24 RCond 0 w1 kv1 ks1 → ks1.length ≤ 8 → Calls Tryz.prog 50 #[.agg #[.string x.name,.slice b1 x.ins.length c1,.slice b2 x.outs.length c2,.slice b3 x.vars.length c3,.slice b4 n4 c4],v,.int .i64 (m : Int),kv1] w1 (Ans (.bool (g ks1)) w1)) :
  Calls Tryz.prog 50 #[.agg #[.string x.name,.slice b1 x.ins.length c1,.slice b2 x.outs.length c2,.slice b3 x.vars.length c3,.slice b4 n4 c4],v,.int .i64 ((l : Int) + 1),kv] w (Ans (.bool (gg ks)) w):=by
 have har : ∀ t,t ∈ code → 0 ≤ arI t.op:=fun t ht => (ar_iff t.op).2 (by have:=((it_iff t).1 (hit t ht)).1; omega)
 obtain ⟨hlt,us,hus,hul,hty⟩:=hfd.last
 obtain ⟨hi0,hir,hin⟩:=(it_iff code[l]).1 (hit _ (List.getElem_mem hlt))
 have HV:=hide hv
 have HNI:=hide hni
 have HK:=hide hk
 obtain ⟨ak,ck,rfl⟩:=hk.shape
 have hx:=hv
 obtain ⟨a,cap,rfl,_,hn,hx⟩:=hx
 unfold Len at hn
 obtain ⟨bb,oo,cs,rfl,_,hbb,hcs,hc,hR⟩:=hx l hlt
 obtain ⟨rfl,hsn,hop,hvl⟩:=hR
 have q0:=hc 0 (by simp)
 have q1:=hc 1 (by simp)
 have q2:=hc 2 (by simp)
 simp only [Nat.mul_one,Nat.add_zero,List.getElem_cons_zero,List.getElem_cons_succ] at q0 q1 q2
 have hAR : ∀ w1,Calls Tryz.prog 77 #[.int .i64 code[l].op] w1 fun e w' => e = .returned (.int .i64 (us.length : Int)) ∧ w' = w1:=by
  intro w1
  have h1:=l1Arity_ok code[l].op w1 (by unfold I64; omega)
  have h2:=oc_ar _ (har _ (List.getElem_mem hlt))
  have h3:=har _ (List.getElem_mem hlt)
  have h4 : (us.length : Int) = arI code[l].op:=by rw [hul]; unfold arF; rw [h2]; omega
  rw [h4]
  exact h1
 have hu3 : us.length ≤ 3:=by rw [hul]; unfold arF; have:=ocI_bd code[l].op; omega
 clear hx hc hcs hin hir hi0 hop hvl
 generalize code[l] = it at q0 q1 q2 hty hul hAR hsn ho
 obtain ⟨op,vl,nm⟩:=it
 simp only at q0 q1 q2 hul hAR hsn ho
 have hGG : gg = fitItem (allV x) ⟨op,vl,nm⟩ us:=hty
 have hu1 : us.length = 1:=by rw [hul,ho]; decide
 obtain ⟨g0,rfl⟩ : ∃ g0,us = [g0]:=by
  match us,hu1 with
  | [g0],_ => exact ⟨g0,rfl⟩
 have HR0 : Hid (ks = [] → gg ks = false):=fun h => by
  subst h
  rw [hGG]
  unfold fitItem
  rw [if_neg (by simp only; omega),if_neg (by simp only; omega),if_pos ho]
  rfl
 have HR1 : Hid (∀ ks0 c,ks = ks0 ++ [c] → gg ks = (condE c ⟨nm,vl == 1⟩ && (sameC (clkOf (allV x) nm) ks0 && g0 ks0))):=fun ks0 c h => by
  subst h
  rw [hGG]
  unfold fitItem
  rw [if_neg (by simp only; omega),if_neg (by simp only; omega),if_pos ho]
  simp
 clear hu1
 clear hGG hty
 have HAR:=hide hAR
 have HSN:=hide hsn
 have hA : Below w.heap.size w ((w.alloc (.cells #[.string x.name,.slice b1 x.ins.length c1,.slice b2 x.outs.length c2,.slice b3 x.vars.length c3,.slice b4 n4 c4] 45)).alloc (.cells #[.int .i64 op,.int .i64 vl,.string nm] 103)):=((Below.refl _ _).alloc (Nat.le_refl _) _).alloc (by simp) _
 have HA:=hide hA
 have HAz : Hid (((w.alloc (.cells #[.string x.name,.slice b1 x.ins.length c1,.slice b2 x.outs.length c2,.slice b3 x.vars.length c3,.slice b4 n4 c4] 45)).alloc (.cells #[.int .i64 op,.int .i64 vl,.string nm] 103)).heap.size = w.heap.size + 2):=by
  show ((w.alloc (.cells #[.string x.name,.slice b1 x.ins.length c1,.slice b2 x.outs.length c2,.slice b3 x.vars.length c3,.slice b4 n4 c4] 45)).alloc (.cells #[.int .i64 op,.int .i64 vl,.string nm] 103)).heap.size = w.heap.size + 2
  simp
 have HB0 : Hid (Below (w.heap.size + 2) ((w.alloc (.cells #[.string x.name,.slice b1 x.ins.length c1,.slice b2 x.outs.length c2,.slice b3 x.vars.length c3,.slice b4 n4 c4] 45)).alloc (.cells #[.int .i64 op,.int .i64 vl,.string nm] 103)) ((w.alloc (.cells #[.string x.name,.slice b1 x.ins.length c1,.slice b2 x.outs.length c2,.slice b3 x.vars.length c3,.slice b4 n4 c4] 45)).alloc (.cells #[.int .i64 op,.int .i64 vl,.string nm] 103))):=Below.refl _ _
 have HOUT : Hid (∀ w1,Below (w.heap.size + 2) ((w.alloc (.cells #[.string x.name,.slice b1 x.ins.length c1,.slice b2 x.outs.length c2,.slice b3 x.vars.length c3,.slice b4 n4 c4] 45)).alloc (.cells #[.int .i64 op,.int .i64 vl,.string nm] 103)) w1 → Below w.heap.size w w1):=fun w1 h => (uh HA).trans (h.mono (by omega))
 have HTH : Hid (∀ w1 w2,Below (w.heap.size + 2) ((w.alloc (.cells #[.string x.name,.slice b1 x.ins.length c1,.slice b2 x.outs.length c2,.slice b3 x.vars.length c3,.slice b4 n4 c4] 45)).alloc (.cells #[.int .i64 op,.int .i64 vl,.string nm] 103)) w1 → Below w1.heap.size w1 w2 → Below (w.heap.size + 2) ((w.alloc (.cells #[.string x.name,.slice b1 x.ins.length c1,.slice b2 x.outs.length c2,.slice b3 x.vars.length c3,.slice b4 n4 c4] 45)).alloc (.cells #[.int .i64 op,.int .i64 vl,.string nm] 103)) w2):=fun w1 w2 h1 h2 => h1.trans (h2.mono (by have:=h1.size; rw [uh HAz] at this; exact this))
 have hBN : BlkAt ((w.alloc (.cells #[.string x.name,.slice b1 x.ins.length c1,.slice b2 x.outs.length c2,.slice b3 x.vars.length c3,.slice b4 n4 c4] 45)).alloc (.cells #[.int .i64 op,.int .i64 vl,.string nm] 103)) w.heap.size 45 #[.string x.name,.slice b1 x.ins.length c1,.slice b2 x.outs.length c2,.slice b3 x.vars.length c3,.slice b4 n4 c4]:=(blk_box w #[.string x.name,.slice b1 x.ins.length c1,.slice b2 x.outs.length c2,.slice b3 x.vars.length c3,.slice b4 n4 c4] 45).below ((Below.refl _ _).alloc (Nat.le_refl _) _) (by simp)
 have hBI : BlkAt ((w.alloc (.cells #[.string x.name,.slice b1 x.ins.length c1,.slice b2 x.outs.length c2,.slice b3 x.vars.length c3,.slice b4 n4 c4] 45)).alloc (.cells #[.int .i64 op,.int .i64 vl,.string nm] 103)) (w.heap.size + 1) 103 #[.int .i64 op,.int .i64 vl,.string nm]:=by
  have:=blk_box (w.alloc (.cells #[.string x.name,.slice b1 x.ins.length c1,.slice b2 x.outs.length c2,.slice b3 x.vars.length c3,.slice b4 n4 c4] 45)) #[.int .i64 op,.int .i64 vl,.string nm] 103
  rwa [show (w.alloc (.cells #[.string x.name,.slice b1 x.ins.length c1,.slice b2 x.outs.length c2,.slice b3 x.vars.length c3,.slice b4 n4 c4] 45)).heap.size = w.heap.size + 1 from by simp] at this
 have HBN : Hid (∀ w1,Below (w.heap.size + 2) ((w.alloc (.cells #[.string x.name,.slice b1 x.ins.length c1,.slice b2 x.outs.length c2,.slice b3 x.vars.length c3,.slice b4 n4 c4] 45)).alloc (.cells #[.int .i64 op,.int .i64 vl,.string nm] 103)) w1 → BlkAt w1 w.heap.size 45 #[.string x.name,.slice b1 x.ins.length c1,.slice b2 x.outs.length c2,.slice b3 x.vars.length c3,.slice b4 n4 c4]):=fun w1 h => hBN.below h (by omega)
 have HBI : Hid (∀ w1,Below (w.heap.size + 2) ((w.alloc (.cells #[.string x.name,.slice b1 x.ins.length c1,.slice b2 x.outs.length c2,.slice b3 x.vars.length c3,.slice b4 n4 c4] 45)).alloc (.cells #[.int .i64 op,.int .i64 vl,.string nm] 103)) w1 → BlkAt w1 (w.heap.size + 1) 103 #[.int .i64 op,.int .i64 vl,.string nm]):=fun w1 h => hBI.below h (by omega)
 have HIH : Hid (∀ (m b0 : Nat) (g : Ctx),m < l + 1 → Fd (fitItem (allV x)) code b0 m [g] → ∀ w1 ks1 kv1,Below (w.heap.size + 2) ((w.alloc (.cells #[.string x.name,.slice b1 x.ins.length c1,.slice b2 x.outs.length c2,.slice b3 x.vars.length c3,.slice b4 n4 c4] 45)).alloc (.cells #[.int .i64 op,.int .i64 vl,.string nm] 103)) w1 → SlAt 2 24 RCond 0 w1 kv1 ks1 → ks1.length ≤ 8 → Calls Tryz.prog 50 #[.agg #[.string x.name,.slice b1 x.ins.length c1,.slice b2 x.outs.length c2,.slice b3 x.vars.length c3,.slice b4 n4 c4],.slice (some ⟨bb,oo,none⟩) code.length cap,.int .i64 (m : Int),kv1] w1 (Ans (.bool (g ks1)) w1)) :=
  fun m b0 g h1 h2 w1 ks1 kv1 h3 h4 h5 => ih m h1 b0 g h2 w1 ks1 kv1 ((uh HNI).stays (uh HOUT w1 h3)) ((uh HV).stays RItem_kept (uh HOUT w1 h3)) h4 h5
 have HBG : Hid (∀ (m m1 : Nat) (g : Ctx),m ≤ l → Fd (fitItem (allV x)) code m1 m [g] → ∀ w1,Below (w.heap.size + 2) ((w.alloc (.cells #[.string x.name,.slice b1 x.ins.length c1,.slice b2 x.outs.length c2,.slice b3 x.vars.length c3,.slice b4 n4 c4] 45)).alloc (.cells #[.int .i64 op,.int .i64 vl,.string nm] 103)) w1 → Calls Tryz.prog 75 #[.slice (some ⟨bb,oo,none⟩) code.length cap,.int .i64 (m : Int)] w1 fun e w' => e = .returned (.int .i64 (m1 : Int)) ∧ w' = w1):=by
  intro m m1 k h1 h2 w1 h3
  have:=l1Begin_at code m (by omega) _ w1 ((uh HV).stays RItem_kept (uh HOUT w1 h3))
  rw [fd_bg har h2 (by omega)] at this
  exact this
 have HKK : Hid (∀ w1,Below (w.heap.size + 2) ((w.alloc (.cells #[.string x.name,.slice b1 x.ins.length c1,.slice b2 x.outs.length c2,.slice b3 x.vars.length c3,.slice b4 n4 c4] 45)).alloc (.cells #[.int .i64 op,.int .i64 vl,.string nm] 103)) w1 → SlAt 2 24 RCond 0 w1 (.slice ak ks.length ck) ks):=fun w1 h => (uh HK).stays RCond_kept (uh HOUT w1 h)
 have HCLK : Hid (∀ w1,Below (w.heap.size + 2) ((w.alloc (.cells #[.string x.name,.slice b1 x.ins.length c1,.slice b2 x.outs.length c2,.slice b3 x.vars.length c3,.slice b4 n4 c4] 45)).alloc (.cells #[.int .i64 op,.int .i64 vl,.string nm] 103)) w1 → Calls Tryz.prog 49 #[.agg #[.string x.name,.slice b1 x.ins.length c1,.slice b2 x.outs.length c2,.slice b3 x.vars.length c3,.slice b4 n4 c4],.string nm] w1 fun e w' => ∃ cl,e = .returned cl ∧ SlAt 2 24 RCond 0 w' cl (clkOf (allV x) nm) ∧ Below w1.heap.size w1 w'):=fun w1 h =>
  l2Clock_ok x _ _ _ _ nm w1 ((uh HNI).stays (uh HOUT w1 h)).ins ((uh HNI).stays (uh HOUT w1 h)).outs ((uh HNI).stays (uh HOUT w1 h)).vars ⟨b4,n4,c4,rfl⟩ hsum
 have HUS:=hide hus
 have HUL:=hide hul
 clear hus hul hit hfd hv hni hk hA hBN hBI har ih hsn hAR
 subst ho
 have HBn : Hid (∀ n,Below (w.heap.size + 2) ((w.alloc (.cells #[.string x.name,.slice b1 x.ins.length c1,.slice b2 x.outs.length c2,.slice b3 x.vars.length c3,.slice b4 n4 c4] 45)).alloc (.cells #[.int .i64 23,.int .i64 vl,.string nm] 103)) ((((w.alloc (.cells #[.string x.name,.slice b1 x.ins.length c1,.slice b2 x.outs.length c2,.slice b3 x.vars.length c3,.slice b4 n4 c4] 45)).alloc (.cells #[.int .i64 23,.int .i64 vl,.string nm] 103))).drewN n)):=fun n => blw_dn (uh HB0) n
 rcases List.eq_nil_or_concat ks with hnil | ⟨ks0,c,hks⟩
 ·have HN:=hide (uh HR0 hnil)
  have HF : Hid (∀ n,Below w.heap.size w _):=fun n => uh HOUT _ (uh HBn n)
  subst hnil
  clear HR0 HR1 HIH HBG HKK HCLK
  rw [List.length_nil]
  go_enter Tryz.func50,Tryz.ntmps50
  go_wp2_with fail
  go_quiet ((fail))
  all_goals
   go_wp2
   go_ret
   exact ⟨ret_bool (uh HN).symm,uh HF _⟩
 ·have HKd:=uh HKK _ (uh HB0)
  rw [List.concat_eq_append] at hks
  have HG1:=uh HR1 ks0 c hks
  subst hks
  obtain ⟨bk,ok,rfl,hbk,p0,p1,hcap⟩:=cond_last HKd
  have hpre:=cond_pre (uh HK)
  have hlen : (ks0 ++ [c]).length = ks0.length + 1:=by simp
  have hk0 : ks0.length ≤ 7:=by omega
  have HPRE : Hid (∀ w1,Below (w.heap.size + 2) _ w1 → SlAt 2 24 RCond 0 w1 (.slice (some ⟨bk,ok,none⟩) ks0.length ck) ks0):=fun w1 h => hpre.stays RCond_kept (uh HOUT w1 h)
  have HIH0 : Hid (∀ w1,Below (w.heap.size + 2) _ w1 → _):=fun w1 h => uh HIH l b g0 (Nat.lt_succ_self _) (uh HUS) w1 ks0 _ h (uh HPRE w1 h) (by omega)
  have HC1 : Hid (∀ n,_):=fun n => uh HCLK _ (uh HBn n)
  have HF : Hid (∀ n,Below w.heap.size w _):=fun n => uh HOUT _ (uh HBn n)
  have HCE : condE c ⟨nm,vl == 1⟩ = ((c.name.toList == nm.toList) && (c.on == (vl == 1))):=rfl
  rw [HCE] at HG1
  have HG1:=hide HG1
  clear HR0 HR1 HKd HIH HBG HKK HCLK HK HUS hkl hpre HCE
  rw [hlen]
  clear hlen
  obtain ⟨cn,co⟩:=c
  simp only at p0 p1 HG1
  generalize clkOf (allV x) nm = clk at *
  generalize gg (ks0 ++ [⟨cn,co⟩]) = res at *
  have hz : (((ks0.length : Int) + 1) == 0) = false:=by rw [beq_eq_false_iff_ne]; omega
  have hz2 : ¬ ((ks0.length : Int) + 1 = 0):=by omega
  cases hn : (cn.toList == nm.toList)
  ·rw [hn,Bool.false_and,Bool.false_and] at HG1
   go_enter Tryz.func50,Tryz.ntmps50
   go_wp2_with fail
   go_quiet ((fail))
   all_goals
    go_wp2
    go_ret
    exact ⟨ret_bool (uh HG1).symm,uh HF _⟩
  ·rw [hn,Bool.true_and] at HG1
   cases hv : (vl == 1) <;> cases co
   case false.false =>
    rw [hv] at HG1
    have HG1:=hide (show res = (sameC clk ks0 && g0 ks0) by have:=uh HG1; simpa using this)
    go_enter Tryz.func50,Tryz.ntmps50
    go_wp2_with fail
    go_quiet ((fail))
    rename Nat => nq
    go_wp2_with fail
    refine (uh HC1 _).mono ?_
    rintro e w1 ⟨cl,rfl,hcl,hb1⟩
    have hB1:=uh HTH _ _ (uh HBn _) hb1
    have HB1:=hide hB1
    have HC2:=hide (l1SameClock_ok clk ks0 cl _ w1 hcl (uh HPRE w1 hB1))
    obtain ⟨ac,cc,rfl⟩:=hcl.shape
    clear hcl hb1 hB1
    generalize sameC clk ks0 = r at *
    go_wp2_with fail
    refine (uh HC2).mono ?_
    rintro e w2 ⟨rfl,hb2⟩
    have hB2:=uh HTH _ _ (uh HB1) hb2
    have HC3:=hide (uh HIH0 w2 hB2)
    have HF2:=hide (uh HOUT _ hB2)
    have HTH2:=hide (uh HTH w2)
    have HB2:=hide hB2
    have nc0:=(uh HBN w2 hB2).cell (i:=0) (v:=.string x.name) rfl
    have nc1:=(uh HBN w2 hB2).cell (i:=1) (v:=.slice b1 x.ins.length c1) rfl
    have nc2:=(uh HBN w2 hB2).cell (i:=2) (v:=.slice b2 x.outs.length c2) rfl
    have nc3:=(uh HBN w2 hB2).cell (i:=3) (v:=.slice b3 x.vars.length c3) rfl
    have nc4:=(uh HBN w2 hB2).cell (i:=4) (v:=.slice b4 n4 c4) rfl
    clear hb2 hB2 HC2 HIH0
    generalize g0 ks0 = r2 at *
    cases r
    ·rw [Bool.false_and] at HG1
     go_wp2
     go_ret
     exact ⟨ret_bool (uh HG1).symm,uh HF2⟩
    ·rw [Bool.true_and] at HG1
     go_wp2_with fail
     refine (uh HC3).mono ?_
     rintro e w3 ⟨rfl,hb3⟩
     have HF3:=hide (uh HOUT _ (uh HTH _ _ (uh HB2) hb3))
     clear hb3
     go_wp2
     go_ret
     exact ⟨ret_bool (uh HG1).symm,uh HF3⟩
   case true.true =>
    rw [hv] at HG1
    have HG1:=hide (show res = (sameC clk ks0 && g0 ks0) by have:=uh HG1; simpa using this)
    go_enter Tryz.func50,Tryz.ntmps50
    go_wp2_with fail
    go_quiet ((fail))
    rename Nat => nq
    go_wp2_with fail
    refine (uh HC1 _).mono ?_
    rintro e w1 ⟨cl,rfl,hcl,hb1⟩
    have hB1:=uh HTH _ _ (uh HBn _) hb1
    have HB1:=hide hB1
    have HC2:=hide (l1SameClock_ok clk ks0 cl _ w1 hcl (uh HPRE w1 hB1))
    obtain ⟨ac,cc,rfl⟩:=hcl.shape
    clear hcl hb1 hB1
    generalize sameC clk ks0 = r at *
    go_wp2_with fail
    refine (uh HC2).mono ?_
    rintro e w2 ⟨rfl,hb2⟩
    have hB2:=uh HTH _ _ (uh HB1) hb2
    have HC3:=hide (uh HIH0 w2 hB2)
    have HF2:=hide (uh HOUT _ hB2)
    have HTH2:=hide (uh HTH w2)
    have HB2:=hide hB2
    have nc0:=(uh HBN w2 hB2).cell (i:=0) (v:=.string x.name) rfl
    have nc1:=(uh HBN w2 hB2).cell (i:=1) (v:=.slice b1 x.ins.length c1) rfl
    have nc2:=(uh HBN w2 hB2).cell (i:=2) (v:=.slice b2 x.outs.length c2) rfl
    have nc3:=(uh HBN w2 hB2).cell (i:=3) (v:=.slice b3 x.vars.length c3) rfl
    have nc4:=(uh HBN w2 hB2).cell (i:=4) (v:=.slice b4 n4 c4) rfl
    clear hb2 hB2 HC2 HIH0
    generalize g0 ks0 = r2 at *
    cases r
    ·rw [Bool.false_and] at HG1
     go_wp2
     go_ret
     exact ⟨ret_bool (uh HG1).symm,uh HF2⟩
    ·rw [Bool.true_and] at HG1
     go_wp2_with fail
     refine (uh HC3).mono ?_
     rintro e w3 ⟨rfl,hb3⟩
     have HF3:=hide (uh HOUT _ (uh HTH _ _ (uh HB2) hb3))
     clear hb3
     go_wp2
     go_ret
     exact ⟨ret_bool (uh HG1).symm,uh HF3⟩
   all_goals
    rw [hv] at HG1
    have HG1:=hide (show res = false by have:=uh HG1; simpa using this)
    go_enter Tryz.func50,Tryz.ntmps50
    go_wp2_with fail
    go_quiet ((fail))
    all_goals
     go_wp2
     go_ret
     exact ⟨ret_bool (uh HG1).symm,uh HF _⟩
end Go.Proofs.YtfioeoihociilaaGreat
