import Derived.Test.YtfioeoihociilaaGreatC4
namespace Go.Proofs.YtfioeoihociilaaGreat
open Go.RowKit
set_option linter.unusedSimpArgs false
set_option linter.unusedVariables false
set_option maxRecDepth 20000 in
set_option maxHeartbeats 16000000 in
theorem l2Type_named23 (x : DNode) (b1 b2 b3 b4 : Option Addr) (c1 c2 c3 n4 c4 : Nat) (hsum : x.ins.length + x.outs.length + x.vars.length ≤ 1048576) (code : List DItem) (v : Value) (hit : ∀ t,t ∈ code → itB t = true) (hl : code.length ≤ 3000) (l b : Nat) (ty : Int)
  (hfd : Fd (tyItem (allV x)) code b (l + 1) [ty]) (w : World) (hni : NIn x b1 b2 b3 c1 c2 c3 w) (hv : SlAt 3 32 RItem 0 w v code) (hlt0 : l < code.length) (hnn : ¬ code[l].name.size = 0) (h23 : code[l].op = 23)
  (ih : ∀ m,m < l + 1 → ∀ (b0 : Nat) (k : Int),Fd (tyItem (allV x)) code b0 m [k] → ∀ w1,NIn x b1 b2 b3 c1 c2 c3 w1 → SlAt 3 32 RItem 0 w1 v code → Calls Tryz.prog 48 #[.agg #[.string x.name,.slice b1 x.ins.length c1,.slice b2 x.outs.length c2,.slice b3 x.vars.length c3,.slice b4 n4 c4],v,.int .i64 (m : Int)] w1 (Ans (.int .i64 k) w1)) :
  Calls Tryz.prog 48 #[.agg #[.string x.name,.slice b1 x.ins.length c1,.slice b2 x.outs.length c2,.slice b3 x.vars.length c3,.slice b4 n4 c4],v,.int .i64 ((l : Int) + 1)] w (Ans (.int .i64 ty) w):=by
 have har : ∀ t,t ∈ code → 0 ≤ arI t.op:=fun t ht => (ar_iff t.op).2 (by have:=((it_iff t).1 (hit t ht)).1; omega)
 obtain ⟨hlt,us,hus,hul,hty⟩:=hfd.last
 obtain ⟨hi0,hir,hin⟩:=(it_iff code[l]).1 (hit _ (List.getElem_mem hlt))
 have HV:=hide hv
 have HNI:=hide hni
 have hx:=hv
 obtain ⟨a,cap,rfl,_,hn,hx⟩:=hx
 unfold Len at hn
 obtain ⟨bb,oo,cs,rfl,_,hbb,hcs,hc,hR⟩:=hx l hlt
 obtain ⟨rfl,hsn,hop,hvl⟩:=hR
 have q0:=hc 0 (by simp)
 have q1:=hc 1 (by simp)
 have q2:=hc 2 (by simp)
 simp only [Nat.mul_one,Nat.add_zero,List.getElem_cons_zero,List.getElem_cons_succ] at q0 q1 q2
 have hA : Below w.heap.size w ((w.alloc (.cells #[.string x.name,.slice b1 x.ins.length c1,.slice b2 x.outs.length c2,.slice b3 x.vars.length c3,.slice b4 n4 c4] 45)).alloc (.cells #[.int .i64 code[l].op,.int .i64 code[l].val,.string code[l].name] 103)):=((Below.refl _ _).alloc (Nat.le_refl _) _).alloc (by simp) _
 have HA:=hide hA
 have HAz : Hid (((w.alloc (.cells #[.string x.name,.slice b1 x.ins.length c1,.slice b2 x.outs.length c2,.slice b3 x.vars.length c3,.slice b4 n4 c4] 45)).alloc (.cells #[.int .i64 code[l].op,.int .i64 code[l].val,.string code[l].name] 103)).heap.size = w.heap.size + 2):=by
  show ((w.alloc (.cells #[.string x.name,.slice b1 x.ins.length c1,.slice b2 x.outs.length c2,.slice b3 x.vars.length c3,.slice b4 n4 c4] 45)).alloc (.cells #[.int .i64 code[l].op,.int .i64 code[l].val,.string code[l].name] 103)).heap.size = w.heap.size + 2
  simp
 have HOUT : Hid (∀ w1,Below (w.heap.size + 2) ((w.alloc (.cells #[.string x.name,.slice b1 x.ins.length c1,.slice b2 x.outs.length c2,.slice b3 x.vars.length c3,.slice b4 n4 c4] 45)).alloc (.cells #[.int .i64 code[l].op,.int .i64 code[l].val,.string code[l].name] 103)) w1 → Below w.heap.size w w1):=fun w1 h => (uh HA).trans (h.mono (by omega))
 have hBN : BlkAt ((w.alloc (.cells #[.string x.name,.slice b1 x.ins.length c1,.slice b2 x.outs.length c2,.slice b3 x.vars.length c3,.slice b4 n4 c4] 45)).alloc (.cells #[.int .i64 code[l].op,.int .i64 code[l].val,.string code[l].name] 103)) w.heap.size 45 #[.string x.name,.slice b1 x.ins.length c1,.slice b2 x.outs.length c2,.slice b3 x.vars.length c3,.slice b4 n4 c4]:=(blk_box w #[.string x.name,.slice b1 x.ins.length c1,.slice b2 x.outs.length c2,.slice b3 x.vars.length c3,.slice b4 n4 c4] 45).below ((Below.refl _ _).alloc (Nat.le_refl _) _) (by simp)
 have hBI : BlkAt ((w.alloc (.cells #[.string x.name,.slice b1 x.ins.length c1,.slice b2 x.outs.length c2,.slice b3 x.vars.length c3,.slice b4 n4 c4] 45)).alloc (.cells #[.int .i64 code[l].op,.int .i64 code[l].val,.string code[l].name] 103)) (w.heap.size + 1) 103 #[.int .i64 code[l].op,.int .i64 code[l].val,.string code[l].name]:=by
  have:=blk_box (w.alloc (.cells #[.string x.name,.slice b1 x.ins.length c1,.slice b2 x.outs.length c2,.slice b3 x.vars.length c3,.slice b4 n4 c4] 45)) #[.int .i64 code[l].op,.int .i64 code[l].val,.string code[l].name] 103
  rwa [show (w.alloc (.cells #[.string x.name,.slice b1 x.ins.length c1,.slice b2 x.outs.length c2,.slice b3 x.vars.length c3,.slice b4 n4 c4] 45)).heap.size = w.heap.size + 1 from by simp] at this
 have HBN : Hid (∀ w1,Below (w.heap.size + 2) ((w.alloc (.cells #[.string x.name,.slice b1 x.ins.length c1,.slice b2 x.outs.length c2,.slice b3 x.vars.length c3,.slice b4 n4 c4] 45)).alloc (.cells #[.int .i64 code[l].op,.int .i64 code[l].val,.string code[l].name] 103)) w1 → BlkAt w1 w.heap.size 45 #[.string x.name,.slice b1 x.ins.length c1,.slice b2 x.outs.length c2,.slice b3 x.vars.length c3,.slice b4 n4 c4]):=fun w1 h => hBN.below h (by omega)
 have HBI : Hid (∀ w1,Below (w.heap.size + 2) ((w.alloc (.cells #[.string x.name,.slice b1 x.ins.length c1,.slice b2 x.outs.length c2,.slice b3 x.vars.length c3,.slice b4 n4 c4] 45)).alloc (.cells #[.int .i64 code[l].op,.int .i64 code[l].val,.string code[l].name] 103)) w1 → BlkAt w1 (w.heap.size + 1) 103 #[.int .i64 code[l].op,.int .i64 code[l].val,.string code[l].name]):=fun w1 h => hBI.below h (by omega)
 have HIH : Hid (∀ (m b0 : Nat) (k : Int),m < l + 1 → Fd (tyItem (allV x)) code b0 m [k] → ∀ w1,Below (w.heap.size + 2) ((w.alloc (.cells #[.string x.name,.slice b1 x.ins.length c1,.slice b2 x.outs.length c2,.slice b3 x.vars.length c3,.slice b4 n4 c4] 45)).alloc (.cells #[.int .i64 code[l].op,.int .i64 code[l].val,.string code[l].name] 103)) w1 → Calls Tryz.prog 48 #[.agg #[.string x.name,.slice b1 x.ins.length c1,.slice b2 x.outs.length c2,.slice b3 x.vars.length c3,.slice b4 n4 c4],.slice (some ⟨bb,oo,none⟩) code.length cap,.int .i64 (m : Int)] w1 (Ans (.int .i64 k) w1)) :=
  fun m b0 k h1 h2 w1 h3 => ih m h1 b0 k h2 w1 ((uh HNI).stays (uh HOUT w1 h3)) ((uh HV).stays RItem_kept (uh HOUT w1 h3))
 have HBG : Hid (∀ (m m1 : Nat) (k : Int),m ≤ l → Fd (tyItem (allV x)) code m1 m [k] → ∀ w1,Below (w.heap.size + 2) ((w.alloc (.cells #[.string x.name,.slice b1 x.ins.length c1,.slice b2 x.outs.length c2,.slice b3 x.vars.length c3,.slice b4 n4 c4] 45)).alloc (.cells #[.int .i64 code[l].op,.int .i64 code[l].val,.string code[l].name] 103)) w1 → Calls Tryz.prog 75 #[.slice (some ⟨bb,oo,none⟩) code.length cap,.int .i64 (m : Int)] w1 fun e w' => e = .returned (.int .i64 (m1 : Int)) ∧ w' = w1):=by
  intro m m1 k h1 h2 w1 h3
  have:=l1Begin_at code m (by omega) _ w1 ((uh HV).stays RItem_kept (uh HOUT w1 h3))
  rw [fd_bg har h2 (by omega)] at this
  exact this
 have HAR : Hid (∀ w1,Calls Tryz.prog 77 #[.int .i64 code[l].op] w1 fun e w' => e = .returned (.int .i64 (us.length : Int)) ∧ w' = w1):=by
  intro w1
  have h1:=l1Arity_ok code[l].op w1 (by unfold I64; omega)
  have h2:=oc_ar _ (har _ (List.getElem_mem hlt))
  have h3:=har _ (List.getElem_mem hlt)
  have h4 : (us.length : Int) = arI code[l].op:=by rw [hul]; unfold arF; rw [h2]; omega
  rw [h4]
  exact h1
 have hu3 : us.length ≤ 3:=by rw [hul]; unfold arF; have:=ocI_bd code[l].op; omega
 have HUS:=hide hus
 have HUL:=hide hul
 have HTY : Hid (ty = if lookI (allV x) code[l].name < 0 then 0 else if (lookV (allV x) code[l].name).type = 2 then tyRest code[l].op us else 0):=by
  show ty = if lookI (allV x) code[l].name < 0 then 0 else if (lookV (allV x) code[l].name).type = 2 then tyRest code[l].op us else 0
  rw [hty]
  unfold tyItem
  rw [if_neg hnn,if_neg (show ¬ code[l].op = 3 by omega)]
 have e4:=empty_no code[l].name hnn
 have e4':=isEmpty_no code[l].name hnn
 have HC:=hide (l2Var_ok x _ _ _ _ code[l].name ((w.alloc (.cells #[.string x.name,.slice b1 x.ins.length c1,.slice b2 x.outs.length c2,.slice b3 x.vars.length c3,.slice b4 n4 c4] 45)).alloc (.cells #[.int .i64 code[l].op,.int .i64 code[l].val,.string code[l].name] 103)) (hni.stays hA).ins (hni.stays hA).outs (hni.stays hA).vars ⟨b4,n4,c4,rfl⟩ hsum)
 unfold VarOut at HC
 have HULO:=hide hul
 clear hx hc hcs hus hul hty hin hir hi0 hit hfd hv hni hA hBN hBI hsn hvl hop hnn har ih
 generalize lookI (allV x) code[l].name = li at *
 generalize lookV (allV x) code[l].name = lv at *
 generalize code[l].name = nm at *
 generalize code[l].val = vl at *
 generalize code[l].op = op at *
 subst h23
 go_enter Tryz.func48,Tryz.ntmps48
 go_wp2_with fail
 refine (uh HC).mono ?_
 rintro e w1 ⟨cl,rfl,hcl,hb1⟩
 obtain ⟨ac,cc,rfl⟩:=hcl.shape
 have hb1' : Below (w.heap.size + 2) ((w.alloc (.cells #[.string x.name,.slice b1 x.ins.length c1,.slice b2 x.outs.length c2,.slice b3 x.vars.length c3,.slice b4 n4 c4] 45)).alloc (.cells #[.int .i64 23,.int .i64 vl,.string nm] 103)) w1:=by rw [← uh HAz]; exact hb1
 have hs1 : w.heap.size + 2 ≤ w1.heap.size:=by have:=hb1.size; rw [uh HAz] at this; exact this
 have hb2 : Below (w.heap.size + 2) ((w.alloc (.cells #[.string x.name,.slice b1 x.ins.length c1,.slice b2 x.outs.length c2,.slice b3 x.vars.length c3,.slice b4 n4 c4] 45)).alloc (.cells #[.int .i64 23,.int .i64 vl,.string nm] 103)) (w1.alloc (.cells #[.string lv.name,.int .i64 lv.type,.slice ac lv.clock.length cc] 63)):=hb1'.alloc hs1 _
 have HF:=hide (uh HOUT _ hb2)
 have r0:=(uh HBI _ hb2).cell (i:=0) (v:=.int .i64 23) rfl
 have HB2 : Hid (Below (w.heap.size + 2) ((w.alloc (.cells #[.string x.name,.slice b1 x.ins.length c1,.slice b2 x.outs.length c2,.slice b3 x.vars.length c3,.slice b4 n4 c4] 45)).alloc (.cells #[.int .i64 23,.int .i64 vl,.string nm] 103)) ((w1.alloc (.cells #[.string lv.name,.int .i64 lv.type,.slice ac lv.clock.length cc] 63)).alloc (.cells #[] 3))):=hb2.alloc (by simp; omega) _
 have HO2 : Hid (OwnV elInt ((w1.alloc (.cells #[.string lv.name,.int .i64 lv.type,.slice ac lv.clock.length cc] 63)).alloc (.cells #[] 3)) (w.heap.size + 2) (.slice (some ⟨w1.heap.size + 1,0,none⟩) 0 0) []):=by
  have:=OwnV.start (E:=elInt) (w1.alloc (.cells #[.string lv.name,.int .i64 lv.type,.slice ac lv.clock.length cc] 63)) (w.heap.size + 2) (by simp; omega)
  rw [show (w1.alloc (.cells #[.string lv.name,.int .i64 lv.type,.slice ac lv.clock.length cc] 63)).heap.size = w1.heap.size + 1 from by simp] at this
  exact this
 clear hb1 hb1' hb2 hcl HC
 by_cases hneg : li < 0
 ·rw [if_pos hneg] at HTY
  have d1 : decide (li < 0) = true:=by simpa using hneg
  go_wp2
  go_ret
  exact ⟨by rw [uh HTY]; rfl,uh HF⟩
 rw [if_neg hneg] at HTY
 have d1 : decide (li < 0) = false:=by simpa using hneg
 clear hneg
 by_cases ht2 : lv.type = 2
 case neg =>
  rw [if_neg ht2] at HTY
  have d2 : (lv.type != 2) = true:=by simpa using ht2
  clear ht2
  go_wp2
  go_ret
  exact ⟨by rw [uh HTY]; rfl,uh HF⟩
 rw [if_pos ht2] at HTY
 have d2 : (lv.type != 2) = false:=by simp [ht2]
 clear ht2
 go_wp2
 go_loopg [8,11,12] us.length (fun gh la kv kk wr => ∃ (j m g cap2 : Nat) (u1 u2 : List Int),j ≤ us.length ∧ gh = us.length - j ∧ kk = .int .i64 j ∧ la = .int .i64 m ∧ kv = .slice (some ⟨g,0,none⟩) u2.length cap2 ∧ us = u1 ++ u2 ∧ u2.length = j ∧ Fd (tyItem (allV x)) code b m u1 ∧ m ≤ l ∧
  OwnV elInt wr (w.heap.size + 2) (.slice (some ⟨g,0,none⟩) u2.length cap2) u2 ∧ Below (w.heap.size + 2) ((w.alloc (.cells #[.string x.name,.slice b1 x.ins.length c1,.slice b2 x.outs.length c2,.slice b3 x.vars.length c3,.slice b4 n4 c4] 45)).alloc (.cells #[.int .i64 23,.int .i64 vl,.string nm] 103)) wr)
 case atStart => exact ⟨0,l,_,0,us,[],Nat.zero_le _,by omega,rfl,rfl,rfl,by simp,rfl,uh HUS,Nat.le_refl _,uh HO2,uh HB2⟩
 case round =>
  obtain ⟨j,m,g,cap2,u1,u2,hj,hgj,rfl,rfl,rfl,hsp,hu2,hfu,hml,hown,hbl⟩:=hrel
  rename World => wN
  have HGJ:=hide hgj
  have HSP:=hide hsp
  have HFU:=hide hfu
  have HOW:=hide hown
  have HBL:=hide hbl
  have hNs : w.heap.size + 2 ≤ wN.heap.size:=by have:=hbl.size; rw [uh HAz] at this; exact this
  have hul1 : u1.length + j = us.length:=by rw [hsp,List.length_append,hu2]
  have hu3' : u2.length ≤ 3:=by omega
  have hbi:=uh HBI wN hbl
  have r0:=hbi.cell (i:=0) (v:=.int .i64 23) rfl
  have HU2:=hide hu2
  clear hgj hsp hfu hown hbi hu2
  by_cases hjn : j < us.length
  ·obtain ⟨m1,v1,v2,e1,hv2,d1,d2⟩:=(uh HFU).split 1 (by omega)
   match v2,hv2 with
   | [k0],_ =>
    have hbn:=uh HBN wN hbl
    have n0:=hbn.cell (i:=0) (v:=.string x.name) rfl
    have n1:=hbn.cell (i:=1) (v:=.slice b1 x.ins.length c1) rfl
    have n2:=hbn.cell (i:=2) (v:=.slice b2 x.outs.length c2) rfl
    have n3:=hbn.cell (i:=3) (v:=.slice b3 x.vars.length c3) rfl
    have n4':=hbn.cell (i:=4) (v:=.slice b4 n4 c4) rfl
    have HC1:=hide (uh HIH m m1 k0 (by omega) d2 wN hbl)
    have HC2:=hide (uh HBG m m1 k0 hml d2)
    have HD1:=hide d1
    have hm1:=d2.le
    have HE1 : Hid (us = v1 ++ (k0 :: u2)):=by
     show us = v1 ++ (k0 :: u2)
     rw [uh HSP,e1,List.append_assoc]
     rfl
    clear e1 d1 d2 hbn hbl
    go_wp2_with fail
    refine (uh HAR _).mono ?_
    rintro e w9 ⟨rfl,h9⟩
    obtain rfl:=h9.symm
    go_wp2_with fail
    refine (uh HC1).mono ?_
    rintro e w3 ⟨rfl,hb3⟩
    have HB3 : Hid (Below (w.heap.size + 2) ((w.alloc (.cells #[.string x.name,.slice b1 x.ins.length c1,.slice b2 x.outs.length c2,.slice b3 x.vars.length c3,.slice b4 n4 c4] 45)).alloc (.cells #[.int .i64 23,.int .i64 vl,.string nm] 103)) w3):=(uh HBL).trans (hb3.mono hNs)
    have h3s : wN.heap.size ≤ w3.heap.size:=hb3.size
    have hal : Below w3.heap.size w3 (w3.alloc (.cells #[.int .i64 k0] 3)):=(Below.refl _ _).alloc (Nat.le_refl _) _
    have HB4 : Hid (Below (w.heap.size + 2) ((w.alloc (.cells #[.string x.name,.slice b1 x.ins.length c1,.slice b2 x.outs.length c2,.slice b3 x.vars.length c3,.slice b4 n4 c4] 45)).alloc (.cells #[.int .i64 23,.int .i64 vl,.string nm] 103)) (w3.alloc (.cells #[.int .i64 k0] 3))):=(uh HB3).trans (hal.mono (by omega))
    have HSL:=hide ((((uh HOW).below hb3).below hal).flat (by simp [elInt]; omega))
    have HO3 : Hid (OwnV elInt (w3.alloc (.cells #[.int .i64 k0] 3)) (w.heap.size + 2) (.slice (some ⟨w3.heap.size,0,none⟩) 1 1) [k0]):=OwnV.one w3 (w.heap.size + 2) (by omega) k0
    clear hb3 hal HC1
    go_wp2_with (at_builtin; go_must (refine wpList_append_allF elInt (RFl_f elInt) _ rfl _ _ rfl (w.heap.size + 2) w3.heap.size 1 [k0] rfl (uh HO3) _ rfl u2 (uh HSL) (by simp [elInt]; omega) (by simp; omega) ?_))
    intro g5 cap5 w5 hown5 hgr5
    have hlk : 1 + u2.length = (k0 :: u2).length:=by simp [Nat.add_comm]
    rw [hlk] at hown5 ⊢
    clear hlk
    have hb5:=(uh HO3).grown (uh HB4) hgr5 (by simp; omega) (Nat.le_refl _)
    have HB5:=hide hb5
    have HO5:=hide hown5
    have HC3:=hide (uh HC2 w5 hb5)
    clear hown5 hgr5 hb5 HC2
    go_wp2_with fail
    refine (uh HC3).mono ?_
    rintro e w6 ⟨rfl,h9⟩
    obtain rfl:=h9.symm
    go_wp2
    go_roundg (us.length - (j + 1))
    case measure => have:=uh HGJ; omega
    case rel => exact ⟨j + 1,m1,g5,cap5,v1,k0 :: u2,by omega,rfl,by go_num,rfl,rfl,uh HE1,by rw [List.length_cons,uh HU2],uh HD1,by omega,uh HO5,uh HB5⟩
  ·have e0 : u1 = []:=List.eq_nil_of_length_eq_zero (by omega)
   subst e0
   have eus : us = u2:=uh HSP
   have hju : j = us.length:=by omega
   subst hju
   subst eus
   have hcap:=(uh HOW).shape
   have HFIN:=hide (uh HOUT wN hbl)
   have HCK0 : Hid (∀ i (hi : i < us.length),wN.cell? ⟨g,i,none⟩ = some (.int .i64 us[i])):=fun i hi => (uh HOW).icell i hi
   clear HSP HFU hbl HGJ hcap HU2 hul1
   go_wp2_with fail
   refine (uh HAR _).mono ?_
   rintro e w9 ⟨rfl,h9⟩
   obtain rfl:=h9.symm
   go_wp2
   go_loopg [73] us.length (fun gh i wr => ∃ (k : Nat),k ≤ us.length ∧ gh = us.length - k ∧ i = .int .i64 k ∧ wr = wN ∧ ∀ i (hi : i < us.length),i < k → us[i] ≠ 0)
   case atStart => exact ⟨0,Nat.zero_le _,by omega,rfl,rfl,fun i _ h => absurd h (Nat.not_lt_zero _)⟩
   case round =>
    obtain ⟨k,hk,hg,rfl,hwr,hall⟩:=hrel
    obtain rfl:=hwr.symm
    have HG:=hide hg
    have HALL:=hide hall
    clear hg hall
    by_cases hltk : k < us.length
    ·have ck:=uh HCK0 k hltk
     by_cases hkz : us[k] = 0
     ·have HR : Hid (ty = 0):=by
       show ty = 0
       rw [uh HTY]
       exact tyRest_no k hltk hkz
      rw [hkz] at ck
      clear hkz
      go_wp2
      go_ret
      exact ⟨by rw [uh HR]; rfl,uh HFIN⟩
     ·have HALL2 : Hid (∀ i (hi : i < us.length),i < k + 1 → us[i] ≠ 0):=fun i hi hik => by
       by_cases e : i = k
       ·subst e; exact hkz
       ·exact uh HALL i hi (by omega)
      have hbz : (us[k] == 0) = false:=by simpa using hkz
      generalize us[k] = kk at *
      go_wp2
      go_roundg (us.length - (k + 1))
      case measure => have:=uh HG; omega
      case rel => exact ⟨k + 1,by omega,rfl,by go_num,rfl,uh HALL2⟩
    ·have e : k = us.length:=by omega
     have HNZ:=hide (ks_ok (fun i hi => uh HALL i hi (by omega)))
     subst e
     clear HALL HG
     have hl2 : us.length = 1:=by rw [uh HULO]; decide
     have hpos : 0 < us.length:=by omega
     have hh : us.headD 0 = us[0]:=by
      cases us with
      | nil => simp at hpos
      | cons k ks => rfl
     have HTY:=hide ((uh HTY).trans (show tyRest 23 us = tyAll us[0] us[0] us by unfold tyRest; rw [if_neg (by rw [uh HNZ]; decide),hh]; simp))
     have HCK:=HCK0
     have ck0:=uh HCK0 0 hpos
     generalize us[0] = k0 at *
     clear hl2 hh
     go_wp2
     go_loopg [161] us.length (fun gh i wr => ∃ (k : Nat),k ≤ us.length ∧ gh = us.length - k ∧ i = .int .i64 k ∧ wr = wN ∧ ∀ i (hi : i < us.length),i < k → us[i] = k0)
     case atStart => exact ⟨0,Nat.zero_le _,by omega,rfl,rfl,fun i _ h => absurd h (Nat.not_lt_zero _)⟩
     case round =>
      obtain ⟨k,hk,hg,rfl,hwr,hall⟩:=hrel
      obtain rfl:=hwr.symm
      have HG:=hide hg
      have HALL:=hide hall
      clear hg hall
      by_cases hltk : k < us.length
      ·have ck:=uh HCK k hltk
       by_cases hkw : us[k] = k0
       ·have HALL2 : Hid (∀ i (hi : i < us.length),i < k + 1 → us[i] = k0):=fun i hi hik => by
         by_cases e : i = k
         ·subst e; exact hkw
         ·exact uh HALL i hi (by omega)
        rw [hkw] at ck
        clear hkw
        go_wp2
        go_roundg (us.length - (k + 1))
        case measure => have:=uh HG; omega
        case rel => exact ⟨k + 1,by omega,rfl,by go_num,rfl,uh HALL2⟩
       ·have HR : Hid (ty = 0):=by
         show ty = 0
         rw [uh HTY]
         exact tyAll_no k hltk hkw
        have hbk : (us[k] != k0) = true:=by simpa using hkw
        generalize us[k] = kk at *
        go_wp2
        go_ret
        exact ⟨by rw [uh HR]; rfl,uh HFIN⟩
      ·have e : k = us.length:=by omega
       subst e
       have HR : Hid (ty = k0):=by
        show ty = k0
        rw [uh HTY]
        exact tyAll_yes (fun i hi => uh HALL i hi hi)
       go_wp2
       go_ret
       exact ⟨by rw [uh HR]; rfl,uh HFIN⟩
set_option maxRecDepth 20000 in
set_option maxHeartbeats 16000000 in
theorem l2Type_named24 (x : DNode) (b1 b2 b3 b4 : Option Addr) (c1 c2 c3 n4 c4 : Nat) (hsum : x.ins.length + x.outs.length + x.vars.length ≤ 1048576) (code : List DItem) (v : Value) (hit : ∀ t,t ∈ code → itB t = true) (hl : code.length ≤ 3000) (l b : Nat) (ty : Int)
  (hfd : Fd (tyItem (allV x)) code b (l + 1) [ty]) (w : World) (hni : NIn x b1 b2 b3 c1 c2 c3 w) (hv : SlAt 3 32 RItem 0 w v code) (hlt0 : l < code.length) (hnn : ¬ code[l].name.size = 0) (h24 : code[l].op = 24)
  (ih : ∀ m,m < l + 1 → ∀ (b0 : Nat) (k : Int),Fd (tyItem (allV x)) code b0 m [k] → ∀ w1,NIn x b1 b2 b3 c1 c2 c3 w1 → SlAt 3 32 RItem 0 w1 v code → Calls Tryz.prog 48 #[.agg #[.string x.name,.slice b1 x.ins.length c1,.slice b2 x.outs.length c2,.slice b3 x.vars.length c3,.slice b4 n4 c4],v,.int .i64 (m : Int)] w1 (Ans (.int .i64 k) w1)) :
  Calls Tryz.prog 48 #[.agg #[.string x.name,.slice b1 x.ins.length c1,.slice b2 x.outs.length c2,.slice b3 x.vars.length c3,.slice b4 n4 c4],v,.int .i64 ((l : Int) + 1)] w (Ans (.int .i64 ty) w):=by
 have har : ∀ t,t ∈ code → 0 ≤ arI t.op:=fun t ht => (ar_iff t.op).2 (by have:=((it_iff t).1 (hit t ht)).1; omega)
 obtain ⟨hlt,us,hus,hul,hty⟩:=hfd.last
 obtain ⟨hi0,hir,hin⟩:=(it_iff code[l]).1 (hit _ (List.getElem_mem hlt))
 have HV:=hide hv
 have HNI:=hide hni
 have hx:=hv
 obtain ⟨a,cap,rfl,_,hn,hx⟩:=hx
 unfold Len at hn
 obtain ⟨bb,oo,cs,rfl,_,hbb,hcs,hc,hR⟩:=hx l hlt
 obtain ⟨rfl,hsn,hop,hvl⟩:=hR
 have q0:=hc 0 (by simp)
 have q1:=hc 1 (by simp)
 have q2:=hc 2 (by simp)
 simp only [Nat.mul_one,Nat.add_zero,List.getElem_cons_zero,List.getElem_cons_succ] at q0 q1 q2
 have hA : Below w.heap.size w ((w.alloc (.cells #[.string x.name,.slice b1 x.ins.length c1,.slice b2 x.outs.length c2,.slice b3 x.vars.length c3,.slice b4 n4 c4] 45)).alloc (.cells #[.int .i64 code[l].op,.int .i64 code[l].val,.string code[l].name] 103)):=((Below.refl _ _).alloc (Nat.le_refl _) _).alloc (by simp) _
 have HA:=hide hA
 have HAz : Hid (((w.alloc (.cells #[.string x.name,.slice b1 x.ins.length c1,.slice b2 x.outs.length c2,.slice b3 x.vars.length c3,.slice b4 n4 c4] 45)).alloc (.cells #[.int .i64 code[l].op,.int .i64 code[l].val,.string code[l].name] 103)).heap.size = w.heap.size + 2):=by
  show ((w.alloc (.cells #[.string x.name,.slice b1 x.ins.length c1,.slice b2 x.outs.length c2,.slice b3 x.vars.length c3,.slice b4 n4 c4] 45)).alloc (.cells #[.int .i64 code[l].op,.int .i64 code[l].val,.string code[l].name] 103)).heap.size = w.heap.size + 2
  simp
 have HOUT : Hid (∀ w1,Below (w.heap.size + 2) ((w.alloc (.cells #[.string x.name,.slice b1 x.ins.length c1,.slice b2 x.outs.length c2,.slice b3 x.vars.length c3,.slice b4 n4 c4] 45)).alloc (.cells #[.int .i64 code[l].op,.int .i64 code[l].val,.string code[l].name] 103)) w1 → Below w.heap.size w w1):=fun w1 h => (uh HA).trans (h.mono (by omega))
 have hBN : BlkAt ((w.alloc (.cells #[.string x.name,.slice b1 x.ins.length c1,.slice b2 x.outs.length c2,.slice b3 x.vars.length c3,.slice b4 n4 c4] 45)).alloc (.cells #[.int .i64 code[l].op,.int .i64 code[l].val,.string code[l].name] 103)) w.heap.size 45 #[.string x.name,.slice b1 x.ins.length c1,.slice b2 x.outs.length c2,.slice b3 x.vars.length c3,.slice b4 n4 c4]:=(blk_box w #[.string x.name,.slice b1 x.ins.length c1,.slice b2 x.outs.length c2,.slice b3 x.vars.length c3,.slice b4 n4 c4] 45).below ((Below.refl _ _).alloc (Nat.le_refl _) _) (by simp)
 have hBI : BlkAt ((w.alloc (.cells #[.string x.name,.slice b1 x.ins.length c1,.slice b2 x.outs.length c2,.slice b3 x.vars.length c3,.slice b4 n4 c4] 45)).alloc (.cells #[.int .i64 code[l].op,.int .i64 code[l].val,.string code[l].name] 103)) (w.heap.size + 1) 103 #[.int .i64 code[l].op,.int .i64 code[l].val,.string code[l].name]:=by
  have:=blk_box (w.alloc (.cells #[.string x.name,.slice b1 x.ins.length c1,.slice b2 x.outs.length c2,.slice b3 x.vars.length c3,.slice b4 n4 c4] 45)) #[.int .i64 code[l].op,.int .i64 code[l].val,.string code[l].name] 103
  rwa [show (w.alloc (.cells #[.string x.name,.slice b1 x.ins.length c1,.slice b2 x.outs.length c2,.slice b3 x.vars.length c3,.slice b4 n4 c4] 45)).heap.size = w.heap.size + 1 from by simp] at this
 have HBN : Hid (∀ w1,Below (w.heap.size + 2) ((w.alloc (.cells #[.string x.name,.slice b1 x.ins.length c1,.slice b2 x.outs.length c2,.slice b3 x.vars.length c3,.slice b4 n4 c4] 45)).alloc (.cells #[.int .i64 code[l].op,.int .i64 code[l].val,.string code[l].name] 103)) w1 → BlkAt w1 w.heap.size 45 #[.string x.name,.slice b1 x.ins.length c1,.slice b2 x.outs.length c2,.slice b3 x.vars.length c3,.slice b4 n4 c4]):=fun w1 h => hBN.below h (by omega)
 have HBI : Hid (∀ w1,Below (w.heap.size + 2) ((w.alloc (.cells #[.string x.name,.slice b1 x.ins.length c1,.slice b2 x.outs.length c2,.slice b3 x.vars.length c3,.slice b4 n4 c4] 45)).alloc (.cells #[.int .i64 code[l].op,.int .i64 code[l].val,.string code[l].name] 103)) w1 → BlkAt w1 (w.heap.size + 1) 103 #[.int .i64 code[l].op,.int .i64 code[l].val,.string code[l].name]):=fun w1 h => hBI.below h (by omega)
 have HIH : Hid (∀ (m b0 : Nat) (k : Int),m < l + 1 → Fd (tyItem (allV x)) code b0 m [k] → ∀ w1,Below (w.heap.size + 2) ((w.alloc (.cells #[.string x.name,.slice b1 x.ins.length c1,.slice b2 x.outs.length c2,.slice b3 x.vars.length c3,.slice b4 n4 c4] 45)).alloc (.cells #[.int .i64 code[l].op,.int .i64 code[l].val,.string code[l].name] 103)) w1 → Calls Tryz.prog 48 #[.agg #[.string x.name,.slice b1 x.ins.length c1,.slice b2 x.outs.length c2,.slice b3 x.vars.length c3,.slice b4 n4 c4],.slice (some ⟨bb,oo,none⟩) code.length cap,.int .i64 (m : Int)] w1 (Ans (.int .i64 k) w1)) :=
  fun m b0 k h1 h2 w1 h3 => ih m h1 b0 k h2 w1 ((uh HNI).stays (uh HOUT w1 h3)) ((uh HV).stays RItem_kept (uh HOUT w1 h3))
 have HBG : Hid (∀ (m m1 : Nat) (k : Int),m ≤ l → Fd (tyItem (allV x)) code m1 m [k] → ∀ w1,Below (w.heap.size + 2) ((w.alloc (.cells #[.string x.name,.slice b1 x.ins.length c1,.slice b2 x.outs.length c2,.slice b3 x.vars.length c3,.slice b4 n4 c4] 45)).alloc (.cells #[.int .i64 code[l].op,.int .i64 code[l].val,.string code[l].name] 103)) w1 → Calls Tryz.prog 75 #[.slice (some ⟨bb,oo,none⟩) code.length cap,.int .i64 (m : Int)] w1 fun e w' => e = .returned (.int .i64 (m1 : Int)) ∧ w' = w1):=by
  intro m m1 k h1 h2 w1 h3
  have:=l1Begin_at code m (by omega) _ w1 ((uh HV).stays RItem_kept (uh HOUT w1 h3))
  rw [fd_bg har h2 (by omega)] at this
  exact this
 have HAR : Hid (∀ w1,Calls Tryz.prog 77 #[.int .i64 code[l].op] w1 fun e w' => e = .returned (.int .i64 (us.length : Int)) ∧ w' = w1):=by
  intro w1
  have h1:=l1Arity_ok code[l].op w1 (by unfold I64; omega)
  have h2:=oc_ar _ (har _ (List.getElem_mem hlt))
  have h3:=har _ (List.getElem_mem hlt)
  have h4 : (us.length : Int) = arI code[l].op:=by rw [hul]; unfold arF; rw [h2]; omega
  rw [h4]
  exact h1
 have hu3 : us.length ≤ 3:=by rw [hul]; unfold arF; have:=ocI_bd code[l].op; omega
 have HUS:=hide hus
 have HUL:=hide hul
 have HTY : Hid (ty = if lookI (allV x) code[l].name < 0 then 0 else if (lookV (allV x) code[l].name).type = 2 then tyRest code[l].op us else 0):=by
  show ty = if lookI (allV x) code[l].name < 0 then 0 else if (lookV (allV x) code[l].name).type = 2 then tyRest code[l].op us else 0
  rw [hty]
  unfold tyItem
  rw [if_neg hnn,if_neg (show ¬ code[l].op = 3 by omega)]
 have e4:=empty_no code[l].name hnn
 have e4':=isEmpty_no code[l].name hnn
 have HC:=hide (l2Var_ok x _ _ _ _ code[l].name ((w.alloc (.cells #[.string x.name,.slice b1 x.ins.length c1,.slice b2 x.outs.length c2,.slice b3 x.vars.length c3,.slice b4 n4 c4] 45)).alloc (.cells #[.int .i64 code[l].op,.int .i64 code[l].val,.string code[l].name] 103)) (hni.stays hA).ins (hni.stays hA).outs (hni.stays hA).vars ⟨b4,n4,c4,rfl⟩ hsum)
 unfold VarOut at HC
 have HULO:=hide hul
 clear hx hc hcs hus hul hty hin hir hi0 hit hfd hv hni hA hBN hBI hsn hvl hop hnn har ih
 generalize lookI (allV x) code[l].name = li at *
 generalize lookV (allV x) code[l].name = lv at *
 generalize code[l].name = nm at *
 generalize code[l].val = vl at *
 generalize code[l].op = op at *
 subst h24
 go_enter Tryz.func48,Tryz.ntmps48
 go_wp2_with fail
 refine (uh HC).mono ?_
 rintro e w1 ⟨cl,rfl,hcl,hb1⟩
 obtain ⟨ac,cc,rfl⟩:=hcl.shape
 have hb1' : Below (w.heap.size + 2) ((w.alloc (.cells #[.string x.name,.slice b1 x.ins.length c1,.slice b2 x.outs.length c2,.slice b3 x.vars.length c3,.slice b4 n4 c4] 45)).alloc (.cells #[.int .i64 24,.int .i64 vl,.string nm] 103)) w1:=by rw [← uh HAz]; exact hb1
 have hs1 : w.heap.size + 2 ≤ w1.heap.size:=by have:=hb1.size; rw [uh HAz] at this; exact this
 have hb2 : Below (w.heap.size + 2) ((w.alloc (.cells #[.string x.name,.slice b1 x.ins.length c1,.slice b2 x.outs.length c2,.slice b3 x.vars.length c3,.slice b4 n4 c4] 45)).alloc (.cells #[.int .i64 24,.int .i64 vl,.string nm] 103)) (w1.alloc (.cells #[.string lv.name,.int .i64 lv.type,.slice ac lv.clock.length cc] 63)):=hb1'.alloc hs1 _
 have HF:=hide (uh HOUT _ hb2)
 have r0:=(uh HBI _ hb2).cell (i:=0) (v:=.int .i64 24) rfl
 have HB2 : Hid (Below (w.heap.size + 2) ((w.alloc (.cells #[.string x.name,.slice b1 x.ins.length c1,.slice b2 x.outs.length c2,.slice b3 x.vars.length c3,.slice b4 n4 c4] 45)).alloc (.cells #[.int .i64 24,.int .i64 vl,.string nm] 103)) ((w1.alloc (.cells #[.string lv.name,.int .i64 lv.type,.slice ac lv.clock.length cc] 63)).alloc (.cells #[] 3))):=hb2.alloc (by simp; omega) _
 have HO2 : Hid (OwnV elInt ((w1.alloc (.cells #[.string lv.name,.int .i64 lv.type,.slice ac lv.clock.length cc] 63)).alloc (.cells #[] 3)) (w.heap.size + 2) (.slice (some ⟨w1.heap.size + 1,0,none⟩) 0 0) []):=by
  have:=OwnV.start (E:=elInt) (w1.alloc (.cells #[.string lv.name,.int .i64 lv.type,.slice ac lv.clock.length cc] 63)) (w.heap.size + 2) (by simp; omega)
  rw [show (w1.alloc (.cells #[.string lv.name,.int .i64 lv.type,.slice ac lv.clock.length cc] 63)).heap.size = w1.heap.size + 1 from by simp] at this
  exact this
 clear hb1 hb1' hb2 hcl HC
 by_cases hneg : li < 0
 ·rw [if_pos hneg] at HTY
  have d1 : decide (li < 0) = true:=by simpa using hneg
  go_wp2
  go_ret
  exact ⟨by rw [uh HTY]; rfl,uh HF⟩
 rw [if_neg hneg] at HTY
 have d1 : decide (li < 0) = false:=by simpa using hneg
 clear hneg
 by_cases ht2 : lv.type = 2
 case neg =>
  rw [if_neg ht2] at HTY
  have d2 : (lv.type != 2) = true:=by simpa using ht2
  clear ht2
  go_wp2
  go_ret
  exact ⟨by rw [uh HTY]; rfl,uh HF⟩
 rw [if_pos ht2] at HTY
 have d2 : (lv.type != 2) = false:=by simp [ht2]
 clear ht2
 go_wp2
 go_loopg [8,11,12] us.length (fun gh la kv kk wr => ∃ (j m g cap2 : Nat) (u1 u2 : List Int),j ≤ us.length ∧ gh = us.length - j ∧ kk = .int .i64 j ∧ la = .int .i64 m ∧ kv = .slice (some ⟨g,0,none⟩) u2.length cap2 ∧ us = u1 ++ u2 ∧ u2.length = j ∧ Fd (tyItem (allV x)) code b m u1 ∧ m ≤ l ∧
  OwnV elInt wr (w.heap.size + 2) (.slice (some ⟨g,0,none⟩) u2.length cap2) u2 ∧ Below (w.heap.size + 2) ((w.alloc (.cells #[.string x.name,.slice b1 x.ins.length c1,.slice b2 x.outs.length c2,.slice b3 x.vars.length c3,.slice b4 n4 c4] 45)).alloc (.cells #[.int .i64 24,.int .i64 vl,.string nm] 103)) wr)
 case atStart => exact ⟨0,l,_,0,us,[],Nat.zero_le _,by omega,rfl,rfl,rfl,by simp,rfl,uh HUS,Nat.le_refl _,uh HO2,uh HB2⟩
 case round =>
  obtain ⟨j,m,g,cap2,u1,u2,hj,hgj,rfl,rfl,rfl,hsp,hu2,hfu,hml,hown,hbl⟩:=hrel
  rename World => wN
  have HGJ:=hide hgj
  have HSP:=hide hsp
  have HFU:=hide hfu
  have HOW:=hide hown
  have HBL:=hide hbl
  have hNs : w.heap.size + 2 ≤ wN.heap.size:=by have:=hbl.size; rw [uh HAz] at this; exact this
  have hul1 : u1.length + j = us.length:=by rw [hsp,List.length_append,hu2]
  have hu3' : u2.length ≤ 3:=by omega
  have hbi:=uh HBI wN hbl
  have r0:=hbi.cell (i:=0) (v:=.int .i64 24) rfl
  have HU2:=hide hu2
  clear hgj hsp hfu hown hbi hu2
  by_cases hjn : j < us.length
  ·obtain ⟨m1,v1,v2,e1,hv2,d1,d2⟩:=(uh HFU).split 1 (by omega)
   match v2,hv2 with
   | [k0],_ =>
    have hbn:=uh HBN wN hbl
    have n0:=hbn.cell (i:=0) (v:=.string x.name) rfl
    have n1:=hbn.cell (i:=1) (v:=.slice b1 x.ins.length c1) rfl
    have n2:=hbn.cell (i:=2) (v:=.slice b2 x.outs.length c2) rfl
    have n3:=hbn.cell (i:=3) (v:=.slice b3 x.vars.length c3) rfl
    have n4':=hbn.cell (i:=4) (v:=.slice b4 n4 c4) rfl
    have HC1:=hide (uh HIH m m1 k0 (by omega) d2 wN hbl)
    have HC2:=hide (uh HBG m m1 k0 hml d2)
    have HD1:=hide d1
    have hm1:=d2.le
    have HE1 : Hid (us = v1 ++ (k0 :: u2)):=by
     show us = v1 ++ (k0 :: u2)
     rw [uh HSP,e1,List.append_assoc]
     rfl
    clear e1 d1 d2 hbn hbl
    go_wp2_with fail
    refine (uh HAR _).mono ?_
    rintro e w9 ⟨rfl,h9⟩
    obtain rfl:=h9.symm
    go_wp2_with fail
    refine (uh HC1).mono ?_
    rintro e w3 ⟨rfl,hb3⟩
    have HB3 : Hid (Below (w.heap.size + 2) ((w.alloc (.cells #[.string x.name,.slice b1 x.ins.length c1,.slice b2 x.outs.length c2,.slice b3 x.vars.length c3,.slice b4 n4 c4] 45)).alloc (.cells #[.int .i64 24,.int .i64 vl,.string nm] 103)) w3):=(uh HBL).trans (hb3.mono hNs)
    have h3s : wN.heap.size ≤ w3.heap.size:=hb3.size
    have hal : Below w3.heap.size w3 (w3.alloc (.cells #[.int .i64 k0] 3)):=(Below.refl _ _).alloc (Nat.le_refl _) _
    have HB4 : Hid (Below (w.heap.size + 2) ((w.alloc (.cells #[.string x.name,.slice b1 x.ins.length c1,.slice b2 x.outs.length c2,.slice b3 x.vars.length c3,.slice b4 n4 c4] 45)).alloc (.cells #[.int .i64 24,.int .i64 vl,.string nm] 103)) (w3.alloc (.cells #[.int .i64 k0] 3))):=(uh HB3).trans (hal.mono (by omega))
    have HSL:=hide ((((uh HOW).below hb3).below hal).flat (by simp [elInt]; omega))
    have HO3 : Hid (OwnV elInt (w3.alloc (.cells #[.int .i64 k0] 3)) (w.heap.size + 2) (.slice (some ⟨w3.heap.size,0,none⟩) 1 1) [k0]):=OwnV.one w3 (w.heap.size + 2) (by omega) k0
    clear hb3 hal HC1
    go_wp2_with (at_builtin; go_must (refine wpList_append_allF elInt (RFl_f elInt) _ rfl _ _ rfl (w.heap.size + 2) w3.heap.size 1 [k0] rfl (uh HO3) _ rfl u2 (uh HSL) (by simp [elInt]; omega) (by simp; omega) ?_))
    intro g5 cap5 w5 hown5 hgr5
    have hlk : 1 + u2.length = (k0 :: u2).length:=by simp [Nat.add_comm]
    rw [hlk] at hown5 ⊢
    clear hlk
    have hb5:=(uh HO3).grown (uh HB4) hgr5 (by simp; omega) (Nat.le_refl _)
    have HB5:=hide hb5
    have HO5:=hide hown5
    have HC3:=hide (uh HC2 w5 hb5)
    clear hown5 hgr5 hb5 HC2
    go_wp2_with fail
    refine (uh HC3).mono ?_
    rintro e w6 ⟨rfl,h9⟩
    obtain rfl:=h9.symm
    go_wp2
    go_roundg (us.length - (j + 1))
    case measure => have:=uh HGJ; omega
    case rel => exact ⟨j + 1,m1,g5,cap5,v1,k0 :: u2,by omega,rfl,by go_num,rfl,rfl,uh HE1,by rw [List.length_cons,uh HU2],uh HD1,by omega,uh HO5,uh HB5⟩
  ·have e0 : u1 = []:=List.eq_nil_of_length_eq_zero (by omega)
   subst e0
   have eus : us = u2:=uh HSP
   have hju : j = us.length:=by omega
   subst hju
   subst eus
   have hcap:=(uh HOW).shape
   have HFIN:=hide (uh HOUT wN hbl)
   have HCK0 : Hid (∀ i (hi : i < us.length),wN.cell? ⟨g,i,none⟩ = some (.int .i64 us[i])):=fun i hi => (uh HOW).icell i hi
   clear HSP HFU hbl HGJ hcap HU2 hul1
   go_wp2_with fail
   refine (uh HAR _).mono ?_
   rintro e w9 ⟨rfl,h9⟩
   obtain rfl:=h9.symm
   go_wp2
   go_loopg [73] us.length (fun gh i wr => ∃ (k : Nat),k ≤ us.length ∧ gh = us.length - k ∧ i = .int .i64 k ∧ wr = wN ∧ ∀ i (hi : i < us.length),i < k → us[i] ≠ 0)
   case atStart => exact ⟨0,Nat.zero_le _,by omega,rfl,rfl,fun i _ h => absurd h (Nat.not_lt_zero _)⟩
   case round =>
    obtain ⟨k,hk,hg,rfl,hwr,hall⟩:=hrel
    obtain rfl:=hwr.symm
    have HG:=hide hg
    have HALL:=hide hall
    clear hg hall
    by_cases hltk : k < us.length
    ·have ck:=uh HCK0 k hltk
     by_cases hkz : us[k] = 0
     ·have HR : Hid (ty = 0):=by
       show ty = 0
       rw [uh HTY]
       exact tyRest_no k hltk hkz
      rw [hkz] at ck
      clear hkz
      go_wp2
      go_ret
      exact ⟨by rw [uh HR]; rfl,uh HFIN⟩
     ·have HALL2 : Hid (∀ i (hi : i < us.length),i < k + 1 → us[i] ≠ 0):=fun i hi hik => by
       by_cases e : i = k
       ·subst e; exact hkz
       ·exact uh HALL i hi (by omega)
      have hbz : (us[k] == 0) = false:=by simpa using hkz
      generalize us[k] = kk at *
      go_wp2
      go_roundg (us.length - (k + 1))
      case measure => have:=uh HG; omega
      case rel => exact ⟨k + 1,by omega,rfl,by go_num,rfl,uh HALL2⟩
    ·have e : k = us.length:=by omega
     have HNZ:=hide (ks_ok (fun i hi => uh HALL i hi (by omega)))
     subst e
     clear HALL HG
     have hl2 : us.length = 2:=by rw [uh HULO]; decide
     have hpos : 0 < us.length:=by omega
     have hh : us.headD 0 = us[0]:=by
      cases us with
      | nil => simp at hpos
      | cons k ks => rfl
     have HTY:=hide ((uh HTY).trans (show tyRest 24 us = tyAll us[0] us[0] us by unfold tyRest; rw [if_neg (by rw [uh HNZ]; decide),hh]; simp))
     have HCK:=HCK0
     have ck0:=uh HCK0 0 hpos
     generalize us[0] = k0 at *
     clear hl2 hh
     go_wp2
     go_loopg [161] us.length (fun gh i wr => ∃ (k : Nat),k ≤ us.length ∧ gh = us.length - k ∧ i = .int .i64 k ∧ wr = wN ∧ ∀ i (hi : i < us.length),i < k → us[i] = k0)
     case atStart => exact ⟨0,Nat.zero_le _,by omega,rfl,rfl,fun i _ h => absurd h (Nat.not_lt_zero _)⟩
     case round =>
      obtain ⟨k,hk,hg,rfl,hwr,hall⟩:=hrel
      obtain rfl:=hwr.symm
      have HG:=hide hg
      have HALL:=hide hall
      clear hg hall
      by_cases hltk : k < us.length
      ·have ck:=uh HCK k hltk
       by_cases hkw : us[k] = k0
       ·have HALL2 : Hid (∀ i (hi : i < us.length),i < k + 1 → us[i] = k0):=fun i hi hik => by
         by_cases e : i = k
         ·subst e; exact hkw
         ·exact uh HALL i hi (by omega)
        rw [hkw] at ck
        clear hkw
        go_wp2
        go_roundg (us.length - (k + 1))
        case measure => have:=uh HG; omega
        case rel => exact ⟨k + 1,by omega,rfl,by go_num,rfl,uh HALL2⟩
       ·have HR : Hid (ty = 0):=by
         show ty = 0
         rw [uh HTY]
         exact tyAll_no k hltk hkw
        have hbk : (us[k] != k0) = true:=by simpa using hkw
        generalize us[k] = kk at *
        go_wp2
        go_ret
        exact ⟨by rw [uh HR]; rfl,uh HFIN⟩
      ·have e : k = us.length:=by omega
       subst e
       have HR : Hid (ty = k0):=by
        show ty = k0
        rw [uh HTY]
        exact tyAll_yes (fun i hi => uh HALL i hi hi)
       go_wp2
       go_ret
       exact ⟨by rw [uh HR]; rfl,uh HFIN⟩
theorem l2Type_ok (x : DNode) (b1 b2 b3 b4 : Option Addr) (c1 c2 c3 n4 c4 : Nat) (hsum : x.ins.length + x.outs.length + x.vars.length ≤ 1048576) (code : List DItem) (v : Value) (hit : ∀ t,t ∈ code → itB t = true) (hl : code.length ≤ 3000) :
  ∀ (e b : Nat) (ty : Int),Fd (tyItem (allV x)) code b e [ty] → ∀ w,NIn x b1 b2 b3 c1 c2 c3 w → SlAt 3 32 RItem 0 w v code → Calls Tryz.prog 48 #[.agg #[.string x.name,.slice b1 x.ins.length c1,.slice b2 x.outs.length c2,.slice b3 x.vars.length c3,.slice b4 n4 c4],v,.int .i64 (e : Int)] w (Ans (.int .i64 ty) w):=by
 intro e
 induction e using Nat.strongRecOn with
 | _ e ih =>
  intro b ty hfd w hni hv
  obtain ⟨_,l,_,_,hlt,he,_⟩:=hfd.snoc_inv (n:=0) rfl
  subst he
  obtain ⟨hi0,hir,hin⟩:=(it_iff code[l]).1 (hit _ (List.getElem_mem hlt))
  have ec : ((l + 1 : Nat) : Int) = (l : Int) + 1:=by omega
  rw [ec]
  by_cases h3 : code[l].op = 3
  ·exact l2Type_var x b1 b2 b3 b4 c1 c2 c3 n4 c4 hsum code v hit l b ty hfd w hni hv hlt h3
  ·by_cases hne : code[l].name.size = 0
   ·exact l2Type_plain x b1 b2 b3 b4 c1 c2 c3 n4 c4 hsum code v hit hl l b ty hfd w hni hv hlt hne h3 (fun m hm b0 k hf w1 h1 h2 => ih m hm b0 k hf w1 h1 h2)
   ·have ho : code[l].op = 23 ∨ code[l].op = 24:=by
     by_cases hc : code[l].op = 3 ∨ code[l].op = 23 ∨ code[l].op = 24
     ·omega
     ·simp only [nmB,if_neg hc,decide_eq_true_iff] at hin
      exact absurd hin hne
    rcases ho with ho | ho
    ·exact l2Type_named23 x b1 b2 b3 b4 c1 c2 c3 n4 c4 hsum code v hit hl l b ty hfd w hni hv hlt hne ho (fun m hm b0 k hf w1 h1 h2 => ih m hm b0 k hf w1 h1 h2)
    ·exact l2Type_named24 x b1 b2 b3 b4 c1 c2 c3 n4 c4 hsum code v hit hl l b ty hfd w hni hv hlt hne ho (fun m hm b0 k hf w1 h1 h2 => ih m hm b0 k hf w1 h1 h2)
end Go.Proofs.YtfioeoihociilaaGreat
