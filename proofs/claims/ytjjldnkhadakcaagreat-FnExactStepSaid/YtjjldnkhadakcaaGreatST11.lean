import Derived.Test.YtjjldnkhadakcaaGreatMR1
import Derived.Test.YtjjldnkhadakcaaGreatST8
import Derived.Test.YtjjldnkhadakcaaGreatST7
import Derived.Test.YtjjldnkhadakcaaGreatST9
namespace Go.Proofs.YtjjldnkhadakcaaGreat
open Go.RowKit
set_option linter.unusedSimpArgs false
set_option linter.unusedVariables false
theorem walk_all (ks : List DClass) (hp : plansB ks = true) (mv : Value) (pb : Nat) (v0 v1 v2 v3 : Value) (ots ens : List (List Int)) (W : World) (hm : SlAt 7 160 RClass 0 W mv ks) (hpl : SPlan W pb ks v0 v1 v2 v3 ots ens) : ∀ n,WalkDoes ks mv pb n W
 | 0 => fun c k _ hc => absurd hc (Nat.not_lt_zero _)
 | n + 1 => walk_step ks hp n mv pb v0 v1 v2 v3 ots ens W hm hpl (fun cls k W rb kc ot en vv t i post x cost w sv hE hT hx hR hB => runList_ok ks n cls k W mv pb rb kc v0 v1 v2 v3 ots ens ot en hE vv t.flat.length t i post x cost w sv (Nat.le_refl _) hT hx hR hB) (walk_all ks hp mv pb v0 v1 v2 v3 ots ens W hm hpl n)
set_option maxHeartbeats 1000000 in
theorem l3Values_ok (xs : List Int) (v : Value) (w : World) (h : SlAt 1 8 RInt 0 w v xs) : Calls Tryz.prog 38 #[v] w (Ans (.bool (xs.all memB)) w):=by
 have hl:=h.lenI
 obtain ⟨a,cap,rfl,_,_,hx⟩:=h
 have HMX : Hid (∀ i (hi : i < xs.length),∃ b o,a = some ⟨b,o,none⟩ ∧ ∀ w',Below w.heap.size w w' → w'.cell? ⟨b,o + i,none⟩ = some (.int .i64 xs[i])):=fun i hi => by
  obtain ⟨b,o,cs,rfl,_,hb,_,hc,⟨rfl,_⟩⟩:=hx i hi
  refine ⟨b,o,rfl,fun w' h' => ?_⟩
  rw [h'.cell (p:=⟨b,_,none⟩) hb]
  have h0:=hc 0 (by simp)
  rw [Nat.mul_one,Nat.add_zero] at h0
  exact h0
 clear hx
 go_enter Tryz.func38,Tryz.ntmps38
 go_wp2
 go_loopg [7] xs.length (fun g iv wr => ∃ (i : Nat),i ≤ xs.length ∧ g = xs.length - i ∧ iv = .int .i64 i ∧ (∀ j (hj : j < xs.length),j < i → memB xs[j] = true) ∧ Below w.heap.size w wr)
 case atStart => exact ⟨0,Nat.zero_le _,by omega,rfl,fun j _ hj => absurd hj (Nat.not_lt_zero _),Below.refl _ _⟩
 case round =>
  obtain ⟨i,hi,hg,rfl,hno,hbx⟩:=hrel
  rename World => wt
  have HG:=hide hg
  have HNO:=hide hno
  have HBT:=hide hbx
  clear hg hno hbx
  by_cases hlt : i < xs.length
  ·obtain ⟨b,o,hbo,hcx⟩:=uh HMX i hlt
   have x0:=hcx _ (uh HBT)
   have HN : Hid (memB xs[i] = false → xs.all memB = false):=fun h => all_no i hlt h
   have HY : Hid (memB xs[i] = true → ∀ j (hj : j < xs.length),j < i + 1 → memB xs[j] = true):=fun h j hj hji => by
    by_cases e : j = i
    ·subst e; exact h
    ·exact uh HNO j hj (by omega)
   have HC1:=hide (l2Wrap_ok xs[i] wt)
   have HM : Hid (memB xs[i] = (xs[i] == IntKind.i32.wrap xs[i])):=rfl
   have hlt' : (i : Int) < (xs.length : Int):=by omega
   clear hcx
   generalize memB xs[i] = mb at *
   generalize xs[i] = mv at *
   generalize IntKind.i32.wrap mv = wv at *
   subst hbo
   by_cases hq : mv = wv
   ·have f9 : (mv != wv) = false:=by simp [hq]
    have HY2:=hide (uh HY ((uh HM).trans (by simp [hq])))
    clear HN HY HM hq
    go_wp2_with fail
    refine (uh HC1).mono ?_
    rintro e w9 ⟨rfl,h9⟩
    obtain rfl:=h9.symm
    clear h9
    go_wp2
    go_roundg (xs.length - (i + 1))
    case measure => have:=uh HG; omega
    case rel => exact ⟨i + 1,by omega,rfl,by go_num,uh HY2,uh HBT⟩
   ·have f9 : (mv != wv) = true:=by simp [hq]
    have HF:=hide (uh HN ((uh HM).trans (by simp [hq])))
    clear HN HY HM hq
    go_wp2_with fail
    refine (uh HC1).mono ?_
    rintro e w9 ⟨rfl,h9⟩
    obtain rfl:=h9.symm
    clear h9
    go_wp2
    go_ret
    exact ⟨ret_bl (uh HF).symm,uh HBT⟩
  ·have hn8 : decide ((i : Int) < (xs.length : Int)) = false:=decide_eq_false (by omega)
   have HR6 : Hid (xs.all memB = true):=all_yes (fun j hj => uh HNO j hj (by omega))
   clear HNO HG HMX
   go_wp2
   go_ret
   exact ⟨ret_bl (uh HR6).symm,uh HBT⟩
set_option maxHeartbeats 2000000 in
theorem l3Step_ok (ks : List DClass) (hp : plansB ks = true) (c : Nat) (k : DClass) (hk : ks[c]? = some k) (st ar : List Int) (mv sv av : Value) (w : World) (hm : SlAt 7 160 RClass 0 w mv ks) (hst : SlAt 1 8 RInt 0 w sv st) (har : SlAt 1 8 RInt 0 w av ar) (hsl : st.length = (fAt ks c).length) (hal : ar.length = k.ins.length) (hs32 : ∀ y,y ∈ st → Q32 y) (ha32 : ∀ y,y ∈ ar → Q32 y) :
  Calls Tryz.prog 39 #[.agg #[mv],.int .i64 c,sv,av] w (WkPost ks ks.length c st ar w):=by
 have hci:=(List.getElem?_eq_some_iff.1 hk).1
 have hA : Below w.heap.size w (w.alloc (.cells #[mv] 29)):=(Below.refl _ _).alloc (Nat.le_refl _) _
 have HC : Hid (∀ w',Below w.heap.size w w' → Calls Tryz.prog 61 #[.agg #[mv]] w' fun e w'' => ∃ pb v0 v1 v2 v3 ots ens,e = .returned (.pointer (some ⟨pb,0,none⟩)) ∧ SPlan w'' pb ks v0 v1 v2 v3 ots ens ∧ Below w'.heap.size w' w''):=fun w' h' => newPlan_ok ks hp mv w' (hm.stays RClass_kept h')
 have HW : Hid (∀ w2 pb v0 v1 v2 v3 ots ens,SPlan w2 pb ks v0 v1 v2 v3 ots ens → Below w.heap.size w w2 → Calls Tryz.prog 60 #[.agg #[mv],.pointer (some ⟨pb,0,none⟩),.int .i64 c,sv,av] w2 (WkPost ks ks.length c st ar w2)):=fun w2 pb v0 v1 v2 v3 ots ens hs hb =>
  walk_all ks hp mv pb v0 v1 v2 v3 ots ens w2 (hm.stays RClass_kept hb) hs ks.length c k hk hci st ar sv av w2 (Below.refl _ _) (hst.stays RInt_kept hb) (har.stays RInt_kept hb) hsl hal hs32 ha32
 obtain ⟨ma,mc,rfl⟩:=hm.shape
 have hml:=hm.lenI
 have HBX:=hide (blk_box w #[.slice ma ks.length mc] 29)
 have HZ : Hid ((w.alloc (.cells #[.slice ma ks.length mc] 29)).heap.size = w.heap.size + 1):=by refine hide ?_; simp
 have HSK : Hid (∀ w',Below (w.heap.size + 1) (w.alloc (.cells #[.slice ma ks.length mc] 29)) w' → w'.cell? ⟨w.heap.size,0,none⟩ = some (.slice ma ks.length mc)):=fun w' h' => ((uh HBX).below h' (Nat.lt_succ_self _)).cell (i:=0) rfl
 have k0:=uh HSK _ (Below.refl _ _)
 have HA:=hide hA
 clear hm hst har hsl hal hs32 ha32 hk hci hA
 go_enter Tryz.func39,Tryz.ntmps39
 go_wp2_with fail
 go_region_held3 (fun w' => w'.cell? ⟨w.heap.size,0,none⟩ = some (.slice ma ks.length mc)) (first | exact uh HSK _ (Below.refl _ _) | exact uh HSK _ (Below.refl _ _).drew | exact uh HSK _ (uh HB12) | exact uh HSK _ (uh HB13) | go_keep) (first | (go_at_call 61; refine (uh HC _ (uh HA).drew).mono ?_; rintro e w2 ⟨pb,v0,v1,v2,v3,ots,ens,rfl,hsp,hb2⟩; have hb12 : Below (w.heap.size + 1) (w.alloc (.cells #[.slice ma ks.length mc] 29)) w2:=(Below.refl _ _).drew.trans (hb2.mono (by have:=uh HZ; show w.heap.size + 1 ≤ _; exact Nat.le_of_eq this.symm)); have HB12:=hide hb12; have HB2:=hide ((uh HA).trans (hb12.mono (Nat.le_succ _))); have HC2:=hide (uh HW w2 pb v0 v1 v2 v3 ots ens hsp (uh HB2)); clear hsp hb2 hb12) | (go_at_call 60; refine (uh HC2).mono ?_; rintro e w3 ⟨rv,ov,rfl,h1,h2,h3⟩; have HB13:=hide ((uh HB12).trans (h3.mono (by have:=(uh HB12).size; have:=uh HZ; omega))); have HF : Hid (WkPost ks ks.length c st ar w (.returned (.tuple #[rv,ov,.int .i64 (IntKind.i64.wrap (walkR ks ks.length c st ar).2.2)])) w3):=⟨rv,ov,rfl,h1.lower RInt_lowers (uh HB2).size,h2.lower RInt_lowers (uh HB2).size,(uh HB2).trans (h3.mono (uh HB2).size)⟩; clear h1 h2 h3; generalize IntKind.i64.wrap (walkR ks ks.length c st ar).2.2 = cw at *))
 go_wp2
 go_ret3
 exact uh HF
def stepOK (ks : List DClass) (c : Int) (st ar : List Int) : Bool:=hasB ks c && (decide (st.length = (fAt ks c.toNat).length) && (decide (∃ k,ks[c.toNat]? = some k ∧ ar.length = k.ins.length) && (st.all memB && ar.all memB)))
def stepA (ks : List DClass) (c : Int) (st ar : List Int) : List Int × List Int × Int:=if stepOK ks c st ar = true then ((walkR ks ks.length c.toNat st ar).1,(walkR ks ks.length c.toNat st ar).2.1,IntKind.i64.wrap (walkR ks ks.length c.toNat st ar).2.2) else ([],[],-1)
def StepPost (r : List Int × List Int × Int) (w : World) (e : Ending) (w' : World) : Prop :=
 ∃ rv ov,e = .returned (.tuple #[rv,ov,.int .i64 r.2.2]) ∧ SlAt 1 8 RInt 0 w' rv r.1 ∧ SlAt 1 8 RInt 0 w' ov r.2.1 ∧ Below w.heap.size w w'
theorem stepA_no {ks : List DClass} {c : Int} {st ar : List Int} (h : stepOK ks c st ar = false) : stepA ks c st ar = ([],[],-1):=by
 unfold stepA
 rw [if_neg (by rw [h]; simp)]
theorem mem_q32 {x : Int} (h : memB x = true) : Q32 x:=by
 unfold memB at h
 have h1 : x = IntKind.i32.wrap x:=by simpa using h
 rw [IntKind.wrap_i32] at h1
 unfold Q32
 omega
set_option maxHeartbeats 2000000 in
theorem specStep_ok (ks : List DClass) (mv sv av : Value) (c : Int) (st ar : List Int) (w : World) (hm : SlAt 7 160 RClass 0 w mv ks) (hst : SlAt 1 8 RInt 0 w sv st) (har : SlAt 1 8 RInt 0 w av ar) (hs : VarsFew ks) (hc : I64 c) :
  Calls Tryz.prog 23 #[.agg #[mv],.int .i64 c,sv,av] w (StepPost (stepA ks c st ar) w):=by
 have hcl:=classDoes ks mv w hm hs
 obtain ⟨b0,c0,rfl⟩:=hm.shape
 obtain ⟨b1,c1,rfl⟩:=hst.shape
 obtain ⟨b2,c2,rfl⟩:=har.shape
 have hA : Below w.heap.size w (w.alloc (.cells #[.slice b0 ks.length c0] 29)):=(Below.refl _ _).alloc (Nat.le_refl _) _
 have HC:=hide (l3HasClass_of ks _ c _ (hm.stays RClass_kept hA) (hcl.later hA) hc)
 have HA:=hide hA
 have HV:=hide hm
 have HST:=hide hst
 have HAR:=hide har
 have HBK:=hide (blk_box w #[.slice b0 ks.length c0] 29)
 have HG : Hid (hasB ks c = true → plansB ks = true ∧ 0 ≤ c ∧ c < (ks.length : Int)):=fun h => plans_of_has ks c h
 have HNO : Hid (hasB ks c = false → stepA ks c st ar = ([],[],-1)):=fun h => stepA_no (by unfold stepOK; rw [h]; rfl)
 have HOK0 : Hid (stepOK ks c st ar = (hasB ks c && (decide (st.length = (fAt ks c.toNat).length) && (decide (∃ k,ks[c.toNat]? = some k ∧ ar.length = k.ins.length) && (st.all memB && ar.all memB))))):=rfl
 have hml:=hm.lenI
 have hstl:=hst.lenI
 have harl:=har.lenI
 clear hA hm hst har hcl hc hs
 generalize hasB ks c = hb at *
 cases hb
 ·rw [uh HNO rfl]
  go_enter Tryz.func23,Tryz.ntmps23
  go_wp2_with fail
  refine (uh HC).mono ?_
  rintro e w1 ⟨rfl,hb1⟩
  have HB:=hide ((uh HA).trans (hb1.mono (uh HA).size))
  clear hb1
  go_wp2
  go_ret3
  exact ⟨_,_,rfl,nil_ints _ _ _ _,nil_ints _ _ _ _,((uh HB).alloc (uh HB).size _).alloc (Nat.le_trans (uh HB).size (by simp)) _⟩
 obtain ⟨hpl,h0,hlt⟩:=uh HG rfl
 obtain ⟨n,rfl⟩:=Int.eq_ofNat_of_zero_le h0
 have hn : n < ks.length:=by omega
 rw [Int.toNat_natCast,Bool.true_and] at HOK0
 obtain ⟨k,hke⟩ : ∃ k,ks[n]? = some k:=⟨_,List.getElem?_eq_getElem hn⟩
 have hkx:=(List.getElem?_eq_some_iff.1 hke).2
 have HKE:=hide hke
 obtain ⟨_,_,hve,_,_,hx⟩:=uh HV
 simp only [Value.slice.injEq] at hve
 obtain ⟨rfl,_,rfl⟩:=hve
 obtain ⟨mb,mo,cs,rfl,_,hmb,hcl,hmc,hRC⟩:=hx n hn
 rw [hkx] at hRC
 obtain ⟨a1,a2,a3,a4,a5,a6,rfl,hnm,k1,k2,k3,k4,k5,k6⟩:=hRC
 obtain ⟨i1,n1,rfl⟩:=k1.shape
 have HCI : Hid (∀ w',Below w.heap.size w w' → w'.cell? ⟨mb,mo + n * 7 + 1,none⟩ = some (.slice i1 k.ins.length n1)):=fun w' h' => (h'.cell (p:=⟨mb,mo + n * 7 + 1,none⟩) hmb).trans (hmc 1 (by simp))
 have hkil:=k1.lenI
 clear hx hmc hcl k1 k2 k3 k4 k5 k6 hnm hkx
 have HCE : Hid (∀ w',Below w.heap.size w w' → Calls Tryz.prog 28 #[.agg #[.slice (some ⟨mb,mo,none⟩) ks.length c0]] w' (fun e w'' => ∃ v,e = .returned v ∧ SlAt 1 8 RInt 0 w'' v ((List.range ks.length).map (fun c => ((fAt ks c).length : Int))) ∧ Below w'.heap.size w' w'')):=fun w' h' => by
  have h9:=l3Cells_ok ks _ w' ((uh HV).stays RClass_kept h') (inst_ok ks hpl).1 (inst_ok ks hpl).2
  rw [cells_list ks hpl] at h9
  exact h9
 have HPL:=hide hpl
 have HN:=hide hn
 have hnI : (n : Int) < (ks.length : Int):=by omega
 clear HG HNO hpl h0 hlt hke hn hmb
 go_enter Tryz.func23,Tryz.ntmps23
 go_wp2_with fail
 refine (uh HC).mono ?_
 rintro e w1 ⟨rfl,hb1⟩
 have xb1:=(uh HBK).below hb1 (uh HBK).lt
 have q0:=xb1.cell (i:=0) (v:=.slice (some ⟨mb,mo,none⟩) ks.length c0) rfl
 have HXB1:=hide xb1
 clear xb1
 have hB:=(uh HA).trans (hb1.mono (uh HA).size)
 have HB:=hide hB
 have HC2:=hide (uh HCE _ hB)
 clear hb1 hB HC
 go_wp2_with fail
 refine (uh HC2).mono ?_
 rintro e w2 ⟨lv,rfl,hSL,hb2⟩
 have hB2:=(uh HB).trans (hb2.mono (uh HB).size)
 have xb2:=(uh HXB1).below hb2 (uh HXB1).lt
 have q02:=xb2.cell (i:=0) (v:=.slice (some ⟨mb,mo,none⟩) ks.length c0) rfl
 have HXB2:=hide xb2
 clear xb2
 have y1:=uh HCI _ hB2
 obtain ⟨la,lc,rfl,_,_,hx⟩:=hSL
 have hll : ((List.range ks.length).map (fun c => ((fAt ks c).length : Int))).length = ks.length:=by simp
 obtain ⟨lb,lo,cs,rfl,_,hlb,hcl,hlc,hR⟩:=hx n (by rw [hll]; exact uh HN)
 obtain ⟨rfl,-⟩:=hR
 have z0:=hlc 0 (by simp)
 rw [Nat.mul_one,Nat.add_zero] at z0
 simp only [List.getElem_cons_zero,List.getElem_map,List.getElem_range] at z0
 rw [hll]
 clear hll hx hlc hcl hlb
 have HB2:=hide hB2
 have HNO2 : Hid (st.length ≠ (fAt ks n).length → stepA ks n st ar = ([],[],-1)):=fun h => stepA_no (by rw [uh HOK0,decide_eq_false h]; rfl)
 clear hb2 hB2 HC2 q0
 by_cases e1 : st.length = (fAt ks n).length
 case neg =>
  have f1 : ((st.length : Int) != ((fAt ks n).length : Int)) = true:=by
   rw [bne_iff_ne]
   intro h
   exact e1 (by omega)
  have HRES:=hide (uh HNO2 e1)
  generalize (fAt ks n).length = fl at *
  clear e1 HNO2 HOK0
  go_wp2
  go_ret3
  show StepPost (stepA ks n st ar) w _ _
  rw [uh HRES]
  exact ⟨_,_,rfl,nil_ints _ _ _ _,nil_ints _ _ _ _,((uh HB2).alloc (uh HB2).size _).alloc (Nat.le_trans (uh HB2).size (by simp)) _⟩
 have f1 : ((st.length : Int) != ((fAt ks n).length : Int)) = false:=by rw [e1]; simp
 rw [decide_eq_true e1,Bool.true_and] at HOK0
 have HE1 : Hid (∀ m,m = n → st.length = (fAt ks m).length):=fun m hm => by rw [hm]; exact e1
 have HNO3 : Hid (ar.length ≠ k.ins.length → stepA ks n st ar = ([],[],-1)):=fun h => stepA_no (by rw [uh HOK0,decide_eq_false (fun ⟨k',hk',hl'⟩ => h (by have h9:=uh HKE; rw [h9] at hk'; cases hk'; exact hl'))]; rfl)
 by_cases e2 : ar.length = k.ins.length
 case neg =>
  have f2 : ((ar.length : Int) != (k.ins.length : Int)) = true:=by
   rw [bne_iff_ne]
   intro h
   exact e2 (by omega)
  have HRES:=hide (uh HNO3 e2)
  clear e1 e2 HNO2 HNO3 HOK0 HE1
  generalize (fAt ks n).length = fl at *
  go_wp2
  go_ret3
  show StepPost (stepA ks n st ar) w _ _
  rw [uh HRES]
  exact ⟨_,_,rfl,nil_ints _ _ _ _,nil_ints _ _ _ _,((uh HB2).alloc (uh HB2).size _).alloc (Nat.le_trans (uh HB2).size (by simp)) _⟩
 have f2 : ((ar.length : Int) != (k.ins.length : Int)) = false:=by rw [e2]; simp
 rw [decide_eq_true (⟨k,uh HKE,e2⟩ : ∃ k,ks[n]? = some k ∧ ar.length = k.ins.length),Bool.true_and] at HOK0
 have HE2:=hide e2
 have HV1:=hide (l3Values_ok st _ w2 ((uh HST).stays RInt_kept (uh HB2)))
 clear e1 e2 HNO2 HNO3
 generalize (fAt ks n).length = fl at *
 have HNO4 : Hid (st.all memB = false → stepA ks n st ar = ([],[],-1)):=fun h => stepA_no (by rw [uh HOK0,h]; rfl)
 cases e3 : st.all memB
 ·have HRES:=hide (uh HNO4 e3)
  rw [e3] at HV1
  clear HNO4 HOK0 e3
  go_wp2_with fail
  refine (uh HV1).mono ?_
  rintro e w3 ⟨rfl,hb3⟩
  have HB3:=hide ((uh HB2).trans (hb3.mono (uh HB2).size))
  clear hb3
  go_wp2
  go_ret3
  show StepPost (stepA ks n st ar) w _ _
  rw [uh HRES]
  exact ⟨_,_,rfl,nil_ints _ _ _ _,nil_ints _ _ _ _,((uh HB3).alloc (uh HB3).size _).alloc (Nat.le_trans (uh HB3).size (by simp)) _⟩
 rw [e3] at HV1
 rw [e3,Bool.true_and] at HOK0
 have HE3:=hide e3
 clear HNO4 e3
 go_wp2_with fail
 refine (uh HV1).mono ?_
 rintro e w3 ⟨rfl,hb3⟩
 have hB3:=(uh HB2).trans (hb3.mono (uh HB2).size)
 have xb3:=(uh HXB2).below hb3 (uh HXB2).lt
 have q03:=xb3.cell (i:=0) (v:=.slice (some ⟨mb,mo,none⟩) ks.length c0) rfl
 have HXB3:=hide xb3
 clear xb3
 have HB3:=hide hB3
 have HV2:=hide (l3Values_ok ar _ w3 ((uh HAR).stays RInt_kept hB3))
 clear hb3 hB3 q02 z0 y1
 have HNO5 : Hid (ar.all memB = false → stepA ks n st ar = ([],[],-1)):=fun h => stepA_no (by rw [uh HOK0,h])
 cases e4 : ar.all memB
 ·have HRES:=hide (uh HNO5 e4)
  rw [e4] at HV2
  clear HNO5 HOK0 e4
  go_wp2_with fail
  refine (uh HV2).mono ?_
  rintro e w4 ⟨rfl,hb4⟩
  have HB4:=hide ((uh HB3).trans (hb4.mono (uh HB3).size))
  clear hb4
  go_wp2
  go_ret3
  show StepPost (stepA ks n st ar) w _ _
  rw [uh HRES]
  exact ⟨_,_,rfl,nil_ints _ _ _ _,nil_ints _ _ _ _,((uh HB4).alloc (uh HB4).size _).alloc (Nat.le_trans (uh HB4).size (by simp)) _⟩
 rw [e4] at HV2
 rw [e4] at HOK0
 have HE4:=hide e4
 clear HNO5 e4
 go_wp2_with fail
 refine (uh HV2).mono ?_
 rintro e w4 ⟨rfl,hb4⟩
 have hB4:=(uh HB3).trans (hb4.mono (uh HB3).size)
 have xb4:=(uh HXB3).below hb4 (uh HXB3).lt
 have q04:=xb4.cell (i:=0) (v:=.slice (some ⟨mb,mo,none⟩) ks.length c0) rfl
 have HXB4:=hide xb4
 clear xb4
 have HB4:=hide hB4
 have HC5:=hide (l3Step_ok ks (uh HPL) n k (uh HKE) st ar _ _ _ w4 ((uh HV).stays RClass_kept hB4) ((uh HST).stays RInt_kept hB4) ((uh HAR).stays RInt_kept hB4) (uh HE1 n rfl) (uh HE2) (fun y hy => mem_q32 (List.all_eq_true.1 (uh HE3) y hy)) (fun y hy => mem_q32 (List.all_eq_true.1 (uh HE4) y hy)))
 have HRES : Hid (stepA ks n st ar = ((walkR ks ks.length n st ar).1,(walkR ks ks.length n st ar).2.1,IntKind.i64.wrap (walkR ks ks.length n st ar).2.2)):=by
  refine hide ?_
  unfold stepA
  rw [if_pos (uh HOK0),Int.toNat_natCast]
 clear hb4 hB4 HV2 HOK0
 go_wp2_with fail
 refine (uh HC5).mono ?_
 rintro e w5 ⟨rv,ov,rfl,g1,g2,g3⟩
 have HF : Hid (StepPost (stepA ks n st ar) w (.returned (.tuple #[rv,ov,.int .i64 (IntKind.i64.wrap (walkR ks ks.length n st ar).2.2)])) w5):=by
  refine hide ?_
  rw [uh HRES]
  exact ⟨rv,ov,rfl,g1.lower RInt_lowers (Nat.zero_le _),g2.lower RInt_lowers (Nat.zero_le _),(uh HB4).trans (g3.mono (uh HB4).size)⟩
 clear g1 g2 g3 HRES HC5
 generalize IntKind.i64.wrap (walkR ks ks.length n st ar).2.2 = cw at *
 go_wp2
 go_ret3
 exact uh HF
end Go.Proofs.YtjjldnkhadakcaaGreat
