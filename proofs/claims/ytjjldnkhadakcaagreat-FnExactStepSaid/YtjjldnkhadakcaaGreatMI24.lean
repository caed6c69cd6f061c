import Derived.Test.YtjjldnkhadakcaaGreatMI23
namespace Go.Proofs.YtjjldnkhadakcaaGreat
open Go.RowKit
set_option linter.unusedSimpArgs false
set_option linter.unusedVariables false
theorem addr_of {w : World} {v : Value} {ks : List DClass} (h : SlAt 7 160 RClass 0 w v ks) : ∃ b0 o0,ks ≠ [] → ∃ n c,v = .slice (some ⟨b0,o0,none⟩) n c:=by
 by_cases e : ks = []
 ·exact ⟨0,0,fun h => absurd e h⟩
 ·obtain ⟨a,cap,rfl,_,_,hx⟩:=h
  obtain ⟨b,o,cs,rfl,_⟩:=hx 0 (List.length_pos_iff.2 e)
  exact ⟨b,o,fun _ => ⟨_,_,rfl⟩⟩
set_option maxHeartbeats 1000000 in
theorem implMachineOK_ok (ks : List DClass) (v : Value) (w : World) (hm : SlAt 7 160 RClass 0 w v ks) : Calls Tryz.prog 11 #[.agg #[v]] w (Ans (.bool (plansB ks && decide (1 ≤ ks.length))) w):=by
 obtain ⟨ma,mc,rfl⟩:=hm.shape
 have hml:=hm.lenI
 have hA : Below w.heap.size w (w.alloc (.cells #[.slice ma ks.length mc] 29)):=(Below.refl _ _).alloc (Nat.le_refl _) _
 obtain ⟨b0,o0,hb0⟩:=addr_of hm
 have HP:=hide (plansOf_ok ks _ b0 o0 _ (hm.stays RClass_kept hA) hb0)
 have HA:=hide hA
 clear hm hA hb0
 generalize plansB ks = R at *
 cases R
 ·rw [Bool.false_and]
  go_enter Tryz.func11,Tryz.ntmps11
  go_wp2_with fail
  refine (uh HP).mono ?_
  rintro e w1 ⟨h1,_,hb1⟩
  have h1':=h1 rfl
  subst h1'
  have HB:=hide ((uh HA).trans (hb1.mono (uh HA).size))
  clear hb1 h1
  go_wp2
  go_ret
  exact ⟨rfl,uh HB⟩
 ·rw [Bool.true_and]
  go_enter Tryz.func11,Tryz.ntmps11
  go_wp2_with fail
  refine (uh HP).mono ?_
  rintro e w1 ⟨_,h1,hb1⟩
  obtain ⟨pv,pl,rfl,hl,hS,_⟩:=h1 rfl
  obtain ⟨pa,pc,rfl⟩:=hS.shape
  have HB:=hide ((uh HA).trans (hb1.mono (uh HA).size))
  rw [hl]
  clear hb1 h1 hS hl
  go_wp2
  go_ret
  refine ⟨ret_bl2x ?_,uh HB⟩
  simp only [decide_eq_decide]
  omega
def PtFull (ks : List DClass) (b0 o0 : Nat) (c : Int) (w : World) (R : Bool) (e : Ending) (w' : World) : Prop :=
 (R = false → e = .returned (.pointer none)) ∧ (R = true → ∃ pb i pl Wm,(c = ((i : Nat) : Int) ∧ i < ks.length ∧ e = .returned (.pointer (some ⟨pb,0,none⟩)) ∧ pl[i]? = some pb ∧ pl.length = ks.length) ∧ PA (fun _ => True) w' b0 o0 i pb ((fTo ks ks.length).getD i []) ((kTo ks ks.length).getD i 0) ((rTo ks ks.length).getD i 0) ∧ EP (fun _ => True) w' ks b0 o0 pl (fTo ks ks.length) (rTo ks ks.length) (kTo ks ks.length) ∧ EX (fun _ => True) w' Wm ks b0 o0 pl ∧ Below w.heap.size w Wm ∧ Below Wm.heap.size Wm w') ∧ Below w.heap.size w w'
set_option maxHeartbeats 1000000 in
theorem planAt_full (ks : List DClass) (v : Value) (b0 o0 : Nat) (c : Int) (w : World) (hm : SlAt 7 160 RClass 0 w v ks) (hb0 : ks ≠ [] → ∃ n c,v = .slice (some ⟨b0,o0,none⟩) n c) : Calls Tryz.prog 34 #[.agg #[v],.int .i64 c] w (PtFull ks b0 o0 c w (plansB ks && decide (0 ≤ c ∧ c < (ks.length : Int)))):=by
 obtain ⟨ma,mc,rfl⟩:=hm.shape
 have hml:=hm.lenI
 have hA : Below w.heap.size w (w.alloc (.cells #[.slice ma ks.length mc] 29)):=(Below.refl _ _).alloc (Nat.le_refl _) _
 have HP:=hide (plansOf_ok ks _ b0 o0 _ (hm.stays RClass_kept hA) hb0)
 have HA:=hide hA
 clear hm hA hb0
 generalize plansB ks = R at *
 cases R
 ·rw [Bool.false_and]
  by_cases h0 : c < 0
  ·have e1 : decide (c < 0) = true:=decide_eq_true h0
   go_enter Tryz.func34,Tryz.ntmps34
   go_wp2_with fail
   refine (uh HP).mono ?_
   rintro e w1 ⟨h1,_,hb1⟩
   have h1':=h1 rfl
   subst h1'
   have HB:=hide ((uh HA).trans (hb1.mono (uh HA).size))
   clear hb1 h1
   go_wp2
   go_ret
   exact ⟨(fun _ => rfl),(fun h => by cases h),uh HB⟩
  ·have e1 : decide (c < 0) = false:=decide_eq_false h0
   have e2 : decide (0 ≤ c) = true:=decide_eq_true (by omega)
   go_enter Tryz.func34,Tryz.ntmps34
   go_wp2_with fail
   refine (uh HP).mono ?_
   rintro e w1 ⟨h1,_,hb1⟩
   have h1':=h1 rfl
   subst h1'
   have HB:=hide ((uh HA).trans (hb1.mono (uh HA).size))
   clear hb1 h1
   go_wp2
   go_ret
   exact ⟨(fun _ => rfl),(fun h => by cases h),uh HB⟩
 rw [Bool.true_and]
 by_cases h0 : c < 0
 ·have e1 : decide (c < 0) = true:=decide_eq_true h0
  rw [decide_eq_false (by omega)]
  go_enter Tryz.func34,Tryz.ntmps34
  go_wp2_with fail
  refine (uh HP).mono ?_
  rintro e w1 ⟨_,h1,hb1⟩
  obtain ⟨pv,pl,rfl,hl,hS,_⟩:=h1 rfl
  obtain ⟨pa,pc,rfl⟩:=hS.shape
  have HB:=hide ((uh HA).trans (hb1.mono (uh HA).size))
  clear hb1 h1 hS hl
  go_wp2
  go_ret
  exact ⟨(fun _ => rfl),(fun h => by cases h),uh HB⟩
 have e1 : decide (c < 0) = false:=decide_eq_false h0
 by_cases h1 : (ks.length : Int) ≤ c
 ·have e2 : decide ((ks.length : Int) ≤ c) = true:=decide_eq_true h1
  rw [decide_eq_false (by omega)]
  go_enter Tryz.func34,Tryz.ntmps34
  go_wp2_with fail
  refine (uh HP).mono ?_
  rintro e w1 ⟨_,h1,hb1⟩
  obtain ⟨pv,pl,rfl,hl,hS,_⟩:=h1 rfl
  obtain ⟨pa,pc,rfl⟩:=hS.shape
  have HB:=hide ((uh HA).trans (hb1.mono (uh HA).size))
  rw [hl]
  clear hb1 h1 hS hl
  go_wp2
  go_ret
  exact ⟨(fun _ => rfl),(fun h => by cases h),uh HB⟩
 have e2 : decide ((ks.length : Int) ≤ c) = false:=decide_eq_false h1
 obtain ⟨i,rfl⟩:=Int.eq_ofNat_of_zero_le (show 0 ≤ c by omega)
 have e2n : decide (ks.length ≤ i) = false:=decide_eq_false (by omega)
 have hik : i < ks.length:=by omega
 rw [decide_eq_true (by omega)]
 go_enter Tryz.func34,Tryz.ntmps34
 go_wp2_with fail
 refine (uh HP).mono ?_
 rintro e w1 ⟨_,h1,hb1⟩
 obtain ⟨pv,pl,rfl,hl,hS,hEP,hEX⟩:=h1 rfl
 have hS':=hS
 obtain ⟨pa,pc,rfl,_,_,hx⟩:=hS'
 obtain ⟨b,o,cs,rfl,_,hbb,_,hc,rfl⟩:=hx i (by omega)
 have q0:=hc 0 (by simp)
 simp only [Nat.mul_one,Nat.add_zero,List.getElem_cons_zero] at q0
 have hpa:=hEP.pa i (by omega) (by rw [fTo_len]; omega) (by rw [kTo_len]; omega) (by rw [rTo_len]; omega)
 have HPA : Hid (PA (fun _ => True) w1 b0 o0 i (pl[i]'(by omega)) ((fTo ks ks.length).getD i []) ((kTo ks ks.length).getD i 0) ((rTo ks ks.length).getD i 0)):=by
  refine hide ?_
  rw [List.getD_eq_getElem?_getD,List.getElem?_eq_getElem (by rw [fTo_len]; omega),List.getD_eq_getElem?_getD,List.getElem?_eq_getElem (by rw [kTo_len]; omega),List.getD_eq_getElem?_getD,List.getElem?_eq_getElem (by rw [rTo_len]; omega)]
  exact hpa
 have HB:=hide ((uh HA).trans (hb1.mono (uh HA).size))
 have HEP:=hide hEP
 have HEX:=hide hEX
 have HB1:=hide hb1
 have HLL:=hide hl
 have HPI : Hid (pl[i]? = some (pl[i]'(by omega))):=List.getElem?_eq_getElem (by omega)
 generalize pl[i]'(by omega) = pb at *
 rw [hl]
 have hiI : (i : Int) < (ks.length : Int):=by omega
 clear hb1 h1 hS hl hx hc hpa hEP hEX
 go_wp2
 go_ret
 exact ⟨(fun h => by cases h),(fun _ => ⟨pb,i,pl,_,⟨rfl,hik,rfl,uh HPI,uh HLL⟩,uh HPA,uh HEP,uh HEX,uh HA,uh HB1⟩),uh HB⟩
end Go.Proofs.YtjjldnkhadakcaaGreat
