import Derived.Test.YtajabbnlbopcbaaGreatDoorImplName
import Derived.Test.YtajabbnlbopcbaaGreatDoorEveryB
import Derived.Test.YtajabbnlbopcbaaGreatDoorPGJ
namespace Go.Proofs.YtajabbnlbopcbaaGreatDoor
open Go.RowKit
set_option linter.unusedSimpArgs false
set_option linter.unusedVariables false
theorem hName (x : ByteArray) (cs : List Value) (w : World) (h : RStr 0 w cs x) : Calls Tryz.prog 33 #[valOfStr cs] w (Ans (.bool (nameB x)) w):=by
 obtain ⟨rfl,h0⟩:=h
 exact nameOK_ok x w h0
theorem hCode (x : List DItem) (cs : List Value) (w : World) (h : RItems 0 w cs x) : Calls Tryz.prog 58 #[valOfItems cs] w (Ans (.bool (cdB x)) w):=by
 obtain ⟨v,rfl,h0⟩:=h
 exact codeOK_ok x v w h0
set_option maxHeartbeats 400000 in
theorem condOK_ok (c : DCond) (w : World) (hs : Len c.name.size) :
  Calls Tryz.prog 56 #[.agg #[.string c.name,.bool c.on]] w (Ans (.bool (condB c)) w):=by
 obtain ⟨s,on⟩:=c
 simp only [condB] at *
 go_enter Tryz.func56,Tryz.ntmps56
 go_wp2_with fail
 refine (nameOK_ok s _ hs).mono ?_
 rintro e w1 ⟨rfl,hb⟩
 go_wp2
 go_ret
 exact ⟨rfl,((Below.refl _ _).alloc (Nat.le_refl _) _).trans (hb.mono (by simp))⟩
theorem hCond (x : DCond) (cs : List Value) (w : World) (h : RCond 0 w cs x) : Calls Tryz.prog 56 #[valOfCond cs] w (Ans (.bool (condB x)) w):=by
 obtain ⟨rfl,h0⟩:=h
 exact condOK_ok x w h0
set_option maxHeartbeats 1000000 in
theorem varOK_ok (x : DVar) (cl : Value) (w : World) (hs : Len x.name.size) (hcl : SlAt 2 24 RCond 0 w cl x.clock) :
  Calls Tryz.prog 36 #[.agg #[.string x.name,.int .i64 x.type,cl]] w (Ans (.bool (varB x)) w):=by
 obtain ⟨s,ty,clk⟩:=x
 simp only [varB] at *
 have HC:=hide hcl
 obtain ⟨ac,cc,rfl⟩:=hcl.shape
 obtain ⟨_,_,_,_,hn,_⟩:=hcl
 unfold Len at hn
 have B0:=hide ((Below.refl w.heap.size w).alloc (Nat.le_refl _) (.cells #[.string s,.int .i64 ty,.slice ac clk.length cc] 67))
 cases hnm : nameB s
 ·rw [Bool.false_and,Bool.false_and,Bool.false_and]
  go_enter Tryz.func36,Tryz.ntmps36
  go_wp2_with fail
  refine (nameOK_ok s _ hs).mono ?_
  rintro e w1 ⟨rfl,hb⟩
  obtain ⟨hc1,hf1⟩:=bcell hb
  have hz:=hb.size
  have B1 : Hid (Below w.heap.size w w1):=(uh B0).trans (hb.mono (uh B0).size)
  try simp only [World.size_alloc] at hz hc1 hf1
  have hza1 : w.heap.size < w1.heap.size:=by first | omega | (simp at hz; omega)
  clear hb hz
  rw [hnm]
  go_wp2
  go_ret
  exact ⟨rfl,uh B1⟩
 by_cases hty : ty = 1 ∨ ty = 2
 case neg =>
  have e : decide (ty = 1 ∨ ty = 2) = false:=by simpa using hty
  rw [e]
  simp only [Bool.true_and,Bool.false_and]
  have HTY:=typeOK_ok ty
  rw [e] at HTY
  have HTY:=hide HTY
  clear e hty
  go_enter Tryz.func36,Tryz.ntmps36
  go_wp2_with fail
  refine (nameOK_ok s _ hs).mono ?_
  rintro e w1 ⟨rfl,hb⟩
  obtain ⟨hc1,hf1⟩:=bcell hb
  have hz:=hb.size
  have B1 : Hid (Below w.heap.size w w1):=(uh B0).trans (hb.mono (uh B0).size)
  try simp only [World.size_alloc] at hz hc1 hf1
  have hza1 : w.heap.size < w1.heap.size:=by first | omega | (simp at hz; omega)
  clear hb hz
  rw [hnm]
  go_wp2_with fail
  refine (uh HTY _).mono ?_
  rintro e w9 ⟨rfl,rfl⟩
  go_wp2
  go_ret
  exact ⟨rfl,uh B1⟩
 have e : decide (ty = 1 ∨ ty = 2) = true:=by simpa using hty
 rw [e]
 simp only [Bool.true_and]
 have HTY:=typeOK_ok ty
 rw [e] at HTY
 have HTY:=hide HTY
 clear e hty
 by_cases h8 : clk.length ≤ 8
 ·have e : decide (clk.length ≤ 8) = true:=by simpa using h8
  rw [e,Bool.true_and]
  have d8 : decide ((clk.length : Int) ≤ 8) = true:=by simp; omega
  clear e
  skip
  all_goals
   go_enter Tryz.func36,Tryz.ntmps36
   go_wp2_with fail
   refine (nameOK_ok s _ hs).mono ?_
   rintro e w1 ⟨rfl,hb⟩
   obtain ⟨hc1,hf1⟩:=bcell hb
   have hz:=hb.size
   have B1 : Hid (Below w.heap.size w w1):=(uh B0).trans (hb.mono (uh B0).size)
   try simp only [World.size_alloc] at hz hc1 hf1
   have hza1 : w.heap.size < w1.heap.size:=by first | omega | (simp at hz; omega)
   clear hb hz
   rw [hnm]
   go_wp2_with fail
   refine (uh HTY _).mono ?_
   rintro e w9 ⟨rfl,rfl⟩
   go_wp2_with fail
   refine (everyCond_condOK_ok condB hCond clk _ _ ((uh HC).stays RCond_kept (uh B1))).mono ?_
   rintro e w2 ⟨rfl,hb2⟩
   go_wp2
   go_ret
   exact ⟨rfl,(uh B1).trans (hb2.mono (uh B1).size)⟩
 ·have e : decide (clk.length ≤ 8) = false:=by simpa using h8
  rw [e,Bool.false_and]
  have d8 : decide ((clk.length : Int) ≤ 8) = false:=by simp; omega
  clear e
  skip
  all_goals
   go_enter Tryz.func36,Tryz.ntmps36
   go_wp2_with fail
   refine (nameOK_ok s _ hs).mono ?_
   rintro e w1 ⟨rfl,hb⟩
   obtain ⟨hc1,hf1⟩:=bcell hb
   have hz:=hb.size
   have B1 : Hid (Below w.heap.size w w1):=(uh B0).trans (hb.mono (uh B0).size)
   try simp only [World.size_alloc] at hz hc1 hf1
   have hza1 : w.heap.size < w1.heap.size:=by first | omega | (simp at hz; omega)
   clear hb hz
   rw [hnm]
   go_wp2_with fail
   refine (uh HTY _).mono ?_
   rintro e w9 ⟨rfl,rfl⟩
   go_wp2
   go_ret
   exact ⟨rfl,uh B1⟩
theorem hVar (x : DVar) (cs : List Value) (w : World) (h : RVar 0 w cs x) : Calls Tryz.prog 36 #[valOfVar cs] w (Ans (.bool (varB x)) w):=by
 obtain ⟨cl,rfl,h0,_,h1⟩:=h
 exact varOK_ok x cl w h0 h1
set_option maxHeartbeats 1000000 in
theorem portOK_ok (x : DVar) (cl : Value) (w : World) (hs : Len x.name.size) (hcl : SlAt 2 24 RCond 0 w cl x.clock) :
  Calls Tryz.prog 35 #[.agg #[.string x.name,.int .i64 x.type,cl]] w (Ans (.bool (portB x)) w):=by
 have HV:=hide (fun w' (h : Below w.heap.size w w') => varOK_ok x cl w' hs (hcl.stays RCond_kept h))
 simp only [portB]
 generalize varB x = vb at *
 obtain ⟨s,ty,clk⟩:=x
 simp only at *
 obtain ⟨ac,cc,rfl⟩:=hcl.shape
 obtain ⟨_,_,_,_,hn,_⟩:=hcl
 unfold Len at hn
 have B0:=hide ((Below.refl w.heap.size w).alloc (Nat.le_refl _) (.cells #[.string s,.int .i64 ty,.slice ac clk.length cc] 67))
 by_cases h0 : clk.length = 0
 ·have e : decide (clk.length = 0) = true:=by simpa using h0
  rw [e,Bool.true_and]
  have d0 : ((clk.length : Int) == 0) = true:=by rw [beq_iff_eq]; omega
  clear e h0
  go_enter Tryz.func35,Tryz.ntmps35
  go_wp2_with fail
  refine (uh HV _ (uh B0)).mono ?_
  rintro e w1 ⟨rfl,hb⟩
  go_wp2
  go_ret
  exact ⟨rfl,(uh B0).trans (hb.mono (uh B0).size)⟩
 ·have e : decide (clk.length = 0) = false:=by simpa using h0
  rw [e,Bool.false_and]
  have d0 : ((clk.length : Int) == 0) = false:=by rw [beq_eq_false_iff_ne]; omega
  clear e h0
  go_enter Tryz.func35,Tryz.ntmps35
  go_wp2
  go_ret
  exact ⟨rfl,uh B0⟩
theorem hPort (x : DVar) (cs : List Value) (w : World) (h : RVar 0 w cs x) : Calls Tryz.prog 35 #[valOfVar cs] w (Ans (.bool (portB x)) w):=by
 obtain ⟨cl,rfl,h0,_,h1⟩:=h
 exact portOK_ok x cl w h0 h1
theorem SlAt.len {α : Type} {sz byt lo : Nat} {R : Nat → World → List Value → α → Prop} {w : World} {v : Value} {xs : List α} (h : SlAt sz byt R lo w v xs) : xs.length ≤ 140737488355328:=by
 obtain ⟨_,_,_,_,hn,_⟩:=h
 exact hn
set_option maxHeartbeats 1000000 in
theorem equationOK_ok (x : DEq) (a1 a2 a3 : Value) (w : World) (hs : Len x.call.size) (h1 : SlAt 1 16 RStr 0 w a1 x.lhs) (h2 : SlAt 3 32 RItem 0 w a2 x.code) (h3 : SlAt 1 24 RItems 0 w a3 x.args) :
  Calls Tryz.prog 38 #[.agg #[a1,a2,.string x.call,a3]] w (Ans (.bool (eqB x)) w):=by
 obtain ⟨lhs,code,s,args⟩:=x
 simp only [eqB] at *
 have n1:=h1.len
 have n2:=h2.len
 have n3:=h3.len
 obtain ⟨b1,c1,rfl⟩:=h1.shape
 obtain ⟨b2,c2,rfl⟩:=h2.shape
 obtain ⟨b3,c3,rfl⟩:=h3.shape
 have H1:=hide h1
 have H2:=hide h2
 have H3:=hide h3
 clear h1 h2 h3
 have B0:=hide ((Below.refl w.heap.size w).alloc (Nat.le_refl _) (.cells #[.slice b1 lhs.length c1,.slice b2 code.length c2,.string s,.slice b3 args.length c3] 58))
 by_cases g1 : lhs.length = 0
 ·have e : decide (1 ≤ lhs.length ∧ lhs.length ≤ 500 ∧ args.length ≤ 500) = false:=by rw [decide_eq_false_iff_not]; omega
  rw [e,Bool.false_and,Bool.false_and]
  have d1 : ((lhs.length : Int) == 0) = true:=by rw [beq_iff_eq]; omega
  clear e g1
  go_enter Tryz.func38,Tryz.ntmps38
  go_wp2
  go_ret
  exact ⟨rfl,uh B0⟩
 have d1 : ((lhs.length : Int) == 0) = false:=by rw [beq_eq_false_iff_ne]; omega
 by_cases g2 : 500 < lhs.length
 ·have e : decide (1 ≤ lhs.length ∧ lhs.length ≤ 500 ∧ args.length ≤ 500) = false:=by rw [decide_eq_false_iff_not]; omega
  rw [e,Bool.false_and,Bool.false_and]
  have d2 : decide (500 < (lhs.length : Int)) = true:=by simp; omega
  clear e
  go_enter Tryz.func38,Tryz.ntmps38
  go_wp2
  go_ret
  exact ⟨rfl,uh B0⟩
 have d2 : decide (500 < (lhs.length : Int)) = false:=by simp; omega
 by_cases g3 : 500 < args.length
 ·have e : decide (1 ≤ lhs.length ∧ lhs.length ≤ 500 ∧ args.length ≤ 500) = false:=by rw [decide_eq_false_iff_not]; omega
  rw [e,Bool.false_and,Bool.false_and]
  have d3 : decide (500 < (args.length : Int)) = true:=by simp; omega
  clear e
  go_enter Tryz.func38,Tryz.ntmps38
  go_wp2
  go_ret
  exact ⟨rfl,uh B0⟩
 have d3 : decide (500 < (args.length : Int)) = false:=by simp; omega
 have e : decide (1 ≤ lhs.length ∧ lhs.length ≤ 500 ∧ args.length ≤ 500) = true:=by rw [decide_eq_true_iff]; omega
 rw [e,Bool.true_and]
 clear e
 have HL:=hide (everyStr_nameOK_ok nameB hName lhs _ _ ((uh H1).stays RStr_kept (uh B0)))
 cases hl : lhs.all nameB
 ·rw [Bool.false_and]
  rw [hl] at HL
  clear hl
  go_enter Tryz.func38,Tryz.ntmps38
  go_wp2_with fail
  refine (uh HL).mono ?_
  rintro e w1 ⟨rfl,hb⟩
  obtain ⟨hc1,hf1⟩:=bcell hb
  have hz:=hb.size
  have B1 : Hid (Below w.heap.size w w1):=(uh B0).trans (hb.mono (uh B0).size)
  try simp only [World.size_alloc] at hz hc1 hf1
  have hza1 : w.heap.size < w1.heap.size:=by first | omega | (simp at hz; omega)
  clear hb hz
  go_wp2
  go_ret
  exact ⟨rfl,uh B1⟩
 rw [Bool.true_and]
 rw [hl] at HL
 clear hl
 by_cases g4 : s.size = 0
 ·rw [if_pos g4]
  have d4:=empty_yes s g4
  have d4':=isEmpty_yes s g4
  clear g4
  by_cases g5 : lhs.length = 1
  case neg =>
   have e : decide (lhs.length = 1 ∧ args.length = 0) = false:=by rw [decide_eq_false_iff_not]; omega
   rw [e,Bool.false_and]
   have d5 : ((lhs.length : Int) == 1) = false:=by rw [beq_eq_false_iff_ne]; omega
   clear e g5
   go_enter Tryz.func38,Tryz.ntmps38
   go_wp2_with fail
   refine (uh HL).mono ?_
   rintro e w1 ⟨rfl,hb⟩
   obtain ⟨hc1,hf1⟩:=bcell hb
   have hz:=hb.size
   have B1 : Hid (Below w.heap.size w w1):=(uh B0).trans (hb.mono (uh B0).size)
   try simp only [World.size_alloc] at hz hc1 hf1
   have hza1 : w.heap.size < w1.heap.size:=by first | omega | (simp at hz; omega)
   clear hb hz
   go_wp2
   go_ret
   exact ⟨rfl,uh B1⟩
  have d5 : ((lhs.length : Int) == 1) = true:=by rw [beq_iff_eq]; omega
  by_cases g6 : args.length = 0
  case neg =>
   have e : decide (lhs.length = 1 ∧ args.length = 0) = false:=by rw [decide_eq_false_iff_not]; omega
   rw [e,Bool.false_and]
   have d6 : ((args.length : Int) == 0) = false:=by rw [beq_eq_false_iff_ne]; omega
   clear e g5 g6
   go_enter Tryz.func38,Tryz.ntmps38
   go_wp2_with fail
   refine (uh HL).mono ?_
   rintro e w1 ⟨rfl,hb⟩
   obtain ⟨hc1,hf1⟩:=bcell hb
   have hz:=hb.size
   have B1 : Hid (Below w.heap.size w w1):=(uh B0).trans (hb.mono (uh B0).size)
   try simp only [World.size_alloc] at hz hc1 hf1
   have hza1 : w.heap.size < w1.heap.size:=by first | omega | (simp at hz; omega)
   clear hb hz
   go_wp2
   go_ret
   exact ⟨rfl,uh B1⟩
  have e : decide (lhs.length = 1 ∧ args.length = 0) = true:=by rw [decide_eq_true_iff]; omega
  rw [e,Bool.true_and]
  have d6 : ((args.length : Int) == 0) = true:=by rw [beq_iff_eq]; omega
  clear e g5 g6 g1 g2 g3
  go_enter Tryz.func38,Tryz.ntmps38
  go_wp2_with fail
  refine (uh HL).mono ?_
  rintro e w1 ⟨rfl,hb⟩
  obtain ⟨hc1,hf1⟩:=bcell hb
  have hz:=hb.size
  have B1 : Hid (Below w.heap.size w w1):=(uh B0).trans (hb.mono (uh B0).size)
  try simp only [World.size_alloc] at hz hc1 hf1
  have hza1 : w.heap.size < w1.heap.size:=by first | omega | (simp at hz; omega)
  clear hb hz
  go_wp2_with fail
  refine (codeOK_ok code _ _ ((uh H2).stays RItem_kept (uh B1))).mono ?_
  rintro e w2 ⟨rfl,hb2⟩
  go_wp2
  go_ret
  exact ⟨rfl,(uh B1).trans (hb2.mono (uh B1).size)⟩
 ·rw [if_neg g4]
  have d4:=empty_no s g4
  have d4':=isEmpty_no s g4
  clear g4 g1 g2 g3
  cases hnm : nameB s
  ·rw [Bool.false_and,Bool.false_and]
   go_enter Tryz.func38,Tryz.ntmps38
   go_wp2_with fail
   refine (uh HL).mono ?_
   rintro e w1 ⟨rfl,hb⟩
   obtain ⟨hc1,hf1⟩:=bcell hb
   have hz:=hb.size
   have B1 : Hid (Below w.heap.size w w1):=(uh B0).trans (hb.mono (uh B0).size)
   try simp only [World.size_alloc] at hz hc1 hf1
   have hza1 : w.heap.size < w1.heap.size:=by first | omega | (simp at hz; omega)
   clear hb hz
   go_wp2_with fail
   refine (nameOK_ok s _ hs).mono ?_
   rintro e w2 ⟨rfl,hb⟩
   obtain ⟨hc2,hf2⟩:=bcell hb
   have hz:=hb.size
   have B2 : Hid (Below w.heap.size w w2):=(uh B1).trans (hb.mono (uh B1).size)
   try simp only [World.size_alloc] at hz hc2 hf2
   have hza2 : w.heap.size < w2.heap.size:=by first | omega | (simp at hz; omega)
   clear hb hz
   rw [hnm]
   go_wp2
   go_ret
   exact ⟨rfl,uh B2⟩
  rw [Bool.true_and]
  by_cases g5 : code.length = 0
  ·have e : decide (code.length = 0) = true:=by simpa using g5
   rw [e,Bool.true_and]
   have d5 : ((code.length : Int) == 0) = true:=by rw [beq_iff_eq]; omega
   clear e g5
   go_enter Tryz.func38,Tryz.ntmps38
   go_wp2_with fail
   refine (uh HL).mono ?_
   rintro e w1 ⟨rfl,hb⟩
   obtain ⟨hc1,hf1⟩:=bcell hb
   have hz:=hb.size
   have B1 : Hid (Below w.heap.size w w1):=(uh B0).trans (hb.mono (uh B0).size)
   try simp only [World.size_alloc] at hz hc1 hf1
   have hza1 : w.heap.size < w1.heap.size:=by first | omega | (simp at hz; omega)
   clear hb hz
   go_wp2_with fail
   refine (nameOK_ok s _ hs).mono ?_
   rintro e w2 ⟨rfl,hb⟩
   obtain ⟨hc2,hf2⟩:=bcell hb
   have hz:=hb.size
   have B2 : Hid (Below w.heap.size w w2):=(uh B1).trans (hb.mono (uh B1).size)
   try simp only [World.size_alloc] at hz hc2 hf2
   have hza2 : w.heap.size < w2.heap.size:=by first | omega | (simp at hz; omega)
   clear hb hz
   rw [hnm]
   go_wp2_with fail
   refine (everyItems_codeOK_ok cdB hCode args _ _ ((uh H3).stays RItems_kept (uh B2))).mono ?_
   rintro e w3 ⟨rfl,hb3⟩
   go_wp2
   go_ret
   exact ⟨rfl,(uh B2).trans (hb3.mono (uh B2).size)⟩
  ·have e : decide (code.length = 0) = false:=by simpa using g5
   rw [e,Bool.false_and]
   have d5 : ((code.length : Int) == 0) = false:=by rw [beq_eq_false_iff_ne]; omega
   clear e g5
   go_enter Tryz.func38,Tryz.ntmps38
   go_wp2_with fail
   refine (uh HL).mono ?_
   rintro e w1 ⟨rfl,hb⟩
   obtain ⟨hc1,hf1⟩:=bcell hb
   have hz:=hb.size
   have B1 : Hid (Below w.heap.size w w1):=(uh B0).trans (hb.mono (uh B0).size)
   try simp only [World.size_alloc] at hz hc1 hf1
   have hza1 : w.heap.size < w1.heap.size:=by first | omega | (simp at hz; omega)
   clear hb hz
   go_wp2_with fail
   refine (nameOK_ok s _ hs).mono ?_
   rintro e w2 ⟨rfl,hb⟩
   obtain ⟨hc2,hf2⟩:=bcell hb
   have hz:=hb.size
   have B2 : Hid (Below w.heap.size w w2):=(uh B1).trans (hb.mono (uh B1).size)
   try simp only [World.size_alloc] at hz hc2 hf2
   have hza2 : w.heap.size < w2.heap.size:=by first | omega | (simp at hz; omega)
   clear hb hz
   rw [hnm]
   go_wp2
   go_ret
   exact ⟨rfl,uh B2⟩
theorem hEq (x : DEq) (cs : List Value) (w : World) (h : REq 0 w cs x) : Calls Tryz.prog 38 #[valOfEq cs] w (Ans (.bool (eqB x)) w):=by
 obtain ⟨l,c,a,rfl,h0,h1,h2,h3⟩:=h
 exact equationOK_ok x l c a w h0 h1 h2 h3
set_option maxHeartbeats 2000000 in
theorem nodeOK_ok (x : DNode) (a1 a2 a3 a4 : Value) (w : World) (hs : Len x.name.size) (h1 : SlAt 3 48 RVar 0 w a1 x.ins) (h2 : SlAt 3 48 RVar 0 w a2 x.outs) (h3 : SlAt 3 48 RVar 0 w a3 x.vars) (h4 : SlAt 4 88 REq 0 w a4 x.eqs) :
  Calls Tryz.prog 24 #[.agg #[.string x.name,a1,a2,a3,a4]] w (Ans (.bool (nodeB x)) w):=by
 obtain ⟨s,ins,outs,vars,eqs⟩:=x
 simp only [nodeB] at *
 have n1:=h1.len
 have n2:=h2.len
 have n3:=h3.len
 have n4:=h4.len
 obtain ⟨b1,c1,rfl⟩:=h1.shape
 obtain ⟨b2,c2,rfl⟩:=h2.shape
 obtain ⟨b3,c3,rfl⟩:=h3.shape
 obtain ⟨b4,c4,rfl⟩:=h4.shape
 have H1:=hide h1
 have H2:=hide h2
 have H3:=hide h3
 have H4:=hide h4
 clear h1 h2 h3 h4
 have B0:=hide ((Below.refl w.heap.size w).alloc (Nat.le_refl _) (.cells #[.string s,.slice b1 ins.length c1,.slice b2 outs.length c2,.slice b3 vars.length c3,.slice b4 eqs.length c4] 43))
 by_cases g1 : outs.length = 0
 ·have d1 : ((outs.length : Int) == 0) = true:=by rw [beq_iff_eq]; omega
  have e : decide (1 ≤ outs.length ∧ ins.length + outs.length + vars.length ≤ 500 ∧ 1 ≤ eqs.length ∧ eqs.length ≤ 500) = false:=by rw [decide_eq_false_iff_not]; omega
  rw [e]
  simp only [Bool.false_and]
  clear e
  clear g1
  go_enter Tryz.func24,Tryz.ntmps24
  go_wp2
  go_ret
  exact ⟨rfl,uh B0⟩
 have d1 : ((outs.length : Int) == 0) = false:=by rw [beq_eq_false_iff_ne]; omega
 by_cases g2 : 500 < ins.length + outs.length + vars.length
 ·have d2 : decide (500 < (ins.length : Int) + (outs.length : Int) + (vars.length : Int)) = true:=by rw [decide_eq_true_iff]; omega
  have e : decide (1 ≤ outs.length ∧ ins.length + outs.length + vars.length ≤ 500 ∧ 1 ≤ eqs.length ∧ eqs.length ≤ 500) = false:=by rw [decide_eq_false_iff_not]; omega
  rw [e]
  simp only [Bool.false_and]
  clear e
  go_enter Tryz.func24,Tryz.ntmps24
  go_wp2
  go_ret
  exact ⟨rfl,uh B0⟩
 have d2 : decide (500 < (ins.length : Int) + (outs.length : Int) + (vars.length : Int)) = false:=by rw [decide_eq_false_iff_not]; omega
 by_cases g3 : eqs.length = 0
 ·have d3 : ((eqs.length : Int) == 0) = true:=by rw [beq_iff_eq]; omega
  have e : decide (1 ≤ outs.length ∧ ins.length + outs.length + vars.length ≤ 500 ∧ 1 ≤ eqs.length ∧ eqs.length ≤ 500) = false:=by rw [decide_eq_false_iff_not]; omega
  rw [e]
  simp only [Bool.false_and]
  clear e
  clear g3
  go_enter Tryz.func24,Tryz.ntmps24
  go_wp2
  go_ret
  exact ⟨rfl,uh B0⟩
 have d3 : ((eqs.length : Int) == 0) = false:=by rw [beq_eq_false_iff_ne]; omega
 by_cases g4 : 500 < eqs.length
 ·have d4 : decide (500 < (eqs.length : Int)) = true:=by rw [decide_eq_true_iff]; omega
  have e : decide (1 ≤ outs.length ∧ ins.length + outs.length + vars.length ≤ 500 ∧ 1 ≤ eqs.length ∧ eqs.length ≤ 500) = false:=by rw [decide_eq_false_iff_not]; omega
  rw [e]
  simp only [Bool.false_and]
  clear e
  go_enter Tryz.func24,Tryz.ntmps24
  go_wp2
  go_ret
  exact ⟨rfl,uh B0⟩
 have d4 : decide (500 < (eqs.length : Int)) = false:=by rw [decide_eq_false_iff_not]; omega
 have e : decide (1 ≤ outs.length ∧ ins.length + outs.length + vars.length ≤ 500 ∧ 1 ≤ eqs.length ∧ eqs.length ≤ 500) = true:=by rw [decide_eq_true_iff]; omega
 rw [e,Bool.true_and]
 clear e g1 g3
 have HN:=hide (fun w => nameOK_ok s w hs)
 have HE1:=hide (fun w' (h : Below w.heap.size w w') => everyVar_portOK_ok portB hPort ins _ w' ((uh H1).stays RVar_kept h))
 have HE2:=hide (fun w' (h : Below w.heap.size w w') => everyVar_portOK_ok portB hPort outs _ w' ((uh H2).stays RVar_kept h))
 have HE3:=hide (fun w' (h : Below w.heap.size w w') => everyVar_varOK_ok varB hVar vars _ w' ((uh H3).stays RVar_kept h))
 have HE4:=hide (fun w' (h : Below w.heap.size w w') => everyEq_equationOK_ok eqB hEq eqs _ w' ((uh H4).stays REq_kept h))
 clear H1 H2 H3 H4
 generalize nameB s = t0 at *
 generalize ins.all portB = t1 at *
 generalize outs.all portB = t2 at *
 generalize vars.all varB = t3 at *
 generalize eqs.all eqB = t4 at *
 cases t0
 ·go_enter Tryz.func24,Tryz.ntmps24
  go_wp2_with fail
  refine (uh HN _).mono ?_
  rintro e w1 ⟨rfl,hb⟩
  obtain ⟨hc1,hf1⟩:=bcell hb
  have hz:=hb.size
  have B1 : Hid (Below w.heap.size w w1):=(uh B0).trans (hb.mono (uh B0).size)
  try simp only [World.size_alloc] at hz hc1 hf1
  have hza1 : w.heap.size < w1.heap.size:=by first | omega | (simp at hz; omega)
  clear hb hz
  go_wp2
  go_ret
  exact ⟨ret_bool (by simp),uh B1⟩
 cases t1
 ·go_enter Tryz.func24,Tryz.ntmps24
  go_wp2_with fail
  refine (uh HN _).mono ?_
  rintro e w1 ⟨rfl,hb⟩
  obtain ⟨hc1,hf1⟩:=bcell hb
  have hz:=hb.size
  have B1 : Hid (Below w.heap.size w w1):=(uh B0).trans (hb.mono (uh B0).size)
  try simp only [World.size_alloc] at hz hc1 hf1
  have hza1 : w.heap.size < w1.heap.size:=by first | omega | (simp at hz; omega)
  clear hb hz
  go_wp2_with fail
  refine (uh HE1 _ (uh B1)).mono ?_
  rintro e w2 ⟨rfl,hb⟩
  obtain ⟨hc2,hf2⟩:=bcell hb
  have hz:=hb.size
  have B2 : Hid (Below w.heap.size w w2):=(uh B1).trans (hb.mono (uh B1).size)
  try simp only [World.size_alloc] at hz hc2 hf2
  have hza2 : w.heap.size < w2.heap.size:=by first | omega | (simp at hz; omega)
  clear hb hz
  go_wp2
  go_ret
  exact ⟨ret_bool (by simp),uh B2⟩
 cases t2
 ·go_enter Tryz.func24,Tryz.ntmps24
  go_wp2_with fail
  refine (uh HN _).mono ?_
  rintro e w1 ⟨rfl,hb⟩
  obtain ⟨hc1,hf1⟩:=bcell hb
  have hz:=hb.size
  have B1 : Hid (Below w.heap.size w w1):=(uh B0).trans (hb.mono (uh B0).size)
  try simp only [World.size_alloc] at hz hc1 hf1
  have hza1 : w.heap.size < w1.heap.size:=by first | omega | (simp at hz; omega)
  clear hb hz
  go_wp2_with fail
  refine (uh HE1 _ (uh B1)).mono ?_
  rintro e w2 ⟨rfl,hb⟩
  obtain ⟨hc2,hf2⟩:=bcell hb
  have hz:=hb.size
  have B2 : Hid (Below w.heap.size w w2):=(uh B1).trans (hb.mono (uh B1).size)
  try simp only [World.size_alloc] at hz hc2 hf2
  have hza2 : w.heap.size < w2.heap.size:=by first | omega | (simp at hz; omega)
  clear hb hz
  go_wp2_with fail
  refine (uh HE2 _ (uh B2)).mono ?_
  rintro e w3 ⟨rfl,hb⟩
  obtain ⟨hc3,hf3⟩:=bcell hb
  have hz:=hb.size
  have B3 : Hid (Below w.heap.size w w3):=(uh B2).trans (hb.mono (uh B2).size)
  try simp only [World.size_alloc] at hz hc3 hf3
  have hza3 : w.heap.size < w3.heap.size:=by first | omega | (simp at hz; omega)
  clear hb hz
  go_wp2
  go_ret
  exact ⟨ret_bool (by simp),uh B3⟩
 cases t3
 ·go_enter Tryz.func24,Tryz.ntmps24
  go_wp2_with fail
  refine (uh HN _).mono ?_
  rintro e w1 ⟨rfl,hb⟩
  obtain ⟨hc1,hf1⟩:=bcell hb
  have hz:=hb.size
  have B1 : Hid (Below w.heap.size w w1):=(uh B0).trans (hb.mono (uh B0).size)
  try simp only [World.size_alloc] at hz hc1 hf1
  have hza1 : w.heap.size < w1.heap.size:=by first | omega | (simp at hz; omega)
  clear hb hz
  go_wp2_with fail
  refine (uh HE1 _ (uh B1)).mono ?_
  rintro e w2 ⟨rfl,hb⟩
  obtain ⟨hc2,hf2⟩:=bcell hb
  have hz:=hb.size
  have B2 : Hid (Below w.heap.size w w2):=(uh B1).trans (hb.mono (uh B1).size)
  try simp only [World.size_alloc] at hz hc2 hf2
  have hza2 : w.heap.size < w2.heap.size:=by first | omega | (simp at hz; omega)
  clear hb hz
  go_wp2_with fail
  refine (uh HE2 _ (uh B2)).mono ?_
  rintro e w3 ⟨rfl,hb⟩
  obtain ⟨hc3,hf3⟩:=bcell hb
  have hz:=hb.size
  have B3 : Hid (Below w.heap.size w w3):=(uh B2).trans (hb.mono (uh B2).size)
  try simp only [World.size_alloc] at hz hc3 hf3
  have hza3 : w.heap.size < w3.heap.size:=by first | omega | (simp at hz; omega)
  clear hb hz
  go_wp2_with fail
  refine (uh HE3 _ (uh B3)).mono ?_
  rintro e w4 ⟨rfl,hb⟩
  obtain ⟨hc4,hf4⟩:=bcell hb
  have hz:=hb.size
  have B4 : Hid (Below w.heap.size w w4):=(uh B3).trans (hb.mono (uh B3).size)
  try simp only [World.size_alloc] at hz hc4 hf4
  have hza4 : w.heap.size < w4.heap.size:=by first | omega | (simp at hz; omega)
  clear hb hz
  go_wp2
  go_ret
  exact ⟨ret_bool (by simp),uh B4⟩
 go_enter Tryz.func24,Tryz.ntmps24
 go_wp2_with fail
 refine (uh HN _).mono ?_
 rintro e w1 ⟨rfl,hb⟩
 obtain ⟨hc1,hf1⟩:=bcell hb
 have hz:=hb.size
 have B1 : Hid (Below w.heap.size w w1):=(uh B0).trans (hb.mono (uh B0).size)
 try simp only [World.size_alloc] at hz hc1 hf1
 have hza1 : w.heap.size < w1.heap.size:=by first | omega | (simp at hz; omega)
 clear hb hz
 go_wp2_with fail
 refine (uh HE1 _ (uh B1)).mono ?_
 rintro e w2 ⟨rfl,hb⟩
 obtain ⟨hc2,hf2⟩:=bcell hb
 have hz:=hb.size
 have B2 : Hid (Below w.heap.size w w2):=(uh B1).trans (hb.mono (uh B1).size)
 try simp only [World.size_alloc] at hz hc2 hf2
 have hza2 : w.heap.size < w2.heap.size:=by first | omega | (simp at hz; omega)
 clear hb hz
 go_wp2_with fail
 refine (uh HE2 _ (uh B2)).mono ?_
 rintro e w3 ⟨rfl,hb⟩
 obtain ⟨hc3,hf3⟩:=bcell hb
 have hz:=hb.size
 have B3 : Hid (Below w.heap.size w w3):=(uh B2).trans (hb.mono (uh B2).size)
 try simp only [World.size_alloc] at hz hc3 hf3
 have hza3 : w.heap.size < w3.heap.size:=by first | omega | (simp at hz; omega)
 clear hb hz
 go_wp2_with fail
 refine (uh HE3 _ (uh B3)).mono ?_
 rintro e w4 ⟨rfl,hb⟩
 obtain ⟨hc4,hf4⟩:=bcell hb
 have hz:=hb.size
 have B4 : Hid (Below w.heap.size w w4):=(uh B3).trans (hb.mono (uh B3).size)
 try simp only [World.size_alloc] at hz hc4 hf4
 have hza4 : w.heap.size < w4.heap.size:=by first | omega | (simp at hz; omega)
 clear hb hz
 go_wp2_with fail
 refine (uh HE4 _ (uh B4)).mono ?_
 rintro e w5 ⟨rfl,hb⟩
 obtain ⟨hc5,hf5⟩:=bcell hb
 have hz:=hb.size
 have B5 : Hid (Below w.heap.size w w5):=(uh B4).trans (hb.mono (uh B4).size)
 try simp only [World.size_alloc] at hz hc5 hf5
 have hza5 : w.heap.size < w5.heap.size:=by first | omega | (simp at hz; omega)
 clear hb hz
 go_wp2
 go_ret
 exact ⟨ret_bool (by simp),uh B5⟩
theorem hNode (x : DNode) (cs : List Value) (w : World) (h : RNode 0 w cs x) : Calls Tryz.prog 24 #[valOfNode cs] w (Ans (.bool (nodeB x)) w):=by
 obtain ⟨i,o,v,e,rfl,h0,h1,h2,h3,h4⟩:=h
 exact nodeOK_ok x i o v e w h0 h1 h2 h3 h4
set_option maxHeartbeats 400000 in
theorem implShape_ok (ns : List DNode) (v : Value) (w : World) (h1 : SlAt 5 112 RNode 0 w v ns) :
  Calls Tryz.prog 11 #[.agg #[v]] w (Ans (.bool (shapeB ns)) w):=by
 have n1:=h1.len
 obtain ⟨b1,c1,rfl⟩:=h1.shape
 have H1:=hide h1
 clear h1
 have B0:=hide ((Below.refl w.heap.size w).alloc (Nat.le_refl _) (.cells #[.slice b1 ns.length c1] 25))
 simp only [shapeB]
 by_cases g1 : 1 ≤ ns.length
 case neg =>
  have e : decide (1 ≤ ns.length ∧ ns.length ≤ 200) = false:=by rw [decide_eq_false_iff_not]; omega
  rw [e,Bool.false_and]
  have d1 : decide (1 ≤ (ns.length : Int)) = false:=by rw [decide_eq_false_iff_not]; omega
  clear e
  go_enter Tryz.func11,Tryz.ntmps11
  go_wp2
  go_ret
  exact ⟨rfl,uh B0⟩
 have d1 : decide (1 ≤ (ns.length : Int)) = true:=by rw [decide_eq_true_iff]; omega
 by_cases g2 : ns.length ≤ 200
 case neg =>
  have e : decide (1 ≤ ns.length ∧ ns.length ≤ 200) = false:=by rw [decide_eq_false_iff_not]; omega
  rw [e,Bool.false_and]
  have d2 : decide ((ns.length : Int) ≤ 200) = false:=by rw [decide_eq_false_iff_not]; omega
  clear e
  go_enter Tryz.func11,Tryz.ntmps11
  go_wp2
  go_ret
  exact ⟨rfl,uh B0⟩
 have d2 : decide ((ns.length : Int) ≤ 200) = true:=by rw [decide_eq_true_iff]; omega
 have e : decide (1 ≤ ns.length ∧ ns.length ≤ 200) = true:=by rw [decide_eq_true_iff]; omega
 rw [e,Bool.true_and]
 clear e
 go_enter Tryz.func11,Tryz.ntmps11
 go_wp2_with fail
 refine (everyNode_nodeOK_ok nodeB hNode ns _ _ ((uh H1).stays RNode_kept (uh B0))).mono ?_
 rintro e w1 ⟨rfl,hb⟩
 go_wp2
 go_ret
 exact ⟨rfl,(uh B0).trans (hb.mono (uh B0).size)⟩
end Go.Proofs.YtajabbnlbopcbaaGreatDoor
namespace Go.Proofs.YtajabbnlbopcbaaGreatDoor
open Go.RowKit
set_option linter.unusedSimpArgs false
set_option linter.unusedVariables false
section
variable {ts : List TK} {W0 : World} {q : Nat} {tv iv iv' : Value} {W1 w : World} {L : List Pc} {xs : List DItem}
def PrPost (ts : List TK) (W0 : World) (q : Nat) (tv : Value) (w : World) (ns : List PNode) (e : Ending) (w' : World) : Prop :=
 ∃ a n c,e = .returned (.agg #[.slice a n c]) ∧ MkR rNode TNode (w.heap.size + 1) w' (.slice a n c) (ns.map PNode.node) ∧ Tr q w w'
set_option maxHeartbeats 4000000 in
theorem program_ok {ns : List PNode} (hn : okPr ns) (h : Pz ts W0 q tv w (ns.flatMap ndK ++ [endP])) : Calls Tryz.prog 29 #[.pointer (some ⟨q,0,none⟩)] w (PrPost ts W0 q tv w ns):=by
 have hql:=h.lt
 obtain ⟨⟨hl1,hl2⟩,hall⟩:=hn
 obtain ⟨n0,ms,rfl⟩ : ∃ n0 ms,ns = n0 :: ms:=by
  cases ns with
  | nil => simp at hl1
  | cons a b => exact ⟨a,b,rfl⟩
 obtain ⟨A,hAA⟩ : ∃ A,A = w.alloc (.cells #[.slice none 0 0] 25):=⟨_,rfl⟩
 have hA : Below w.heap.size w A:=hAA ▸ (Below.refl _ _).alloc (Nat.le_refl _) _
 have hR0 : BlkAt A w.heap.size 25 #[.slice none 0 0]:=hAA ▸ blk_box w _ _
 have hAs : A.heap.size = w.heap.size + 1:=by rw [hAA]; simp
 have hne : w.heap.size ≠ q:=by omega
 have hpA : Pz ts W0 q tv A (ndK n0 ++ (ms.flatMap ndK ++ [endP])):=by
  have g:=h.below hA
  rw [List.flatMap_cons,List.append_assoc] at g
  exact g
 have HF1:=hide (firstNd (w:=A) (Tr.refl q A) (node_ok (hall n0 (by simp)) hpA))
 have HALL:=hide hall
 have HR0:=hide hR0
 have HT0:=hide (Tr.of_below (r:=q) hA)
 have HAS:=hide hAs
 obtain ⟨PO,hPO⟩ : ∃ PO : Ending → World → Prop,PO = PrPost ts W0 q tv w (n0 :: ms):=⟨_,rfl⟩
 rw [← hPO]
 have HPO:=hide hPO
 have HAA:=hide hAA
 have hl3 : ms.length ≤ 199:=by simp at hl2; omega
 clear h hA hR0 hAs hpA hall hPO hAA hl1 hl2
 go_enter Tryz.func29,Tryz.ntmps29
 go_wp2_with fail
 rw [← uh HAA]
 refine (uh HF1).mono ?_
 rintro e w1 ⟨a1,n1,c1,a2,n2,c2,a3,n3,c3,a4,n4,c4,rfl,HM1⟩
 clear HF1
 go_wp2
 go_loopg [3] ms.length (fun g v wr => ∃ (pre rest : List PNode),ms = pre ++ rest ∧ g = rest.length ∧ MkR rNode TNode A.heap.size wr v (n0.node :: pre.map PNode.node) ∧ Pz ts W0 q tv wr (rest.flatMap ndK ++ [endP]) ∧ Tr q A wr)
 case atStart => exact ⟨[],ms,rfl,rfl,(uh HM1).1,(uh HM1).2.1,(uh HM1).2.2⟩
 case round =>
  obtain ⟨pre,rest,hms,hg,hrow,hpz,htr⟩:=hrel
  have HG:=hide hg
  have HP:=hide hpz
  have HR:=hide hrow
  have HTR:=hide htr
  obtain ⟨va,n8,vc,hv8⟩ : ∃ a n c,u3 = .slice a n c:=by
   obtain ⟨a9,c9,h9⟩:=hrow.slice
   exact ⟨a9,_,c9,h9⟩
  subst hv8
  clear hg hpz hrow htr
  have hfd:=itok_field0
  cases rest with
  | nil =>
   have HC:=hide (pz_ahead (L:=[endP]) (uh HP) 0 (by omega) (by simp))
   simp only [List.getElem_cons_zero,endP] at HC
   have e0 : ((0 : Nat) : Int) = 0:=rfl
   rw [e0] at HC
   have HF : Hid (∀ X,Tr q wr X → BlkAt X w.heap.size 25 #[.slice none 0 0] ∧ BlkAt (X.setCell ⟨w.heap.size,0,none⟩ (.slice va n8 vc)) w.heap.size 25 #[.slice va n8 vc] ∧ PO (.returned (.agg #[.slice va n8 vc])) (X.setCell ⟨w.heap.size,0,none⟩ (.slice va n8 vc))):=fun X hT => by
    have hb:=((uh HTR).trans hT).blk (uh HR0) hne
    refine ⟨hb,hb.set 0 _,?_⟩
    rw [uh HPO]
    have e : ms = pre:=by rw [hms,List.append_nil]
    have hT9 : Tr w.heap.size X (X.setCell ⟨w.heap.size,0,none⟩ (.slice va n8 vc)):=Tr.setCell _ _ _ _
    have has:=uh HAS
    refine ⟨va,n8,vc,rfl,?_,(((uh HT0).trans (uh HTR)).trans hT).new hT9 (Nat.le_refl _)⟩
    rw [e]
    have hm:=((uh HR).tr TNode_fr hT (by omega)).tr TNode_fr hT9 (by omega)
    rw [has] at hm
    exact hm
   clear hms e0
   go_wp2_with (go_at_call 48; refine (uh HC).mono ?_; rintro e w2 ⟨p9,rfl,hp2,ht2⟩; obtain ⟨hb9,hr9,hf9⟩:=uh HF _ ht2; have y0:=hb9.cell (i:=0) (v:=.slice none 0 0) rfl; have g0:=hb9.free 0; have l0:=hb9.lt; have r0:=hr9.cell (i:=0) (v:=.slice va n8 vc) rfl; have HF9:=hide hf9; clear hp2 ht2 hb9 hr9 hf9)
   refine bodyPost_ret ?_ rfl (uh HF9)
   simp [results,Tryz.results29,go_sem,r0]
  | cons z r =>
   have hpl : pre.length < 199:=by rw [hms] at hl3; simp at hl3; omega
   have HMS : Hid (ms = (pre ++ [z]) ++ r):=by show ms = _; rw [hms]; simp
   have hz:=uh HALL z (by rw [hms]; simp)
   have HP1 : Hid (Pz ts W0 q tv wr (ndK z ++ (r.flatMap ndK ++ [endP]))):=by
    have g:=uh HP
    rw [List.flatMap_cons,List.append_assoc] at g
    exact g
   have HC:=hide (pz_ahead (uh HP1) 0 (by omega) (by unfold ndK; simp))
   have e9 : (ndK z ++ (r.flatMap ndK ++ [endP]))[0]'(by unfold ndK; simp) = fx Knode:=rfl
   rw [e9] at HC
   simp only [fx] at HC
   have e3 : ((3 : Nat) : Int) = 3:=rfl
   have e0 : ((0 : Nat) : Int) = 0:=rfl
   rw [e3,e0] at HC
   have has:=uh HAS
   have HPU : Hid (∀ X,Pz ts W0 q tv X (ndK z ++ (r.flatMap ndK ++ [endP])) → Tr q wr X → Calls Tryz.prog 47 #[.pointer (some ⟨q,0,none⟩)] X _):=hide (fun X hp hT => pushNd (w:=A) ((uh HR).tr TNode_fr hT (by omega)) (by simp; omega) (by omega) ((uh HTR).trans hT) (node_ok hz hp))
   clear hms hz e9 e3 e0 has
   go_wp2_with (first | (go_at_call 48; refine (uh HC).mono ?_; rintro e w2 ⟨p9,rfl,hp2,ht2⟩; have HPV:=hide (uh HPU _ hp2 ht2); clear hp2 ht2 HC) | (go_at_call 47; refine (uh HPV).mono ?_; rintro e w3 ⟨b1,o1,d1,b2,o2,d2,b3,o3,d3,b4,o4,d4,va5,vn5,vc5,w5,rfl,HRUN,H5⟩; clear HPV HPU) | (at_builtin; go_must (refine wpList_append_run rfl _ _ 23 23 rfl rfl _ _ _ rfl rfl (uh HRUN) ?_)))
   go_roundg r.length
   case measure => have:=uh HG; simp at this; omega
   case rel => exact ⟨pre ++ [z],r,uh HMS,rfl,by have h9:=(uh H5).1; simpa using h9,(uh H5).2.1,(uh H5).2.2⟩
end
def faultV (c at_ : Int) : Value:=.iface 78 (.agg #[.int .i64 c,.int .i64 at_])
set_option maxHeartbeats 1000000 in
theorem parse_long {s : ByteArray} (h : 20000 < s.size) (hs : Len s.size) (w : World) : Calls Tryz.prog 16 #[.string s] w (fun e w' => e = .panicked [{ v:=faultV 1 0,recovered:=false }] ∧ Below w.heap.size w w'):=by
 unfold Len at hs
 have hd : decide (20000 < (s.size : Int)) = true:=by simp; omega
 have hA : Below w.heap.size w (w.alloc (.cells #[.slice none 0 0] 25)):=(Below.refl _ _).alloc (Nat.le_refl _) _
 have HA:=hide hA
 clear hA h
 go_enter Tryz.func16,Tryz.ntmps16
 go_wp2
 exact ⟨rfl,rfl,uh HA⟩
def ParsePost (ns : List DNode) (w : World) (e : Ending) (w' : World) : Prop:=∃ v,e = .returned (.agg #[v]) ∧ (∃ a n c,v = .slice a n c) ∧ Fin (fun w bs => RowT rNode TNode w v ns bs) (w.heap.size + 1) w'.heap.size w' ∧ Below w.heap.size w w'
set_option maxHeartbeats 4000000 in
theorem parse_ok {ns : List PNode} (hn : okPr ns) (hsz : (flP (prP ns)).size ≤ 20000) (w : World) (ht : w.rangeAt 1 0 opCells) (h2 : 2 ≤ w.heap.size) : Calls Tryz.prog 16 #[.string (flP (prP ns))] w (ParsePost (ns.map PNode.node) w):=by
 have hg:=gd_pr hn 0
 obtain ⟨A,hAA⟩ : ∃ A,A = w.alloc (.cells #[.slice none 0 0] 25):=⟨_,rfl⟩
 have hA : Below w.heap.size w A:=hAA ▸ (Below.refl _ _).alloc (Nat.le_refl _) _
 have HR0 : Hid (BlkAt A w.heap.size 25 #[.slice none 0 0]):=hAA ▸ blk_box w _ _
 have HA:=hide hA
 have HC:=hide (cut_ok (prP ns) A hg hsz)
 have htl:=tk_len (prP ns) (gdP_wf hg)
 have HTK:=hide (prP_tk ns)
 have HN:=hide hn
 have HSH:=hide (sh_of hn)
 have HAA:=hide hAA
 have hd : decide (20000 < ((flP (prP ns)).size : Int)) = false:=by simp; omega
 have HWF:=hide (gdP_wf hg)
 have HTAB:=hide ht
 obtain ⟨PO,hPO⟩ : ∃ PO : Ending → World → Prop,PO = ParsePost (ns.map PNode.node) w:=⟨_,rfl⟩
 rw [← hPO]
 have HPO:=hide hPO
 clear hg hA hn hAA ht hPO
 generalize flP (prP ns) = s at *
 go_enter Tryz.func16,Tryz.ntmps16
 go_wp2_with fail
 rw [← uh HAA]
 refine (uh HC).mono ?_
 rintro e w1 ⟨a1,c1,tks,rfl,hown,htk,hb1⟩
 have hlt0:=(uh HR0).lt
 have hz1:=hb1.size
 have hlen : tks.length ≤ 20001:=by
  have:=congrArg List.length htk
  rw [List.length_map,List.length_append,List.length_singleton] at this
  omega
 have hsl : SlAt 4 40 RTok 0 w1 (.slice a1 tks.length c1) tks:=hown.at (R:=RTok) (fun x _ => rfl) (by simp [elTok]; omega)
 have hwa:=(uh HA).size
 have htab1 : w1.rangeAt 1 0 opCells:=fun j v hv => by
  rw [((uh HA).trans (hb1.mono hwa)).cell (p:=⟨1,_,none⟩) (show 1 < w.heap.size by omega)]
  exact uh HTAB j v hv
 obtain ⟨B,hBB⟩ : ∃ B,B = w1.alloc (.cells #[.slice a1 tks.length c1,.int .i64 0,.slice none 0 0] 83):=⟨_,rfl⟩
 have hB : Below w1.heap.size w1 B:=hBB ▸ (Below.refl _ _).alloc (Nat.le_refl _) _
 have hpz : Pz tks w1 w1.heap.size (.slice a1 tks.length c1) B (ns.flatMap ndK ++ [endP]):=⟨.slice none 0 0,hsl,Nat.le_refl _,hlen,⟨htab1,by omega⟩,hB,0,hBB ▸ blk_box w1 _ _,by rw [List.drop_zero,htk,uh HTK],Nat.zero_le _⟩
 have HP:=hide (program_ok (uh HN) hpz)
 have HB:=hide ((uh HA).trans ((hb1.trans (hB.mono hz1)).mono hwa))
 have HRB:=hide ((uh HR0).below (hb1.trans (hB.mono hz1)) hlt0)
 have HBB:=hide hBB
 have hq0 : w.heap.size < w1.heap.size:=by omega
 have hBs : B.heap.size = w1.heap.size + 1:=by rw [hBB]; simp
 have HBS:=hide hBs
 clear hown htk hb1 hlen hsl htab1 hB hpz hBB hz1 hBs HC
 go_wp2_with fail
 rw [← uh HBB]
 refine (uh HP).mono ?_
 rintro e w2 ⟨a2,n2,c2,rfl,hm2,ht2⟩
 obtain ⟨C,hCC⟩ : ∃ C,C = w2.alloc (.cells #[.slice a2 n2 c2] 25):=⟨_,rfl⟩
 have hC : Below w2.heap.size w2 C:=hCC ▸ (Below.refl _ _).alloc (Nat.le_refl _) _
 have hmC : MkR rNode TNode (B.heap.size + 1) C (.slice a2 n2 c2) (ns.map PNode.node):=hm2.keep TNode_fr hC.size (fun b hb hlt => hC.block b hlt)
 have hrow : ∀ X,Below C.heap.size C X → SlAt 5 112 RNode 0 X (.slice a2 n2 c2) (ns.map PNode.node):=fun X hX => by
  have hmX:=hmC.keep TNode_fr hX.size (fun b hb hlt => hX.block b hlt)
  obtain ⟨bs,q1,_,_⟩:=hmX.fin (Nat.le_trans (Nat.mul_le_mul_right _ (show (ns.map PNode.node).length ≤ 200 by have:=(uh HN).1; simp; omega)) (show 200 * rNode.byt ≤ 140737488355328 by decide))
  exact q1.sl rfl (fun _ => rfl) (fun cs x bs h => TNode_sl h)
 have hbq:=ht2.blk (uh HRB) (by omega)
 have hbC:=hbq.below hC hbq.lt
 have hzB:=(uh HB).size
 have hTB : Below w.heap.size w C:=(uh HB).trans (((ht2.below hzB (by omega)).trans (hC.mono (by have:=ht2.size; omega))))
 have HSO:=hide (implShape_ok (ns.map PNode.node) (.slice a2 n2 c2) C (hrow C (Below.refl _ _)))
 rw [uh HSH] at HSO
 have hbx : BlkAt C w2.heap.size 25 #[.slice a2 n2 c2]:=hCC ▸ blk_box w2 _ _
 have HMC:=hide hmC
 have HBC:=hide (And.intro hbC hbx)
 have HTB:=hide hTB
 have HCC:=hide hCC
 have HNN:=hide ((uh HN).1)
 have hlt2 : w.heap.size < w2.heap.size:=hbq.lt
 clear hm2 ht2 hC hmC hbq hbC hTB hbx hCC hrow hzB HP
 go_wp2_with fail
 rw [← uh HCC]
 refine (uh HSO).mono ?_
 rintro e w3 ⟨rfl,hb3⟩
 have hr3:=(uh HBC).1.below hb3 (uh HBC).1.lt
 have hx3:=(uh HBC).2.below hb3 (uh HBC).2.lt
 have hT4 : Tr w.heap.size w3 (w3.setCell ⟨w.heap.size,0,none⟩ (.slice a2 n2 c2)):=Tr.setCell _ _ _ _
 have hr4:=hr3.set 0 (.slice a2 n2 c2)
 have hb4 : Below w.heap.size w (w3.setCell ⟨w.heap.size,0,none⟩ (.slice a2 n2 c2)):=((uh HTB).trans (hb3.mono (uh HTB).size)).trans (hT4.below (by have:=((uh HTB).trans (hb3.mono (uh HTB).size)).size; omega) (Nat.le_refl _))
 have HF : Hid (PO (.returned (.agg #[.slice a2 n2 c2])) (w3.setCell ⟨w.heap.size,0,none⟩ (.slice a2 n2 c2))):=by
  show PO _ _
  rw [uh HPO]
  refine ⟨_,rfl,⟨_,_,_,rfl⟩,?_,hb4⟩
  have hbs:=uh HBS
  have hm3:=(uh HMC).keep TNode_fr hb3.size (fun b hb hlt => hb3.block b hlt)
  have hm4:=hm3.tr TNode_fr hT4 (by omega)
  exact (hm4.fin (Nat.le_trans (Nat.mul_le_mul_right _ (show (ns.map PNode.node).length ≤ 200 by have:=uh HNN; simp; omega)) (show 200 * rNode.byt ≤ 140737488355328 by decide))).wide (by omega) (Nat.le_refl _)
 have y0:=hr3.cell (i:=0) (v:=.slice none 0 0) rfl
 have g0:=hr3.free 0
 have l0:=hr3.lt
 have x0:=hx3.cell (i:=0) (v:=.slice a2 n2 c2) rfl
 have r0:=hr4.cell (i:=0) (v:=.slice a2 n2 c2) rfl
 clear hb3 hr3 hx3 hT4 hr4 hb4 HSO HMC HBC
 go_wp2
 refine bodyPost_ret ?_ rfl (uh HF)
 simp [results,Tryz.results16,go_sem,r0]
end Go.Proofs.YtajabbnlbopcbaaGreatDoor
