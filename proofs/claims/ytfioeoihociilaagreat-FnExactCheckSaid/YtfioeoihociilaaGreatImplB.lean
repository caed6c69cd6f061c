import Derived.Test.YtfioeoihociilaaGreatCK
import Derived.Test.YtfioeoihociilaaGreatSpecShape
import Derived.Carry
import Derived.Test.YtfioeoihociilaaGreatCS39
namespace Go.Proofs.YtfioeoihociilaaGreat
open Go.RowKit
set_option linter.unusedSimpArgs false
set_option linter.unusedVariables false
theorem SlAt.len {α : Type} {sz byt lo : Nat} {R : Nat → World → List Value → α → Prop} {w : World} {v : Value} {xs : List α} (h : SlAt sz byt R lo w v xs) : xs.length ≤ 140737488355328:=by
 obtain ⟨_,_,_,_,hn,_⟩:=h
 exact hn
set_option maxHeartbeats 1000000 in
theorem equationOK_ok (x : DEq) (a1 a2 a3 : Value) (w : World) (hs : Len x.call.size) (h1 : SlAt 1 16 RStr 0 w a1 x.lhs) (h2 : SlAt 3 32 RItem 0 w a2 x.code) (h3 : SlAt 1 24 RItems 0 w a3 x.args) :
  Calls Tryz.prog 61 #[.agg #[a1,a2,.string x.call,a3]] w (Ans (.bool (eqB x)) w):=by
 obtain ⟨lhs,code,s,args⟩:=x
 simp only [eqB] at *
 have n1:=h1.len
 have n2:=h2.len
 have n3:=h3.len
 obtain ⟨b1,c1,rfl⟩:=h1.shape
 obtain ⟨b2,c2,rfl⟩:=h2.shape
 obtain ⟨b3,c3,rfl⟩:=h3.shape
 have H1:=hide h1
 have H2:=hide h2
 have H3:=hide h3
 clear h1 h2 h3
 have B0:=hide ((Below.refl w.heap.size w).alloc (Nat.le_refl _) (.cells #[.slice b1 lhs.length c1,.slice b2 code.length c2,.string s,.slice b3 args.length c3] 70))
 by_cases g1 : lhs.length = 0
 ·have e : decide (1 ≤ lhs.length ∧ lhs.length ≤ 500 ∧ args.length ≤ 500) = false:=by rw [decide_eq_false_iff_not]; omega
  rw [e,Bool.false_and,Bool.false_and]
  have d1 : ((lhs.length : Int) == 0) = true:=by rw [beq_iff_eq]; omega
  clear e g1
  go_enter Tryz.func61,Tryz.ntmps61
  go_wp2
  go_ret
  exact ⟨rfl,uh B0⟩
 have d1 : ((lhs.length : Int) == 0) = false:=by rw [beq_eq_false_iff_ne]; omega
 by_cases g2 : 500 < lhs.length
 ·have e : decide (1 ≤ lhs.length ∧ lhs.length ≤ 500 ∧ args.length ≤ 500) = false:=by rw [decide_eq_false_iff_not]; omega
  rw [e,Bool.false_and,Bool.false_and]
  have d2 : decide (500 < (lhs.length : Int)) = true:=by simp; omega
  clear e
  go_enter Tryz.func61,Tryz.ntmps61
  go_wp2
  go_ret
  exact ⟨rfl,uh B0⟩
 have d2 : decide (500 < (lhs.length : Int)) = false:=by simp; omega
 by_cases g3 : 500 < args.length
 ·have e : decide (1 ≤ lhs.length ∧ lhs.length ≤ 500 ∧ args.length ≤ 500) = false:=by rw [decide_eq_false_iff_not]; omega
  rw [e,Bool.false_and,Bool.false_and]
  have d3 : decide (500 < (args.length : Int)) = true:=by simp; omega
  clear e
  go_enter Tryz.func61,Tryz.ntmps61
  go_wp2
  go_ret
  exact ⟨rfl,uh B0⟩
 have d3 : decide (500 < (args.length : Int)) = false:=by simp; omega
 have e : decide (1 ≤ lhs.length ∧ lhs.length ≤ 500 ∧ args.length ≤ 500) = true:=by rw [decide_eq_true_iff]; omega
 rw [e,Bool.true_and]
 clear e
 have HL:=hide (everyStr_nameOK_ok nameB hName lhs _ _ ((uh H1).stays RStr_kept (uh B0)))
 cases hl : lhs.all nameB
 ·rw [Bool.false_and]
  rw [hl] at HL
  clear hl
  go_enter Tryz.func61,Tryz.ntmps61
  go_wp2_with fail
  refine (uh HL).mono ?_
  rintro e w1 ⟨rfl,hb⟩
  obtain ⟨hc1,hf1⟩:=bcell hb
  have hz:=hb.size
  have B1 : Hid (Below w.heap.size w w1):=(uh B0).trans (hb.mono (uh B0).size)
  try simp only [World.size_alloc] at hz hc1 hf1
  have hza1 : w.heap.size < w1.heap.size:=by first | omega | (simp at hz; omega)
  clear hb hz
  go_wp2
  go_ret
  exact ⟨rfl,uh B1⟩
 rw [Bool.true_and]
 rw [hl] at HL
 clear hl
 by_cases g4 : s.size = 0
 ·rw [if_pos g4]
  have d4:=empty_yes s g4
  have d4':=isEmpty_yes s g4
  clear g4
  by_cases g5 : lhs.length = 1
  case neg =>
   have e : decide (lhs.length = 1 ∧ args.length = 0) = false:=by rw [decide_eq_false_iff_not]; omega
   rw [e,Bool.false_and]
   have d5 : ((lhs.length : Int) == 1) = false:=by rw [beq_eq_false_iff_ne]; omega
   clear e g5
   go_enter Tryz.func61,Tryz.ntmps61
   go_wp2_with fail
   refine (uh HL).mono ?_
   rintro e w1 ⟨rfl,hb⟩
   obtain ⟨hc1,hf1⟩:=bcell hb
   have hz:=hb.size
   have B1 : Hid (Below w.heap.size w w1):=(uh B0).trans (hb.mono (uh B0).size)
   try simp only [World.size_alloc] at hz hc1 hf1
   have hza1 : w.heap.size < w1.heap.size:=by first | omega | (simp at hz; omega)
   clear hb hz
   go_wp2
   go_ret
   exact ⟨rfl,uh B1⟩
  have d5 : ((lhs.length : Int) == 1) = true:=by rw [beq_iff_eq]; omega
  by_cases g6 : args.length = 0
  case neg =>
   have e : decide (lhs.length = 1 ∧ args.length = 0) = false:=by rw [decide_eq_false_iff_not]; omega
   rw [e,Bool.false_and]
   have d6 : ((args.length : Int) == 0) = false:=by rw [beq_eq_false_iff_ne]; omega
   clear e g5 g6
   go_enter Tryz.func61,Tryz.ntmps61
   go_wp2_with fail
   refine (uh HL).mono ?_
   rintro e w1 ⟨rfl,hb⟩
   obtain ⟨hc1,hf1⟩:=bcell hb
   have hz:=hb.size
   have B1 : Hid (Below w.heap.size w w1):=(uh B0).trans (hb.mono (uh B0).size)
   try simp only [World.size_alloc] at hz hc1 hf1
   have hza1 : w.heap.size < w1.heap.size:=by first | omega | (simp at hz; omega)
   clear hb hz
   go_wp2
   go_ret
   exact ⟨rfl,uh B1⟩
  have e : decide (lhs.length = 1 ∧ args.length = 0) = true:=by rw [decide_eq_true_iff]; omega
  rw [e,Bool.true_and]
  have d6 : ((args.length : Int) == 0) = true:=by rw [beq_iff_eq]; omega
  clear e g5 g6 g1 g2 g3
  go_enter Tryz.func61,Tryz.ntmps61
  go_wp2_with fail
  refine (uh HL).mono ?_
  rintro e w1 ⟨rfl,hb⟩
  obtain ⟨hc1,hf1⟩:=bcell hb
  have hz:=hb.size
  have B1 : Hid (Below w.heap.size w w1):=(uh B0).trans (hb.mono (uh B0).size)
  try simp only [World.size_alloc] at hz hc1 hf1
  have hza1 : w.heap.size < w1.heap.size:=by first | omega | (simp at hz; omega)
  clear hb hz
  go_wp2_with fail
  refine (codeOK_ok code _ _ ((uh H2).stays RItem_kept (uh B1))).mono ?_
  rintro e w2 ⟨rfl,hb2⟩
  go_wp2
  go_ret
  exact ⟨rfl,(uh B1).trans (hb2.mono (uh B1).size)⟩
 ·rw [if_neg g4]
  have d4:=empty_no s g4
  have d4':=isEmpty_no s g4
  clear g4 g1 g2 g3
  cases hnm : nameB s
  ·rw [Bool.false_and,Bool.false_and]
   go_enter Tryz.func61,Tryz.ntmps61
   go_wp2_with fail
   refine (uh HL).mono ?_
   rintro e w1 ⟨rfl,hb⟩
   obtain ⟨hc1,hf1⟩:=bcell hb
   have hz:=hb.size
   have B1 : Hid (Below w.heap.size w w1):=(uh B0).trans (hb.mono (uh B0).size)
   try simp only [World.size_alloc] at hz hc1 hf1
   have hza1 : w.heap.size < w1.heap.size:=by first | omega | (simp at hz; omega)
   clear hb hz
   go_wp2_with fail
   refine (nameOK_ok s _ hs).mono ?_
   rintro e w2 ⟨rfl,hb⟩
   obtain ⟨hc2,hf2⟩:=bcell hb
   have hz:=hb.size
   have B2 : Hid (Below w.heap.size w w2):=(uh B1).trans (hb.mono (uh B1).size)
   try simp only [World.size_alloc] at hz hc2 hf2
   have hza2 : w.heap.size < w2.heap.size:=by first | omega | (simp at hz; omega)
   clear hb hz
   rw [hnm]
   go_wp2
   go_ret
   exact ⟨rfl,uh B2⟩
  rw [Bool.true_and]
  by_cases g5 : code.length = 0
  ·have e : decide (code.length = 0) = true:=by simpa using g5
   rw [e,Bool.true_and]
   have d5 : ((code.length : Int) == 0) = true:=by rw [beq_iff_eq]; omega
   clear e g5
   go_enter Tryz.func61,Tryz.ntmps61
   go_wp2_with fail
   refine (uh HL).mono ?_
   rintro e w1 ⟨rfl,hb⟩
   obtain ⟨hc1,hf1⟩:=bcell hb
   have hz:=hb.size
   have B1 : Hid (Below w.heap.size w w1):=(uh B0).trans (hb.mono (uh B0).size)
   try simp only [World.size_alloc] at hz hc1 hf1
   have hza1 : w.heap.size < w1.heap.size:=by first | omega | (simp at hz; omega)
   clear hb hz
   go_wp2_with fail
   refine (nameOK_ok s _ hs).mono ?_
   rintro e w2 ⟨rfl,hb⟩
   obtain ⟨hc2,hf2⟩:=bcell hb
   have hz:=hb.size
   have B2 : Hid (Below w.heap.size w w2):=(uh B1).trans (hb.mono (uh B1).size)
   try simp only [World.size_alloc] at hz hc2 hf2
   have hza2 : w.heap.size < w2.heap.size:=by first | omega | (simp at hz; omega)
   clear hb hz
   rw [hnm]
   go_wp2_with fail
   refine (everyItems_codeOK_ok cdB hCode args _ _ ((uh H3).stays RItems_kept (uh B2))).mono ?_
   rintro e w3 ⟨rfl,hb3⟩
   go_wp2
   go_ret
   exact ⟨rfl,(uh B2).trans (hb3.mono (uh B2).size)⟩
  ·have e : decide (code.length = 0) = false:=by simpa using g5
   rw [e,Bool.false_and]
   have d5 : ((code.length : Int) == 0) = false:=by rw [beq_eq_false_iff_ne]; omega
   clear e g5
   go_enter Tryz.func61,Tryz.ntmps61
   go_wp2_with fail
   refine (uh HL).mono ?_
   rintro e w1 ⟨rfl,hb⟩
   obtain ⟨hc1,hf1⟩:=bcell hb
   have hz:=hb.size
   have B1 : Hid (Below w.heap.size w w1):=(uh B0).trans (hb.mono (uh B0).size)
   try simp only [World.size_alloc] at hz hc1 hf1
   have hza1 : w.heap.size < w1.heap.size:=by first | omega | (simp at hz; omega)
   clear hb hz
   go_wp2_with fail
   refine (nameOK_ok s _ hs).mono ?_
   rintro e w2 ⟨rfl,hb⟩
   obtain ⟨hc2,hf2⟩:=bcell hb
   have hz:=hb.size
   have B2 : Hid (Below w.heap.size w w2):=(uh B1).trans (hb.mono (uh B1).size)
   try simp only [World.size_alloc] at hz hc2 hf2
   have hza2 : w.heap.size < w2.heap.size:=by first | omega | (simp at hz; omega)
   clear hb hz
   rw [hnm]
   go_wp2
   go_ret
   exact ⟨rfl,uh B2⟩
theorem hEq (x : DEq) (cs : List Value) (w : World) (h : REq 0 w cs x) : Calls Tryz.prog 61 #[valOfEq cs] w (Ans (.bool (eqB x)) w):=by
 obtain ⟨l,c,a,rfl,h0,h1,h2,h3⟩:=h
 exact equationOK_ok x l c a w h0 h1 h2 h3
set_option maxHeartbeats 2000000 in
theorem nodeOK_ok (x : DNode) (a1 a2 a3 a4 : Value) (w : World) (hs : Len x.name.size) (h1 : SlAt 3 48 RVar 0 w a1 x.ins) (h2 : SlAt 3 48 RVar 0 w a2 x.outs) (h3 : SlAt 3 48 RVar 0 w a3 x.vars) (h4 : SlAt 4 88 REq 0 w a4 x.eqs) :
  Calls Tryz.prog 32 #[.agg #[.string x.name,a1,a2,a3,a4]] w (Ans (.bool (nodeB x)) w):=by
 obtain ⟨s,ins,outs,vars,eqs⟩:=x
 simp only [nodeB] at *
 have n1:=h1.len
 have n2:=h2.len
 have n3:=h3.len
 have n4:=h4.len
 obtain ⟨b1,c1,rfl⟩:=h1.shape
 obtain ⟨b2,c2,rfl⟩:=h2.shape
 obtain ⟨b3,c3,rfl⟩:=h3.shape
 obtain ⟨b4,c4,rfl⟩:=h4.shape
 have H1:=hide h1
 have H2:=hide h2
 have H3:=hide h3
 have H4:=hide h4
 clear h1 h2 h3 h4
 have B0:=hide ((Below.refl w.heap.size w).alloc (Nat.le_refl _) (.cells #[.string s,.slice b1 ins.length c1,.slice b2 outs.length c2,.slice b3 vars.length c3,.slice b4 eqs.length c4] 45))
 by_cases g1 : outs.length = 0
 ·have d1 : ((outs.length : Int) == 0) = true:=by rw [beq_iff_eq]; omega
  have e : decide (1 ≤ outs.length ∧ ins.length + outs.length + vars.length ≤ 500 ∧ 1 ≤ eqs.length ∧ eqs.length ≤ 500) = false:=by rw [decide_eq_false_iff_not]; omega
  rw [e]
  simp only [Bool.false_and]
  clear e
  clear g1
  go_enter Tryz.func32,Tryz.ntmps32
  go_wp2
  go_ret
  exact ⟨rfl,uh B0⟩
 have d1 : ((outs.length : Int) == 0) = false:=by rw [beq_eq_false_iff_ne]; omega
 by_cases g2 : 500 < ins.length + outs.length + vars.length
 ·have d2 : decide (500 < (ins.length : Int) + (outs.length : Int) + (vars.length : Int)) = true:=by rw [decide_eq_true_iff]; omega
  have e : decide (1 ≤ outs.length ∧ ins.length + outs.length + vars.length ≤ 500 ∧ 1 ≤ eqs.length ∧ eqs.length ≤ 500) = false:=by rw [decide_eq_false_iff_not]; omega
  rw [e]
  simp only [Bool.false_and]
  clear e
  go_enter Tryz.func32,Tryz.ntmps32
  go_wp2
  go_ret
  exact ⟨rfl,uh B0⟩
 have d2 : decide (500 < (ins.length : Int) + (outs.length : Int) + (vars.length : Int)) = false:=by rw [decide_eq_false_iff_not]; omega
 by_cases g3 : eqs.length = 0
 ·have d3 : ((eqs.length : Int) == 0) = true:=by rw [beq_iff_eq]; omega
  have e : decide (1 ≤ outs.length ∧ ins.length + outs.length + vars.length ≤ 500 ∧ 1 ≤ eqs.length ∧ eqs.length ≤ 500) = false:=by rw [decide_eq_false_iff_not]; omega
  rw [e]
  simp only [Bool.false_and]
  clear e
  clear g3
  go_enter Tryz.func32,Tryz.ntmps32
  go_wp2
  go_ret
  exact ⟨rfl,uh B0⟩
 have d3 : ((eqs.length : Int) == 0) = false:=by rw [beq_eq_false_iff_ne]; omega
 by_cases g4 : 500 < eqs.length
 ·have d4 : decide (500 < (eqs.length : Int)) = true:=by rw [decide_eq_true_iff]; omega
  have e : decide (1 ≤ outs.length ∧ ins.length + outs.length + vars.length ≤ 500 ∧ 1 ≤ eqs.length ∧ eqs.length ≤ 500) = false:=by rw [decide_eq_false_iff_not]; omega
  rw [e]
  simp only [Bool.false_and]
  clear e
  go_enter Tryz.func32,Tryz.ntmps32
  go_wp2
  go_ret
  exact ⟨rfl,uh B0⟩
 have d4 : decide (500 < (eqs.length : Int)) = false:=by rw [decide_eq_false_iff_not]; omega
 have e : decide (1 ≤ outs.length ∧ ins.length + outs.length + vars.length ≤ 500 ∧ 1 ≤ eqs.length ∧ eqs.length ≤ 500) = true:=by rw [decide_eq_true_iff]; omega
 rw [e,Bool.true_and]
 clear e g1 g3
 have HN:=hide (fun w => nameOK_ok s w hs)
 have HE1:=hide (fun w' (h : Below w.heap.size w w') => everyVar_portOK_ok portB hPort ins _ w' ((uh H1).stays RVar_kept h))
 have HE2:=hide (fun w' (h : Below w.heap.size w w') => everyVar_portOK_ok portB hPort outs _ w' ((uh H2).stays RVar_kept h))
 have HE3:=hide (fun w' (h : Below w.heap.size w w') => everyVar_varOK_ok varB hVar vars _ w' ((uh H3).stays RVar_kept h))
 have HE4:=hide (fun w' (h : Below w.heap.size w w') => everyEq_equationOK_ok eqB hEq eqs _ w' ((uh H4).stays REq_kept h))
 clear H1 H2 H3 H4
 generalize nameB s = t0 at *
 generalize ins.all portB = t1 at *
 generalize outs.all portB = t2 at *
 generalize vars.all varB = t3 at *
 generalize eqs.all eqB = t4 at *
 cases t0
 ·go_enter Tryz.func32,Tryz.ntmps32
  go_wp2_with fail
  refine (uh HN _).mono ?_
  rintro e w1 ⟨rfl,hb⟩
  obtain ⟨hc1,hf1⟩:=bcell hb
  have hz:=hb.size
  have B1 : Hid (Below w.heap.size w w1):=(uh B0).trans (hb.mono (uh B0).size)
  try simp only [World.size_alloc] at hz hc1 hf1
  have hza1 : w.heap.size < w1.heap.size:=by first | omega | (simp at hz; omega)
  clear hb hz
  go_wp2
  go_ret
  exact ⟨ret_bool (by simp),uh B1⟩
 cases t1
 ·go_enter Tryz.func32,Tryz.ntmps32
  go_wp2_with fail
  refine (uh HN _).mono ?_
  rintro e w1 ⟨rfl,hb⟩
  obtain ⟨hc1,hf1⟩:=bcell hb
  have hz:=hb.size
  have B1 : Hid (Below w.heap.size w w1):=(uh B0).trans (hb.mono (uh B0).size)
  try simp only [World.size_alloc] at hz hc1 hf1
  have hza1 : w.heap.size < w1.heap.size:=by first | omega | (simp at hz; omega)
  clear hb hz
  go_wp2_with fail
  refine (uh HE1 _ (uh B1)).mono ?_
  rintro e w2 ⟨rfl,hb⟩
  obtain ⟨hc2,hf2⟩:=bcell hb
  have hz:=hb.size
  have B2 : Hid (Below w.heap.size w w2):=(uh B1).trans (hb.mono (uh B1).size)
  try simp only [World.size_alloc] at hz hc2 hf2
  have hza2 : w.heap.size < w2.heap.size:=by first | omega | (simp at hz; omega)
  clear hb hz
  go_wp2
  go_ret
  exact ⟨ret_bool (by simp),uh B2⟩
 cases t2
 ·go_enter Tryz.func32,Tryz.ntmps32
  go_wp2_with fail
  refine (uh HN _).mono ?_
  rintro e w1 ⟨rfl,hb⟩
  obtain ⟨hc1,hf1⟩:=bcell hb
  have hz:=hb.size
  have B1 : Hid (Below w.heap.size w w1):=(uh B0).trans (hb.mono (uh B0).size)
  try simp only [World.size_alloc] at hz hc1 hf1
  have hza1 : w.heap.size < w1.heap.size:=by first | omega | (simp at hz; omega)
  clear hb hz
  go_wp2_with fail
  refine (uh HE1 _ (uh B1)).mono ?_
  rintro e w2 ⟨rfl,hb⟩
  obtain ⟨hc2,hf2⟩:=bcell hb
  have hz:=hb.size
  have B2 : Hid (Below w.heap.size w w2):=(uh B1).trans (hb.mono (uh B1).size)
  try simp only [World.size_alloc] at hz hc2 hf2
  have hza2 : w.heap.size < w2.heap.size:=by first | omega | (simp at hz; omega)
  clear hb hz
  go_wp2_with fail
  refine (uh HE2 _ (uh B2)).mono ?_
  rintro e w3 ⟨rfl,hb⟩
  obtain ⟨hc3,hf3⟩:=bcell hb
  have hz:=hb.size
  have B3 : Hid (Below w.heap.size w w3):=(uh B2).trans (hb.mono (uh B2).size)
  try simp only [World.size_alloc] at hz hc3 hf3
  have hza3 : w.heap.size < w3.heap.size:=by first | omega | (simp at hz; omega)
  clear hb hz
  go_wp2
  go_ret
  exact ⟨ret_bool (by simp),uh B3⟩
 cases t3
 ·go_enter Tryz.func32,Tryz.ntmps32
  go_wp2_with fail
  refine (uh HN _).mono ?_
  rintro e w1 ⟨rfl,hb⟩
  obtain ⟨hc1,hf1⟩:=bcell hb
  have hz:=hb.size
  have B1 : Hid (Below w.heap.size w w1):=(uh B0).trans (hb.mono (uh B0).size)
  try simp only [World.size_alloc] at hz hc1 hf1
  have hza1 : w.heap.size < w1.heap.size:=by first | omega | (simp at hz; omega)
  clear hb hz
  go_wp2_with fail
  refine (uh HE1 _ (uh B1)).mono ?_
  rintro e w2 ⟨rfl,hb⟩
  obtain ⟨hc2,hf2⟩:=bcell hb
  have hz:=hb.size
  have B2 : Hid (Below w.heap.size w w2):=(uh B1).trans (hb.mono (uh B1).size)
  try simp only [World.size_alloc] at hz hc2 hf2
  have hza2 : w.heap.size < w2.heap.size:=by first | omega | (simp at hz; omega)
  clear hb hz
  go_wp2_with fail
  refine (uh HE2 _ (uh B2)).mono ?_
  rintro e w3 ⟨rfl,hb⟩
  obtain ⟨hc3,hf3⟩:=bcell hb
  have hz:=hb.size
  have B3 : Hid (Below w.heap.size w w3):=(uh B2).trans (hb.mono (uh B2).size)
  try simp only [World.size_alloc] at hz hc3 hf3
  have hza3 : w.heap.size < w3.heap.size:=by first | omega | (simp at hz; omega)
  clear hb hz
  go_wp2_with fail
  refine (uh HE3 _ (uh B3)).mono ?_
  rintro e w4 ⟨rfl,hb⟩
  obtain ⟨hc4,hf4⟩:=bcell hb
  have hz:=hb.size
  have B4 : Hid (Below w.heap.size w w4):=(uh B3).trans (hb.mono (uh B3).size)
  try simp only [World.size_alloc] at hz hc4 hf4
  have hza4 : w.heap.size < w4.heap.size:=by first | omega | (simp at hz; omega)
  clear hb hz
  go_wp2
  go_ret
  exact ⟨ret_bool (by simp),uh B4⟩
 go_enter Tryz.func32,Tryz.ntmps32
 go_wp2_with fail
 refine (uh HN _).mono ?_
 rintro e w1 ⟨rfl,hb⟩
 obtain ⟨hc1,hf1⟩:=bcell hb
 have hz:=hb.size
 have B1 : Hid (Below w.heap.size w w1):=(uh B0).trans (hb.mono (uh B0).size)
 try simp only [World.size_alloc] at hz hc1 hf1
 have hza1 : w.heap.size < w1.heap.size:=by first | omega | (simp at hz; omega)
 clear hb hz
 go_wp2_with fail
 refine (uh HE1 _ (uh B1)).mono ?_
 rintro e w2 ⟨rfl,hb⟩
 obtain ⟨hc2,hf2⟩:=bcell hb
 have hz:=hb.size
 have B2 : Hid (Below w.heap.size w w2):=(uh B1).trans (hb.mono (uh B1).size)
 try simp only [World.size_alloc] at hz hc2 hf2
 have hza2 : w.heap.size < w2.heap.size:=by first | omega | (simp at hz; omega)
 clear hb hz
 go_wp2_with fail
 refine (uh HE2 _ (uh B2)).mono ?_
 rintro e w3 ⟨rfl,hb⟩
 obtain ⟨hc3,hf3⟩:=bcell hb
 have hz:=hb.size
 have B3 : Hid (Below w.heap.size w w3):=(uh B2).trans (hb.mono (uh B2).size)
 try simp only [World.size_alloc] at hz hc3 hf3
 have hza3 : w.heap.size < w3.heap.size:=by first | omega | (simp at hz; omega)
 clear hb hz
 go_wp2_with fail
 refine (uh HE3 _ (uh B3)).mono ?_
 rintro e w4 ⟨rfl,hb⟩
 obtain ⟨hc4,hf4⟩:=bcell hb
 have hz:=hb.size
 have B4 : Hid (Below w.heap.size w w4):=(uh B3).trans (hb.mono (uh B3).size)
 try simp only [World.size_alloc] at hz hc4 hf4
 have hza4 : w.heap.size < w4.heap.size:=by first | omega | (simp at hz; omega)
 clear hb hz
 go_wp2_with fail
 refine (uh HE4 _ (uh B4)).mono ?_
 rintro e w5 ⟨rfl,hb⟩
 obtain ⟨hc5,hf5⟩:=bcell hb
 have hz:=hb.size
 have B5 : Hid (Below w.heap.size w w5):=(uh B4).trans (hb.mono (uh B4).size)
 try simp only [World.size_alloc] at hz hc5 hf5
 have hza5 : w.heap.size < w5.heap.size:=by first | omega | (simp at hz; omega)
 clear hb hz
 go_wp2
 go_ret
 exact ⟨ret_bool (by simp),uh B5⟩
theorem hNode (x : DNode) (cs : List Value) (w : World) (h : RNode 0 w cs x) : Calls Tryz.prog 32 #[valOfNode cs] w (Ans (.bool (nodeB x)) w):=by
 obtain ⟨i,o,v,e,rfl,h0,h1,h2,h3,h4⟩:=h
 exact nodeOK_ok x i o v e w h0 h1 h2 h3 h4
set_option maxHeartbeats 400000 in
theorem implShape_ok (ns : List DNode) (v : Value) (w : World) (h1 : SlAt 5 112 RNode 0 w v ns) :
  Calls Tryz.prog 13 #[.agg #[v]] w (Ans (.bool (shapeB ns)) w):=by
 have n1:=h1.len
 obtain ⟨b1,c1,rfl⟩:=h1.shape
 have H1:=hide h1
 clear h1
 have B0:=hide ((Below.refl w.heap.size w).alloc (Nat.le_refl _) (.cells #[.slice b1 ns.length c1] 30))
 simp only [shapeB]
 by_cases g1 : 1 ≤ ns.length
 case neg =>
  have e : decide (1 ≤ ns.length ∧ ns.length ≤ 200) = false:=by rw [decide_eq_false_iff_not]; omega
  rw [e,Bool.false_and]
  have d1 : decide (1 ≤ (ns.length : Int)) = false:=by rw [decide_eq_false_iff_not]; omega
  clear e
  go_enter Tryz.func13,Tryz.ntmps13
  go_wp2
  go_ret
  exact ⟨rfl,uh B0⟩
 have d1 : decide (1 ≤ (ns.length : Int)) = true:=by rw [decide_eq_true_iff]; omega
 by_cases g2 : ns.length ≤ 200
 case neg =>
  have e : decide (1 ≤ ns.length ∧ ns.length ≤ 200) = false:=by rw [decide_eq_false_iff_not]; omega
  rw [e,Bool.false_and]
  have d2 : decide ((ns.length : Int) ≤ 200) = false:=by rw [decide_eq_false_iff_not]; omega
  clear e
  go_enter Tryz.func13,Tryz.ntmps13
  go_wp2
  go_ret
  exact ⟨rfl,uh B0⟩
 have d2 : decide ((ns.length : Int) ≤ 200) = true:=by rw [decide_eq_true_iff]; omega
 have e : decide (1 ≤ ns.length ∧ ns.length ≤ 200) = true:=by rw [decide_eq_true_iff]; omega
 rw [e,Bool.true_and]
 clear e
 go_enter Tryz.func13,Tryz.ntmps13
 go_wp2_with fail
 refine (everyNode_nodeOK_ok nodeB hNode ns _ _ ((uh H1).stays RNode_kept (uh B0))).mono ?_
 rintro e w1 ⟨rfl,hb⟩
 go_wp2
 go_ret
 exact ⟨rfl,(uh B0).trans (hb.mono (uh B0).size)⟩
theorem cd_pos (c : List DItem) (h : cdB c = true) : 0 < c.length:=by
 cases c with
 | nil => simp [cdB,wk] at h
 | cons x xs => simp
theorem shape_nsmall (ns : List DNode) (h : shapeB ns = true) (n : DNode) (hn : n ∈ ns) : NSmall n:=by
 unfold shapeB at h
 simp only [Bool.and_eq_true] at h
 have hnd:=(node_iff n).1 (List.all_eq_true.1 h.2 n hn)
 refine ⟨hnd.1.2.2.2,fun e he => ?_⟩
 have heq:=List.all_eq_true.1 hnd.2.2.2.2.2 e he
 refine ⟨eq_small e heq,fun hc => ?_⟩
 unfold eqB at heq
 rw [if_pos hc] at heq
 simp only [Bool.and_eq_true] at heq
 exact cd_pos _ heq.2.2
theorem shape_name (ns : List DNode) (h : shapeB ns = true) (n : DNode) (hn : n ∈ ns) : nameB n.name = true:=by
 unfold shapeB at h
 simp only [Bool.and_eq_true] at h
 exact ((node_iff n).1 (List.all_eq_true.1 h.2 n hn)).2.1
theorem find_none (ns : List DNode) (h : ∀ n,n ∈ ns → nameB n.name = true) (k : Nat) (s : ByteArray) (hs : s.size = 0) : findI ns k s < 0:=by
 have : findI ns k s = -1:=by
  refine find_miss ns k s fun j hj _ => ?_
  cases hb : (ns[j].name.toList == s.toList)
  ·rfl
  ·have e:=(name_eq _ _).1 hb
   have h1:=h ns[j] (List.getElem_mem hj)
   rw [← e,nameB_empty s hs] at h1
   cases h1
 omega
theorem lib_none (w : World) (b o : Nat) (ns : List DNode) : LibAt (w.alloc (.map #[] 0)) w.heap.size b o ns 0:=by
 refine ⟨fun _ => .pointer none,MapF.made w,fun _ _ => rfl,fun s i hi => ?_⟩
 have:=find_bd ns 0 s
 omega
theorem clk_mem (vs : List DVar) (lhs : List ByteArray) (k : Nat) (nm : ByteArray) : nm ∈ clkTo vs lhs k ↔ ∃ j,∃ hj : j < lhs.length,j < k ∧ nm ∈ (clkOf vs lhs[j]).map (·.name):=by
 induction k with
 | zero => simp [clkTo]
 | succ k ih =>
  unfold clkTo
  rw [List.mem_append,ih]
  constructor
  ·rintro (⟨j,hj,h1,h2⟩ | h)
   ·exact ⟨j,hj,by omega,h2⟩
   ·by_cases hl : k < lhs.length
    ·rw [List.getElem?_eq_getElem hl] at h
     exact ⟨k,hl,by omega,h⟩
    ·rw [List.getElem?_eq_none (by omega)] at h
     cases h
  ·rintro ⟨j,hj,h1,h2⟩
   by_cases c : j < k
   ·exact Or.inl ⟨j,hj,c,h2⟩
   ·have e : j = k:=by omega
    subst e
    right
    rw [List.getElem?_eq_getElem hj]
    exact h2
theorem reads_eq {vs : List DVar} {e : DEq} (hc : clkB vs e = true) (hl : 0 < e.lhs.length) (nm : ByteArray) : nm ∈ readsOf vs e ↔ nm ∈ rdP vs e:=by
 unfold clkB at hc
 rw [Bool.and_eq_true] at hc
 have hsame : ∀ j (hj : j < e.lhs.length),clkOf vs e.lhs[j] = (firstV vs e).clock:=fun j hj => by
  cases hs : sameC (clkOf vs e.lhs[j]) (firstV vs e).clock with
  | true => exact (sameC_iff _ _).1 hs
  | false =>
   have h9:=clks_no vs e.lhs (firstV vs e).clock j hj hs
   rw [h9] at hc
   cases hc.1
 unfold readsOf rdP
 rw [List.mem_append,List.mem_append,clk_mem]
 constructor
 ·rintro (⟨j,hj,_,h2⟩ | h)
  ·rw [hsame j hj] at h2; exact Or.inl h2
  ·exact Or.inr h
 ·rintro (h | h)
  ·exact Or.inl ⟨0,hl,hl,by rw [hsame 0 hl]; exact h⟩
  ·exact Or.inr h
theorem edge_iff (x : DNode) (u v : Nat) : edge x u v = true ↔ ∃ hu : u < x.eqs.length,∃ nm,nm ∈ readsOf (allV x) x.eqs[u] ∧ defI x.eqs nm = (v : Int):=by
 unfold edge
 by_cases hu : u < x.eqs.length
 ·rw [List.getElem?_eq_getElem hu]
  simp only
  unfold rowTo
  rw [List.take_length,List.any_eq_true]
  constructor
  ·rintro ⟨nm,h1,h2⟩; exact ⟨hu,nm,h1,by simpa using h2⟩
  ·rintro ⟨_,nm,h1,h2⟩; exact ⟨nm,h1,by simpa using h2⟩
 ·rw [List.getElem?_eq_none (by omega)]
  constructor
  ·intro h; cases h
  ·rintro ⟨h,_⟩; exact absurd h hu
theorem def_giv {x : DNode} {G : List Int} (hg : GI x G x.eqs.length) {nm : ByteArray} (hl : lookN (allV x) nm < (allV x).length) (v : Nat) : defI x.eqs nm = (v : Int) ↔ G.getD (lookN (allV x) nm) 0 = (v : Int):=by
 have hn:=look_name (allV x) nm hl
 have hgv:=hg.giv _ hl
 rw [hn] at hgv
 have hdm : defN x.eqs nm < x.eqs.length → ∃ hq : defN x.eqs nm < x.eqs.length,nm ∈ x.eqs[defN x.eqs nm].lhs:=fun h => by
  have h9:=List.findIdx_getElem (w:=h)
  exact ⟨h,(inB_iff _ _).1 h9⟩
 constructor
 ·intro h
  unfold defI at h
  by_cases c : defN x.eqs nm < x.eqs.length
  ·rw [if_pos c] at h
   obtain ⟨hq,hm⟩:=hdm c
   have e : defN x.eqs nm = v:=by omega
   subst e
   exact (hgv _).2 ⟨hq,hq,hm⟩
  ·rw [if_neg c] at h
   omega
 ·intro h
  obtain ⟨hv,_,hm⟩:=(hgv v).1 h
  have c : defN x.eqs nm < x.eqs.length:=by
   unfold defN
   exact List.findIdx_lt_length_of_exists ⟨x.eqs[v],List.getElem_mem hv,(inB_iff _ _).2 hm⟩
  obtain ⟨hq,hm2⟩:=hdm c
  have h9:=(hgv _).2 ⟨hq,hq,hm2⟩
  unfold defI
  rw [if_pos c]
  rw [h] at h9
  omega
theorem cyc_eq (Dq : DecA) {x : DNode} {G : List Int} (hg : GI x G x.eqs.length) (hok : LpOK x G) (hclk : ∀ e,e ∈ x.eqs → clkB (allV x) e = true) : cycP Dq x G=if cycB x then (8,0) else (0,0):=by
 have hE : ∀ u v,edgP x G u v ↔ edge x u v = true:=fun u v => by
  rw [edge_iff]
  unfold edgP
  constructor
  ·rintro ⟨hu,nm,h1,h2⟩
   have hm:=List.getElem_mem hu
   refine ⟨hu,nm,(reads_eq (hclk _ hm) (hok.lh _ hm) nm).2 h1,(def_giv hg (hok.nms _ hm nm h1).1 v).2 h2⟩
  ·rintro ⟨hu,nm,h1,h2⟩
   have hm:=List.getElem_mem hu
   have h3:=(reads_eq (hclk _ hm) (hok.lh _ hm) nm).1 h1
   exact ⟨hu,nm,h3,(def_giv hg (hok.nms _ hm nm h3).1 v).1 h2⟩
 have hiff : (∃ u,u < x.eqs.length ∧ Tg (edgP x G) u u) ↔ cycB x = true:=by
  unfold cycB
  rw [diag_iff]
  constructor
  ·rintro ⟨u,hu,ht⟩
   refine ⟨u,hu,wK_pt _ _ _ (Nat.le_refl _) u u hu hu (tg_pt (fun a b h => ?_) (E:=fun a b => edge x a b = true) ?_)⟩
   ·obtain ⟨ha,nm,_,h2⟩:=(edge_iff x a b).1 h
    have:=(defI_bd x.eqs nm).2
    exact ⟨ha,by omega⟩
   ·have hmap : ∀ a b,Tg (edgP x G) a b → Tg (fun a b => edge x a b = true) a b:=fun a b h => by
     induction h using Tg.ind with
     | one h => exact .one ((hE _ _).1 h)
     | snoc h k ih => exact .snoc ih ((hE _ _).1 k)
    exact hmap u u ht
  ·rintro ⟨u,hu,h⟩
   exact ⟨u,hu,wK_tg (fun a b h => .one ((hE a b).2 h)) _ u u h⟩
 unfold cycP
 by_cases c : cycB x = true
 ·rw [if_pos (hiff.2 c),if_pos c]
 ·rw [if_neg (fun h => c (hiff.1 h)),if_neg c]
def rsF (D:DecA) (ns : List DNode) (i : Nat) (x : DNode) : Nat → Int × Int
 | 0 => namesF ns i x
 | 1 => clocksF (allV x)
 | 2 => eqsF ns i x (giv0 x)
 | 3 => missF (allV x).length (givTo x (giv0 x) x.eqs.length) x.eqs.length
 | 4 => cycP D x (givTo x (giv0 x) x.eqs.length)
 | _ => boundsF ((wNodeTo ns i (wsTo ns i) x.eqs x.eqs.length : Nat) : Int) (allV x).length x.eqs.length (innTot x.eqs x.eqs.length)
def nodeP (D:DecA) (ns : List DNode) (i : Nat) (x : DNode) : Int × Int:=match firstTo (fun k => (rsF D ns i x k).1 != 0) 6 with
 | some k => rsF D ns i x k
 | none => (0,0)
theorem names_zero {ns : List DNode} {i : Nat} {x : DNode} (h : (namesF ns i x).1 = 0) : ¬ 0 ≤ findI ns i x.name ∧ firstTo (dupB (allV x)) (allV x).length = none:=by
 unfold namesF at h
 by_cases c : 0 ≤ findI ns i x.name
 ·rw [if_pos c] at h; cases h
 ·rw [if_neg c] at h
  cases hq : firstTo (dupB (allV x)) (allV x).length with
  | none => exact ⟨c,rfl⟩
  | some k => rw [hq] at h; cases h
theorem clocks_zero {vs : List DVar} (h : (clocksF vs).1 = 0) : firstTo (clkBad vs) vs.length = none:=by
 unfold clocksF at h
 cases hq : firstTo (clkBad vs) vs.length with
 | none => rfl
 | some k => rw [hq] at h; cases h
theorem eqs_zero {ns : List DNode} {i : Nat} {x : DNode} {G : List Int} (h : (eqsF ns i x G).1 = 0) : ∀ k,k < x.eqs.length → eqI ns i x G k = 0:=by
 unfold eqsF at h
 cases hq : firstTo (fun k => eqI ns i x G k != 0) x.eqs.length with
 | none =>
  intro k hk
  have h9:=first_no hq k hk
  simpa using h9
 | some k =>
  rw [hq] at h
  obtain ⟨_,h2,_⟩:=first_val hq
  simp only at h
  rw [h] at h2
  cases h2
theorem node_eq (Dq : DecA) {ns : List DNode} {i : Nat} (hi : i < ns.length) (hnb : ∀ n,n ∈ ns → nodeB n = true) : nodeP Dq ns i ns[i] = nodeFault ns i ns[i]:=by
 obtain ⟨x,hx⟩ : ∃ x,x = ns[i]:=⟨_,rfl⟩
 have hxb : nodeB x = true:=by rw [hx]; exact hnb _ (List.getElem_mem hi)
 have hws : (wsTo ns ns.length).getD i 0 = ((wNodeTo ns i (wsTo ns i) x.eqs x.eqs.length : Nat) : Int):=by
  have ws_getD : ∀ m,i + 1 ≤ m → (wsTo ns m).getD i 0 = (wsTo ns (i + 1)).getD i 0:=fun m => by
   induction m with
   | zero => intro h; omega
   | succ m ih =>
    intro h
    by_cases c : m = i
    ·rw [c]
    ·rw [ws_old ns m i (by omega)]
     exact ih (by omega)
  rw [ws_getD _ (by omega),ws_new ns i hi,hx]
 rw [← hx]
 unfold nodeP
 have step : ∀ k,(∀ j,j < k → (rsF Dq ns i x j).1 = 0) → k < 6 → (rsF Dq ns i x k).1 ≠ 0 → firstTo (fun k => (rsF Dq ns i x k).1 != 0) 6 = some k:=fun k h1 h2 h3 => first_hit h2 (by simpa using h3) (fun j hj => by simpa using h1 j hj)
 by_cases c0 : (namesF ns i x).1 = 0
 rotate_left
 ·rw [step 0 (fun j hj => by omega) (by decide) c0]
  show namesF ns i x = _
  unfold namesF nodeFault
  unfold namesF at c0
  by_cases c : 0 ≤ findI ns i x.name
  ·rw [if_pos c,if_pos c]
  ·rw [if_neg c] at c0 ⊢
   rw [if_neg c]
   cases hq : firstTo (dupB (allV x)) (allV x).length with
   | none => rw [hq] at c0; exact absurd rfl c0
   | some k => rfl
 obtain ⟨hnf,hdn⟩:=names_zero c0
 have hdup:=dup_all hdn
 by_cases c1 : (clocksF (allV x)).1 = 0
 rotate_left
 ·rw [step 1 (fun j hj => (by obtain rfl : j = 0:=(by omega); exact c0)) (by decide) c1]
  show clocksF (allV x) = _
  unfold clocksF at c1 ⊢
  unfold nodeFault
  rw [if_neg hnf,hdn]
  cases hq : firstTo (clkBad (allV x)) (allV x).length with
  | none => rw [hq] at c1; exact absurd rfl c1
  | some k => rfl
 have hcn:=clocks_zero c1
 have hfirst : firstTo (fun k => eqI ns i x (giv0 x) k != 0) x.eqs.length = firstTo (fun k => eqCode ns i x k != 0) x.eqs.length:=first_congr (fun k hk h => by
  show (eqI ns i x (giv0 x) k != 0) = (eqCode ns i x k != 0)
  rw [eq_same hxb hdup k hk (fun j hj => by simpa using h j hj)])
 by_cases c2 : (eqsF ns i x (giv0 x)).1 = 0
 rotate_left
 ·rw [step 2 (fun j hj => by rcases (show j = 0 ∨ j = 1 by omega) with rfl | rfl; exact c0; exact c1) (by decide) c2]
  show eqsF ns i x (giv0 x) = _
  unfold eqsF at c2 ⊢
  cases hq : firstTo (fun k => eqI ns i x (giv0 x) k != 0) x.eqs.length with
  | none => rw [hq] at c2; exact absurd rfl c2
  | some k =>
   obtain ⟨h1,h2,h3⟩:=first_val hq
   rw [hfirst] at hq
   rw [nf_eq hnf hdn hcn hq]
   simp only
   rw [eq_same hxb hdup k h1 (fun j hj => by simpa using h3 j hj)]
 have heq:=eqs_zero c2
 have hg:=gi_all (ns:=ns) (i:=i) hdup x.eqs.length (Nat.le_refl _) heq
 have hok:=lp_ok hnb hxb (first_no hcn) heq
 have hqn : firstTo (fun k => eqCode ns i x k != 0) x.eqs.length = none:=by
  rw [← hfirst]
  exact first_none (fun j hj => by rw [heq j hj]; rfl)
 rw [nf_rest hnf hdn hcn hqn]
 have hm:=miss_eq hg
 by_cases c3 : (seenTo x.eqs x.eqs.length).length ≠ x.outs.length + x.vars.length
 ·rw [if_pos c3] at hm ⊢
  rw [step 3 (fun j hj => by rcases (show j = 0 ∨ j = 1 ∨ j = 2 by omega) with rfl | rfl | rfl; exact c0; exact c1; exact c2) (by decide) (by show (missF _ _ _).1 ≠ 0; rw [hm]; show (4 : Int) ≠ 0; decide)]
  exact hm
 rw [if_neg c3] at hm ⊢
 have c3' : (rsF Dq ns i x 3).1 = 0:=by show (missF _ _ _).1 = 0; rw [hm]
 have hcy:=cyc_eq Dq hg hok (fun e he => by
  obtain ⟨k,hk,rfl⟩:=List.mem_iff_getElem.1 he
  have h9:=heq k hk
  rw [eqI_at _ _ _ _ _ hk] at h9
  exact (eqV_zero h9).2.2.2)
 by_cases c4 : cycB x = true
 ·rw [if_pos c4] at hcy ⊢
  rw [step 4 (fun j hj => by rcases (show j = 0 ∨ j = 1 ∨ j = 2 ∨ j = 3 by omega) with rfl | rfl | rfl | rfl; exact c0; exact c1; exact c2; exact c3') (by decide) (by show (cycP _ _ _).1 ≠ 0; rw [hcy]; decide)]
  exact hcy
 rw [if_neg c4] at hcy ⊢
 have c4' : (rsF Dq ns i x 4).1 = 0:=by show (cycP _ _ _).1 = 0; rw [hcy]
 rw [hws]
 by_cases c5 : 20000 < ((wNodeTo ns i (wsTo ns i) x.eqs x.eqs.length : Nat) : Int) ∨ 500 < (allV x).length + innTot x.eqs x.eqs.length ∨ 500 < x.eqs.length + innTot x.eqs x.eqs.length
 ·rw [if_pos c5]
  have hb : rsF Dq ns i x 5 = (9,0):=by
   show boundsF _ _ _ _ = _
   unfold boundsF
   rw [if_pos c5]
  rw [step 5 (fun j hj => by rcases (show j = 0 ∨ j = 1 ∨ j = 2 ∨ j = 3 ∨ j = 4 by omega) with rfl | rfl | rfl | rfl | rfl; exact c0; exact c1; exact c2; exact c3'; exact c4') (by decide) (by rw [hb]; decide)]
  exact hb
 ·rw [if_neg c5]
  have hb : rsF Dq ns i x 5 = (0,0):=by
   show boundsF _ _ _ _ = _
   unfold boundsF
   rw [if_neg c5]
  rw [first_none (fun j hj => by
   rcases (show j = 0 ∨ j = 1 ∨ j = 2 ∨ j = 3 ∨ j = 4 ∨ j = 5 by omega) with rfl | rfl | rfl | rfl | rfl | rfl
   ·have c0' : (rsF Dq ns i x 0).1 = 0:=c0
    simpa using c0'
   ·have c1' : (rsF Dq ns i x 1).1 = 0:=c1
    simpa using c1'
   ·have c2' : (rsF Dq ns i x 2).1 = 0:=c2
    simpa using c2'
   ·simpa using c3'
   ·simpa using c4'
   ·rw [hb]; rfl)]
end Go.Proofs.YtfioeoihociilaaGreat
