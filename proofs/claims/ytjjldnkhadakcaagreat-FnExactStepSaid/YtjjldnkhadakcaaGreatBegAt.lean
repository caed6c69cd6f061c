import Derived.Test.YtjjldnkhadakcaaGreatItems
import Derived.Test.YtjjldnkhadakcaaGreatChars
namespace Go.Proofs.YtjjldnkhadakcaaGreat
open Go.RowKit
set_option linter.unusedSimpArgs false
set_option linter.unusedVariables false
set_option maxHeartbeats 400000 in
theorem l1Begin_at (ys : List DItem) (n0 : Nat) (hn0 : n0 ≤ ys.length) (v : Value) (w : World) (hv : SlAt 3 32 RItem 0 w v ys) :
  Calls Tryz.prog 115 #[v,.int .i64 n0] w fun e w' => e = .returned (.int .i64 (bgI (ys.take n0))) ∧ w' = w:=by
 obtain ⟨a,cap,rfl,_,hn,hx⟩:=hv
 unfold Len at hn
 have hxl : (ys.take n0).length = n0:=by rw [List.length_take]; omega
 obtain ⟨xs,hxs⟩ : ∃ xs,xs = ys.take n0:=⟨_,rfl⟩
 rw [← hxs] at hxl ⊢
 have HX : Hid (∀ i (h : i < xs.length),∃ b o cs,a = some ⟨b,o,none⟩ ∧ 0 ≤ b ∧ b < w.heap.size ∧ cs.length = 3 ∧ (∀ j (hj : j < cs.length),w.cell? ⟨b,o + i * 3 + j,none⟩ = some cs[j]) ∧ RItem 0 w cs xs[i]):=by
  intro i hi
  obtain ⟨b,o,cs,h1,h2,h3,h4,h5,h6⟩:=hx i (by omega)
  refine ⟨b,o,cs,h1,h2,h3,h4,h5,?_⟩
  have : xs[i] = ys[i]'(by omega):=by subst hxs; simp
  rw [this]
  exact h6
 clear hx
 subst hxl
 clear hxs
 go_enter Tryz.func115,Tryz.ntmps115
 go_wp2
 go_loopg [5,6] (xs.length) (fun g l i wr => ∃ (m n : Nat),m ≤ xs.length ∧ g = m ∧ l = .int .i64 m ∧ i = .int .i64 n ∧ n + 3 * m ≤ 3 * xs.length + 1 ∧ bk xs.reverse 1 = bk (xs.take m).reverse n ∧ wr = w)
 case atStart => exact ⟨xs.length,1,Nat.le_refl _,rfl,rfl,rfl,by omega,by rw [List.take_length],rfl⟩
 case round =>
  obtain ⟨m,n,hm,hg,rfl,rfl,hn3,hbk,rfl⟩:=hrel
  have HG:=hide hg
  have HB:=hide hbk
  clear hg hbk
  match n with
  | 0 =>
   have F : bgI xs = m:=by
    unfold bgI
    rw [uh HB,bk_zero]
    simp
    omega
   have HF:=hide F
   clear F
   go_wp2
   go_ret
   exact ⟨ret_int (uh HF).symm,rfl⟩
  | n + 1 =>
   match m with
   | 0 =>
    have F : bgI xs = -1:=by
     unfold bgI
     rw [uh HB]
     rfl
    have HF:=hide F
    clear F
    go_wp2
    go_ret
    exact ⟨ret_int (uh HF).symm,rfl⟩
   | m + 1 =>
    have hlt : m < xs.length:=by omega
    obtain ⟨b,o,cs,rfl,_,hb,hcs,hc,hR⟩:=uh HX m hlt
    obtain ⟨rfl,hsn,ho,hvl⟩:=hR
    have c0:=hc 0 (by simp)
    simp only [Nat.mul_one,Nat.add_zero,List.getElem_cons_zero,List.getElem_cons_succ] at c0
    have hbd:=arI_bd xs[m].op
    have HAR:=hide (fun w => l1Arity_ok xs[m].op w ho)
    have hd:=uh HB
    rw [take_rev xs m hlt] at hd
    simp only [bk] at hd
    by_cases hneg : arI xs[m].op < 0
    ·have F : bgI xs = -1:=by
      unfold bgI
      rw [hd,if_pos hneg]
     have HF:=hide F
     clear F hd hc hcs ho hvl hsn
     generalize xs[m].op = op at *
     generalize arI op = ar at *
     go_wp2_with fail
     refine (uh HAR _).mono ?_
     rintro e w1 ⟨rfl,rfl⟩
     go_wp2
     go_ret
     exact ⟨ret_int (uh HF).symm,rfl⟩
    ·rw [if_neg hneg] at hd
     have HF:=hide hd
     clear hd hc hcs ho hvl hsn
     generalize xs[m].op = op at *
     generalize arI op = ar at *
     go_wp2_with fail
     refine (uh HAR _).mono ?_
     rintro e w1 ⟨rfl,rfl⟩
     go_wp2_with fail
     refine (uh HAR _).mono ?_
     rintro e w1 ⟨rfl,rfl⟩
     go_wp2
     go_roundg m
     case measure => have:=uh HG; omega
     case rel => exact ⟨m,n + ar.toNat,by omega,rfl,by go_num,int_eq (by omega),by omega,uh HF,rfl⟩
end Go.Proofs.YtjjldnkhadakcaaGreat
namespace Go.Proofs.YtjjldnkhadakcaaGreat
set_option linter.unusedSimpArgs false
set_option linter.unusedVariables false
def arF (op : Int) : Nat:=(ocI op).toNat
def Fd {α : Type} (f : DItem → List α → α) (code : List DItem) (b e : Nat) (ss : List α) : Prop :=
  ∀ P : Nat → Nat → List α → Prop, (∀ b, P b b []) → (∀ (b m e : Nat) (ss us : List α) (h : e < code.length), P b m ss → P m e us → us.length = arF code[e].op → P b (e + 1) (ss ++ [f code[e] us])) → P b e ss
theorem Fd.nil {α : Type} {f : DItem → List α → α} {code : List DItem} (b : Nat) : Fd f code b b [] := fun _ h _ => h b
theorem Fd.snoc {α : Type} {f : DItem → List α → α} {code : List DItem} {b m e : Nat} {ss us : List α} (h : e < code.length) (h1 : Fd f code b m ss) (h2 : Fd f code m e us) (h3 : us.length = arF code[e].op) : Fd f code b (e + 1) (ss ++ [f code[e] us]) := fun P a c => c b m e ss us h (h1 P a c) (h2 P a c) h3
theorem Fd.ind {α : Type} {f : DItem → List α → α} {code : List DItem} {motive : ∀ (b e : Nat) (ss : List α), Fd f code b e ss → Prop} (nil : ∀ b, motive b b [] (Fd.nil b)) (snoc : ∀ {b m e : Nat} {ss us : List α} (h : e < code.length) (h1 : Fd f code b m ss) (h2 : Fd f code m e us) (h3 : us.length = arF code[e].op), motive b m ss h1 → motive m e us h2 → motive b (e + 1) (ss ++ [f code[e] us]) (Fd.snoc h h1 h2 h3)) {b e : Nat} {ss : List α} (t : Fd f code b e ss) : motive b e ss t := by
  obtain ⟨_, k⟩ := t (fun b e ss => ∃ h : Fd f code b e ss, motive b e ss h) (fun b => ⟨_, nil b⟩) (fun b m e ss us h ⟨h1, k1⟩ ⟨h2, k2⟩ h3 => ⟨_, snoc h h1 h2 h3 k1 k2⟩)
  exact k
theorem Fd.inv {α : Type} {f : DItem → List α → α} {code : List DItem} {motive : ∀ (b e : Nat) (ss : List α), Fd f code b e ss → Prop} {b e : Nat} {ss : List α} (t : Fd f code b e ss) (nil : ∀ b, motive b b [] (Fd.nil b)) (snoc : ∀ {b m e : Nat} {ss us : List α} (h : e < code.length) (h1 : Fd f code b m ss) (h2 : Fd f code m e us) (h3 : us.length = arF code[e].op), motive b (e + 1) (ss ++ [f code[e] us]) (Fd.snoc h h1 h2 h3)) : motive b e ss t :=
  Fd.ind (motive := motive) nil (fun h h1 h2 h3 _ _ => snoc h h1 h2 h3) t
section
variable {α : Type} {f : DItem → List α → α} {code : List DItem}
theorem Fd.le {b e : Nat} {ss : List α} (h : Fd f code b e ss) : b ≤ e:=by
 induction h using Fd.ind with
 | nil => exact Nat.le_refl _
 | snoc h h1 h2 h3 i1 i2 => omega
theorem Fd.split {b e : Nat} {ss : List α} (h : Fd f code b e ss) : ∀ n,n ≤ ss.length → ∃ m s1 s2,ss = s1 ++ s2 ∧ s2.length = n ∧ Fd f code b m s1 ∧ Fd f code m e s2:=by
 induction h using Fd.ind with
 | nil b =>
  intro n hn
  have : n = 0:=by simpa using hn
  exact ⟨b,[],[],rfl,by simp [this],.nil b,.nil b⟩
 | @snoc b m e ss us h h1 h2 h3 i1 i2 =>
  intro n hn
  match n with
  | 0 => exact ⟨e + 1,_,[],(List.append_nil _).symm,rfl,.snoc h h1 h2 h3,.nil _⟩
  | n + 1 =>
   obtain ⟨m',s1,s2,rfl,hl,c1,c2⟩:=i1 n (by simpa using hn)
   exact ⟨m',s1,s2 ++ [f code[e] us],by simp,by simp [hl],c1,.snoc h c2 h2 h3⟩
theorem Fd.nil_eq {b m : Nat} (h : Fd f code b m []) : b = m:=by
 generalize hs : ([] : List α) = ss at h
 cases h using Fd.inv with
 | nil => rfl
 | snoc _ _ _ _ => simp at hs
theorem Fd.last {b e : Nat} {s : α} (h : Fd f code b (e + 1) [s]) : ∃ (h : e < code.length) (us : List α),Fd f code b e us ∧ us.length = arF code[e].op ∧ s = f code[e] us:=by
 generalize hss : [s] = ss at h
 generalize he : e + 1 = e' at h
 cases h using Fd.inv with
 | nil => cases hss
 | @snoc _ m e2 ss us h h1 h2 h3 =>
  obtain rfl : e = e2:=by omega
  have : ss = [] ∧ s = f code[e] us:=by
   cases ss with
   | nil => simpa using hss
   | cons x xs => simp at hss
  obtain ⟨rfl,rfl⟩:=this
  obtain rfl:=h1.nil_eq
  exact ⟨h,us,h2,h3,rfl⟩
theorem Fd.snoc_inv {b e : Nat} {ss : List α} {n : Nat} (h : Fd f code b e ss) (hn : ss.length = n + 1) :
  ∃ m e1 s0 us,∃ h : e1 < code.length,e = e1 + 1 ∧ ss = s0 ++ [f code[e1] us] ∧ s0.length = n ∧ Fd f code b m s0 ∧ Fd f code m e1 us ∧ us.length = arF code[e1].op:=by
 cases h using Fd.inv with
 | nil => simp at hn
 | @snoc _ m e1 s0 us h h1 h2 h3 => exact ⟨m,e1,s0,us,h,rfl,rfl,by simpa using hn,h1,h2,h3⟩
theorem Fd.one : ∀ e b b' us us',Fd f code b e us → Fd f code b' e us' → us.length = us'.length → b = b' ∧ us = us':=by
 intro e
 induction e using Nat.strongRecOn with
 | _ e ih =>
  intro b b' us us' h h' hl
  match hn : us.length with
  | 0 =>
   have e1 : us = []:=List.eq_nil_of_length_eq_zero hn
   have e2 : us' = []:=List.eq_nil_of_length_eq_zero (by omega)
   subst e1 e2
   exact ⟨h.nil_eq.trans h'.nil_eq.symm,rfl⟩
  | n + 1 =>
   obtain ⟨m,e1,s0,u,hlt,rfl,rfl,hs0,c1,c2,c3⟩:=h.snoc_inv hn
   obtain ⟨m',e1',s0',u',hlt',he',rfl,hs0',c1',c2',c3'⟩:=h'.snoc_inv (n:=n) (by omega)
   obtain rfl : e1 = e1':=by omega
   obtain ⟨rfl,rfl⟩:=ih e1 (Nat.lt_succ_self _) m m' u u' c2 c2' (by rw [c3,c3'])
   obtain ⟨rfl,rfl⟩:=ih m (by have:=c2.le; omega) b b' s0 s0' c1 c1' (by omega)
   exact ⟨rfl,rfl⟩
theorem fd_pre (f : DItem → List α → α) (h : wk code 0 = true) : ∀ k,k ≤ code.length → ∃ ss : List α,Fd f code 0 k ss ∧ wk (code.drop k) ss.length = true ∧ (0 < k → 0 < ss.length):=by
 intro k
 induction k with
 | zero => intro _; exact ⟨[],.nil 0,by simpa using h,fun h => absurd h (Nat.lt_irrefl _)⟩
 | succ k ih =>
  intro hk
  obtain ⟨ss,hc,hw,_⟩:=ih (by omega)
  have hlt : k < code.length:=by omega
  rw [List.drop_eq_getElem_cons hlt] at hw
  simp only [wk] at hw
  have hbd:=ocI_bd code[k].op
  by_cases hneg : (ss.length : Int) < ocI code[k].op
  ·rw [if_pos hneg] at hw; cases hw
  rw [if_neg hneg] at hw
  have har : ((arF code[k].op : Nat) : Int) = ocI code[k].op:=by unfold arF; omega
  obtain ⟨m,s1,s2,rfl,hl2,c1,c2⟩:=hc.split (arF code[k].op) (by omega)
  refine ⟨s1 ++ [f code[k] s2],.snoc hlt c1 c2 hl2,?_,fun _ => by simp⟩
  rw [List.length_append] at hw
  have : (((s1 ++ [f code[k] s2]).length : Nat) : Int) = ((s1.length + s2.length : Nat) : Int) + (1 - ocI code[k].op):=by simp; omega
  rw [this]
  exact hw
theorem fd_all (f : DItem → List α → α) (h : wk code 0 = true) : ∃ s,Fd f code 0 code.length [s]:=by
 obtain ⟨ss,hc,hw,_⟩:=fd_pre f h code.length (Nat.le_refl _)
 rw [List.drop_length] at hw
 have hl : ss.length = 1:=by
  simp [wk] at hw
  omega
 match ss,hl with
 | [s],_ => exact ⟨s,hc⟩
theorem fd_bk (har : ∀ t,t ∈ code → 0 ≤ arI t.op) {b e : Nat} {us : List α} (h : Fd f code b e us) : ∀ n,bk (code.take e).reverse (n + us.length) = bk (code.take b).reverse n:=by
 induction h using Fd.ind with
 | nil b => intro n; simp
 | @snoc b m e ss us h h1 h2 h3 i1 i2 =>
  intro n
  have ha:=har code[e] (List.getElem_mem h)
  have ho:=oc_ar _ ha
  rw [take_rev code e h]
  rw [List.length_append,show n + (ss.length + [f code[e] us].length) = (n + ss.length) + 1 from by simp; omega]
  simp only [bk]
  rw [if_neg (by omega),← i1 n,← i2 (n + ss.length)]
  congr 1
  rw [h3]
  unfold arF
  rw [ho]
theorem fd_bg (har : ∀ t,t ∈ code → 0 ≤ arI t.op) {b e : Nat} {u : α} (h : Fd f code b e [u]) (he : e ≤ code.length) : bgI (code.take e) = b:=by
 have h1:=fd_bk har h 0
 unfold bgI
 rw [show 0 + [u].length = 1 from rfl] at h1
 rw [h1,bk_zero]
 have:=h.le
 simp
 omega
end
def sfV {α : Type} (f : DItem → List α → α) (st : List α) (t : DItem) : List α := st.take (st.length - arF t.op) ++ [f t (st.drop (st.length - arF t.op))]
theorem fd_st {α : Type} {f : DItem → List α → α} {code : List DItem} {b e : Nat} {ss : List α} (h : Fd f code b e ss) : ∀ z, z ++ ss = ((code.take e).drop b).foldl (sfV f) z := by
  induction h using Fd.ind with
  | nil b => intro z; simp
  | @snoc b m e ss us h h1 h2 h3 i1 i2 =>
    intro z
    have e1 := h1.le
    have e2 := h2.le
    have q1 : code.take (e + 1) = code.take e ++ [code[e]] := by simp
    have q2 : ((code.take e).drop b) = ((code.take m).drop b) ++ ((code.take e).drop m) := by
      conv => lhs; rw [← List.take_append_drop m (code.take e), List.take_take, Nat.min_eq_left e2]
      rw [List.drop_append_of_le_length (by rw [List.length_take]; omega)]
    rw [q1, List.drop_append_of_le_length (by rw [List.length_take]; omega), q2, List.foldl_append, List.foldl_append, ← i1, ← i2]
    show _ = sfV f (z ++ ss ++ us) code[e]
    unfold sfV
    have q3 : (z ++ ss ++ us).length - us.length = (z ++ ss).length := by simp; omega
    rw [← h3, q3, List.take_left, List.drop_left, List.append_assoc]
def fdV {α : Type} [Inhabited α] (f : DItem → List α → α) (code : List DItem) (e : Nat) : α := ((code.take e).foldl (sfV f) []).getLastD default
theorem fdV_of {α : Type} [Inhabited α] {f : DItem → List α → α} {code : List DItem} {b e : Nat} {s : α} (h : Fd f code b e [s]) : fdV f code e = s := by
  have h1 := fd_st h ((code.take b).foldl (sfV f) [])
  have h2 : code.take e = code.take b ++ (code.take e).drop b := by
    conv => lhs; rw [← List.take_append_drop b (code.take e), List.take_take, Nat.min_eq_left h.le]
  unfold fdV
  rw [h2, List.foldl_append, ← h1]
  simp
end Go.Proofs.YtjjldnkhadakcaaGreat
namespace Go.Proofs.YtjjldnkhadakcaaGreat
open Go.RowKit
set_option linter.unusedSimpArgs false
set_option linter.unusedVariables false
def bitI (b : Bool) : Int:=if b = true then 1 else 0
def holdB (op a b : Int) : Bool :=
 if op = 11 then a == b else if op = 12 then a != b else if op = 13 then decide (a < b) else if op = 14 then decide (a ≤ b) else if op = 15 then decide (b < a) else if op = 16 then decide (b ≤ a)
 else if op = 17 then a != 0 && b != 0 else if op = 18 then a != 0 || b != 0 else (a != 0) != (b != 0)
def twoI (op a b : Int) : Int :=
 if op = 6 then wrap32 (a + b) else if op = 7 then wrap32 (a - b) else if op = 8 then wrap32 (a * b)
 else if op = 9 then (if b = 0 then 0 else wrap32 (a.tdiv b)) else if op = 10 then (if b = 0 then 0 else a.tmod b) else bitI (holdB op a b)
def oneI (op a : Int) : Int:=if op = 4 then wrap32 (-a) else bitI (a == 0)
theorem ret_blS {a b : Bool} (h : a = b) : Ending.returned (Value.bool a) = .returned (.bool b):=by rw [h]
theorem ret_i32 {a b : Int} (h : a = b) : Ending.returned (.int .i32 a) = .returned (.int .i32 b):=by rw [h]
theorem truth_ok (b : Bool) (w : World) : Calls Tryz.prog 143 #[.bool b] w fun e w' => e = .returned (.int .i32 (bitI b)) ∧ w' = w:=by
 cases b
 all_goals
  go_enter Tryz.func143,Tryz.ntmps143
  go_wp2
  go_ret
  exact ⟨rfl,rfl⟩
set_option maxHeartbeats 1000000 in
theorem holds_11 (a b : Int) (w : World) : Calls Tryz.prog 144 #[.int .i64 11,.int .i32 a,.int .i32 b] w fun e w' => e = .returned (.bool (holdB 11 a b)) ∧ ∃ n,w' = w.drewN n:=by
 have H : Hid (holdB 11 a b = (a == b)):=rfl
 generalize holdB 11 a b = r at *
 go_enter Tryz.func144,Tryz.ntmps144
 go_wp2
 all_goals
  go_ret
  refine ⟨ret_blS ?_,0,rfl⟩
  rw [uh H]
  try simp_all
set_option maxHeartbeats 1000000 in
theorem holds_12 (a b : Int) (w : World) : Calls Tryz.prog 144 #[.int .i64 12,.int .i32 a,.int .i32 b] w fun e w' => e = .returned (.bool (holdB 12 a b)) ∧ ∃ n,w' = w.drewN n:=by
 have H : Hid (holdB 12 a b = (a != b)):=rfl
 generalize holdB 12 a b = r at *
 go_enter Tryz.func144,Tryz.ntmps144
 go_wp2
 all_goals
  go_ret
  refine ⟨ret_blS ?_,0,rfl⟩
  rw [uh H]
  try simp_all
set_option maxHeartbeats 1000000 in
theorem holds_13 (a b : Int) (w : World) : Calls Tryz.prog 144 #[.int .i64 13,.int .i32 a,.int .i32 b] w fun e w' => e = .returned (.bool (holdB 13 a b)) ∧ ∃ n,w' = w.drewN n:=by
 have H : Hid (holdB 13 a b = (decide (a < b))):=rfl
 generalize holdB 13 a b = r at *
 go_enter Tryz.func144,Tryz.ntmps144
 go_wp2
 all_goals
  go_ret
  refine ⟨ret_blS ?_,0,rfl⟩
  rw [uh H]
  try simp_all
set_option maxHeartbeats 1000000 in
theorem holds_14 (a b : Int) (w : World) : Calls Tryz.prog 144 #[.int .i64 14,.int .i32 a,.int .i32 b] w fun e w' => e = .returned (.bool (holdB 14 a b)) ∧ ∃ n,w' = w.drewN n:=by
 have H : Hid (holdB 14 a b = (decide (a ≤ b))):=rfl
 generalize holdB 14 a b = r at *
 go_enter Tryz.func144,Tryz.ntmps144
 go_wp2
 all_goals
  go_ret
  refine ⟨ret_blS ?_,0,rfl⟩
  rw [uh H]
  try simp_all
set_option maxHeartbeats 1000000 in
theorem holds_15 (a b : Int) (w : World) : Calls Tryz.prog 144 #[.int .i64 15,.int .i32 a,.int .i32 b] w fun e w' => e = .returned (.bool (holdB 15 a b)) ∧ ∃ n,w' = w.drewN n:=by
 have H : Hid (holdB 15 a b = (decide (b < a))):=rfl
 generalize holdB 15 a b = r at *
 go_enter Tryz.func144,Tryz.ntmps144
 go_wp2
 all_goals
  go_ret
  refine ⟨ret_blS ?_,0,rfl⟩
  rw [uh H]
  try simp_all
set_option maxHeartbeats 1000000 in
theorem holds_16 (a b : Int) (w : World) : Calls Tryz.prog 144 #[.int .i64 16,.int .i32 a,.int .i32 b] w fun e w' => e = .returned (.bool (holdB 16 a b)) ∧ ∃ n,w' = w.drewN n:=by
 have H : Hid (holdB 16 a b = (decide (b ≤ a))):=rfl
 generalize holdB 16 a b = r at *
 go_enter Tryz.func144,Tryz.ntmps144
 go_wp2
 all_goals
  go_ret
  refine ⟨ret_blS ?_,0,rfl⟩
  rw [uh H]
  try simp_all
set_option maxHeartbeats 1000000 in
theorem holds_17 (a b : Int) (w : World) : Calls Tryz.prog 144 #[.int .i64 17,.int .i32 a,.int .i32 b] w fun e w' => e = .returned (.bool (holdB 17 a b)) ∧ ∃ n,w' = w.drewN n:=by
 have H : Hid (holdB 17 a b = (a != 0 && b != 0)):=rfl
 generalize holdB 17 a b = r at *
 go_enter Tryz.func144,Tryz.ntmps144
 go_wp2
 all_goals
  go_ret
  refine ⟨ret_blS ?_,0,rfl⟩
  rw [uh H]
  try simp_all
set_option maxHeartbeats 1000000 in
theorem holds_18 (a b : Int) (w : World) : Calls Tryz.prog 144 #[.int .i64 18,.int .i32 a,.int .i32 b] w fun e w' => e = .returned (.bool (holdB 18 a b)) ∧ ∃ n,w' = w.drewN n:=by
 have H : Hid (holdB 18 a b = (a != 0 || b != 0)):=rfl
 generalize holdB 18 a b = r at *
 go_enter Tryz.func144,Tryz.ntmps144
 go_wp2
 all_goals
  go_ret
  refine ⟨ret_blS ?_,0,rfl⟩
  rw [uh H]
  try simp_all
set_option maxHeartbeats 1000000 in
theorem holds_19 (a b : Int) (w : World) : Calls Tryz.prog 144 #[.int .i64 19,.int .i32 a,.int .i32 b] w fun e w' => e = .returned (.bool (holdB 19 a b)) ∧ ∃ n,w' = w.drewN n:=by
 have H : Hid (holdB 19 a b = ((a != 0) != (b != 0))):=rfl
 generalize holdB 19 a b = r at *
 go_enter Tryz.func144,Tryz.ntmps144
 go_wp2
 all_goals
  go_ret
  refine ⟨ret_blS ?_,0,rfl⟩
  rw [uh H]
  try (cases (a != 0) <;> cases (b != 0) <;> rfl)
set_option maxHeartbeats 1000000 in
theorem oneResult_ok (op a : Int) (w : World) : Calls Tryz.prog 131 #[.int .i64 op,.int .i32 a] w fun e w' => e = .returned (.int .i32 (oneI op a)) ∧ w' = w:=by
 unfold oneI
 by_cases h : op = 4
 ·rw [if_pos h]
  subst h
  go_enter Tryz.func131,Tryz.ntmps131
  go_wp2
  go_ret
  exact ⟨rfl,rfl⟩
 ·rw [if_neg h]
  have b4 : (op == 4) = false:=by rw [beq_eq_false_iff_ne]; exact h
  have HT:=hide (truth_ok (a == 0) w)
  generalize bitI (a == 0) = r at *
  go_enter Tryz.func131,Tryz.ntmps131
  go_wp2_with fail
  refine (uh HT).mono ?_
  rintro e w1 ⟨rfl,rfl⟩
  go_wp2
  go_ret
  exact ⟨rfl,rfl⟩
set_option maxHeartbeats 1000000 in
theorem twoResult_6 (a b : Int) (w : World) : Calls Tryz.prog 132 #[.int .i64 6,.int .i32 a,.int .i32 b] w fun e w' => e = .returned (.int .i32 (twoI 6 a b)) ∧ ∃ n,w' = w.drewN n:=by
 have H : Hid (twoI 6 a b = wrap32 (a + b)):=rfl
 generalize twoI 6 a b = r at *
 go_enter Tryz.func132,Tryz.ntmps132
 go_wp2
 go_ret
 exact ⟨ret_i32 (uh H).symm,0,rfl⟩
set_option maxHeartbeats 1000000 in
theorem twoResult_7 (a b : Int) (w : World) : Calls Tryz.prog 132 #[.int .i64 7,.int .i32 a,.int .i32 b] w fun e w' => e = .returned (.int .i32 (twoI 7 a b)) ∧ ∃ n,w' = w.drewN n:=by
 have H : Hid (twoI 7 a b = wrap32 (a - b)):=rfl
 generalize twoI 7 a b = r at *
 go_enter Tryz.func132,Tryz.ntmps132
 go_wp2
 go_ret
 exact ⟨ret_i32 (uh H).symm,0,rfl⟩
set_option maxHeartbeats 1000000 in
theorem twoResult_8 (a b : Int) (w : World) : Calls Tryz.prog 132 #[.int .i64 8,.int .i32 a,.int .i32 b] w fun e w' => e = .returned (.int .i32 (twoI 8 a b)) ∧ ∃ n,w' = w.drewN n:=by
 have H : Hid (twoI 8 a b = wrap32 (a * b)):=rfl
 generalize twoI 8 a b = r at *
 go_enter Tryz.func132,Tryz.ntmps132
 go_wp2
 go_ret
 exact ⟨ret_i32 (uh H).symm,0,rfl⟩
set_option maxHeartbeats 1000000 in
theorem twoResult_9 (a b : Int) (w : World) (ha : -2147483648 ≤ a ∧ a ≤ 2147483647) : Calls Tryz.prog 132 #[.int .i64 9,.int .i32 a,.int .i32 b] w fun e w' => e = .returned (.int .i32 (twoI 9 a b)) ∧ ∃ n,w' = w.drewN n:=by
 have H : Hid (twoI 9 a b = if b = 0 then 0 else wrap32 (a.tdiv b)):=rfl
 generalize twoI 9 a b = r at *
 by_cases h : b = 0
 ·rw [if_pos h] at H
  subst h
  go_enter Tryz.func132,Tryz.ntmps132
  go_wp2
  go_ret
  exact ⟨ret_i32 (uh H).symm,0,rfl⟩
 ·rw [if_neg h] at H
  have b0 : (b == 0) = false:=by rw [beq_eq_false_iff_ne]; exact h
  go_enter Tryz.func132,Tryz.ntmps132
  go_wp2
  go_ret
  exact ⟨ret_i32 (uh H).symm,0,rfl⟩
set_option maxHeartbeats 1000000 in
theorem twoResult_10 (a b : Int) (w : World) (ha : -2147483648 ≤ a ∧ a ≤ 2147483647) : Calls Tryz.prog 132 #[.int .i64 10,.int .i32 a,.int .i32 b] w fun e w' => e = .returned (.int .i32 (twoI 10 a b)) ∧ ∃ n,w' = w.drewN n:=by
 have H : Hid (twoI 10 a b = if b = 0 then 0 else a.tmod b):=rfl
 generalize twoI 10 a b = r at *
 by_cases h : b = 0
 ·rw [if_pos h] at H
  subst h
  go_enter Tryz.func132,Tryz.ntmps132
  go_wp2
  go_ret
  exact ⟨ret_i32 (uh H).symm,0,rfl⟩
 ·rw [if_neg h] at H
  have b0 : (b == 0) = false:=by rw [beq_eq_false_iff_ne]; exact h
  go_enter Tryz.func132,Tryz.ntmps132
  go_wp2
  go_ret
  exact ⟨ret_i32 (uh H).symm,0,rfl⟩
set_option maxHeartbeats 1000000 in
theorem twoResult_11 (a b : Int) (w : World) : Calls Tryz.prog 132 #[.int .i64 11,.int .i32 a,.int .i32 b] w fun e w' => e = .returned (.int .i32 (twoI 11 a b)) ∧ ∃ n,w' = w.drewN n:=by
 have H : Hid (twoI 11 a b = bitI (holdB 11 a b)):=rfl
 have H1:=hide (holds_11 a b w)
 have H2:=hide (truth_ok (holdB 11 a b))
 generalize twoI 11 a b = r at *
 generalize bitI (holdB 11 a b) = bt at *
 generalize holdB 11 a b = hb at *
 go_enter Tryz.func132,Tryz.ntmps132
 go_wp2_with fail
 refine (uh H1).mono ?_
 rintro e w1 ⟨rfl,n,rfl⟩
 go_wp2_with fail
 refine (uh H2 _).mono ?_
 rintro e w2 ⟨rfl,rfl⟩
 go_wp2
 go_ret
 exact ⟨ret_i32 (uh H).symm,n,rfl⟩
set_option maxHeartbeats 1000000 in
theorem twoResult_12 (a b : Int) (w : World) : Calls Tryz.prog 132 #[.int .i64 12,.int .i32 a,.int .i32 b] w fun e w' => e = .returned (.int .i32 (twoI 12 a b)) ∧ ∃ n,w' = w.drewN n:=by
 have H : Hid (twoI 12 a b = bitI (holdB 12 a b)):=rfl
 have H1:=hide (holds_12 a b w)
 have H2:=hide (truth_ok (holdB 12 a b))
 generalize twoI 12 a b = r at *
 generalize bitI (holdB 12 a b) = bt at *
 generalize holdB 12 a b = hb at *
 go_enter Tryz.func132,Tryz.ntmps132
 go_wp2_with fail
 refine (uh H1).mono ?_
 rintro e w1 ⟨rfl,n,rfl⟩
 go_wp2_with fail
 refine (uh H2 _).mono ?_
 rintro e w2 ⟨rfl,rfl⟩
 go_wp2
 go_ret
 exact ⟨ret_i32 (uh H).symm,n,rfl⟩
set_option maxHeartbeats 1000000 in
theorem twoResult_13 (a b : Int) (w : World) : Calls Tryz.prog 132 #[.int .i64 13,.int .i32 a,.int .i32 b] w fun e w' => e = .returned (.int .i32 (twoI 13 a b)) ∧ ∃ n,w' = w.drewN n:=by
 have H : Hid (twoI 13 a b = bitI (holdB 13 a b)):=rfl
 have H1:=hide (holds_13 a b w)
 have H2:=hide (truth_ok (holdB 13 a b))
 generalize twoI 13 a b = r at *
 generalize bitI (holdB 13 a b) = bt at *
 generalize holdB 13 a b = hb at *
 go_enter Tryz.func132,Tryz.ntmps132
 go_wp2_with fail
 refine (uh H1).mono ?_
 rintro e w1 ⟨rfl,n,rfl⟩
 go_wp2_with fail
 refine (uh H2 _).mono ?_
 rintro e w2 ⟨rfl,rfl⟩
 go_wp2
 go_ret
 exact ⟨ret_i32 (uh H).symm,n,rfl⟩
set_option maxHeartbeats 1000000 in
theorem twoResult_14 (a b : Int) (w : World) : Calls Tryz.prog 132 #[.int .i64 14,.int .i32 a,.int .i32 b] w fun e w' => e = .returned (.int .i32 (twoI 14 a b)) ∧ ∃ n,w' = w.drewN n:=by
 have H : Hid (twoI 14 a b = bitI (holdB 14 a b)):=rfl
 have H1:=hide (holds_14 a b w)
 have H2:=hide (truth_ok (holdB 14 a b))
 generalize twoI 14 a b = r at *
 generalize bitI (holdB 14 a b) = bt at *
 generalize holdB 14 a b = hb at *
 go_enter Tryz.func132,Tryz.ntmps132
 go_wp2_with fail
 refine (uh H1).mono ?_
 rintro e w1 ⟨rfl,n,rfl⟩
 go_wp2_with fail
 refine (uh H2 _).mono ?_
 rintro e w2 ⟨rfl,rfl⟩
 go_wp2
 go_ret
 exact ⟨ret_i32 (uh H).symm,n,rfl⟩
set_option maxHeartbeats 1000000 in
theorem twoResult_15 (a b : Int) (w : World) : Calls Tryz.prog 132 #[.int .i64 15,.int .i32 a,.int .i32 b] w fun e w' => e = .returned (.int .i32 (twoI 15 a b)) ∧ ∃ n,w' = w.drewN n:=by
 have H : Hid (twoI 15 a b = bitI (holdB 15 a b)):=rfl
 have H1:=hide (holds_15 a b w)
 have H2:=hide (truth_ok (holdB 15 a b))
 generalize twoI 15 a b = r at *
 generalize bitI (holdB 15 a b) = bt at *
 generalize holdB 15 a b = hb at *
 go_enter Tryz.func132,Tryz.ntmps132
 go_wp2_with fail
 refine (uh H1).mono ?_
 rintro e w1 ⟨rfl,n,rfl⟩
 go_wp2_with fail
 refine (uh H2 _).mono ?_
 rintro e w2 ⟨rfl,rfl⟩
 go_wp2
 go_ret
 exact ⟨ret_i32 (uh H).symm,n,rfl⟩
set_option maxHeartbeats 1000000 in
theorem twoResult_16 (a b : Int) (w : World) : Calls Tryz.prog 132 #[.int .i64 16,.int .i32 a,.int .i32 b] w fun e w' => e = .returned (.int .i32 (twoI 16 a b)) ∧ ∃ n,w' = w.drewN n:=by
 have H : Hid (twoI 16 a b = bitI (holdB 16 a b)):=rfl
 have H1:=hide (holds_16 a b w)
 have H2:=hide (truth_ok (holdB 16 a b))
 generalize twoI 16 a b = r at *
 generalize bitI (holdB 16 a b) = bt at *
 generalize holdB 16 a b = hb at *
 go_enter Tryz.func132,Tryz.ntmps132
 go_wp2_with fail
 refine (uh H1).mono ?_
 rintro e w1 ⟨rfl,n,rfl⟩
 go_wp2_with fail
 refine (uh H2 _).mono ?_
 rintro e w2 ⟨rfl,rfl⟩
 go_wp2
 go_ret
 exact ⟨ret_i32 (uh H).symm,n,rfl⟩
set_option maxHeartbeats 1000000 in
theorem twoResult_17 (a b : Int) (w : World) : Calls Tryz.prog 132 #[.int .i64 17,.int .i32 a,.int .i32 b] w fun e w' => e = .returned (.int .i32 (twoI 17 a b)) ∧ ∃ n,w' = w.drewN n:=by
 have H : Hid (twoI 17 a b = bitI (holdB 17 a b)):=rfl
 have H1:=hide (holds_17 a b w)
 have H2:=hide (truth_ok (holdB 17 a b))
 generalize twoI 17 a b = r at *
 generalize bitI (holdB 17 a b) = bt at *
 generalize holdB 17 a b = hb at *
 go_enter Tryz.func132,Tryz.ntmps132
 go_wp2_with fail
 refine (uh H1).mono ?_
 rintro e w1 ⟨rfl,n,rfl⟩
 go_wp2_with fail
 refine (uh H2 _).mono ?_
 rintro e w2 ⟨rfl,rfl⟩
 go_wp2
 go_ret
 exact ⟨ret_i32 (uh H).symm,n,rfl⟩
set_option maxHeartbeats 1000000 in
theorem twoResult_18 (a b : Int) (w : World) : Calls Tryz.prog 132 #[.int .i64 18,.int .i32 a,.int .i32 b] w fun e w' => e = .returned (.int .i32 (twoI 18 a b)) ∧ ∃ n,w' = w.drewN n:=by
 have H : Hid (twoI 18 a b = bitI (holdB 18 a b)):=rfl
 have H1:=hide (holds_18 a b w)
 have H2:=hide (truth_ok (holdB 18 a b))
 generalize twoI 18 a b = r at *
 generalize bitI (holdB 18 a b) = bt at *
 generalize holdB 18 a b = hb at *
 go_enter Tryz.func132,Tryz.ntmps132
 go_wp2_with fail
 refine (uh H1).mono ?_
 rintro e w1 ⟨rfl,n,rfl⟩
 go_wp2_with fail
 refine (uh H2 _).mono ?_
 rintro e w2 ⟨rfl,rfl⟩
 go_wp2
 go_ret
 exact ⟨ret_i32 (uh H).symm,n,rfl⟩
set_option maxHeartbeats 1000000 in
theorem twoResult_19 (a b : Int) (w : World) : Calls Tryz.prog 132 #[.int .i64 19,.int .i32 a,.int .i32 b] w fun e w' => e = .returned (.int .i32 (twoI 19 a b)) ∧ ∃ n,w' = w.drewN n:=by
 have H : Hid (twoI 19 a b = bitI (holdB 19 a b)):=rfl
 have H1:=hide (holds_19 a b w)
 have H2:=hide (truth_ok (holdB 19 a b))
 generalize twoI 19 a b = r at *
 generalize bitI (holdB 19 a b) = bt at *
 generalize holdB 19 a b = hb at *
 go_enter Tryz.func132,Tryz.ntmps132
 go_wp2_with fail
 refine (uh H1).mono ?_
 rintro e w1 ⟨rfl,n,rfl⟩
 go_wp2_with fail
 refine (uh H2 _).mono ?_
 rintro e w2 ⟨rfl,rfl⟩
 go_wp2
 go_ret
 exact ⟨ret_i32 (uh H).symm,n,rfl⟩
theorem twoResult_ok (op a b : Int) (w : World) (ho : 6 ≤ op ∧ op ≤ 19) (ha : -2147483648 ≤ a ∧ a ≤ 2147483647) : Calls Tryz.prog 132 #[.int .i64 op,.int .i32 a,.int .i32 b] w fun e w' => e = .returned (.int .i32 (twoI op a b)) ∧ ∃ n,w' = w.drewN n:=by
 have h : op = 6 ∨ op = 7 ∨ op = 8 ∨ op = 9 ∨ op = 10 ∨ op = 11 ∨ op = 12 ∨ op = 13 ∨ op = 14 ∨ op = 15 ∨ op = 16 ∨ op = 17 ∨ op = 18 ∨ op = 19:=by omega
 rcases h with rfl | rfl | rfl | rfl | rfl | rfl | rfl | rfl | rfl | rfl | rfl | rfl | rfl | rfl
 ·exact twoResult_6 a b w
 ·exact twoResult_7 a b w
 ·exact twoResult_8 a b w
 ·exact twoResult_9 a b w ha
 ·exact twoResult_10 a b w ha
 ·exact twoResult_11 a b w
 ·exact twoResult_12 a b w
 ·exact twoResult_13 a b w
 ·exact twoResult_14 a b w
 ·exact twoResult_15 a b w
 ·exact twoResult_16 a b w
 ·exact twoResult_17 a b w
 ·exact twoResult_18 a b w
 ·exact twoResult_19 a b w
end Go.Proofs.YtjjldnkhadakcaaGreat
