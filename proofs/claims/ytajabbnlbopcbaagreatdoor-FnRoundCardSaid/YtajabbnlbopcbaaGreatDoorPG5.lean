import Derived.Test.YtajabbnlbopcbaaGreatDoorPG2
namespace Go.Proofs.YtajabbnlbopcbaaGreatDoor
open Go.RowKit
set_option linter.unusedSimpArgs false
set_option linter.unusedVariables false
section
variable {ts : List TK} {W0 : World} {q : Nat} {tv iv iv' : Value} {W1 w : World} {L : List Pc} {xs : List DItem}
def DlAns (op val : Int) (n : Nat) (w : World) (e : Ending) (w' : World) : Prop:=e = .returned (.tuple #[.agg #[.int .i64 op,.int .i64 val,.string ⟨#[]⟩],.int .i64 n]) ∧ Below w.heap.size w w'
def DlIs (a b : Pc) (L : List Pc) (op val : Int) (n : Nat) : Prop :=
 (¬ a.kind = 2 ∧ ¬ a.text = Kmin ∧ ¬ a.text = Ltrue ∧ ¬ a.text = Lfalse ∧ op = 0 ∧ val = 0 ∧ n = 0) ∨
 (a.kind = 2 ∧ b.text = Kfby ∧ op = 21 ∧ val = a.val ∧ n = 2) ∨ (a.kind = 2 ∧ ¬ b.text = Kfby ∧ op = 0 ∧ val = 0 ∧ n = 0) ∨
 (¬ a.kind = 2 ∧ a.text = Ltrue ∧ b.text = Kfby ∧ op = 22 ∧ val = 1 ∧ n = 2) ∨ (¬ a.kind = 2 ∧ a.text = Ltrue ∧ ¬ b.text = Kfby ∧ op = 0 ∧ val = 0 ∧ n = 0) ∨
 (¬ a.kind = 2 ∧ a.text = Lfalse ∧ b.text = Kfby ∧ op = 22 ∧ val = 0 ∧ n = 2) ∨ (¬ a.kind = 2 ∧ a.text = Lfalse ∧ ¬ b.text = Kfby ∧ op = 0 ∧ val = 0 ∧ n = 0) ∨
 (¬ a.kind = 2 ∧ a.text = Kmin ∧ ¬ b.kind = 2 ∧ op = 0 ∧ val = 0 ∧ n = 0) ∨
 (¬ a.kind = 2 ∧ a.text = Kmin ∧ b.kind = 2 ∧ (0 ≤ b.val ∧ b.val ≤ 2147483647) ∧ (∃ c r,L = c :: r ∧ c.text = Kfby) ∧ op = 21 ∧ val = -b.val ∧ n = 3) ∨
 (¬ a.kind = 2 ∧ a.text = Kmin ∧ b.kind = 2 ∧ (0 ≤ b.val ∧ b.val ≤ 2147483647) ∧ (∃ c r,L = c :: r ∧ ¬ c.text = Kfby) ∧ op = 0 ∧ val = 0 ∧ n = 0)
theorem tl_eq {x : ByteArray} (y : ByteArray) (l : List UInt8) (hl : y.data.toList = l) (b : Bool) (h : decide (x = y) = b) : (x.toList == l) = b:=by
 rw [← hl,← ByteArray.toList_eq,bytes_toListA]
 exact h
theorem tl_ne {x : ByteArray} (y : ByteArray) (l : List UInt8) (hl : y.data.toList = l) (b : Bool) (h : decide (x = y) = b) : (x.toList != l) = !b:=by
 rw [bne,tl_eq y l hl b h]
set_option maxHeartbeats 8000000 in
theorem delay_ok {a b : Pc} (h : Ps ts W0 q tv w (a :: b :: L) iv) {op val : Int} {n : Nat} (hd : DlIs a b L op val n) :
  Calls Tryz.prog 112 #[.pointer (some ⟨q,0,none⟩)] w (DlAns op val n w):=by
 have HA : Hid (∀ X,Below w.heap.size w X → Calls Tryz.prog 48 #[.pointer (some ⟨q,0,none⟩),.int .i64 0] X fun e w' => ∃ p9 : Int,e = .returned (.agg #[.int .i64 (a.kind : Int),.string a.text,.int .i64 a.val,.int .i64 p9]) ∧ Below X.heap.size X w'):=fun X hX => ahead_ok (h.below hX) 0 (by omega) (by simp)
 have HB : Hid (∀ X,Below w.heap.size w X → Calls Tryz.prog 48 #[.pointer (some ⟨q,0,none⟩),.int .i64 1] X fun e w' => ∃ p9 : Int,e = .returned (.agg #[.int .i64 (b.kind : Int),.string b.text,.int .i64 b.val,.int .i64 p9]) ∧ Below X.heap.size X w'):=fun X hX => ahead_ok (h.below hX) 1 (by omega) (by simp)
 have HC : Hid (∀ c r,L = c :: r → ∀ X,Below w.heap.size w X → Calls Tryz.prog 48 #[.pointer (some ⟨q,0,none⟩),.int .i64 2] X fun e w' => ∃ p9 : Int,e = .returned (.agg #[.int .i64 (c.kind : Int),.string c.text,.int .i64 c.val,.int .i64 p9]) ∧ Below X.heap.size X w'):=by
  rintro c r rfl X hX
  exact ahead_ok (h.below hX) 2 (by omega) (by simp)
 clear h
 obtain ⟨ka,ta,va⟩:=a
 obtain ⟨kb,tb,vb⟩:=b
 simp only [DlIs] at hd
 simp only at HA HB
 obtain ⟨PO,hPO⟩ : ∃ PO : Ending → World → Prop,PO = DlAns op val n w:=⟨_,rfl⟩
 rw [← hPO]
 have HF : Hid (∀ X,Below w.heap.size w X → PO (.returned (.tuple #[.agg #[.int .i64 op,.int .i64 val,.string ⟨#[]⟩],.int .i64 n])) X):=fun X hX => by rw [hPO]; exact ⟨rfl,hX⟩
 clear hPO
 have hfd:=itok_field1
 have kk : ∀ k : Nat,((k : Int) == 2) = decide (k = 2):=fun k => by
  by_cases hk : k = 2
  ·subst hk; rfl
  ·rw [decide_eq_false hk,beq_eq_false_iff_ne]; omega
 have k1:=kk ka
 have k5:=kk kb
 have k2:=tl_eq (x:=ta) Kmin [45] rfl _ rfl
 have k3:=tl_eq (x:=ta) Ltrue [116,114,117,101] rfl _ rfl
 have k4:=tl_eq (x:=ta) Lfalse [102,97,108,115,101] rfl _ rfl
 have hW2 : Below w.heap.size w ((w.alloc (.cells #[.int .i64 0,.int .i64 0,.string ⟨#[]⟩] 88)).alloc (.cells #[.int .i64 0,.int .i64 0,.string ⟨#[]⟩] 88)):=((Below.refl _ _).alloc (Nat.le_refl _) _).alloc (by simp) _
 have hZ1 : BlkAt ((w.alloc (.cells #[.int .i64 0,.int .i64 0,.string ⟨#[]⟩] 88)).alloc (.cells #[.int .i64 0,.int .i64 0,.string ⟨#[]⟩] 88)) w.heap.size 88 #[.int .i64 0,.int .i64 0,.string ⟨#[]⟩]:=(blk_box w _ _).below ((Below.refl _ _).alloc (Nat.le_refl _) _) (by simp)
 have hZ2 : BlkAt ((w.alloc (.cells #[.int .i64 0,.int .i64 0,.string ⟨#[]⟩] 88)).alloc (.cells #[.int .i64 0,.int .i64 0,.string ⟨#[]⟩] 88)) (w.heap.size + 1) 88 #[.int .i64 0,.int .i64 0,.string ⟨#[]⟩]:=by
  have:=blk_box (w.alloc (.cells #[.int .i64 0,.int .i64 0,.string ⟨#[]⟩] 88)) #[.int .i64 0,.int .i64 0,.string ⟨#[]⟩] 88
  simpa using this
 have HZ:=hide (And.intro hW2 (And.intro hZ1 hZ2))
 clear hW2 hZ1 hZ2 kk
 rcases hd with ⟨h1,h2,h3,h4,rfl,rfl,rfl⟩ | ⟨h1,h2,rfl,rfl,rfl⟩ | ⟨h1,h2,rfl,rfl,rfl⟩ | ⟨h1,h3,h2,rfl,rfl,rfl⟩ | ⟨h1,h3,h2,rfl,rfl,rfl⟩ | ⟨h1,h3,h2,rfl,rfl,rfl⟩ | ⟨h1,h3,h2,rfl,rfl,rfl⟩ | ⟨h1,h3,h2,rfl,rfl,rfl⟩ | ⟨h1,h3,h2,h4,⟨c,r,hL,h5⟩,rfl,rfl,rfl⟩ | ⟨h1,h3,h2,h4,⟨c,r,hL,h5⟩,rfl,rfl,rfl⟩
 ·rw [decide_eq_false h1] at k1
  rw [decide_eq_false h2] at k2
  rw [decide_eq_false h3] at k3
  rw [decide_eq_false h4] at k4
  clear k5 h1 h2 h3 h4 HC
  go_enter Tryz.func112,Tryz.ntmps112
  go_wp2_with fail
  refine (uh HA _ (uh HZ).1).mono ?_
  rintro e w3 ⟨p3,rfl,hb3⟩
  have HB3:=hide ((uh HZ).1.trans (hb3.mono (uh HZ).1.size))
  have HZ3:=hide (And.intro ((uh HZ).2.1.below hb3 (uh HZ).2.1.lt) ((uh HZ).2.2.below hb3 (uh HZ).2.2.lt))
  clear hb3 HA HZ
  go_wp2_with fail
  refine (uh HB _ (uh HB3)).mono ?_
  rintro e w4 ⟨p4,rfl,hb4⟩
  have hA5 : Below w4.heap.size w4 ((w4.alloc (.cells #[.int .i64 ka,.string ta,.int .i64 va,.int .i64 p3] 105)).alloc (.cells #[.int .i64 kb,.string tb,.int .i64 vb,.int .i64 p4] 105)):=((Below.refl _ _).alloc (Nat.le_refl _) _).alloc (by simp) _
  have hb5:=hb4.trans (hA5.mono hb4.size)
  have HB5:=hide ((uh HB3).trans (hb5.mono (uh HB3).size))
  have hz1:=(uh HZ3).1.below hb5 (uh HZ3).1.lt
  have hz2:=(uh HZ3).2.below hb5 (uh HZ3).2.lt
  have hza:=blk_box w4 #[.int .i64 ka,.string ta,.int .i64 va,.int .i64 p3] 105
  have hzA:=hza.below (w':=((w4.alloc (.cells #[.int .i64 ka,.string ta,.int .i64 va,.int .i64 p3] 105)).alloc (.cells #[.int .i64 kb,.string tb,.int .i64 vb,.int .i64 p4] 105))) ((Below.refl _ _).alloc (Nat.le_refl _) _) (by simp)
  have s0:=hz1.cell (i:=0) (v:=.int .i64 0) rfl
  have s1:=hz1.cell (i:=1) (v:=.int .i64 0) rfl
  have s2:=hz1.cell (i:=2) (v:=.string ⟨#[]⟩) rfl
  have f0:=hz1.free 0
  have f1:=hz1.free 1
  have f2:=hz1.free 2
  have l1:=hz1.lt
  have u0:=hz2.cell (i:=0) (v:=.int .i64 0) rfl
  have u1:=hz2.cell (i:=1) (v:=.int .i64 0) rfl
  have u2:=hz2.cell (i:=2) (v:=.string ⟨#[]⟩) rfl
  have m0:=hz2.free 0
  have m1:=hz2.free 1
  have m2:=hz2.free 2
  have l2:=hz2.lt
  have hr:=hz1.set3 (x:=.int .i64 0) (y:=.int .i64 0) (z:=.string ⟨#[]⟩)
  have r0:=hr.cell (i:=0) (v:=.int .i64 0) rfl
  have r1:=hr.cell (i:=1) (v:=.int .i64 0) rfl
  have r2:=hr.cell (i:=2) (v:=.string ⟨#[]⟩) rfl
  have HX:=hide ((uh HB5).trans (((Tr.set3 w.heap.size ((w4.alloc (.cells #[.int .i64 ka,.string ta,.int .i64 va,.int .i64 p3] 105)).alloc (.cells #[.int .i64 kb,.string tb,.int .i64 vb,.int .i64 p4] 105)) (.int .i64 0) (.int .i64 0) (.string ⟨#[]⟩))).below (uh HB5).size (Nat.le_refl _)))
  clear hb4 hA5 hb5 hz1 hz2 hza hzA hr HB HZ3 HB3
  go_wp2
  refine bodyPost_ret ?_ rfl (uh HF _ (uh HX))
  simp [results,Tryz.results112,go_sem,r0,r1,r2]
 ·rw [decide_eq_true h1] at k1
  have k6:=tl_ne (x:=tb) Kfby [102,98,121] rfl _ (decide_eq_true h2)
  simp only [Bool.not_true,Bool.not_false] at k6
  have k7:=tl_eq (x:=tb) Kfby [102,98,121] rfl _ (decide_eq_true h2)
  clear k2 k3 k4 k5 h1 h2 HC
  go_enter Tryz.func112,Tryz.ntmps112
  go_wp2_with fail
  refine (uh HA _ (uh HZ).1).mono ?_
  rintro e w3 ⟨p3,rfl,hb3⟩
  have HB3:=hide ((uh HZ).1.trans (hb3.mono (uh HZ).1.size))
  have HZ3:=hide (And.intro ((uh HZ).2.1.below hb3 (uh HZ).2.1.lt) ((uh HZ).2.2.below hb3 (uh HZ).2.2.lt))
  clear hb3 HA HZ
  go_wp2_with fail
  refine (uh HB _ (uh HB3)).mono ?_
  rintro e w4 ⟨p4,rfl,hb4⟩
  have hA5 : Below w4.heap.size w4 ((w4.alloc (.cells #[.int .i64 ka,.string ta,.int .i64 val,.int .i64 p3] 105)).alloc (.cells #[.int .i64 kb,.string tb,.int .i64 vb,.int .i64 p4] 105)):=((Below.refl _ _).alloc (Nat.le_refl _) _).alloc (by simp) _
  have hb5:=hb4.trans (hA5.mono hb4.size)
  have HB5:=hide ((uh HB3).trans (hb5.mono (uh HB3).size))
  have hz1:=(uh HZ3).1.below hb5 (uh HZ3).1.lt
  have hz2:=(uh HZ3).2.below hb5 (uh HZ3).2.lt
  have hza:=blk_box w4 #[.int .i64 ka,.string ta,.int .i64 val,.int .i64 p3] 105
  have hzA:=hza.below (w':=((w4.alloc (.cells #[.int .i64 ka,.string ta,.int .i64 val,.int .i64 p3] 105)).alloc (.cells #[.int .i64 kb,.string tb,.int .i64 vb,.int .i64 p4] 105))) ((Below.refl _ _).alloc (Nat.le_refl _) _) (by simp)
  have s0:=hz1.cell (i:=0) (v:=.int .i64 0) rfl
  have s1:=hz1.cell (i:=1) (v:=.int .i64 0) rfl
  have s2:=hz1.cell (i:=2) (v:=.string ⟨#[]⟩) rfl
  have f0:=hz1.free 0
  have f1:=hz1.free 1
  have f2:=hz1.free 2
  have l1:=hz1.lt
  have u0:=hz2.cell (i:=0) (v:=.int .i64 0) rfl
  have u1:=hz2.cell (i:=1) (v:=.int .i64 0) rfl
  have u2:=hz2.cell (i:=2) (v:=.string ⟨#[]⟩) rfl
  have m0:=hz2.free 0
  have m1:=hz2.free 1
  have m2:=hz2.free 2
  have l2:=hz2.lt
  have a0:=hzA.cell (i:=0) (v:=.int .i64 ka) rfl
  have a1:=hzA.cell (i:=1) (v:=.string ta) rfl
  have a2:=hzA.cell (i:=2) (v:=.int .i64 val) rfl
  have hzB : BlkAt ((w4.alloc (.cells #[.int .i64 ka,.string ta,.int .i64 val,.int .i64 p3] 105)).alloc (.cells #[.int .i64 kb,.string tb,.int .i64 vb,.int .i64 p4] 105)) (w4.heap.size + 1) 105 #[.int .i64 kb,.string tb,.int .i64 vb,.int .i64 p4]:=by
   have:=blk_box (w4.alloc (.cells #[.int .i64 ka,.string ta,.int .i64 val,.int .i64 p3] 105)) #[.int .i64 kb,.string tb,.int .i64 vb,.int .i64 p4] 105
   simpa using this
  have b0:=hzB.cell (i:=0) (v:=.int .i64 kb) rfl
  have b2:=hzB.cell (i:=2) (v:=.int .i64 vb) rfl
  obtain ⟨Y,hY⟩ : ∃ Y,Y = (((((w4.alloc (.cells #[.int .i64 ka,.string ta,.int .i64 val,.int .i64 p3] 105)).alloc (.cells #[.int .i64 kb,.string tb,.int .i64 vb,.int .i64 p4] 105)).setCell ⟨w.heap.size + 1,0,none⟩ (.int .i64 21)).setCell ⟨w.heap.size + 1,1,none⟩ (.int .i64 val)).setCell ⟨w.heap.size + 1,2,none⟩ (.string ⟨#[]⟩)):=⟨_,rfl⟩
  have hTY : Tr (w.heap.size + 1) ((w4.alloc (.cells #[.int .i64 ka,.string ta,.int .i64 val,.int .i64 p3] 105)).alloc (.cells #[.int .i64 kb,.string tb,.int .i64 vb,.int .i64 p4] 105)) Y:=by rw [hY]; exact Tr.set3 _ _ _ _ _
  have HBY:=hide ((uh HB5).trans (hTY.below (uh HB5).size (by omega)))
  have hy1:=hTY.blk hz1 (by omega)
  have hy2 : BlkAt Y (w.heap.size + 1) 88 #[.int .i64 21,.int .i64 val,.string ⟨#[]⟩]:=by rw [hY]; exact hz2.set3
  have HYY:=hide (And.intro hy1 hy2)
  have HY:=hide hY
  have HC9:=hide (uh HB _ (uh HBY))
  clear hb4 hA5 hb5 hz1 hz2 hza hzA hzB HB HZ3 HB3 hy1 hy2 hTY hY
  go_wp2_with fail
  rw [← uh HY]
  refine (uh HC9).mono ?_
  rintro e w6 ⟨p6,rfl,hb6⟩
  have hx1:=(uh HYY).1.below hb6 (uh HYY).1.lt
  have hx2:=(uh HYY).2.below hb6 (uh HYY).2.lt
  have hr:=hx1.set3 (x:=.int .i64 21) (y:=.int .i64 val) (z:=.string ⟨#[]⟩)
  have r0:=hr.cell (i:=0) (v:=.int .i64 21) rfl
  have r1:=hr.cell (i:=1) (v:=.int .i64 val) rfl
  have r2:=hr.cell (i:=2) (v:=.string ⟨#[]⟩) rfl
  have HB6:=hide ((uh HBY).trans (hb6.mono (uh HBY).size))
  have HX:=hide ((uh HB6).trans ((Tr.set3 w.heap.size w6 (.int .i64 21) (.int .i64 val) (.string ⟨#[]⟩)).below (uh HB6).size (Nat.le_refl _)))
  have y0:=hx1.cell (i:=0) (v:=.int .i64 0) rfl
  have y1:=hx1.cell (i:=1) (v:=.int .i64 0) rfl
  have y2:=hx1.cell (i:=2) (v:=.string ⟨#[]⟩) rfl
  have g0:=hx1.free 0
  have g1:=hx1.free 1
  have g2:=hx1.free 2
  have l6:=hx1.lt
  have x0:=hx2.cell (i:=0) (v:=.int .i64 21) rfl
  have x1:=hx2.cell (i:=1) (v:=.int .i64 val) rfl
  have x2:=hx2.cell (i:=2) (v:=.string ⟨#[]⟩) rfl
  clear hx1 hx2 hr hb6 HYY HB6 HBY
  go_wp2
  refine bodyPost_ret ?_ rfl (uh HF _ (uh HX))
  simp [results,Tryz.results112,go_sem,r0,r1,r2]
 ·rw [decide_eq_true h1] at k1
  have k6:=tl_ne (x:=tb) Kfby [102,98,121] rfl _ (decide_eq_false h2)
  simp only [Bool.not_true,Bool.not_false] at k6
  have k7:=tl_eq (x:=tb) Kfby [102,98,121] rfl _ (decide_eq_false h2)
  clear k2 k3 k4 k5 h1 h2 HC
  go_enter Tryz.func112,Tryz.ntmps112
  go_wp2_with fail
  refine (uh HA _ (uh HZ).1).mono ?_
  rintro e w3 ⟨p3,rfl,hb3⟩
  have HB3:=hide ((uh HZ).1.trans (hb3.mono (uh HZ).1.size))
  have HZ3:=hide (And.intro ((uh HZ).2.1.below hb3 (uh HZ).2.1.lt) ((uh HZ).2.2.below hb3 (uh HZ).2.2.lt))
  clear hb3 HA HZ
  go_wp2_with fail
  refine (uh HB _ (uh HB3)).mono ?_
  rintro e w4 ⟨p4,rfl,hb4⟩
  have hA5 : Below w4.heap.size w4 ((w4.alloc (.cells #[.int .i64 ka,.string ta,.int .i64 va,.int .i64 p3] 105)).alloc (.cells #[.int .i64 kb,.string tb,.int .i64 vb,.int .i64 p4] 105)):=((Below.refl _ _).alloc (Nat.le_refl _) _).alloc (by simp) _
  have hb5:=hb4.trans (hA5.mono hb4.size)
  have HB5:=hide ((uh HB3).trans (hb5.mono (uh HB3).size))
  have hz1:=(uh HZ3).1.below hb5 (uh HZ3).1.lt
  have hz2:=(uh HZ3).2.below hb5 (uh HZ3).2.lt
  have hza:=blk_box w4 #[.int .i64 ka,.string ta,.int .i64 va,.int .i64 p3] 105
  have hzA:=hza.below (w':=((w4.alloc (.cells #[.int .i64 ka,.string ta,.int .i64 va,.int .i64 p3] 105)).alloc (.cells #[.int .i64 kb,.string tb,.int .i64 vb,.int .i64 p4] 105))) ((Below.refl _ _).alloc (Nat.le_refl _) _) (by simp)
  have s0:=hz1.cell (i:=0) (v:=.int .i64 0) rfl
  have s1:=hz1.cell (i:=1) (v:=.int .i64 0) rfl
  have s2:=hz1.cell (i:=2) (v:=.string ⟨#[]⟩) rfl
  have f0:=hz1.free 0
  have f1:=hz1.free 1
  have f2:=hz1.free 2
  have l1:=hz1.lt
  have u0:=hz2.cell (i:=0) (v:=.int .i64 0) rfl
  have u1:=hz2.cell (i:=1) (v:=.int .i64 0) rfl
  have u2:=hz2.cell (i:=2) (v:=.string ⟨#[]⟩) rfl
  have m0:=hz2.free 0
  have m1:=hz2.free 1
  have m2:=hz2.free 2
  have l2:=hz2.lt
  have a0:=hzA.cell (i:=0) (v:=.int .i64 ka) rfl
  have a1:=hzA.cell (i:=1) (v:=.string ta) rfl
  have a2:=hzA.cell (i:=2) (v:=.int .i64 va) rfl
  have hzB : BlkAt ((w4.alloc (.cells #[.int .i64 ka,.string ta,.int .i64 va,.int .i64 p3] 105)).alloc (.cells #[.int .i64 kb,.string tb,.int .i64 vb,.int .i64 p4] 105)) (w4.heap.size + 1) 105 #[.int .i64 kb,.string tb,.int .i64 vb,.int .i64 p4]:=by
   have:=blk_box (w4.alloc (.cells #[.int .i64 ka,.string ta,.int .i64 va,.int .i64 p3] 105)) #[.int .i64 kb,.string tb,.int .i64 vb,.int .i64 p4] 105
   simpa using this
  have b0:=hzB.cell (i:=0) (v:=.int .i64 kb) rfl
  have b2:=hzB.cell (i:=2) (v:=.int .i64 vb) rfl
  obtain ⟨Y,hY⟩ : ∃ Y,Y = (((((w4.alloc (.cells #[.int .i64 ka,.string ta,.int .i64 va,.int .i64 p3] 105)).alloc (.cells #[.int .i64 kb,.string tb,.int .i64 vb,.int .i64 p4] 105)).setCell ⟨w.heap.size + 1,0,none⟩ (.int .i64 21)).setCell ⟨w.heap.size + 1,1,none⟩ (.int .i64 va)).setCell ⟨w.heap.size + 1,2,none⟩ (.string ⟨#[]⟩)):=⟨_,rfl⟩
  have hTY : Tr (w.heap.size + 1) ((w4.alloc (.cells #[.int .i64 ka,.string ta,.int .i64 va,.int .i64 p3] 105)).alloc (.cells #[.int .i64 kb,.string tb,.int .i64 vb,.int .i64 p4] 105)) Y:=by rw [hY]; exact Tr.set3 _ _ _ _ _
  have HBY:=hide ((uh HB5).trans (hTY.below (uh HB5).size (by omega)))
  have hy1:=hTY.blk hz1 (by omega)
  have hy2 : BlkAt Y (w.heap.size + 1) 88 #[.int .i64 21,.int .i64 va,.string ⟨#[]⟩]:=by rw [hY]; exact hz2.set3
  have HYY:=hide (And.intro hy1 hy2)
  have HY:=hide hY
  have HC9:=hide (uh HB _ (uh HBY))
  clear hb4 hA5 hb5 hz1 hz2 hza hzA hzB HB HZ3 HB3 hy1 hy2 hTY hY
  go_wp2_with fail
  rw [← uh HY]
  refine (uh HC9).mono ?_
  rintro e w6 ⟨p6,rfl,hb6⟩
  have hx1:=(uh HYY).1.below hb6 (uh HYY).1.lt
  have hx2:=(uh HYY).2.below hb6 (uh HYY).2.lt
  have hr:=hx1.set3 (x:=.int .i64 0) (y:=.int .i64 0) (z:=.string ⟨#[]⟩)
  have r0:=hr.cell (i:=0) (v:=.int .i64 0) rfl
  have r1:=hr.cell (i:=1) (v:=.int .i64 0) rfl
  have r2:=hr.cell (i:=2) (v:=.string ⟨#[]⟩) rfl
  have HB6:=hide ((uh HBY).trans (hb6.mono (uh HBY).size))
  have HX:=hide ((uh HB6).trans ((Tr.set3 w.heap.size w6 (.int .i64 0) (.int .i64 0) (.string ⟨#[]⟩)).below (uh HB6).size (Nat.le_refl _)))
  have y0:=hx1.cell (i:=0) (v:=.int .i64 0) rfl
  have y1:=hx1.cell (i:=1) (v:=.int .i64 0) rfl
  have y2:=hx1.cell (i:=2) (v:=.string ⟨#[]⟩) rfl
  have g0:=hx1.free 0
  have g1:=hx1.free 1
  have g2:=hx1.free 2
  have l6:=hx1.lt
  have x0:=hx2.cell (i:=0) (v:=.int .i64 21) rfl
  have x1:=hx2.cell (i:=1) (v:=.int .i64 va) rfl
  have x2:=hx2.cell (i:=2) (v:=.string ⟨#[]⟩) rfl
  clear hx1 hx2 hr hb6 HYY HB6 HBY
  go_wp2
  refine bodyPost_ret ?_ rfl (uh HF _ (uh HX))
  simp [results,Tryz.results112,go_sem,r0,r1,r2]
 ·rw [decide_eq_false h1] at k1
  rw [decide_eq_false (fun e => absurd (h3.symm.trans e) (by decide : ¬ Ltrue = Kmin))] at k2
  rw [decide_eq_true h3] at k3
  have k6:=tl_ne (x:=tb) Kfby [102,98,121] rfl _ (decide_eq_true h2)
  simp only [Bool.not_true,Bool.not_false] at k6
  have k7:=tl_eq (x:=tb) Kfby [102,98,121] rfl _ (decide_eq_true h2)
  clear k4 k5 h1 h2 h3 HC
  go_enter Tryz.func112,Tryz.ntmps112
  go_wp2_with fail
  refine (uh HA _ (uh HZ).1).mono ?_
  rintro e w3 ⟨p3,rfl,hb3⟩
  have HB3:=hide ((uh HZ).1.trans (hb3.mono (uh HZ).1.size))
  have HZ3:=hide (And.intro ((uh HZ).2.1.below hb3 (uh HZ).2.1.lt) ((uh HZ).2.2.below hb3 (uh HZ).2.2.lt))
  clear hb3 HA HZ
  go_wp2_with fail
  refine (uh HB _ (uh HB3)).mono ?_
  rintro e w4 ⟨p4,rfl,hb4⟩
  have hA5 : Below w4.heap.size w4 ((w4.alloc (.cells #[.int .i64 ka,.string ta,.int .i64 va,.int .i64 p3] 105)).alloc (.cells #[.int .i64 kb,.string tb,.int .i64 vb,.int .i64 p4] 105)):=((Below.refl _ _).alloc (Nat.le_refl _) _).alloc (by simp) _
  have hb5:=hb4.trans (hA5.mono hb4.size)
  have HB5:=hide ((uh HB3).trans (hb5.mono (uh HB3).size))
  have hz1:=(uh HZ3).1.below hb5 (uh HZ3).1.lt
  have hz2:=(uh HZ3).2.below hb5 (uh HZ3).2.lt
  have hza:=blk_box w4 #[.int .i64 ka,.string ta,.int .i64 va,.int .i64 p3] 105
  have hzA:=hza.below (w':=((w4.alloc (.cells #[.int .i64 ka,.string ta,.int .i64 va,.int .i64 p3] 105)).alloc (.cells #[.int .i64 kb,.string tb,.int .i64 vb,.int .i64 p4] 105))) ((Below.refl _ _).alloc (Nat.le_refl _) _) (by simp)
  have s0:=hz1.cell (i:=0) (v:=.int .i64 0) rfl
  have s1:=hz1.cell (i:=1) (v:=.int .i64 0) rfl
  have s2:=hz1.cell (i:=2) (v:=.string ⟨#[]⟩) rfl
  have f0:=hz1.free 0
  have f1:=hz1.free 1
  have f2:=hz1.free 2
  have l1:=hz1.lt
  have u0:=hz2.cell (i:=0) (v:=.int .i64 0) rfl
  have u1:=hz2.cell (i:=1) (v:=.int .i64 0) rfl
  have u2:=hz2.cell (i:=2) (v:=.string ⟨#[]⟩) rfl
  have m0:=hz2.free 0
  have m1:=hz2.free 1
  have m2:=hz2.free 2
  have l2:=hz2.lt
  have a0:=hzA.cell (i:=0) (v:=.int .i64 ka) rfl
  have a1:=hzA.cell (i:=1) (v:=.string ta) rfl
  have a2:=hzA.cell (i:=2) (v:=.int .i64 va) rfl
  have hzB : BlkAt ((w4.alloc (.cells #[.int .i64 ka,.string ta,.int .i64 va,.int .i64 p3] 105)).alloc (.cells #[.int .i64 kb,.string tb,.int .i64 vb,.int .i64 p4] 105)) (w4.heap.size + 1) 105 #[.int .i64 kb,.string tb,.int .i64 vb,.int .i64 p4]:=by
   have:=blk_box (w4.alloc (.cells #[.int .i64 ka,.string ta,.int .i64 va,.int .i64 p3] 105)) #[.int .i64 kb,.string tb,.int .i64 vb,.int .i64 p4] 105
   simpa using this
  have b0:=hzB.cell (i:=0) (v:=.int .i64 kb) rfl
  have b2:=hzB.cell (i:=2) (v:=.int .i64 vb) rfl
  obtain ⟨Y,hY⟩ : ∃ Y,Y = (((((w4.alloc (.cells #[.int .i64 ka,.string ta,.int .i64 va,.int .i64 p3] 105)).alloc (.cells #[.int .i64 kb,.string tb,.int .i64 vb,.int .i64 p4] 105)).setCell ⟨w.heap.size + 1,0,none⟩ (.int .i64 22)).setCell ⟨w.heap.size + 1,1,none⟩ (.int .i64 1)).setCell ⟨w.heap.size + 1,2,none⟩ (.string ⟨#[]⟩)):=⟨_,rfl⟩
  have hTY : Tr (w.heap.size + 1) ((w4.alloc (.cells #[.int .i64 ka,.string ta,.int .i64 va,.int .i64 p3] 105)).alloc (.cells #[.int .i64 kb,.string tb,.int .i64 vb,.int .i64 p4] 105)) Y:=by rw [hY]; exact Tr.set3 _ _ _ _ _
  have HBY:=hide ((uh HB5).trans (hTY.below (uh HB5).size (by omega)))
  have hy1:=hTY.blk hz1 (by omega)
  have hy2 : BlkAt Y (w.heap.size + 1) 88 #[.int .i64 22,.int .i64 1,.string ⟨#[]⟩]:=by rw [hY]; exact hz2.set3
  have HYY:=hide (And.intro hy1 hy2)
  have HY:=hide hY
  have HC9:=hide (uh HB _ (uh HBY))
  clear hb4 hA5 hb5 hz1 hz2 hza hzA hzB HB HZ3 HB3 hy1 hy2 hTY hY
  go_wp2_with fail
  rw [← uh HY]
  refine (uh HC9).mono ?_
  rintro e w6 ⟨p6,rfl,hb6⟩
  have hx1:=(uh HYY).1.below hb6 (uh HYY).1.lt
  have hx2:=(uh HYY).2.below hb6 (uh HYY).2.lt
  have hr:=hx1.set3 (x:=.int .i64 22) (y:=.int .i64 1) (z:=.string ⟨#[]⟩)
  have r0:=hr.cell (i:=0) (v:=.int .i64 22) rfl
  have r1:=hr.cell (i:=1) (v:=.int .i64 1) rfl
  have r2:=hr.cell (i:=2) (v:=.string ⟨#[]⟩) rfl
  have HB6:=hide ((uh HBY).trans (hb6.mono (uh HBY).size))
  have HX:=hide ((uh HB6).trans ((Tr.set3 w.heap.size w6 (.int .i64 22) (.int .i64 1) (.string ⟨#[]⟩)).below (uh HB6).size (Nat.le_refl _)))
  have y0:=hx1.cell (i:=0) (v:=.int .i64 0) rfl
  have y1:=hx1.cell (i:=1) (v:=.int .i64 0) rfl
  have y2:=hx1.cell (i:=2) (v:=.string ⟨#[]⟩) rfl
  have g0:=hx1.free 0
  have g1:=hx1.free 1
  have g2:=hx1.free 2
  have l6:=hx1.lt
  have x0:=hx2.cell (i:=0) (v:=.int .i64 22) rfl
  have x1:=hx2.cell (i:=1) (v:=.int .i64 1) rfl
  have x2:=hx2.cell (i:=2) (v:=.string ⟨#[]⟩) rfl
  clear hx1 hx2 hr hb6 HYY HB6 HBY
  go_wp2
  refine bodyPost_ret ?_ rfl (uh HF _ (uh HX))
  simp [results,Tryz.results112,go_sem,r0,r1,r2]
 ·rw [decide_eq_false h1] at k1
  rw [decide_eq_false (fun e => absurd (h3.symm.trans e) (by decide : ¬ Ltrue = Kmin))] at k2
  rw [decide_eq_true h3] at k3
  have k6:=tl_ne (x:=tb) Kfby [102,98,121] rfl _ (decide_eq_false h2)
  simp only [Bool.not_true,Bool.not_false] at k6
  have k7:=tl_eq (x:=tb) Kfby [102,98,121] rfl _ (decide_eq_false h2)
  clear k4 k5 h1 h2 h3 HC
  go_enter Tryz.func112,Tryz.ntmps112
  go_wp2_with fail
  refine (uh HA _ (uh HZ).1).mono ?_
  rintro e w3 ⟨p3,rfl,hb3⟩
  have HB3:=hide ((uh HZ).1.trans (hb3.mono (uh HZ).1.size))
  have HZ3:=hide (And.intro ((uh HZ).2.1.below hb3 (uh HZ).2.1.lt) ((uh HZ).2.2.below hb3 (uh HZ).2.2.lt))
  clear hb3 HA HZ
  go_wp2_with fail
  refine (uh HB _ (uh HB3)).mono ?_
  rintro e w4 ⟨p4,rfl,hb4⟩
  have hA5 : Below w4.heap.size w4 ((w4.alloc (.cells #[.int .i64 ka,.string ta,.int .i64 va,.int .i64 p3] 105)).alloc (.cells #[.int .i64 kb,.string tb,.int .i64 vb,.int .i64 p4] 105)):=((Below.refl _ _).alloc (Nat.le_refl _) _).alloc (by simp) _
  have hb5:=hb4.trans (hA5.mono hb4.size)
  have HB5:=hide ((uh HB3).trans (hb5.mono (uh HB3).size))
  have hz1:=(uh HZ3).1.below hb5 (uh HZ3).1.lt
  have hz2:=(uh HZ3).2.below hb5 (uh HZ3).2.lt
  have hza:=blk_box w4 #[.int .i64 ka,.string ta,.int .i64 va,.int .i64 p3] 105
  have hzA:=hza.below (w':=((w4.alloc (.cells #[.int .i64 ka,.string ta,.int .i64 va,.int .i64 p3] 105)).alloc (.cells #[.int .i64 kb,.string tb,.int .i64 vb,.int .i64 p4] 105))) ((Below.refl _ _).alloc (Nat.le_refl _) _) (by simp)
  have s0:=hz1.cell (i:=0) (v:=.int .i64 0) rfl
  have s1:=hz1.cell (i:=1) (v:=.int .i64 0) rfl
  have s2:=hz1.cell (i:=2) (v:=.string ⟨#[]⟩) rfl
  have f0:=hz1.free 0
  have f1:=hz1.free 1
  have f2:=hz1.free 2
  have l1:=hz1.lt
  have u0:=hz2.cell (i:=0) (v:=.int .i64 0) rfl
  have u1:=hz2.cell (i:=1) (v:=.int .i64 0) rfl
  have u2:=hz2.cell (i:=2) (v:=.string ⟨#[]⟩) rfl
  have m0:=hz2.free 0
  have m1:=hz2.free 1
  have m2:=hz2.free 2
  have l2:=hz2.lt
  have a0:=hzA.cell (i:=0) (v:=.int .i64 ka) rfl
  have a1:=hzA.cell (i:=1) (v:=.string ta) rfl
  have a2:=hzA.cell (i:=2) (v:=.int .i64 va) rfl
  have hzB : BlkAt ((w4.alloc (.cells #[.int .i64 ka,.string ta,.int .i64 va,.int .i64 p3] 105)).alloc (.cells #[.int .i64 kb,.string tb,.int .i64 vb,.int .i64 p4] 105)) (w4.heap.size + 1) 105 #[.int .i64 kb,.string tb,.int .i64 vb,.int .i64 p4]:=by
   have:=blk_box (w4.alloc (.cells #[.int .i64 ka,.string ta,.int .i64 va,.int .i64 p3] 105)) #[.int .i64 kb,.string tb,.int .i64 vb,.int .i64 p4] 105
   simpa using this
  have b0:=hzB.cell (i:=0) (v:=.int .i64 kb) rfl
  have b2:=hzB.cell (i:=2) (v:=.int .i64 vb) rfl
  obtain ⟨Y,hY⟩ : ∃ Y,Y = (((((w4.alloc (.cells #[.int .i64 ka,.string ta,.int .i64 va,.int .i64 p3] 105)).alloc (.cells #[.int .i64 kb,.string tb,.int .i64 vb,.int .i64 p4] 105)).setCell ⟨w.heap.size + 1,0,none⟩ (.int .i64 22)).setCell ⟨w.heap.size + 1,1,none⟩ (.int .i64 1)).setCell ⟨w.heap.size + 1,2,none⟩ (.string ⟨#[]⟩)):=⟨_,rfl⟩
  have hTY : Tr (w.heap.size + 1) ((w4.alloc (.cells #[.int .i64 ka,.string ta,.int .i64 va,.int .i64 p3] 105)).alloc (.cells #[.int .i64 kb,.string tb,.int .i64 vb,.int .i64 p4] 105)) Y:=by rw [hY]; exact Tr.set3 _ _ _ _ _
  have HBY:=hide ((uh HB5).trans (hTY.below (uh HB5).size (by omega)))
  have hy1:=hTY.blk hz1 (by omega)
  have hy2 : BlkAt Y (w.heap.size + 1) 88 #[.int .i64 22,.int .i64 1,.string ⟨#[]⟩]:=by rw [hY]; exact hz2.set3
  have HYY:=hide (And.intro hy1 hy2)
  have HY:=hide hY
  have HC9:=hide (uh HB _ (uh HBY))
  clear hb4 hA5 hb5 hz1 hz2 hza hzA hzB HB HZ3 HB3 hy1 hy2 hTY hY
  go_wp2_with fail
  rw [← uh HY]
  refine (uh HC9).mono ?_
  rintro e w6 ⟨p6,rfl,hb6⟩
  have hx1:=(uh HYY).1.below hb6 (uh HYY).1.lt
  have hx2:=(uh HYY).2.below hb6 (uh HYY).2.lt
  have hr:=hx1.set3 (x:=.int .i64 0) (y:=.int .i64 0) (z:=.string ⟨#[]⟩)
  have r0:=hr.cell (i:=0) (v:=.int .i64 0) rfl
  have r1:=hr.cell (i:=1) (v:=.int .i64 0) rfl
  have r2:=hr.cell (i:=2) (v:=.string ⟨#[]⟩) rfl
  have HB6:=hide ((uh HBY).trans (hb6.mono (uh HBY).size))
  have HX:=hide ((uh HB6).trans ((Tr.set3 w.heap.size w6 (.int .i64 0) (.int .i64 0) (.string ⟨#[]⟩)).below (uh HB6).size (Nat.le_refl _)))
  have y0:=hx1.cell (i:=0) (v:=.int .i64 0) rfl
  have y1:=hx1.cell (i:=1) (v:=.int .i64 0) rfl
  have y2:=hx1.cell (i:=2) (v:=.string ⟨#[]⟩) rfl
  have g0:=hx1.free 0
  have g1:=hx1.free 1
  have g2:=hx1.free 2
  have l6:=hx1.lt
  have x0:=hx2.cell (i:=0) (v:=.int .i64 22) rfl
  have x1:=hx2.cell (i:=1) (v:=.int .i64 1) rfl
  have x2:=hx2.cell (i:=2) (v:=.string ⟨#[]⟩) rfl
  clear hx1 hx2 hr hb6 HYY HB6 HBY
  go_wp2
  refine bodyPost_ret ?_ rfl (uh HF _ (uh HX))
  simp [results,Tryz.results112,go_sem,r0,r1,r2]
 ·rw [decide_eq_false h1] at k1
  rw [decide_eq_false (fun e => absurd (h3.symm.trans e) (by decide : ¬ Lfalse = Kmin))] at k2
  rw [decide_eq_false (fun e => absurd (h3.symm.trans e) (by decide : ¬ Lfalse = Ltrue))] at k3
  rw [decide_eq_true h3] at k4
  have k6:=tl_ne (x:=tb) Kfby [102,98,121] rfl _ (decide_eq_true h2)
  simp only [Bool.not_true,Bool.not_false] at k6
  have k7:=tl_eq (x:=tb) Kfby [102,98,121] rfl _ (decide_eq_true h2)
  clear k5 h1 h2 h3 HC
  go_enter Tryz.func112,Tryz.ntmps112
  go_wp2_with fail
  refine (uh HA _ (uh HZ).1).mono ?_
  rintro e w3 ⟨p3,rfl,hb3⟩
  have HB3:=hide ((uh HZ).1.trans (hb3.mono (uh HZ).1.size))
  have HZ3:=hide (And.intro ((uh HZ).2.1.below hb3 (uh HZ).2.1.lt) ((uh HZ).2.2.below hb3 (uh HZ).2.2.lt))
  clear hb3 HA HZ
  go_wp2_with fail
  refine (uh HB _ (uh HB3)).mono ?_
  rintro e w4 ⟨p4,rfl,hb4⟩
  have hA5 : Below w4.heap.size w4 ((w4.alloc (.cells #[.int .i64 ka,.string ta,.int .i64 va,.int .i64 p3] 105)).alloc (.cells #[.int .i64 kb,.string tb,.int .i64 vb,.int .i64 p4] 105)):=((Below.refl _ _).alloc (Nat.le_refl _) _).alloc (by simp) _
  have hb5:=hb4.trans (hA5.mono hb4.size)
  have HB5:=hide ((uh HB3).trans (hb5.mono (uh HB3).size))
  have hz1:=(uh HZ3).1.below hb5 (uh HZ3).1.lt
  have hz2:=(uh HZ3).2.below hb5 (uh HZ3).2.lt
  have hza:=blk_box w4 #[.int .i64 ka,.string ta,.int .i64 va,.int .i64 p3] 105
  have hzA:=hza.below (w':=((w4.alloc (.cells #[.int .i64 ka,.string ta,.int .i64 va,.int .i64 p3] 105)).alloc (.cells #[.int .i64 kb,.string tb,.int .i64 vb,.int .i64 p4] 105))) ((Below.refl _ _).alloc (Nat.le_refl _) _) (by simp)
  have s0:=hz1.cell (i:=0) (v:=.int .i64 0) rfl
  have s1:=hz1.cell (i:=1) (v:=.int .i64 0) rfl
  have s2:=hz1.cell (i:=2) (v:=.string ⟨#[]⟩) rfl
  have f0:=hz1.free 0
  have f1:=hz1.free 1
  have f2:=hz1.free 2
  have l1:=hz1.lt
  have u0:=hz2.cell (i:=0) (v:=.int .i64 0) rfl
  have u1:=hz2.cell (i:=1) (v:=.int .i64 0) rfl
  have u2:=hz2.cell (i:=2) (v:=.string ⟨#[]⟩) rfl
  have m0:=hz2.free 0
  have m1:=hz2.free 1
  have m2:=hz2.free 2
  have l2:=hz2.lt
  have a0:=hzA.cell (i:=0) (v:=.int .i64 ka) rfl
  have a1:=hzA.cell (i:=1) (v:=.string ta) rfl
  have a2:=hzA.cell (i:=2) (v:=.int .i64 va) rfl
  have hzB : BlkAt ((w4.alloc (.cells #[.int .i64 ka,.string ta,.int .i64 va,.int .i64 p3] 105)).alloc (.cells #[.int .i64 kb,.string tb,.int .i64 vb,.int .i64 p4] 105)) (w4.heap.size + 1) 105 #[.int .i64 kb,.string tb,.int .i64 vb,.int .i64 p4]:=by
   have:=blk_box (w4.alloc (.cells #[.int .i64 ka,.string ta,.int .i64 va,.int .i64 p3] 105)) #[.int .i64 kb,.string tb,.int .i64 vb,.int .i64 p4] 105
   simpa using this
  have b0:=hzB.cell (i:=0) (v:=.int .i64 kb) rfl
  have b2:=hzB.cell (i:=2) (v:=.int .i64 vb) rfl
  obtain ⟨Y,hY⟩ : ∃ Y,Y = (((((w4.alloc (.cells #[.int .i64 ka,.string ta,.int .i64 va,.int .i64 p3] 105)).alloc (.cells #[.int .i64 kb,.string tb,.int .i64 vb,.int .i64 p4] 105)).setCell ⟨w.heap.size + 1,0,none⟩ (.int .i64 22)).setCell ⟨w.heap.size + 1,1,none⟩ (.int .i64 0)).setCell ⟨w.heap.size + 1,2,none⟩ (.string ⟨#[]⟩)):=⟨_,rfl⟩
  have hTY : Tr (w.heap.size + 1) ((w4.alloc (.cells #[.int .i64 ka,.string ta,.int .i64 va,.int .i64 p3] 105)).alloc (.cells #[.int .i64 kb,.string tb,.int .i64 vb,.int .i64 p4] 105)) Y:=by rw [hY]; exact Tr.set3 _ _ _ _ _
  have HBY:=hide ((uh HB5).trans (hTY.below (uh HB5).size (by omega)))
  have hy1:=hTY.blk hz1 (by omega)
  have hy2 : BlkAt Y (w.heap.size + 1) 88 #[.int .i64 22,.int .i64 0,.string ⟨#[]⟩]:=by rw [hY]; exact hz2.set3
  have HYY:=hide (And.intro hy1 hy2)
  have HY:=hide hY
  have HC9:=hide (uh HB _ (uh HBY))
  clear hb4 hA5 hb5 hz1 hz2 hza hzA hzB HB HZ3 HB3 hy1 hy2 hTY hY
  go_wp2_with fail
  rw [← uh HY]
  refine (uh HC9).mono ?_
  rintro e w6 ⟨p6,rfl,hb6⟩
  have hx1:=(uh HYY).1.below hb6 (uh HYY).1.lt
  have hx2:=(uh HYY).2.below hb6 (uh HYY).2.lt
  have hr:=hx1.set3 (x:=.int .i64 22) (y:=.int .i64 0) (z:=.string ⟨#[]⟩)
  have r0:=hr.cell (i:=0) (v:=.int .i64 22) rfl
  have r1:=hr.cell (i:=1) (v:=.int .i64 0) rfl
  have r2:=hr.cell (i:=2) (v:=.string ⟨#[]⟩) rfl
  have HB6:=hide ((uh HBY).trans (hb6.mono (uh HBY).size))
  have HX:=hide ((uh HB6).trans ((Tr.set3 w.heap.size w6 (.int .i64 22) (.int .i64 0) (.string ⟨#[]⟩)).below (uh HB6).size (Nat.le_refl _)))
  have y0:=hx1.cell (i:=0) (v:=.int .i64 0) rfl
  have y1:=hx1.cell (i:=1) (v:=.int .i64 0) rfl
  have y2:=hx1.cell (i:=2) (v:=.string ⟨#[]⟩) rfl
  have g0:=hx1.free 0
  have g1:=hx1.free 1
  have g2:=hx1.free 2
  have l6:=hx1.lt
  have x0:=hx2.cell (i:=0) (v:=.int .i64 22) rfl
  have x1:=hx2.cell (i:=1) (v:=.int .i64 0) rfl
  have x2:=hx2.cell (i:=2) (v:=.string ⟨#[]⟩) rfl
  clear hx1 hx2 hr hb6 HYY HB6 HBY
  go_wp2
  refine bodyPost_ret ?_ rfl (uh HF _ (uh HX))
  simp [results,Tryz.results112,go_sem,r0,r1,r2]
 ·rw [decide_eq_false h1] at k1
  rw [decide_eq_false (fun e => absurd (h3.symm.trans e) (by decide : ¬ Lfalse = Kmin))] at k2
  rw [decide_eq_false (fun e => absurd (h3.symm.trans e) (by decide : ¬ Lfalse = Ltrue))] at k3
  rw [decide_eq_true h3] at k4
  have k6:=tl_ne (x:=tb) Kfby [102,98,121] rfl _ (decide_eq_false h2)
  simp only [Bool.not_true,Bool.not_false] at k6
  have k7:=tl_eq (x:=tb) Kfby [102,98,121] rfl _ (decide_eq_false h2)
  clear k5 h1 h2 h3 HC
  go_enter Tryz.func112,Tryz.ntmps112
  go_wp2_with fail
  refine (uh HA _ (uh HZ).1).mono ?_
  rintro e w3 ⟨p3,rfl,hb3⟩
  have HB3:=hide ((uh HZ).1.trans (hb3.mono (uh HZ).1.size))
  have HZ3:=hide (And.intro ((uh HZ).2.1.below hb3 (uh HZ).2.1.lt) ((uh HZ).2.2.below hb3 (uh HZ).2.2.lt))
  clear hb3 HA HZ
  go_wp2_with fail
  refine (uh HB _ (uh HB3)).mono ?_
  rintro e w4 ⟨p4,rfl,hb4⟩
  have hA5 : Below w4.heap.size w4 ((w4.alloc (.cells #[.int .i64 ka,.string ta,.int .i64 va,.int .i64 p3] 105)).alloc (.cells #[.int .i64 kb,.string tb,.int .i64 vb,.int .i64 p4] 105)):=((Below.refl _ _).alloc (Nat.le_refl _) _).alloc (by simp) _
  have hb5:=hb4.trans (hA5.mono hb4.size)
  have HB5:=hide ((uh HB3).trans (hb5.mono (uh HB3).size))
  have hz1:=(uh HZ3).1.below hb5 (uh HZ3).1.lt
  have hz2:=(uh HZ3).2.below hb5 (uh HZ3).2.lt
  have hza:=blk_box w4 #[.int .i64 ka,.string ta,.int .i64 va,.int .i64 p3] 105
  have hzA:=hza.below (w':=((w4.alloc (.cells #[.int .i64 ka,.string ta,.int .i64 va,.int .i64 p3] 105)).alloc (.cells #[.int .i64 kb,.string tb,.int .i64 vb,.int .i64 p4] 105))) ((Below.refl _ _).alloc (Nat.le_refl _) _) (by simp)
  have s0:=hz1.cell (i:=0) (v:=.int .i64 0) rfl
  have s1:=hz1.cell (i:=1) (v:=.int .i64 0) rfl
  have s2:=hz1.cell (i:=2) (v:=.string ⟨#[]⟩) rfl
  have f0:=hz1.free 0
  have f1:=hz1.free 1
  have f2:=hz1.free 2
  have l1:=hz1.lt
  have u0:=hz2.cell (i:=0) (v:=.int .i64 0) rfl
  have u1:=hz2.cell (i:=1) (v:=.int .i64 0) rfl
  have u2:=hz2.cell (i:=2) (v:=.string ⟨#[]⟩) rfl
  have m0:=hz2.free 0
  have m1:=hz2.free 1
  have m2:=hz2.free 2
  have l2:=hz2.lt
  have a0:=hzA.cell (i:=0) (v:=.int .i64 ka) rfl
  have a1:=hzA.cell (i:=1) (v:=.string ta) rfl
  have a2:=hzA.cell (i:=2) (v:=.int .i64 va) rfl
  have hzB : BlkAt ((w4.alloc (.cells #[.int .i64 ka,.string ta,.int .i64 va,.int .i64 p3] 105)).alloc (.cells #[.int .i64 kb,.string tb,.int .i64 vb,.int .i64 p4] 105)) (w4.heap.size + 1) 105 #[.int .i64 kb,.string tb,.int .i64 vb,.int .i64 p4]:=by
   have:=blk_box (w4.alloc (.cells #[.int .i64 ka,.string ta,.int .i64 va,.int .i64 p3] 105)) #[.int .i64 kb,.string tb,.int .i64 vb,.int .i64 p4] 105
   simpa using this
  have b0:=hzB.cell (i:=0) (v:=.int .i64 kb) rfl
  have b2:=hzB.cell (i:=2) (v:=.int .i64 vb) rfl
  obtain ⟨Y,hY⟩ : ∃ Y,Y = (((((w4.alloc (.cells #[.int .i64 ka,.string ta,.int .i64 va,.int .i64 p3] 105)).alloc (.cells #[.int .i64 kb,.string tb,.int .i64 vb,.int .i64 p4] 105)).setCell ⟨w.heap.size + 1,0,none⟩ (.int .i64 22)).setCell ⟨w.heap.size + 1,1,none⟩ (.int .i64 0)).setCell ⟨w.heap.size + 1,2,none⟩ (.string ⟨#[]⟩)):=⟨_,rfl⟩
  have hTY : Tr (w.heap.size + 1) ((w4.alloc (.cells #[.int .i64 ka,.string ta,.int .i64 va,.int .i64 p3] 105)).alloc (.cells #[.int .i64 kb,.string tb,.int .i64 vb,.int .i64 p4] 105)) Y:=by rw [hY]; exact Tr.set3 _ _ _ _ _
  have HBY:=hide ((uh HB5).trans (hTY.below (uh HB5).size (by omega)))
  have hy1:=hTY.blk hz1 (by omega)
  have hy2 : BlkAt Y (w.heap.size + 1) 88 #[.int .i64 22,.int .i64 0,.string ⟨#[]⟩]:=by rw [hY]; exact hz2.set3
  have HYY:=hide (And.intro hy1 hy2)
  have HY:=hide hY
  have HC9:=hide (uh HB _ (uh HBY))
  clear hb4 hA5 hb5 hz1 hz2 hza hzA hzB HB HZ3 HB3 hy1 hy2 hTY hY
  go_wp2_with fail
  rw [← uh HY]
  refine (uh HC9).mono ?_
  rintro e w6 ⟨p6,rfl,hb6⟩
  have hx1:=(uh HYY).1.below hb6 (uh HYY).1.lt
  have hx2:=(uh HYY).2.below hb6 (uh HYY).2.lt
  have hr:=hx1.set3 (x:=.int .i64 0) (y:=.int .i64 0) (z:=.string ⟨#[]⟩)
  have r0:=hr.cell (i:=0) (v:=.int .i64 0) rfl
  have r1:=hr.cell (i:=1) (v:=.int .i64 0) rfl
  have r2:=hr.cell (i:=2) (v:=.string ⟨#[]⟩) rfl
  have HB6:=hide ((uh HBY).trans (hb6.mono (uh HBY).size))
  have HX:=hide ((uh HB6).trans ((Tr.set3 w.heap.size w6 (.int .i64 0) (.int .i64 0) (.string ⟨#[]⟩)).below (uh HB6).size (Nat.le_refl _)))
  have y0:=hx1.cell (i:=0) (v:=.int .i64 0) rfl
  have y1:=hx1.cell (i:=1) (v:=.int .i64 0) rfl
  have y2:=hx1.cell (i:=2) (v:=.string ⟨#[]⟩) rfl
  have g0:=hx1.free 0
  have g1:=hx1.free 1
  have g2:=hx1.free 2
  have l6:=hx1.lt
  have x0:=hx2.cell (i:=0) (v:=.int .i64 22) rfl
  have x1:=hx2.cell (i:=1) (v:=.int .i64 0) rfl
  have x2:=hx2.cell (i:=2) (v:=.string ⟨#[]⟩) rfl
  clear hx1 hx2 hr hb6 HYY HB6 HBY
  go_wp2
  refine bodyPost_ret ?_ rfl (uh HF _ (uh HX))
  simp [results,Tryz.results112,go_sem,r0,r1,r2]
 ·rw [decide_eq_false h1] at k1
  rw [decide_eq_false h2] at k5
  rw [decide_eq_true h3] at k2
  rw [decide_eq_false (fun e => absurd (h3.symm.trans e) (by decide : ¬ Kmin = Ltrue))] at k3
  rw [decide_eq_false (fun e => absurd (h3.symm.trans e) (by decide : ¬ Kmin = Lfalse))] at k4
  clear h1 h2 h3 HC
  go_enter Tryz.func112,Tryz.ntmps112
  go_wp2_with fail
  refine (uh HA _ (uh HZ).1).mono ?_
  rintro e w3 ⟨p3,rfl,hb3⟩
  have HB3:=hide ((uh HZ).1.trans (hb3.mono (uh HZ).1.size))
  have HZ3:=hide (And.intro ((uh HZ).2.1.below hb3 (uh HZ).2.1.lt) ((uh HZ).2.2.below hb3 (uh HZ).2.2.lt))
  clear hb3 HA HZ
  go_wp2_with fail
  refine (uh HB _ (uh HB3)).mono ?_
  rintro e w4 ⟨p4,rfl,hb4⟩
  have hA5 : Below w4.heap.size w4 ((w4.alloc (.cells #[.int .i64 ka,.string ta,.int .i64 va,.int .i64 p3] 105)).alloc (.cells #[.int .i64 kb,.string tb,.int .i64 vb,.int .i64 p4] 105)):=((Below.refl _ _).alloc (Nat.le_refl _) _).alloc (by simp) _
  have hb5:=hb4.trans (hA5.mono hb4.size)
  have HB5:=hide ((uh HB3).trans (hb5.mono (uh HB3).size))
  have hz1:=(uh HZ3).1.below hb5 (uh HZ3).1.lt
  have hz2:=(uh HZ3).2.below hb5 (uh HZ3).2.lt
  have hza:=blk_box w4 #[.int .i64 ka,.string ta,.int .i64 va,.int .i64 p3] 105
  have hzA:=hza.below (w':=((w4.alloc (.cells #[.int .i64 ka,.string ta,.int .i64 va,.int .i64 p3] 105)).alloc (.cells #[.int .i64 kb,.string tb,.int .i64 vb,.int .i64 p4] 105))) ((Below.refl _ _).alloc (Nat.le_refl _) _) (by simp)
  have s0:=hz1.cell (i:=0) (v:=.int .i64 0) rfl
  have s1:=hz1.cell (i:=1) (v:=.int .i64 0) rfl
  have s2:=hz1.cell (i:=2) (v:=.string ⟨#[]⟩) rfl
  have f0:=hz1.free 0
  have f1:=hz1.free 1
  have f2:=hz1.free 2
  have l1:=hz1.lt
  have u0:=hz2.cell (i:=0) (v:=.int .i64 0) rfl
  have u1:=hz2.cell (i:=1) (v:=.int .i64 0) rfl
  have u2:=hz2.cell (i:=2) (v:=.string ⟨#[]⟩) rfl
  have m0:=hz2.free 0
  have m1:=hz2.free 1
  have m2:=hz2.free 2
  have l2:=hz2.lt
  have hr:=hz1.set3 (x:=.int .i64 0) (y:=.int .i64 0) (z:=.string ⟨#[]⟩)
  have r0:=hr.cell (i:=0) (v:=.int .i64 0) rfl
  have r1:=hr.cell (i:=1) (v:=.int .i64 0) rfl
  have r2:=hr.cell (i:=2) (v:=.string ⟨#[]⟩) rfl
  have HX:=hide ((uh HB5).trans (((Tr.set3 w.heap.size ((w4.alloc (.cells #[.int .i64 ka,.string ta,.int .i64 va,.int .i64 p3] 105)).alloc (.cells #[.int .i64 kb,.string tb,.int .i64 vb,.int .i64 p4] 105)) (.int .i64 0) (.int .i64 0) (.string ⟨#[]⟩))).below (uh HB5).size (Nat.le_refl _)))
  clear hb4 hA5 hb5 hz1 hz2 hza hzA hr HB HZ3 HB3
  go_wp2
  refine bodyPost_ret ?_ rfl (uh HF _ (uh HX))
  simp [results,Tryz.results112,go_sem,r0,r1,r2]
 ·rw [decide_eq_false h1] at k1
  rw [decide_eq_true h2] at k5
  rw [decide_eq_true h3] at k2
  have k6:=tl_ne (x:=c.text) Kfby [102,98,121] rfl _ (decide_eq_true h5)
  simp only [Bool.not_true,Bool.not_false] at k6
  have k7:=tl_eq (x:=c.text) Kfby [102,98,121] rfl _ (decide_eq_true h5)
  have HB':=hide (uh HC c r hL)
  clear k3 k4 h1 h2 h3 h5 hL HC
  obtain ⟨kc,tc,vc⟩:=c
  simp only at k6 k7 HB'
  go_enter Tryz.func112,Tryz.ntmps112
  go_wp2_with fail
  refine (uh HA _ (uh HZ).1).mono ?_
  rintro e w3 ⟨p3,rfl,hb3⟩
  have HB3:=hide ((uh HZ).1.trans (hb3.mono (uh HZ).1.size))
  have HZ3:=hide (And.intro ((uh HZ).2.1.below hb3 (uh HZ).2.1.lt) ((uh HZ).2.2.below hb3 (uh HZ).2.2.lt))
  clear hb3 HA HZ
  go_wp2_with fail
  refine (uh HB _ (uh HB3)).mono ?_
  rintro e w4 ⟨p4,rfl,hb4⟩
  have hA5 : Below w4.heap.size w4 ((w4.alloc (.cells #[.int .i64 ka,.string ta,.int .i64 va,.int .i64 p3] 105)).alloc (.cells #[.int .i64 kb,.string tb,.int .i64 vb,.int .i64 p4] 105)):=((Below.refl _ _).alloc (Nat.le_refl _) _).alloc (by simp) _
  have hb5:=hb4.trans (hA5.mono hb4.size)
  have HB5:=hide ((uh HB3).trans (hb5.mono (uh HB3).size))
  have hz1:=(uh HZ3).1.below hb5 (uh HZ3).1.lt
  have hz2:=(uh HZ3).2.below hb5 (uh HZ3).2.lt
  have hza:=blk_box w4 #[.int .i64 ka,.string ta,.int .i64 va,.int .i64 p3] 105
  have hzA:=hza.below (w':=((w4.alloc (.cells #[.int .i64 ka,.string ta,.int .i64 va,.int .i64 p3] 105)).alloc (.cells #[.int .i64 kb,.string tb,.int .i64 vb,.int .i64 p4] 105))) ((Below.refl _ _).alloc (Nat.le_refl _) _) (by simp)
  have s0:=hz1.cell (i:=0) (v:=.int .i64 0) rfl
  have s1:=hz1.cell (i:=1) (v:=.int .i64 0) rfl
  have s2:=hz1.cell (i:=2) (v:=.string ⟨#[]⟩) rfl
  have f0:=hz1.free 0
  have f1:=hz1.free 1
  have f2:=hz1.free 2
  have l1:=hz1.lt
  have u0:=hz2.cell (i:=0) (v:=.int .i64 0) rfl
  have u1:=hz2.cell (i:=1) (v:=.int .i64 0) rfl
  have u2:=hz2.cell (i:=2) (v:=.string ⟨#[]⟩) rfl
  have m0:=hz2.free 0
  have m1:=hz2.free 1
  have m2:=hz2.free 2
  have l2:=hz2.lt
  have a0:=hzA.cell (i:=0) (v:=.int .i64 ka) rfl
  have a1:=hzA.cell (i:=1) (v:=.string ta) rfl
  have a2:=hzA.cell (i:=2) (v:=.int .i64 va) rfl
  have hzB : BlkAt ((w4.alloc (.cells #[.int .i64 ka,.string ta,.int .i64 va,.int .i64 p3] 105)).alloc (.cells #[.int .i64 kb,.string tb,.int .i64 vb,.int .i64 p4] 105)) (w4.heap.size + 1) 105 #[.int .i64 kb,.string tb,.int .i64 vb,.int .i64 p4]:=by
   have:=blk_box (w4.alloc (.cells #[.int .i64 ka,.string ta,.int .i64 va,.int .i64 p3] 105)) #[.int .i64 kb,.string tb,.int .i64 vb,.int .i64 p4] 105
   simpa using this
  have b0:=hzB.cell (i:=0) (v:=.int .i64 kb) rfl
  have b2:=hzB.cell (i:=2) (v:=.int .i64 vb) rfl
  obtain ⟨Y,hY⟩ : ∃ Y,Y = (((((w4.alloc (.cells #[.int .i64 ka,.string ta,.int .i64 va,.int .i64 p3] 105)).alloc (.cells #[.int .i64 kb,.string tb,.int .i64 vb,.int .i64 p4] 105)).setCell ⟨w.heap.size + 1,0,none⟩ (.int .i64 21)).setCell ⟨w.heap.size + 1,1,none⟩ (.int .i64 (-vb))).setCell ⟨w.heap.size + 1,2,none⟩ (.string ⟨#[]⟩)):=⟨_,rfl⟩
  have hTY : Tr (w.heap.size + 1) ((w4.alloc (.cells #[.int .i64 ka,.string ta,.int .i64 va,.int .i64 p3] 105)).alloc (.cells #[.int .i64 kb,.string tb,.int .i64 vb,.int .i64 p4] 105)) Y:=by rw [hY]; exact Tr.set3 _ _ _ _ _
  have HBY:=hide ((uh HB5).trans (hTY.below (uh HB5).size (by omega)))
  have hy1:=hTY.blk hz1 (by omega)
  have hy2 : BlkAt Y (w.heap.size + 1) 88 #[.int .i64 21,.int .i64 (-vb),.string ⟨#[]⟩]:=by rw [hY]; exact hz2.set3
  have HYY:=hide (And.intro hy1 hy2)
  have HY:=hide hY
  have HC9:=hide (uh HB' _ (uh HBY))
  clear hb4 hA5 hb5 hz1 hz2 hza hzA hzB HB HZ3 HB3 hy1 hy2 hTY hY
  go_wp2_with fail
  rw [← uh HY]
  refine (uh HC9).mono ?_
  rintro e w6 ⟨p6,rfl,hb6⟩
  have hx1:=(uh HYY).1.below hb6 (uh HYY).1.lt
  have hx2:=(uh HYY).2.below hb6 (uh HYY).2.lt
  have hr:=hx1.set3 (x:=.int .i64 21) (y:=.int .i64 (-vb)) (z:=.string ⟨#[]⟩)
  have r0:=hr.cell (i:=0) (v:=.int .i64 21) rfl
  have r1:=hr.cell (i:=1) (v:=.int .i64 (-vb)) rfl
  have r2:=hr.cell (i:=2) (v:=.string ⟨#[]⟩) rfl
  have HB6:=hide ((uh HBY).trans (hb6.mono (uh HBY).size))
  have HX:=hide ((uh HB6).trans ((Tr.set3 w.heap.size w6 (.int .i64 21) (.int .i64 (-vb)) (.string ⟨#[]⟩)).below (uh HB6).size (Nat.le_refl _)))
  have y0:=hx1.cell (i:=0) (v:=.int .i64 0) rfl
  have y1:=hx1.cell (i:=1) (v:=.int .i64 0) rfl
  have y2:=hx1.cell (i:=2) (v:=.string ⟨#[]⟩) rfl
  have g0:=hx1.free 0
  have g1:=hx1.free 1
  have g2:=hx1.free 2
  have l6:=hx1.lt
  have x0:=hx2.cell (i:=0) (v:=.int .i64 21) rfl
  have x1:=hx2.cell (i:=1) (v:=.int .i64 (-vb)) rfl
  have x2:=hx2.cell (i:=2) (v:=.string ⟨#[]⟩) rfl
  clear hx1 hx2 hr hb6 HYY HB6 HBY
  go_wp2
  refine bodyPost_ret ?_ rfl (uh HF _ (uh HX))
  simp [results,Tryz.results112,go_sem,r0,r1,r2]
 ·rw [decide_eq_false h1] at k1
  rw [decide_eq_true h2] at k5
  rw [decide_eq_true h3] at k2
  have k6:=tl_ne (x:=c.text) Kfby [102,98,121] rfl _ (decide_eq_false h5)
  simp only [Bool.not_true,Bool.not_false] at k6
  have k7:=tl_eq (x:=c.text) Kfby [102,98,121] rfl _ (decide_eq_false h5)
  have HB':=hide (uh HC c r hL)
  clear k3 k4 h1 h2 h3 h5 hL HC
  obtain ⟨kc,tc,vc⟩:=c
  simp only at k6 k7 HB'
  go_enter Tryz.func112,Tryz.ntmps112
  go_wp2_with fail
  refine (uh HA _ (uh HZ).1).mono ?_
  rintro e w3 ⟨p3,rfl,hb3⟩
  have HB3:=hide ((uh HZ).1.trans (hb3.mono (uh HZ).1.size))
  have HZ3:=hide (And.intro ((uh HZ).2.1.below hb3 (uh HZ).2.1.lt) ((uh HZ).2.2.below hb3 (uh HZ).2.2.lt))
  clear hb3 HA HZ
  go_wp2_with fail
  refine (uh HB _ (uh HB3)).mono ?_
  rintro e w4 ⟨p4,rfl,hb4⟩
  have hA5 : Below w4.heap.size w4 ((w4.alloc (.cells #[.int .i64 ka,.string ta,.int .i64 va,.int .i64 p3] 105)).alloc (.cells #[.int .i64 kb,.string tb,.int .i64 vb,.int .i64 p4] 105)):=((Below.refl _ _).alloc (Nat.le_refl _) _).alloc (by simp) _
  have hb5:=hb4.trans (hA5.mono hb4.size)
  have HB5:=hide ((uh HB3).trans (hb5.mono (uh HB3).size))
  have hz1:=(uh HZ3).1.below hb5 (uh HZ3).1.lt
  have hz2:=(uh HZ3).2.below hb5 (uh HZ3).2.lt
  have hza:=blk_box w4 #[.int .i64 ka,.string ta,.int .i64 va,.int .i64 p3] 105
  have hzA:=hza.below (w':=((w4.alloc (.cells #[.int .i64 ka,.string ta,.int .i64 va,.int .i64 p3] 105)).alloc (.cells #[.int .i64 kb,.string tb,.int .i64 vb,.int .i64 p4] 105))) ((Below.refl _ _).alloc (Nat.le_refl _) _) (by simp)
  have s0:=hz1.cell (i:=0) (v:=.int .i64 0) rfl
  have s1:=hz1.cell (i:=1) (v:=.int .i64 0) rfl
  have s2:=hz1.cell (i:=2) (v:=.string ⟨#[]⟩) rfl
  have f0:=hz1.free 0
  have f1:=hz1.free 1
  have f2:=hz1.free 2
  have l1:=hz1.lt
  have u0:=hz2.cell (i:=0) (v:=.int .i64 0) rfl
  have u1:=hz2.cell (i:=1) (v:=.int .i64 0) rfl
  have u2:=hz2.cell (i:=2) (v:=.string ⟨#[]⟩) rfl
  have m0:=hz2.free 0
  have m1:=hz2.free 1
  have m2:=hz2.free 2
  have l2:=hz2.lt
  have a0:=hzA.cell (i:=0) (v:=.int .i64 ka) rfl
  have a1:=hzA.cell (i:=1) (v:=.string ta) rfl
  have a2:=hzA.cell (i:=2) (v:=.int .i64 va) rfl
  have hzB : BlkAt ((w4.alloc (.cells #[.int .i64 ka,.string ta,.int .i64 va,.int .i64 p3] 105)).alloc (.cells #[.int .i64 kb,.string tb,.int .i64 vb,.int .i64 p4] 105)) (w4.heap.size + 1) 105 #[.int .i64 kb,.string tb,.int .i64 vb,.int .i64 p4]:=by
   have:=blk_box (w4.alloc (.cells #[.int .i64 ka,.string ta,.int .i64 va,.int .i64 p3] 105)) #[.int .i64 kb,.string tb,.int .i64 vb,.int .i64 p4] 105
   simpa using this
  have b0:=hzB.cell (i:=0) (v:=.int .i64 kb) rfl
  have b2:=hzB.cell (i:=2) (v:=.int .i64 vb) rfl
  obtain ⟨Y,hY⟩ : ∃ Y,Y = (((((w4.alloc (.cells #[.int .i64 ka,.string ta,.int .i64 va,.int .i64 p3] 105)).alloc (.cells #[.int .i64 kb,.string tb,.int .i64 vb,.int .i64 p4] 105)).setCell ⟨w.heap.size + 1,0,none⟩ (.int .i64 21)).setCell ⟨w.heap.size + 1,1,none⟩ (.int .i64 (-vb))).setCell ⟨w.heap.size + 1,2,none⟩ (.string ⟨#[]⟩)):=⟨_,rfl⟩
  have hTY : Tr (w.heap.size + 1) ((w4.alloc (.cells #[.int .i64 ka,.string ta,.int .i64 va,.int .i64 p3] 105)).alloc (.cells #[.int .i64 kb,.string tb,.int .i64 vb,.int .i64 p4] 105)) Y:=by rw [hY]; exact Tr.set3 _ _ _ _ _
  have HBY:=hide ((uh HB5).trans (hTY.below (uh HB5).size (by omega)))
  have hy1:=hTY.blk hz1 (by omega)
  have hy2 : BlkAt Y (w.heap.size + 1) 88 #[.int .i64 21,.int .i64 (-vb),.string ⟨#[]⟩]:=by rw [hY]; exact hz2.set3
  have HYY:=hide (And.intro hy1 hy2)
  have HY:=hide hY
  have HC9:=hide (uh HB' _ (uh HBY))
  clear hb4 hA5 hb5 hz1 hz2 hza hzA hzB HB HZ3 HB3 hy1 hy2 hTY hY
  go_wp2_with fail
  rw [← uh HY]
  refine (uh HC9).mono ?_
  rintro e w6 ⟨p6,rfl,hb6⟩
  have hx1:=(uh HYY).1.below hb6 (uh HYY).1.lt
  have hx2:=(uh HYY).2.below hb6 (uh HYY).2.lt
  have hr:=hx1.set3 (x:=.int .i64 0) (y:=.int .i64 0) (z:=.string ⟨#[]⟩)
  have r0:=hr.cell (i:=0) (v:=.int .i64 0) rfl
  have r1:=hr.cell (i:=1) (v:=.int .i64 0) rfl
  have r2:=hr.cell (i:=2) (v:=.string ⟨#[]⟩) rfl
  have HB6:=hide ((uh HBY).trans (hb6.mono (uh HBY).size))
  have HX:=hide ((uh HB6).trans ((Tr.set3 w.heap.size w6 (.int .i64 0) (.int .i64 0) (.string ⟨#[]⟩)).below (uh HB6).size (Nat.le_refl _)))
  have y0:=hx1.cell (i:=0) (v:=.int .i64 0) rfl
  have y1:=hx1.cell (i:=1) (v:=.int .i64 0) rfl
  have y2:=hx1.cell (i:=2) (v:=.string ⟨#[]⟩) rfl
  have g0:=hx1.free 0
  have g1:=hx1.free 1
  have g2:=hx1.free 2
  have l6:=hx1.lt
  have x0:=hx2.cell (i:=0) (v:=.int .i64 21) rfl
  have x1:=hx2.cell (i:=1) (v:=.int .i64 (-vb)) rfl
  have x2:=hx2.cell (i:=2) (v:=.string ⟨#[]⟩) rfl
  clear hx1 hx2 hr hb6 HYY HB6 HBY
  go_wp2
  refine bodyPost_ret ?_ rfl (uh HF _ (uh HX))
  simp [results,Tryz.results112,go_sem,r0,r1,r2]
end
end Go.Proofs.YtajabbnlbopcbaaGreatDoor
