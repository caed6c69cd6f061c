import Derived.Test.YtajabbnlbopcbaaGreatDoorLX2
import Derived.Test.YtajabbnlbopcbaaGreatDoorShelf
namespace Go.Proofs.YtajabbnlbopcbaaGreatDoor
open Go.RowKit
set_option linter.unusedSimpArgs false
set_option linter.unusedVariables false
def blankB (c : Int) : Bool:=decide (c = 9 ∨ c = 10 ∨ c = 13 ∨ c = 32)
set_option maxHeartbeats 400000 in
theorem isBlank_ok (c : Int) (w : World) (h0 : 0 ≤ c) (h1 : c ≤ 255) :
  Calls Tryz.prog 44 #[.int .u8 c] w fun e w' => e = .returned (.bool (blankB c)) ∧ w' = w:=by
 go_enter Tryz.func44,Tryz.ntmps44
 go_wp2
 all_goals
  go_ret
  refine ⟨ret_bool ?_,rfl⟩
  unfold blankB
  rw [Bool.eq_iff_iff]
  simp_all
set_option maxHeartbeats 1000000 in
theorem isSymbol_ok (s : ByteArray) (w : World) :
  Calls Tryz.prog 93 #[.string s] w fun e w' => e = .returned (.bool (symB s)) ∧ w' = w:=by
 go_enter Tryz.func93,Tryz.ntmps93
 go_wp2
 all_goals
  go_ret
  refine ⟨ret_bool ?_,rfl⟩
  simp only [ByteArray.toList_eq] at *
  simp_all [symB]
def tokV (k : Int) (t : ByteArray) (v : Int) (at_ : Int) : Value:=.agg #[.int .i64 k,.string t,.int .i64 v,.int .i64 at_]
def TkAns (k : Int) (t : ByteArray) (v : Int) (i : Nat) (w : World) (e : Ending) (w' : World) : Prop:=e = .returned (tokV k t v i) ∧ Below w.heap.size w w'
theorem blk_set4 {w W : World} {g : Nat} {T : TypeId} {a b c d x0 x1 x2 x3 : Value} (hz : BlkAt W g T #[a,b,c,d]) (hP : Below w.heap.size w W) (hg : w.heap.size ≤ g) : BlkAt ((((W.setCell ⟨g,0,none⟩ x0).setCell ⟨g,1,none⟩ x1).setCell ⟨g,2,none⟩ x2).setCell ⟨g,3,none⟩ x3) g T #[x0,x1,x2,x3] ∧ Below w.heap.size w ((((W.setCell ⟨g,0,none⟩ x0).setCell ⟨g,1,none⟩ x1).setCell ⟨g,2,none⟩ x2).setCell ⟨g,3,none⟩ x3) :=
 ⟨(((hz.set 0 x0).set 1 x1).set 2 x2).set 3 x3,(((hP.setCell (p:=⟨g,0,none⟩) hg _).setCell (p:=⟨g,1,none⟩) hg _).setCell (p:=⟨g,2,none⟩) hg _).setCell (p:=⟨g,3,none⟩) hg _⟩
set_option maxHeartbeats 2000000 in
theorem wordAt_ok (s : ByteArray) (i j : Nat) (w : World) (hs : Len s.size) (hij : i < j) (hj : j ≤ s.size) (hw : ∀ k,i ≤ k → k < j → wordB (byt s k) = true) (hst : wordB (byt s j) = false) (h40 : j - i ≤ 40) :
  Calls Tryz.prog 68 #[.string s,.int .i64 i] w (TkAns (if kwB (s.extract i j) = true then 3 else 1) (s.extract i j) 0 i w):=by
 unfold Len at hs
 have HW:=hide hw
 have HS:=hide hst
 clear hw hst
 obtain ⟨PO,hPO⟩ : ∃ PO : Ending → World → Prop,PO = TkAns (if kwB (s.extract i j) = true then 3 else 1) (s.extract i j) 0 i w:=⟨_,rfl⟩
 rw [← hPO]
 have HPO:=hide hPO
 clear hPO
 obtain ⟨W,hW⟩ : ∃ W,W = w.alloc (.cells #[.int .i64 0,.string ⟨#[]⟩,.int .i64 0,.int .i64 0] 105):=⟨_,rfl⟩
 have HP0 : Hid (Below w.heap.size w W):=hW ▸ (Below.refl _ _).alloc (Nat.le_refl _) _
 have HZ : Hid (BlkAt W w.heap.size 105 #[.int .i64 0,.string ⟨#[]⟩,.int .i64 0,.int .i64 0]):=hW ▸ blk_box _ _ _
 have HWW:=hide hW
 clear hW
 have d40 : decide (40 < (j : Int) - (i : Int)) = false:=by simp; omega
 have z0:=(uh HZ).cell (i:=0) (v:=.int .i64 0) rfl
 have z1:=(uh HZ).cell (i:=1) (v:=.string ⟨#[]⟩) rfl
 have z2:=(uh HZ).cell (i:=2) (v:=.int .i64 0) rfl
 have z3:=(uh HZ).cell (i:=3) (v:=.int .i64 0) rfl
 have g0:=(uh HZ).free 0
 have g1:=(uh HZ).free 1
 have g2:=(uh HZ).free 2
 have g3:=(uh HZ).free 3
 have lz:=(uh HZ).lt
 go_enter Tryz.func68,Tryz.ntmps68
 go_wp2
 rw [← uh HWW]
 go_loopg [5] (j - i) (fun g x wr => ∃ (k : Nat),k ≤ j ∧ i ≤ k ∧ g = j - k ∧ x = .int .i64 k ∧ wr = W)
 case atStart => exact ⟨i,by omega,Nat.le_refl _,rfl,rfl,rfl⟩
 case round =>
  obtain ⟨k,hk,hk1,hg,rfl,hwr⟩:=hrel
  rw [hwr]
  clear hwr
  have HG:=hide hg
  clear hg
  by_cases hlt : k < j
  ·have hlt2 : k < s.size:=by omega
   have hbd:=u8_bd s[k]
   have hwd : wordB (s[k].toNat : Int) = true:=by rw [← byt_lt hlt2]; exact uh HW k hk1 hlt
   go_wp2_with (go_at_call 85; refine (isWordByte_ok _ _ (by omega) (by omega)).mono ?_; rintro e w' ⟨rfl,rfl⟩; rw [hwd])
   go_roundg (j - (k + 1))
   case measure => have:=uh HG; omega
   case rel => exact ⟨k + 1,by omega,by omega,rfl,by go_num,rfl⟩
  ·have e : k = j:=by omega
   subst e
   clear HG hlt hk1 hk
   have fin : ∀ kd : Int,(if kwB (s.extract i k) = true then (3 : Int) else 1) = kd → ∀ X,X = ((((W.setCell ⟨w.heap.size,0,none⟩ (.int .i64 kd)).setCell ⟨w.heap.size,1,none⟩ (.string (s.extract i k))).setCell ⟨w.heap.size,2,none⟩ (.int .i64 0)).setCell ⟨w.heap.size,3,none⟩ (.int .i64 i)) → BlkAt X w.heap.size 105 #[.int .i64 kd,.string (s.extract i k),.int .i64 0,.int .i64 i] ∧ PO (.returned (tokV kd (s.extract i k) 0 i)) X:=by
    rintro kd rfl X rfl
    have hB:=blk_set4 (x0:=.int .i64 (if kwB (s.extract i k) = true then 3 else 1)) (x1:=.string (s.extract i k)) (x2:=.int .i64 0) (x3:=.int .i64 i) (uh HZ) (uh HP0) (Nat.le_refl _)
    exact ⟨hB.1,by rw [uh HPO]; exact ⟨rfl,hB.2⟩⟩
   have HF:=hide fin
   clear fin
   have hst : k < s.size → wordB (byt s k) = false:=fun _ => uh HS
   cases hkw : kwB (s.extract i k)
   ·obtain ⟨hF1,hF2⟩:=uh HF 1 (by rw [hkw]; rfl) _ rfl
    have c0:=hF1.cell (i:=0) (v:=.int .i64 1) rfl
    have c1:=hF1.cell (i:=1) (v:=.string (s.extract i k)) rfl
    have c2:=hF1.cell (i:=2) (v:=.int .i64 0) rfl
    have c3:=hF1.cell (i:=3) (v:=.int .i64 i) rfl
    have HF2:=hide hF2
    clear hF1 hF2 HF
    have hKW:=isKeyword_ok (s.extract i k) W
    rw [hkw] at hKW
    have HKW:=hide hKW
    clear hKW hkw
    by_cases hlt2 : k < s.size
    ·have hbd:=u8_bd s[k]
     have hwd : wordB (s[k].toNat : Int) = false:=by rw [← byt_lt hlt2]; exact hst hlt2
     clear hst
     go_wp2_with (first | (go_at_call 85; refine (isWordByte_ok _ _ (by omega) (by omega)).mono ?_; rintro e w' ⟨rfl,rfl⟩; rw [hwd]) | (go_at_call 83; refine (uh HKW).mono ?_; rintro e w' ⟨rfl,rfl⟩))
     exact bodyPost_ret (v:=tokV 1 (s.extract i k) 0 i) (by simp [results,Tryz.results68,go_sem,c0,c1,c2,c3,tokV]) rfl (uh HF2)
    ·clear hst
     go_wp2_with (first | (go_at_call 83; refine (uh HKW).mono ?_; rintro e w' ⟨rfl,rfl⟩))
     exact bodyPost_ret (v:=tokV 1 (s.extract i k) 0 i) (by simp [results,Tryz.results68,go_sem,c0,c1,c2,c3,tokV]) rfl (uh HF2)
   ·obtain ⟨hF1,hF2⟩:=uh HF 3 (by rw [hkw]; rfl) _ rfl
    have c0:=hF1.cell (i:=0) (v:=.int .i64 3) rfl
    have c1:=hF1.cell (i:=1) (v:=.string (s.extract i k)) rfl
    have c2:=hF1.cell (i:=2) (v:=.int .i64 0) rfl
    have c3:=hF1.cell (i:=3) (v:=.int .i64 i) rfl
    have HF2:=hide hF2
    clear hF1 hF2 HF
    have hKW:=isKeyword_ok (s.extract i k) W
    rw [hkw] at hKW
    have HKW:=hide hKW
    clear hKW hkw
    by_cases hlt2 : k < s.size
    ·have hbd:=u8_bd s[k]
     have hwd : wordB (s[k].toNat : Int) = false:=by rw [← byt_lt hlt2]; exact hst hlt2
     clear hst
     go_wp2_with (first | (go_at_call 85; refine (isWordByte_ok _ _ (by omega) (by omega)).mono ?_; rintro e w' ⟨rfl,rfl⟩; rw [hwd]) | (go_at_call 83; refine (uh HKW).mono ?_; rintro e w' ⟨rfl,rfl⟩))
     exact bodyPost_ret (v:=tokV 3 (s.extract i k) 0 i) (by simp [results,Tryz.results68,go_sem,c0,c1,c2,c3,tokV]) rfl (uh HF2)
    ·clear hst
     go_wp2_with (first | (go_at_call 83; refine (uh HKW).mono ?_; rintro e w' ⟨rfl,rfl⟩))
     exact bodyPost_ret (v:=tokV 3 (s.extract i k) 0 i) (by simp [results,Tryz.results68,go_sem,c0,c1,c2,c3,tokV]) rfl (uh HF2)
end Go.Proofs.YtajabbnlbopcbaaGreatDoor
