import Derived.Test.YtajabbnlbopcbaaGreatDoorEvery
import Derived.Lib.ItoaNum
import Derived.Lib.Join
namespace Go.Proofs.YtajabbnlbopcbaaGreatDoor
open Go.RowKit
set_option linter.unusedSimpArgs false
set_option linter.unusedVariables false
def bys (s : ByteArray) : List Int:=s.data.toList.map (fun b => (b.toNat : Int))
theorem bys_length (s : ByteArray) : (bys s).length = s.size:=by simp [bys]
theorem bys_get (s : ByteArray) (i : Nat) (h : i < (bys s).length) : (bys s)[i] = byt s i:=by
 have h' : i < s.size:=by rw [bys_length] at h; exact h
 rw [byt_lt h']
 simp [bys]
 rfl
theorem bytes_at (w : World) (e : TypeId) (s : ByteArray) (cap : Nat) (hs : Len s.size) (hcap : s.size ≤ cap) :
  SlAt 1 1 RByte 0 (Lib.bytesWorld w e s) (.slice (some ⟨w.heap.size,0,none⟩) s.size cap) (bys s):=by
 have hl:=bys_length s
 refine ⟨_,cap,by rw [hl],⟨by rw [hl,Nat.mul_one]; exact hs,by rw [hl]; exact hcap⟩,by rw [hl]; exact hs,fun i hi => ?_⟩
 have hi' : i < s.size:=by omega
 refine ⟨_,0,[.int .u8 (bys s)[i]],rfl,Nat.zero_le _,by rw [Lib.bytesWorld_size]; omega,rfl,fun j hj => ?_,rfl,?_,?_⟩
 ·have hj0 : j = 0:=by simpa using hj
  subst hj0
  simp only [Nat.zero_add,Nat.mul_one,Nat.add_zero,List.getElem_cons_zero]
  rw [Lib.bytesWorld_cell w e s i hi',bys_get,byt_lt hi']
  simp [List.getD,hi']
  rfl
 ·rw [bys_get,byt_lt hi']; exact (u8_bd _).1
 ·rw [bys_get,byt_lt hi']; exact (u8_bd _).2
theorem bytes_below (w : World) (e : TypeId) (s : ByteArray) : Below w.heap.size w (Lib.bytesWorld w e s):=by
 refine ⟨?_,?_,?_,by rw [Lib.bytesWorld_size]; omega,fun k hk => Lib.bytesWorld_at_old w e s k hk⟩
 all_goals simp [Lib.bytesWorld,World.freeze,World.alloc,World.drew,-World.alloc_eq,-World.drew_eq]
theorem all_bys (p : Int → Bool) (s : ByteArray) : (bys s).all p = allB (fun i => p (byt s i)) 0 s.size:=by
 rw [Bool.eq_iff_iff,List.all_eq_true]
 constructor
 ·intro h
  refine allB_true fun j hj _ => ?_
  have hj' : j < (bys s).length:=by rw [bys_length]; exact hj
  rw [← bys_get s j hj']
  exact h _ (List.getElem_mem hj')
 ·intro h x hx
  obtain ⟨j,hj,rfl⟩:=List.getElem_of_mem hx
  rw [bys_get]
  have h':=h
  unfold allB at h'
  rw [decide_eq_true_iff] at h'
  exact h' j (by rw [bys_length] at hj; exact hj) (Nat.zero_le _)
theorem hWord (x : Int) (cs : List Value) (w : World) (h : RByte 0 w cs x) : Calls Tryz.prog 85 #[valOfByte cs] w (Ans (.bool (wordB x)) w):=by
 obtain ⟨rfl,h0,h1⟩:=h
 refine (isWordByte_ok x w h0 h1).mono ?_
 rintro e w' ⟨rfl,rfl⟩
 exact ⟨rfl,Below.refl _ _⟩
theorem hDigit (x : Int) (cs : List Value) (w : World) (h : RByte 0 w cs x) : Calls Tryz.prog 69 #[valOfByte cs] w (Ans (.bool (digB x)) w):=by
 obtain ⟨rfl,h0,h1⟩:=h
 refine (isDigit_ok x w h0 h1).mono ?_
 rintro e w' ⟨rfl,rfl⟩
 exact ⟨rfl,Below.refl _ _⟩
theorem empty_yes (s : ByteArray) (h : s.size = 0) : (s.toList == []) = true:=by
 have e : s.data.toList = []:=List.eq_nil_of_length_eq_zero (by rw [Array.length_toList]; exact h)
 rw [ByteArray.toList_eq,e]
 rfl
theorem empty_no (s : ByteArray) (h : s.size ≠ 0) : (s.toList == []) = false:=by
 rw [beq_eq_false_iff_ne,ByteArray.toList_eq]
 intro hh
 have:=congrArg List.length hh
 rw [Array.length_toList] at this
 exact h this
set_option maxHeartbeats 400000 in
theorem isName_ok (s : ByteArray) (w : World) (hs : Len s.size) :
  Calls Tryz.prog 52 #[.string s] w (Ans (.bool (plainB s)) w):=by
 have HS:=hide hs
 unfold Len at hs
 by_cases h1 : s.size < 1
 ·have e : plainB s = false:=by simp [plainB]; omega
  rw [e]
  have d1 : (s.toList == []) = true:=empty_yes s (by omega)
  clear e
  go_enter Tryz.func52,Tryz.ntmps52
  go_wp2
  go_ret
  exact ⟨rfl,Below.refl _ _⟩
 have d1 : (s.toList == []) = false:=empty_no s (by omega)
 by_cases h2 : 40 < s.size
 ·have e : plainB s = false:=by simp [plainB]; omega
  rw [e]
  have d2 : decide (40 < (s.size : Int)) = true:=by simp; omega
  clear e
  go_enter Tryz.func52,Tryz.ntmps52
  go_wp2
  go_ret
  exact ⟨rfl,Below.refl _ _⟩
 have d2 : decide (40 < (s.size : Int)) = false:=by simp; omega
 have g0 : 0 < s.size:=by omega
 have b0:=byt_lt g0
 have hb0:=u8_bd s[0]
 cases hl : letB (s[0].toNat : Int)
 ·have e : plainB s = false:=by simp [plainB,b0,hl]
  rw [e]
  clear e b0
  go_enter Tryz.func52,Tryz.ntmps52
  go_wp2_with (go_at_call 67; refine (isLetter_ok _ _ (by omega) (by omega)).mono ?_; rintro e w' ⟨rfl,rfl⟩; rw [hl])
  go_ret
  exact ⟨rfl,Below.refl _ _⟩
 cases hkw : kwB s
 ·have e : plainB s = (bys s).all wordB:=by
   rw [all_bys]
   have : 1 ≤ s.size ∧ s.size ≤ 40:=by omega
   simp [plainB,b0,hl,hkw,this]
  rw [e]
  clear e b0
  have hcv:=fun w => Lib.run_convert_string_bytes (P:=Tryz.prog) w 9 22 5 s Tryz.underlying9 Tryz.underlying22 Tryz.underlying5
  go_enter Tryz.func52,Tryz.ntmps52
  go_wp2_with fail
  refine (isLetter_ok _ _ (by omega) (by omega)).mono ?_
  rintro e w' ⟨rfl,rfl⟩
  rw [hl]
  go_wp2_with fail
  refine (isKeyword_ok _ _).mono ?_
  rintro e w' ⟨rfl,rfl⟩
  rw [hkw]
  go_wp2_with fail
  refine (everyByte_isWordByte_ok wordB hWord (bys s) _ _ (bytes_at _ _ s _ (uh HS) (grownCap_ge _ _ _ _))).mono ?_
  rintro e w1 ⟨rfl,hb⟩
  go_wp2
  go_ret
  exact ⟨rfl,(bytes_below _ _ _).trans (hb.mono (bytes_below _ _ _).size)⟩
 ·have e : plainB s = false:=by simp [plainB,hkw]
  rw [e]
  clear e b0
  go_enter Tryz.func52,Tryz.ntmps52
  go_wp2_with fail
  refine (isLetter_ok _ _ (by omega) (by omega)).mono ?_
  rintro e w' ⟨rfl,rfl⟩
  rw [hl]
  go_wp2_with fail
  refine (isKeyword_ok _ _).mono ?_
  rintro e w' ⟨rfl,rfl⟩
  rw [hkw]
  go_wp2
  go_ret
  exact ⟨rfl,Below.refl _ _⟩
theorem u8_int (a b : UInt8) : ((a.toNat : Int) == (b.toNat : Int)) = (a == b):=by
 rw [Bool.eq_iff_iff,beq_iff_eq,beq_iff_eq,Int.ofNat_inj,UInt8.toNat_inj]
theorem first_is (s : ByteArray) (h : 1 ≤ s.size) : ((s.extract 0 1).toList == [36]) = (byt s 0 == 36):=by
 rw [byt_lt (show 0 < s.size from h),ByteArray.toList_eq]
 have e : (s.extract 0 1).data.toList = [s[0]'h]:=by
  match s,h with
  | ⟨⟨a :: t⟩⟩,_ => simp; rfl
 rw [e]
 have:=u8_int (s[0]'h) 36
 rw [show ((36 : UInt8).toNat : Int) = 36 from rfl] at this
 rw [this,Bool.eq_iff_iff,beq_iff_eq,beq_iff_eq,List.cons.injEq]
 simp
def tl (s : ByteArray) : ByteArray:=s.extract 1 s.size
theorem tl_size (s : ByteArray) : (tl s).size = s.size - 1:=by simp [tl]
theorem tl_byt (s : ByteArray) (i : Nat) (h : i < s.size - 1) : byt (tl s) i = byt s (i + 1):=by
 have h1 : i < (tl s).size:=by rw [tl_size]; exact h
 rw [byt_lt h1,byt_lt (show i + 1 < s.size by omega)]
 congr 2
 simp only [tl,ByteArray.getElem_eq_getElem_data,ByteArray.data_extract,Array.getElem_extract,Nat.add_comm]
def startB (s : ByteArray) : Bool:=decide (1 ≤ s.size) && (byt s 0 == 36)
set_option maxHeartbeats 400000 in
theorem hasPrefix_ok (s : ByteArray) (w : World) (hs : Len s.size) :
  Calls Tryz.prog 66 #[.string s,.string ⟨#[36]⟩] w fun e w' => e = .returned (.bool (startB s)) ∧ w' = w:=by
 unfold Len at hs
 by_cases h1 : 1 ≤ s.size
 ·have e : startB s = ((s.extract 0 1).toList == [36]):=by rw [first_is s h1]; simp [startB,h1]
  rw [e]
  clear e
  go_enter Tryz.func66,Tryz.ntmps66
  go_wp2
  go_ret
  exact ⟨rfl,rfl⟩
 ·have e : startB s = false:=by simp [startB,h1]
  rw [e]
  clear e
  go_enter Tryz.func66,Tryz.ntmps66
  go_wp2
  go_ret
  exact ⟨rfl,rfl⟩
set_option maxHeartbeats 400000 in
theorem cutLite_ok (s : ByteArray) (w : World) (hs : Len s.size) :
  Calls Tryz.prog 100 #[.string s,.string ⟨#[36]⟩] w fun e w' => e = .returned (.tuple #[.string (if startB s = true then tl s else s),.bool (startB s)]) ∧ w' = w:=by
 have HS:=hide hs
 unfold Len at hs
 cases hst : startB s
 ·rw [if_neg (by decide)]
  go_enter Tryz.func100,Tryz.ntmps100
  go_wp2_with (go_at_call 66; refine (hasPrefix_ok s _ (uh HS)).mono ?_; rintro e w' ⟨rfl,rfl⟩; rw [hst])
  go_ret2
  exact ⟨rfl,rfl⟩
 ·rw [if_pos rfl]
  have h1 : 1 ≤ s.size:=by
   simp [startB] at hst
   have:=hst.1
   omega
  have h1' : (1 : Int) ≤ (s.size : Int):=by omega
  have HT : Hid (tl s = s.extract 1 s.size):=rfl
  go_enter Tryz.func100,Tryz.ntmps100
  go_wp2_with (go_at_call 66; refine (hasPrefix_ok s _ (uh HS)).mono ?_; rintro e w' ⟨rfl,rfl⟩; rw [hst])
  go_ret2
  exact ⟨rfl,rfl⟩
set_option maxHeartbeats 400000 in
theorem cutPrefix_ok (s : ByteArray) (w : World) (hs : Len s.size) :
  Calls Tryz.prog 86 #[.string s,.string ⟨#[36]⟩] w fun e w' => e = .returned (.tuple #[.string (if startB s = true then tl s else s),.bool (startB s)]) ∧ w' = w:=by
 cases hst : startB s
 ·rw [if_neg (by decide)]
  go_enter Tryz.func86,Tryz.ntmps86
  go_wp2_with (go_at_call 100; refine (cutLite_ok s _ hs).mono ?_; rintro e w' ⟨rfl,rfl⟩; rw [hst,if_neg (by decide)])
  go_ret2
  exact ⟨rfl,rfl⟩
 ·rw [if_pos rfl]
  go_enter Tryz.func86,Tryz.ntmps86
  go_wp2_with (go_at_call 100; refine (cutLite_ok s _ hs).mono ?_; rintro e w' ⟨rfl,rfl⟩; rw [hst,if_pos rfl])
  go_ret2
  exact ⟨rfl,rfl⟩
theorem fresh_alt (s : ByteArray) (h : startB s = true) : freshB s = (decide (1 ≤ (tl s).size ∧ (tl s).size ≤ 9) && !decide (byt (tl s) 0 = 48) && (bys (tl s)).all digB):=by
 have hs1 : 1 ≤ s.size:=by simp [startB] at h; have:=h.1; omega
 have hb0 : byt s 0 = 36:=by simp [startB] at h; exact h.2
 rw [all_bys,tl_size]
 by_cases h2 : 2 ≤ s.size
 ·have e1 : byt (tl s) 0 = byt s 1:=tl_byt s 0 (by omega)
  have e2 : allB (fun i => digB (byt (tl s) i)) 0 (s.size - 1) = allB (fun i => digB (byt s i)) 1 s.size:=by
   unfold allB
   rw [decide_eq_decide]
   constructor
   ·intro hh j hj h1j
    have:=hh (j - 1) (by omega) (Nat.zero_le _)
    simp only at this
    rw [tl_byt s (j - 1) (by omega),show j - 1 + 1 = j from by omega] at this
    exact this
   ·intro hh j hj _
    simp only
    rw [tl_byt s j hj]
    exact hh (j + 1) (by omega) (by omega)
  have e3 : decide (2 ≤ s.size ∧ s.size ≤ 10) = decide (1 ≤ s.size - 1 ∧ s.size - 1 ≤ 9):=by rw [decide_eq_decide]; omega
  rw [e1,e2]
  simp only [freshB,hb0,e3]
  simp
 ·have e3 : decide (2 ≤ s.size ∧ s.size ≤ 10) = false:=by rw [decide_eq_false_iff_not]; omega
  have e4 : decide (1 ≤ s.size - 1 ∧ s.size - 1 ≤ 9) = false:=by rw [decide_eq_false_iff_not]; omega
  simp only [freshB,e3,e4,Bool.false_and]
theorem fresh_not (s : ByteArray) (h : startB s = false) : freshB s = false:=by
 unfold startB at h
 unfold freshB
 by_cases h1 : 1 ≤ s.size
 ·simp only [h1,decide_true,Bool.true_and] at h
  have : ¬ byt s 0 = 36:=by intro hh; rw [hh] at h; exact absurd h (by decide)
  simp [this]
 ·have : decide (2 ≤ s.size ∧ s.size ≤ 10) = false:=by rw [decide_eq_false_iff_not]; omega
  rw [this]
  simp
set_option maxHeartbeats 400000 in
theorem isFresh_ok (s : ByteArray) (w : World) (hs : Len s.size) :
  Calls Tryz.prog 53 #[.string s] w (Ans (.bool (freshB s)) w):=by
 cases hst : startB s
 ·rw [fresh_not s hst]
  go_enter Tryz.func53,Tryz.ntmps53
  go_wp2_with (go_at_call 86; refine (cutPrefix_ok s _ hs).mono ?_; rintro e w' ⟨rfl,rfl⟩; rw [hst,if_neg (by decide)])
  go_ret
  exact ⟨rfl,Below.refl _ _⟩
 rw [fresh_alt s hst]
 have hls : Len (tl s).size:=by unfold Len at *; rw [tl_size]; omega
 generalize htl : tl s = d at *
 have HT:=hide htl
 have HL:=hide hls
 clear htl
 unfold Len at hls
 by_cases h1 : d.size < 1
 ·have e : (decide (1 ≤ d.size ∧ d.size ≤ 9) && !decide (byt d 0 = 48) && (bys d).all digB) = false:=by
   have : decide (1 ≤ d.size ∧ d.size ≤ 9) = false:=by rw [decide_eq_false_iff_not]; omega
   simp only [this,Bool.false_and]
  rw [e]
  have d1 : decide ((d.size : Int) < 1) = true:=by simp; omega
  clear e
  go_enter Tryz.func53,Tryz.ntmps53
  go_wp2_with (go_at_call 86; refine (cutPrefix_ok s _ hs).mono ?_; rintro e w' ⟨rfl,rfl⟩; rw [hst,if_pos rfl,uh HT])
  go_ret
  exact ⟨rfl,Below.refl _ _⟩
 have d1 : decide ((d.size : Int) < 1) = false:=by simp; omega
 by_cases h2 : 9 < d.size
 ·have e : (decide (1 ≤ d.size ∧ d.size ≤ 9) && !decide (byt d 0 = 48) && (bys d).all digB) = false:=by
   have : decide (1 ≤ d.size ∧ d.size ≤ 9) = false:=by rw [decide_eq_false_iff_not]; omega
   simp only [this,Bool.false_and]
  rw [e]
  have d2 : decide (9 < (d.size : Int)) = true:=by simp; omega
  clear e
  go_enter Tryz.func53,Tryz.ntmps53
  go_wp2_with (go_at_call 86; refine (cutPrefix_ok s _ hs).mono ?_; rintro e w' ⟨rfl,rfl⟩; rw [hst,if_pos rfl,uh HT])
  go_ret
  exact ⟨rfl,Below.refl _ _⟩
 have d2 : decide (9 < (d.size : Int)) = false:=by simp; omega
 have g0 : 0 < d.size:=by omega
 have b0:=byt_lt g0
 by_cases h3 : (d[0].toNat : Int) = 48
 ·have e : (decide (1 ≤ d.size ∧ d.size ≤ 9) && !decide (byt d 0 = 48) && (bys d).all digB) = false:=by simp [b0,h3]
  rw [e]
  have d3 : ((d[0].toNat : Int) == 48) = true:=by rw [beq_iff_eq]; exact h3
  clear e b0 h3
  go_enter Tryz.func53,Tryz.ntmps53
  go_wp2_with (go_at_call 86; refine (cutPrefix_ok s _ hs).mono ?_; rintro e w' ⟨rfl,rfl⟩; rw [hst,if_pos rfl,uh HT])
  go_ret
  exact ⟨rfl,Below.refl _ _⟩
 have d3 : ((d[0].toNat : Int) == 48) = false:=by rw [beq_eq_false_iff_ne]; exact h3
 have e : (decide (1 ≤ d.size ∧ d.size ≤ 9) && !decide (byt d 0 = 48) && (bys d).all digB) = (bys d).all digB:=by
  have : 1 ≤ d.size ∧ d.size ≤ 9:=by omega
  simp [b0,h3,this]
 rw [e]
 clear e b0 h3
 have hcv:=fun w => Lib.run_convert_string_bytes (P:=Tryz.prog) w 9 22 5 d Tryz.underlying9 Tryz.underlying22 Tryz.underlying5
 go_enter Tryz.func53,Tryz.ntmps53
 go_wp2_with fail
 refine (cutPrefix_ok s _ hs).mono ?_
 rintro e w' ⟨rfl,rfl⟩
 rw [hst,if_pos rfl,uh HT]
 go_wp2_with fail
 refine (everyByte_isDigit_ok digB hDigit (bys d) _ _ (bytes_at _ _ d _ (uh HL) (grownCap_ge _ _ _ _))).mono ?_
 rintro e w1 ⟨rfl,hb⟩
 go_wp2
 go_ret
 exact ⟨rfl,(bytes_below _ _ _).trans (hb.mono (bytes_below _ _ _).size)⟩
set_option maxHeartbeats 400000 in
theorem nameOK_ok (s : ByteArray) (w : World) (hs : Len s.size) :
  Calls Tryz.prog 33 #[.string s] w (Ans (.bool (nameB s)) w):=by
 cases hp : plainB s
 ·have e : nameB s = freshB s:=by simp [nameB,hp]
  rw [e]
  clear e
  go_enter Tryz.func33,Tryz.ntmps33
  go_wp2_with fail
  refine (isName_ok s _ hs).mono ?_
  rintro e w1 ⟨rfl,hb⟩
  rw [hp]
  go_wp2_with fail
  refine (isFresh_ok s _ hs).mono ?_
  rintro e w2 ⟨rfl,hb2⟩
  go_wp2
  go_ret
  exact ⟨rfl,hb.trans (hb2.mono hb.size)⟩
 ·have e : nameB s = true:=by simp [nameB,hp]
  rw [e]
  clear e
  go_enter Tryz.func33,Tryz.ntmps33
  go_wp2_with fail
  refine (isName_ok s _ hs).mono ?_
  rintro e w1 ⟨rfl,hb⟩
  rw [hp]
  go_wp2
  go_ret
  exact ⟨rfl,hb⟩
def ocI (op : Int) : Int:=if op = 1 ∨ op = 2 ∨ op = 3 ∨ op = 25 then 0 else if op = 4 ∨ op = 5 ∨ op = 21 ∨ op = 22 ∨ op = 23 then 1 else if op = 20 then 3 else 2
def loI (op : Int) : Int:=if op = 21 then -2147483647 else 0
def hiI (op : Int) : Int:=if op = 1 ∨ op = 21 then 2147483647 else if op = 2 ∨ op = 22 ∨ op = 23 then 1 else 0
theorem ret_int {a b : Int} (h : a = b) : Ending.returned (.int .i64 a) = .returned (.int .i64 b):=by rw [h]
theorem ret_int2 {a b c d : Int} (h : a = b) (g : c = d) : Ending.returned (.tuple #[.int .i64 a,.int .i64 c]) = .returned (.tuple #[.int .i64 b,.int .i64 d]):=by rw [h,g]
theorem ocI_bd (op : Int) : 0 ≤ ocI op ∧ ocI op ≤ 3:=by unfold ocI; split <;> (try split) <;> (try split) <;> omega
set_option maxHeartbeats 1000000 in
theorem operandCount_ok (op : Int) (w : World) :
  Calls Tryz.prog 92 #[.int .i64 op] w fun e w' => e = .returned (.int .i64 (ocI op)) ∧ w' = w:=by
 go_enter Tryz.func92,Tryz.ntmps92
 go_wp2
 all_goals
  go_ret
  refine ⟨ret_int ?_,rfl⟩
  simp_all [ocI]
  try omega
set_option maxHeartbeats 1000000 in
theorem valueRange_ok (op : Int) (w : World) :
  Calls Tryz.prog 101 #[.int .i64 op] w fun e w' => e = .returned (.tuple #[.int .i64 (loI op),.int .i64 (hiI op)]) ∧ w' = w:=by
 go_enter Tryz.func101,Tryz.ntmps101
 go_wp2
 all_goals
  go_ret2
  refine ⟨ret_int2 ?_ ?_,rfl⟩
  all_goals
   simp_all [loI,hiI]
   try omega
def nmB (t : DItem) : Bool:=if t.op = 3 ∨ t.op = 23 ∨ t.op = 24 then nameB t.name else decide (t.name.size = 0)
def rgB (t : DItem) : Bool:=decide (loI t.op ≤ t.val ∧ t.val ≤ hiI t.op)
def itB (t : DItem) : Bool:=decide (1 ≤ t.op ∧ t.op ≤ 24) && rgB t && nmB t
theorem isEmpty_yes (s : ByteArray) (h : s.size = 0) : s.toList.isEmpty = true:=by
 have e : s.data.toList = []:=List.eq_nil_of_length_eq_zero (by rw [Array.length_toList]; exact h)
 rw [ByteArray.toList_eq,e]
 rfl
theorem isEmpty_no (s : ByteArray) (h : s.size ≠ 0) : s.toList.isEmpty = false:=by
 cases hh : s.toList.isEmpty with
 | false => rfl
 | true =>
  rw [List.isEmpty_iff,ByteArray.toList_eq] at hh
  have:=congrArg List.length hh
  rw [Array.length_toList] at this
  exact absurd this h
set_option maxHeartbeats 1000000 in
theorem itemNameOK_ok (t : DItem) (w : World) (hs : Len t.name.size) :
  Calls Tryz.prog 102 #[.agg #[.int .i64 t.op,.int .i64 t.val,.string t.name]] w (Ans (.bool (nmB t)) w):=by
 obtain ⟨op,val,s⟩:=t
 simp only at hs
 by_cases hn : op = 3 ∨ op = 23 ∨ op = 24
 ·have e : nmB ⟨op,val,s⟩ = nameB s:=by simp only [nmB]; rw [if_pos hn]
  rw [e]
  clear e
  rcases hn with rfl | rfl | rfl
  all_goals
   go_enter Tryz.func102,Tryz.ntmps102
   go_wp2_with fail
   refine (nameOK_ok s _ hs).mono ?_
   rintro e w1 ⟨rfl,hb⟩
   go_wp2
   go_ret
   exact ⟨rfl,((Below.refl _ _).alloc (Nat.le_refl _) _).trans (hb.mono (by simp))⟩
 ·have e : nmB ⟨op,val,s⟩ = s.toList.isEmpty:=by
   simp only [nmB]
   rw [if_neg hn]
   by_cases h0 : s.size = 0
   ·rw [isEmpty_yes s h0]; simpa using h0
   ·rw [isEmpty_no s h0]; simpa using h0
  rw [e]
  clear e
  have d1 : (op == 3) = false:=by rw [beq_eq_false_iff_ne]; omega
  have d2 : (op == 23) = false:=by rw [beq_eq_false_iff_ne]; omega
  have d3 : (op == 24) = false:=by rw [beq_eq_false_iff_ne]; omega
  clear hn
  go_enter Tryz.func102,Tryz.ntmps102
  go_wp2
  go_ret
  exact ⟨rfl,(Below.refl _ _).alloc (Nat.le_refl _) _⟩
set_option maxHeartbeats 1000000 in
theorem itemOK_ok (t : DItem) (w : World) (hs : Len t.name.size) :
  Calls Tryz.prog 88 #[.agg #[.int .i64 t.op,.int .i64 t.val,.string t.name]] w (Ans (.bool (itB t)) w):=by
 have HI:=hide (fun w => itemNameOK_ok t w hs)
 have HE : Hid (itB t = (decide (1 ≤ t.op ∧ t.op ≤ 24) && rgB t && nmB t)):=rfl
 have HR : Hid (rgB t = decide (loI t.op ≤ t.val ∧ t.val ≤ hiI t.op)):=rfl
 generalize itB t = res at *
 generalize nmB t = nm at *
 generalize rgB t = rg at *
 obtain ⟨op,val,s⟩:=t
 simp only at hs
 by_cases h1 : op < 1
 ·have d1 : decide (op < 1) = true:=by simpa using h1
  have e : res = false:=by rw [uh HE]; simp; intro; omega
  subst e
  go_enter Tryz.func88,Tryz.ntmps88
  go_wp2
  go_ret
  exact ⟨rfl,(Below.refl _ _).alloc (Nat.le_refl _) _⟩
 have d1 : decide (op < 1) = false:=by simpa using h1
 by_cases h2 : 24 < op
 ·have d2 : decide (24 < op) = true:=by simpa using h2
  have e : res = false:=by rw [uh HE]; simp; intro; omega
  subst e
  go_enter Tryz.func88,Tryz.ntmps88
  go_wp2
  go_ret
  exact ⟨rfl,(Below.refl _ _).alloc (Nat.le_refl _) _⟩
 have d2 : decide (24 < op) = false:=by simpa using h2
 have e : res = (rg && nm):=by
  have hh : decide (1 ≤ op ∧ op ≤ 24) = true:=by simp; omega
  rw [uh HE]
  simp only [hh,Bool.true_and]
 subst e
 have hr:=uh HR
 simp only at hr
 have HV:=hide (fun w => valueRange_ok op w)
 generalize loI op = lo at *
 generalize hiI op = hi at *
 by_cases h3 : lo ≤ val ∧ val ≤ hi
 ·have e : rg = true:=by rw [hr]; simpa using h3
  subst e
  obtain ⟨h3,h4⟩:=h3
  have d3 : decide (lo ≤ val) = true:=by simpa using h3
  have d4 : decide (val ≤ hi) = true:=by simpa using h4
  clear hr
  go_enter Tryz.func88,Tryz.ntmps88
  go_wp2_with fail
  refine (uh HV _).mono ?_
  rintro e w1 ⟨rfl,rfl⟩
  go_wp2_with fail
  refine (uh HI _).mono ?_
  rintro e w2 ⟨rfl,hb⟩
  go_wp2
  go_ret
  exact ⟨ret_bool (by simp),((Below.refl _ _).alloc (Nat.le_refl _) _).trans (hb.mono (by simp))⟩
 ·have e : rg = false:=by rw [hr]; simpa using h3
  subst e
  clear hr
  by_cases h4 : lo ≤ val
  ·have h5 : ¬ val ≤ hi:=fun h => h3 ⟨h4,h⟩
   have d3 : decide (lo ≤ val) = true:=by simpa using h4
   have d4 : decide (val ≤ hi) = false:=by simpa using h5
   clear h3
   go_enter Tryz.func88,Tryz.ntmps88
   go_wp2_with fail
   refine (uh HV _).mono ?_
   rintro e w1 ⟨rfl,rfl⟩
   go_wp2
   go_ret
   exact ⟨ret_bool (by simp),(Below.refl _ _).alloc (Nat.le_refl _) _⟩
  ·have d3 : decide (lo ≤ val) = false:=by simpa using h4
   clear h3
   go_enter Tryz.func88,Tryz.ntmps88
   go_wp2_with fail
   refine (uh HV _).mono ?_
   rintro e w1 ⟨rfl,rfl⟩
   go_wp2
   go_ret
   exact ⟨ret_bool (by simp),(Below.refl _ _).alloc (Nat.le_refl _) _⟩
def wk : List DItem → Int → Bool
 | [],r => r == 1
 | t :: ts,r => if r < ocI t.op then false else wk ts (r + (1 - ocI t.op))
set_option maxHeartbeats 400000 in
theorem worksOut_ok (xs : List DItem) (v : Value) (w : World) (hv : SlAt 3 32 RItem 0 w v xs) :
  Calls Tryz.prog 89 #[v] w (Ans (.bool (wk xs 0)) w):=by
 obtain ⟨a,cap,rfl,_,hn,hx⟩:=hv
 unfold Len at hn
 have HX:=hide hx
 clear hx
 go_enter Tryz.func89,Tryz.ntmps89
 go_wp2
 go_loopg [3,9] xs.length (fun g l i wr => ∃ (k : Nat) (r : Int),k ≤ xs.length ∧ g = xs.length - k ∧ i = .int .i64 k ∧ l = .int .i64 r ∧ 0 ≤ r ∧ r ≤ k ∧ wk xs 0 = wk (xs.drop k) r ∧ Below w.heap.size w wr)
 case atStart => exact ⟨0,0,Nat.zero_le _,by omega,rfl,rfl,by omega,by omega,by simp,Below.refl _ _⟩
 case round =>
  obtain ⟨k,r,hk,hg,rfl,rfl,hr0,hr1,hwk,hbl⟩:=hrel
  have HG:=hide hg
  have HW:=hide hwk
  clear hg hwk
  by_cases hlt : k < xs.length
  ·obtain ⟨b,o,cs,rfl,_,hb,hcs,hc,hR⟩:=uh HX k hlt
   have hc : ∀ j (hj : j < cs.length),wr.cell? ⟨b,o + k * 3 + j,none⟩ = some cs[j]:=fun j hj => by rw [hbl.cell (p:=⟨b,_,none⟩) hb]; exact hc j hj
   obtain ⟨rfl,hsn,ho,hvl⟩:=hR
   have c0:=hc 0 (by simp)
   have c1:=hc 1 (by simp)
   have c2:=hc 2 (by simp)
   simp only [Nat.mul_one,Nat.add_zero,List.getElem_cons_zero,List.getElem_cons_succ] at c0 c1 c2
   have hd : xs.drop k = xs[k] :: xs.drop (k + 1):=List.drop_eq_getElem_cons hlt
   have hbd:=ocI_bd xs[k].op
   have HOC:=hide (fun w => operandCount_ok xs[k].op w)
   by_cases hneg : r < ocI xs[k].op
   ·have F : wk xs 0 = false:=by rw [uh HW,hd]; simp only [wk]; rw [if_pos hneg]
    have HF:=hide F
    clear F hd hc hcs ho hvl hsn
    generalize xs[k].op = op at *
    generalize ocI op = oc at *
    go_wp2_with fail
    refine (uh HOC _).mono ?_
    rintro e w1 ⟨rfl,rfl⟩
    go_wp2
    go_ret
    exact ⟨ret_bool (uh HF).symm,hbl.trans ((Below.refl _ _).alloc hbl.size _)⟩
   ·have F : wk xs 0 = wk (xs.drop (k + 1)) (r + (1 - ocI xs[k].op)):=by
     rw [uh HW,hd]
     simp only [wk]
     rw [if_neg hneg]
    have HF:=hide F
    clear F hd hc hcs ho hvl hsn
    generalize xs[k].op = op at *
    generalize ocI op = oc at *
    go_wp2_with fail
    refine (uh HOC _).mono ?_
    rintro e w1 ⟨rfl,rfl⟩
    go_wp2
    go_roundg (xs.length - (k + 1))
    case measure => have:=uh HG; omega
    case rel => exact ⟨k + 1,r + (1 - oc),by omega,rfl,by go_num,rfl,by omega,by omega,uh HF,hbl.trans ((Below.refl _ _).alloc hbl.size _)⟩
  ·have e : k = xs.length:=by omega
   have F : wk xs 0 = (r == 1):=by rw [uh HW,e,List.drop_length]; rfl
   have HF:=hide F
   clear F
   go_wp2
   go_ret
   exact ⟨ret_bool (uh HF).symm,hbl⟩
def cdB (code : List DItem) : Bool:=decide (code.length ≤ 3000) && code.all itB && wk code 0
theorem hItem (x : DItem) (cs : List Value) (w : World) (h : RItem 0 w cs x) : Calls Tryz.prog 88 #[valOfItem cs] w (Ans (.bool (itB x)) w):=by
 obtain ⟨rfl,h0,_,_⟩:=h
 exact itemOK_ok x w h0
set_option maxHeartbeats 400000 in
theorem codeOK_ok (xs : List DItem) (v : Value) (w : World) (hv : SlAt 3 32 RItem 0 w v xs) :
  Calls Tryz.prog 58 #[v] w (Ans (.bool (cdB xs)) w):=by
 have HV:=hide hv
 obtain ⟨a,cap,rfl,_,hn,hx⟩:=hv
 clear hx
 unfold Len at hn
 by_cases h1 : xs.length ≤ 3000
 ·have d1 : decide ((xs.length : Int) ≤ 3000) = true:=by simp; omega
  cases ha : xs.all itB
  ·have e : cdB xs = false:=by simp only [cdB,ha]; simp
   rw [e]
   clear e
   have HA:=hide ha
   clear ha
   go_enter Tryz.func58,Tryz.ntmps58
   go_wp2_with fail
   refine (everyItem_itemOK_ok itB hItem xs _ _ (uh HV)).mono ?_
   rintro e w1 ⟨rfl,hb⟩
   rw [uh HA]
   go_wp2
   go_ret
   exact ⟨rfl,hb⟩
  ·have e : cdB xs = wk xs 0:=by simp only [cdB,ha]; simp; omega
   rw [e]
   clear e
   have HA:=hide ha
   clear ha
   go_enter Tryz.func58,Tryz.ntmps58
   go_wp2_with fail
   refine (everyItem_itemOK_ok itB hItem xs _ _ (uh HV)).mono ?_
   rintro e w1 ⟨rfl,hb⟩
   rw [uh HA]
   go_wp2_with fail
   refine (worksOut_ok xs _ _ ((uh HV).stays RItem_kept hb)).mono ?_
   rintro e w2 ⟨rfl,hb2⟩
   go_wp2
   go_ret
   exact ⟨rfl,hb.trans (hb2.mono hb.size)⟩
 ·have d1 : decide ((xs.length : Int) ≤ 3000) = false:=by simp; omega
  have e : cdB xs = false:=by simp [cdB]; intro; omega
  rw [e]
  clear e
  go_enter Tryz.func58,Tryz.ntmps58
  go_wp2
  go_ret
  exact ⟨rfl,Below.refl _ _⟩
theorem it_iff (t : DItem) : itB t = true ↔ (1 ≤ t.op ∧ t.op ≤ 24) ∧ rgB t = true ∧ nmB t = true:=by
 simp [itB,and_assoc]
def condB (c : DCond) : Bool:=nameB c.name
def varB (v : DVar) : Bool:=nameB v.name && decide (v.type = 1 ∨ v.type = 2) && decide (v.clock.length ≤ 8) && v.clock.all condB
def portB (v : DVar) : Bool:=decide (v.clock.length = 0) && varB v
def eqB (e : DEq) : Bool:=decide (1 ≤ e.lhs.length ∧ e.lhs.length ≤ 500 ∧ e.args.length ≤ 500) && e.lhs.all nameB && (if e.call.size = 0 then decide (e.lhs.length = 1 ∧ e.args.length = 0) && cdB e.code else nameB e.call && decide (e.code.length = 0) && e.args.all cdB)
def nodeB (n : DNode) : Bool:=decide (1 ≤ n.outs.length ∧ n.ins.length + n.outs.length + n.vars.length ≤ 500 ∧ 1 ≤ n.eqs.length ∧ n.eqs.length ≤ 500) && nameB n.name && n.ins.all portB && n.outs.all portB && n.vars.all varB && n.eqs.all eqB
def shapeB (ns : List DNode) : Bool:=decide (1 ≤ ns.length ∧ ns.length ≤ 200) && ns.all nodeB
theorem ba_assoc (a b c : ByteArray) : a ++ b ++ c = a ++ (b ++ c):=by
 apply ByteArray.ext
 simp [ByteArray.data_append]
theorem ba_nil (a : ByteArray) : a ++ ByteArray.empty = a:=by
 apply ByteArray.ext
 simp [ByteArray.data_append]
theorem ba_nil' (a : ByteArray) : ByteArray.empty ++ a = a:=by
 apply ByteArray.ext
 simp [ByteArray.data_append]
theorem ba_size (a b : ByteArray) : (a ++ b).size = a.size + b.size:=by simp [ByteArray.size_append]
def Lneg : ByteArray:=⟨#[40,45,32]⟩
def Lnot : ByteArray:=⟨#[40,110,111,116,32]⟩
def Lcl : ByteArray:=⟨#[41]⟩
def Lop : ByteArray:=⟨#[40]⟩
def Lif : ByteArray:=⟨#[40,105,102,32]⟩
def Lthen : ByteArray:=⟨#[32,116,104,101,110,32]⟩
def Lelse : ByteArray:=⟨#[32,101,108,115,101,32]⟩
def Lfby : ByteArray:=⟨#[32,102,98,121,32]⟩
def Lmerge : ByteArray:=⟨#[40,109,101,114,103,101,32]⟩
def Lsp : ByteArray:=⟨#[32]⟩
def Ltrue : ByteArray:=⟨#[116,114,117,101]⟩
def Lfalse : ByteArray:=⟨#[102,97,108,115,101]⟩
def Lwhen : ByteArray:=⟨#[32,119,104,101,110,32]⟩
def Lwhenot : ByteArray:=⟨#[32,119,104,101,110,111,116,32]⟩
def Lint : ByteArray:=⟨#[58,32,105,110,116]⟩
def Lbool : ByteArray:=⟨#[58,32,98,111,111,108]⟩
def Lcomma : ByteArray:=⟨#[44,32]⟩
def Lsemi : ByteArray:=⟨#[59,32]⟩
def Lnode : ByteArray:=⟨#[110,111,100,101,32]⟩
def Lret : ByteArray:=⟨#[41,32,114,101,116,117,114,110,115,32,40]⟩
def Lcln : ByteArray:=⟨#[41,10]⟩
def Lvar : ByteArray:=⟨#[118,97,114,32]⟩
def Lend : ByteArray:=⟨#[59,10]⟩
def Llet : ByteArray:=⟨#[108,101,116,10]⟩
def Ltel : ByteArray:=⟨#[116,101,108,10]⟩
def Lind : ByteArray:=⟨#[32,32]⟩
def Leq : ByteArray:=⟨#[32,61,32]⟩
def sgT (op : Int) : ByteArray:=if op = 18 then ⟨#[111,114]⟩ else if op = 19 then ⟨#[120,111,114]⟩ else if op = 17 then ⟨#[97,110,100]⟩ else if op = 11 then ⟨#[61]⟩ else if op = 12 then ⟨#[60,62]⟩ else if op = 13 then ⟨#[60]⟩ else if op = 14 then ⟨#[60,61]⟩ else if op = 15 then ⟨#[62]⟩ else if op = 16 then ⟨#[62,61]⟩ else if op = 6 then ⟨#[43]⟩ else if op = 7 then ⟨#[45]⟩ else if op = 8 then ⟨#[42]⟩ else if op = 9 then ⟨#[47]⟩ else if op = 10 then ⟨#[109,111,100]⟩ else ⟨#[]⟩
theorem sgT_size (op : Int) : (sgT op).size ≤ 3:=by
 have hs : ∀ (c : Prop) [Decidable c] (a b : ByteArray),a.size ≤ 3 → b.size ≤ 3 → (if c then a else b).size ≤ 3:=by
  intro c _ a b ha hb
  split
  ·exact ha
  ·exact hb
 unfold sgT
 refine hs _ _ _ (by decide) (hs _ _ _ (by decide) (hs _ _ _ (by decide) (hs _ _ _ (by decide) (hs _ _ _ (by decide) (hs _ _ _ (by decide) (hs _ _ _ (by decide) (hs _ _ _ (by decide) (hs _ _ _ (by decide) (hs _ _ _ (by decide) (hs _ _ _ (by decide) (hs _ _ _ (by decide) (hs _ _ _ (by decide) (hs _ _ _ (by decide) (by decide))))))))))))))
def dcT (n : Int) : ByteArray:=⟨(Lib.itoa n).toArray⟩
def flT (v : Int) : ByteArray:=if v = 0 then Lfalse else Ltrue
def cnT (on : Bool) (name : ByteArray) : ByteArray:=(if on = true then Lwhen else Lwhenot) ++ name
def jnT (sep : ByteArray) (xs : List ByteArray) : ByteArray:=⟨(Lib.join (xs.map (·.data.toList)) sep.data.toList).toArray⟩
def arN (op : Int) : Nat:=(ocI op).toNat
def tsT (t : DItem) : List ByteArray :=
 if t.op = 1 then [dcT t.val] else if t.op = 2 then [flT t.val] else if t.op = 3 then [t.name] else if t.op = 4 then [Lneg,Lcl] else if t.op = 5 then [Lnot,Lcl]
 else if t.op = 20 then [Lif,Lthen,Lelse,Lcl] else if t.op = 21 then [Lop ++ dcT t.val ++ Lfby,Lcl] else if t.op = 22 then [Lop ++ flT t.val ++ Lfby,Lcl]
 else if t.op = 23 then [Lop,cnT (decide (t.val = 1)) t.name ++ Lcl] else if t.op = 24 then [Lmerge ++ t.name ++ Lsp,Lsp,Lcl] else [Lop,Lsp ++ sgT t.op ++ Lsp,Lcl]
def weave : List ByteArray → List ByteArray → ByteArray
 | [],_ => ByteArray.empty
 | t :: _,[] => t
 | t :: ts,u :: us => t ++ (u ++ weave ts us)
theorem tsT_length (t : DItem) (h : 1 ≤ t.op ∧ t.op ≤ 24) : (tsT t).length = arN t.op + 1:=by
 unfold tsT arN ocI
 by_cases h1 : t.op = 1
 ·simp [h1]
 by_cases h2 : t.op = 2
 ·simp [h2]
 by_cases h3 : t.op = 3
 ·simp [h3]
 by_cases h4 : t.op = 4
 ·simp [h4]
 by_cases h5 : t.op = 5
 ·simp [h5]
 by_cases h20 : t.op = 20
 ·simp [h20]
 by_cases h21 : t.op = 21
 ·simp [h21]
 by_cases h22 : t.op = 22
 ·simp [h22]
 by_cases h23 : t.op = 23
 ·simp [h23]
 by_cases h24 : t.op = 24
 ·simp [h24]
 have h25 : ¬ t.op = 25:=by omega
 simp [h1,h2,h3,h4,h5,h20,h21,h22,h23,h24,h25]
def Ch (code : List DItem) (b e : Nat) (ss : List ByteArray) : Prop :=
 ∀ P : Nat → Nat → List ByteArray → Prop,(∀ b,P b b []) → (∀ (b m e : Nat) (ss us : List ByteArray) (h : e < code.length),P b m ss → P m e us → us.length = arN code[e].op → P b (e + 1) (ss ++ [weave (tsT code[e]) us])) → P b e ss
theorem Ch.nil {code : List DItem} (b : Nat) : Ch code b b []:=fun _ h _ => h b
theorem Ch.snoc {code : List DItem} {b m e : Nat} {ss us : List ByteArray} (h : e < code.length) (h1 : Ch code b m ss) (h2 : Ch code m e us) (h3 : us.length = arN code[e].op) : Ch code b (e + 1) (ss ++ [weave (tsT code[e]) us]):=fun P a c => c b m e ss us h (h1 P a c) (h2 P a c) h3
theorem Ch.ind {code : List DItem} {motive : ∀ (b e : Nat) (ss : List ByteArray),Ch code b e ss → Prop} (nil : ∀ b,motive b b [] (Ch.nil b)) (snoc : ∀ {b m e : Nat} {ss us : List ByteArray} (h : e < code.length) (h1 : Ch code b m ss) (h2 : Ch code m e us) (h3 : us.length = arN code[e].op),motive b m ss h1 → motive m e us h2 → motive b (e + 1) (ss ++ [weave (tsT code[e]) us]) (Ch.snoc h h1 h2 h3)) {b e : Nat} {ss : List ByteArray} (t : Ch code b e ss) : motive b e ss t:=by
 obtain ⟨_,k⟩:=t (fun b e ss => ∃ h : Ch code b e ss,motive b e ss h) (fun b => ⟨_,nil b⟩) (fun b m e ss us h ⟨h1,k1⟩ ⟨h2,k2⟩ h3 => ⟨_,snoc h h1 h2 h3 k1 k2⟩)
 exact k
theorem Ch.inv {code : List DItem} {motive : ∀ (b e : Nat) (ss : List ByteArray),Ch code b e ss → Prop} {b e : Nat} {ss : List ByteArray} (t : Ch code b e ss) (nil : ∀ b,motive b b [] (Ch.nil b)) (snoc : ∀ {b m e : Nat} {ss us : List ByteArray} (h : e < code.length) (h1 : Ch code b m ss) (h2 : Ch code m e us) (h3 : us.length = arN code[e].op),motive b (e + 1) (ss ++ [weave (tsT code[e]) us]) (Ch.snoc h h1 h2 h3)) : motive b e ss t :=
 Ch.ind (motive:=motive) nil (fun h h1 h2 h3 _ _ => snoc h h1 h2 h3) t
theorem Ch.le {code : List DItem} {b e : Nat} {ss : List ByteArray} (h : Ch code b e ss) : b ≤ e:=by
 induction h using Ch.ind with
 | nil => exact Nat.le_refl _
 | snoc h h1 h2 h3 i1 i2 => omega
theorem Ch.split {code : List DItem} {b e : Nat} {ss : List ByteArray} (h : Ch code b e ss) : ∀ n,n ≤ ss.length → ∃ m s1 s2,ss = s1 ++ s2 ∧ s2.length = n ∧ Ch code b m s1 ∧ Ch code m e s2:=by
 induction h using Ch.ind with
 | nil b =>
  intro n hn
  have : n = 0:=by simpa using hn
  exact ⟨b,[],[],rfl,by simp [this],.nil b,.nil b⟩
 | @snoc b m e ss us h h1 h2 h3 i1 i2 =>
  intro n hn
  match n with
  | 0 => exact ⟨e + 1,_,[],(List.append_nil _).symm,rfl,.snoc h h1 h2 h3,.nil _⟩
  | n + 1 =>
   obtain ⟨m',s1,s2,rfl,hl,c1,c2⟩:=i1 n (by simpa using hn)
   exact ⟨m',s1,s2 ++ [weave (tsT code[e]) us],by simp,by simp [hl],c1,.snoc h c2 h2 h3⟩
theorem Ch.last {code : List DItem} {b e : Nat} {s : ByteArray} (h : Ch code b (e + 1) [s]) : ∃ (h : e < code.length) (us : List ByteArray),Ch code b e us ∧ us.length = arN code[e].op ∧ s = weave (tsT code[e]) us:=by
 generalize hss : [s] = ss at h
 generalize he : e + 1 = e' at h
 cases h using Ch.inv with
 | nil => cases hss
 | @snoc _ m e2 ss us h h1 h2 h3 =>
  obtain rfl : e = e2:=by omega
  have : ss = [] ∧ s = weave (tsT code[e]) us:=by
   cases ss with
   | nil => simpa using hss
   | cons x xs => simp at hss
  obtain ⟨rfl,rfl⟩:=this
  have f : ∀ b m,Ch code b m [] → b = m:=by
   intro b m h
   generalize hs : ([] : List ByteArray) = ss at h
   cases h using Ch.inv with
   | nil => rfl
   | snoc _ _ _ _ => simp at hs
  obtain rfl:=f _ _ h1
  exact ⟨h,us,h2,h3,rfl⟩
theorem Ch.snoc_inv {code : List DItem} {b e : Nat} {ss : List ByteArray} {n : Nat} (h : Ch code b e ss) (hn : ss.length = n + 1) :
  ∃ m e1 s0 us,∃ h : e1 < code.length,e = e1 + 1 ∧ ss = s0 ++ [weave (tsT code[e1]) us] ∧ s0.length = n ∧ Ch code b m s0 ∧ Ch code m e1 us ∧ us.length = arN code[e1].op:=by
 cases h using Ch.inv with
 | nil => simp at hn
 | @snoc _ m e1 s0 us h h1 h2 h3 => exact ⟨m,e1,s0,us,h,rfl,rfl,by simpa using hn,h1,h2,h3⟩
theorem Ch.one {code : List DItem} : ∀ e b b' us us',Ch code b e us → Ch code b' e us' → us.length = us'.length → b = b' ∧ us = us':=by
 intro e
 induction e using Nat.strongRecOn with
 | _ e ih =>
  intro b b' us us' h h' hl
  match hn : us.length with
  | 0 =>
   have e1 : us = []:=List.eq_nil_of_length_eq_zero hn
   have e2 : us' = []:=List.eq_nil_of_length_eq_zero (by omega)
   subst e1 e2
   have f : ∀ b,Ch code b e [] → b = e:=by
    intro b h
    generalize hs : ([] : List ByteArray) = ss at h
    cases h using Ch.inv with
    | nil => rfl
    | snoc _ _ _ _ => simp at hs
   exact ⟨(f b h).trans (f b' h').symm,rfl⟩
  | n + 1 =>
   obtain ⟨m,e1,s0,u,hlt,rfl,rfl,hs0,c1,c2,c3⟩:=h.snoc_inv hn
   obtain ⟨m',e1',s0',u',hlt',he',rfl,hs0',c1',c2',c3'⟩:=h'.snoc_inv (n:=n) (by omega)
   obtain rfl : e1 = e1':=by omega
   obtain ⟨rfl,rfl⟩:=ih e1 (Nat.lt_succ_self _) m m' u u' c2 c2' (by rw [c3,c3'])
   obtain ⟨rfl,rfl⟩:=ih m (by have:=c2.le; omega) b b' s0 s0' c1 c1' (by omega)
   exact ⟨rfl,rfl⟩
theorem ch_up {code : List DItem} : ∀ (n k : Nat) (r : Nat) (ss : List ByteArray),n = code.length - k → k ≤ code.length → Ch code 0 k ss → ss.length = r → wk (code.drop k) r = true → ∃ s,Ch code 0 code.length [s]:=by
 intro n
 induction n with
 | zero =>
  intro k r ss hn hk hc hr hw
  obtain rfl : k = code.length:=by omega
  rw [List.drop_length] at hw
  simp [wk] at hw
  have : ss.length = 1:=by omega
  match ss,this with
  | [s],_ => exact ⟨s,hc⟩
 | succ n ih =>
  intro k r ss hn hk hc hr hw
  have hlt : k < code.length:=by omega
  rw [List.drop_eq_getElem_cons hlt] at hw
  simp only [wk] at hw
  have hbd:=ocI_bd code[k].op
  by_cases hneg : (r : Int) < ocI code[k].op
  ·rw [if_pos hneg] at hw; cases hw
  rw [if_neg hneg] at hw
  have har : ((arN code[k].op : Nat) : Int) = ocI code[k].op:=by unfold arN; omega
  obtain ⟨m,s1,s2,rfl,hl2,c1,c2⟩:=hc.split (arN code[k].op) (by omega)
  refine ih (k + 1) (s1.length + 1) (s1 ++ [weave (tsT code[k]) s2]) (by omega) (by omega) (.snoc hlt c1 c2 hl2) (by simp) ?_
  rw [List.length_append] at hr
  have : (((s1.length + 1 : Nat)) : Int) = (r : Int) + (1 - ocI code[k].op):=by omega
  rw [this]
  exact hw
theorem ch_ex {code : List DItem} (h : wk code 0 = true) : ∃ s,Ch code 0 code.length [s] :=
 ch_up code.length 0 0 [] (by simp) (Nat.zero_le _) (.nil 0) rfl (by simpa using h)
def stC (st : List ByteArray) (t : DItem) : List ByteArray:=st.take (st.length - arN t.op) ++ [weave (tsT t) (st.drop (st.length - arN t.op))]
theorem ch_st {code : List DItem} {b e : Nat} {ss : List ByteArray} (h : Ch code b e ss) : ∀ z,z ++ ss = ((code.take e).drop b).foldl stC z:=by
 induction h using Ch.ind with
 | nil b => intro z; simp
 | @snoc b m e ss us h h1 h2 h3 i1 i2 =>
  intro z
  have e1:=h1.le
  have e2:=h2.le
  have q1 : code.take (e + 1) = code.take e ++ [code[e]]:=by simp
  have q2 : ((code.take e).drop b) = ((code.take m).drop b) ++ ((code.take e).drop m):=by
   conv => lhs; rw [← List.take_append_drop m (code.take e),List.take_take,Nat.min_eq_left e2]
   rw [List.drop_append_of_le_length (by rw [List.length_take]; omega)]
  rw [q1,List.drop_append_of_le_length (by rw [List.length_take]; omega),q2,List.foldl_append,List.foldl_append,← i1,← i2]
  show _ = stC (z ++ ss ++ us) code[e]
  unfold stC
  have q3 : (z ++ ss ++ us).length - us.length = (z ++ ss).length:=by simp; omega
  rw [← h3,q3,List.take_left,List.drop_left,List.append_assoc]
def opT (code : List DItem) (e : Nat) : ByteArray:=((code.take e).foldl stC []).getLastD ByteArray.empty
theorem opT_ch {xs : List DItem} {b e : Nat} {s : ByteArray} (h : Ch xs b e [s]) : opT xs e = s:=by
 have h1:=ch_st h ((xs.take b).foldl stC [])
 have h2 : xs.take e = xs.take b ++ (xs.take e).drop b:=by
  conv => lhs; rw [← List.take_append_drop b (xs.take e),List.take_take,Nat.min_eq_left h.le]
 unfold opT
 rw [h2,List.foldl_append,← h1]
 simp
theorem node_iff (n : DNode) : nodeB n = true ↔ (1 ≤ n.outs.length ∧ n.ins.length + n.outs.length + n.vars.length ≤ 500 ∧ 1 ≤ n.eqs.length ∧ n.eqs.length ≤ 500) ∧ nameB n.name = true ∧ n.ins.all portB = true ∧ n.outs.all portB = true ∧ n.vars.all varB = true ∧ n.eqs.all eqB = true:=by
 unfold nodeB
 simp only [Bool.and_eq_true,decide_eq_true_iff,and_assoc]
theorem var_iff (v : DVar) : varB v = true ↔ nameB v.name = true ∧ (v.type = 1 ∨ v.type = 2) ∧ v.clock.length ≤ 8 ∧ v.clock.all condB = true:=by
 unfold varB
 simp only [Bool.and_eq_true,decide_eq_true_iff,and_assoc]
theorem port_iff (v : DVar) : portB v = true ↔ v.clock.length = 0 ∧ varB v = true:=by
 unfold portB
 simp only [Bool.and_eq_true,decide_eq_true_iff]
end Go.Proofs.YtajabbnlbopcbaaGreatDoor
