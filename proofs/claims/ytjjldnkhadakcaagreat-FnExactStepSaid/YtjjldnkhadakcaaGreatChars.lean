import Derived.Test.YtjjldnkhadakcaaGreatData
import Derived.Test.YtjjldnkhadakcaaGreatProg
import Derived.WalkLawsBesides
import Derived.Deep.LoopGhost
import Derived.Lib.ConvBytes
namespace Go.Proofs.YtjjldnkhadakcaaGreat
open Go.RowKit
set_option linter.unusedSimpArgs false
set_option linter.unusedVariables false
def letB (c : Int) : Bool:=decide ((97 ≤ c ∧ c ≤ 122) ∨ (65 ≤ c ∧ c ≤ 90))
def digB (c : Int) : Bool:=decide (48 ≤ c ∧ c ≤ 57)
def wordB (c : Int) : Bool:=letB c || digB c || c == 95
theorem ret_bool {a b : Bool} (h : a = b) : Ending.returned (.bool a) = .returned (.bool b):=by rw [h]
set_option maxHeartbeats 400000 in
theorem l1Letter_ok (c : Int) (w : World) (h0 : 0 ≤ c) (h1 : c ≤ 255) :
  Calls Tryz.prog 92 #[.int .u8 c] w fun e w' => e = .returned (.bool (letB c)) ∧ w' = w:=by
 go_enter Tryz.func92,Tryz.ntmps92
 go_wp2
 all_goals
  go_ret
  refine ⟨ret_bool ?_,rfl⟩
  unfold letB
  rw [Bool.eq_iff_iff]
  simp
  try omega
set_option maxHeartbeats 400000 in
theorem l1Digit_ok (c : Int) (w : World) (h0 : 0 ≤ c) (h1 : c ≤ 255) :
  Calls Tryz.prog 94 #[.int .u8 c] w fun e w' => e = .returned (.bool (digB c)) ∧ w' = w:=by
 go_enter Tryz.func94,Tryz.ntmps94
 go_wp2
 all_goals
  go_ret
  refine ⟨ret_bool ?_,rfl⟩
  unfold digB
  rw [Bool.eq_iff_iff]
  simp
  try omega
set_option maxHeartbeats 400000 in
theorem isLetter_ok (c : Int) (w : World) (h0 : 0 ≤ c) (h1 : c ≤ 255) :
  Calls Tryz.prog 119 #[.int .u8 c] w fun e w' => e = .returned (.bool (letB c)) ∧ w' = w:=by
 go_enter Tryz.func119,Tryz.ntmps119
 go_wp2
 all_goals
  go_ret
  refine ⟨ret_bool ?_,rfl⟩
  unfold letB
  rw [Bool.eq_iff_iff]
  simp
  try omega
set_option maxHeartbeats 400000 in
theorem isDigit_ok (c : Int) (w : World) (h0 : 0 ≤ c) (h1 : c ≤ 255) :
  Calls Tryz.prog 124 #[.int .u8 c] w fun e w' => e = .returned (.bool (digB c)) ∧ w' = w:=by
 go_enter Tryz.func124,Tryz.ntmps124
 go_wp2
 all_goals
  go_ret
  refine ⟨ret_bool ?_,rfl⟩
  unfold digB
  rw [Bool.eq_iff_iff]
  simp
  try omega
set_option maxHeartbeats 400000 in
theorem isWordByte_ok (c : Int) (w : World) (h0 : 0 ≤ c) (h1 : c ≤ 255) :
  Calls Tryz.prog 122 #[.int .u8 c] w fun e w' => e = .returned (.bool (wordB c)) ∧ w' = w:=by
 cases hl : letB c <;> cases hd : digB c
 all_goals
  go_enter Tryz.func122,Tryz.ntmps122
  go_wp2_with (first | (go_at_call 119; refine (isLetter_ok _ _ h0 h1).mono ?_; rintro e w' ⟨rfl,rfl⟩; rw [hl]) | (go_at_call 124; refine (isDigit_ok _ _ h0 h1).mono ?_; rintro e w' ⟨rfl,rfl⟩; rw [hd]))
  go_ret
  refine ⟨ret_bool ?_,rfl⟩
  simp [wordB,hl,hd]
def byt (s : ByteArray) (i : Nat) : Int:=if h : i < s.size then (s[i].toNat : Int) else 0
theorem byt_lt {s : ByteArray} {i : Nat} (h : i < s.size) : byt s i = (s[i].toNat : Int):=by simp [byt,h]
theorem u8_bd (x : UInt8) : 0 ≤ (x.toNat : Int) ∧ (x.toNat : Int) ≤ 255:=by have:=x.toNat_lt; omega
def allB (p : Nat → Bool) (i n : Nat) : Bool:=decide (∀ j,j < n → i ≤ j → p j = true)
theorem allB_true {p : Nat → Bool} {i n : Nat} (h : ∀ j,j < n → i ≤ j → p j = true) : allB p i n = true:=by simpa [allB] using h
theorem allB_false {p : Nat → Bool} {i n k : Nat} (h1 : k < n) (h2 : i ≤ k) (h : p k = false) : allB p i n = false:=by
 unfold allB
 rw [decide_eq_false_iff_not]
 intro hh
 have:=hh k h1 h2
 rw [h] at this
 cases this
def freshB (s : ByteArray) : Bool:=decide (2 ≤ s.size ∧ s.size ≤ 10) && decide (byt s 0 = 36) && !decide (byt s 1 = 48) && allB (fun i => digB (byt s i)) 1 s.size
set_option maxHeartbeats 400000 in
theorem l1Fresh_ok (s : ByteArray) (w : World) (hs : Len s.size) :
  Calls Tryz.prog 71 #[.string s] w fun e w' => e = .returned (.bool (freshB s)) ∧ w' = w:=by
 unfold Len at hs
 by_cases h1 : s.size < 2
 ·have e : freshB s = false:=by simp [freshB]; omega
  rw [e]
  have d1 : decide ((s.size : Int) < 2) = true:=by simp; omega
  go_enter Tryz.func71,Tryz.ntmps71
  go_wp2
  go_ret
  exact ⟨rfl,rfl⟩
 have d1 : decide ((s.size : Int) < 2) = false:=by simp; omega
 by_cases h2 : 10 < s.size
 ·have e : freshB s = false:=by simp [freshB]; omega
  rw [e]
  have d2 : decide (10 < (s.size : Int)) = true:=by simp; omega
  go_enter Tryz.func71,Tryz.ntmps71
  go_wp2
  go_ret
  exact ⟨rfl,rfl⟩
 have d2 : decide (10 < (s.size : Int)) = false:=by simp; omega
 have g0 : 0 < s.size:=by omega
 have g1 : 1 < s.size:=by omega
 have b0:=byt_lt g0
 have b1:=byt_lt g1
 by_cases h3 : (s[0].toNat : Int) = 36
 case neg =>
  have e : freshB s = false:=by simp [freshB,b0,h3]
  rw [e]
  have d3 : ((s[0].toNat : Int) != 36) = true:=by rw [bne_iff_ne]; exact h3
  clear b0 b1 e
  go_enter Tryz.func71,Tryz.ntmps71
  go_wp2
  go_ret
  exact ⟨rfl,rfl⟩
 have d3 : ((s[0].toNat : Int) != 36) = false:=by simp [h3]
 by_cases h4 : (s[1].toNat : Int) = 48
 ·have e : freshB s = false:=by simp [freshB,b1,h4]
  rw [e]
  have d4 : ((s[1].toNat : Int) == 48) = true:=by simp [h4]
  clear b0 b1 e h3 h4
  go_enter Tryz.func71,Tryz.ntmps71
  go_wp2
  go_ret
  exact ⟨rfl,rfl⟩
 have d4 : ((s[1].toNat : Int) == 48) = false:=by simp [h4]
 have e : freshB s = allB (fun i => digB (byt s i)) 1 s.size:=by
  simp only [freshB,b0,b1,h3,h4]
  simp
  intro h
  omega
 rw [e]
 clear b0 b1 e h3 h4
 go_enter Tryz.func71,Tryz.ntmps71
 go_wp2
 go_loopg [3] (s.size - 1) (fun g i wr => ∃ (k : Nat),k ≤ s.size ∧ 1 ≤ k ∧ g = s.size - k ∧ i = .int .i64 k ∧ wr = w ∧ ∀ j,j < k → 1 ≤ j → digB (byt s j) = true)
 case atStart => exact ⟨1,by omega,Nat.le_refl _,by omega,rfl,rfl,fun j h1 h2 => by omega⟩
 case round =>
  obtain ⟨k,hk,hk1,hg,rfl,rfl,hall⟩:=hrel
  have HG:=hide hg
  have HA:=hide hall
  clear hg hall
  by_cases hlt : k < s.size
  ·have hbd:=u8_bd s[k]
   cases hd : digB (s[k].toNat : Int)
   ·have F : allB (fun i => digB (byt s i)) 1 s.size = false:=allB_false hlt hk1 (by rw [byt_lt hlt]; exact hd)
    have HF:=hide F
    clear F
    go_wp2_with (go_at_call 94; refine (l1Digit_ok _ _ (by omega) (by omega)).mono ?_; rintro e w' ⟨rfl,rfl⟩; rw [hd])
    go_ret
    exact ⟨ret_bool (uh HF).symm,rfl⟩
   ·have A' : ∀ j,j < k + 1 → 1 ≤ j → digB (byt s j) = true:=by
     intro j h1 h2
     by_cases e : j = k
     ·subst e; rw [byt_lt hlt]; exact hd
     ·exact uh HA j (by omega) h2
    have HA':=hide A'
    clear A'
    go_wp2_with (go_at_call 94; refine (l1Digit_ok _ _ (by omega) (by omega)).mono ?_; rintro e w' ⟨rfl,rfl⟩; rw [hd])
    go_roundg (s.size - (k + 1))
    case measure => have:=uh HG; omega
    case rel => exact ⟨k + 1,by omega,by omega,rfl,by go_num,rfl,uh HA'⟩
  ·have e : k = s.size:=by omega
   have T : allB (fun i => digB (byt s i)) 1 s.size = true:=allB_true (by have:=uh HA; rw [e] at this; exact this)
   have HT:=hide T
   clear T
   go_wp2
   go_ret
   exact ⟨ret_bool (uh HT).symm,rfl⟩
def kws : List ByteArray:=[⟨#[110,111,100,101]⟩,⟨#[114,101,116,117,114,110,115]⟩,⟨#[118,97,114]⟩,⟨#[108,101,116]⟩,⟨#[116,101,108]⟩,⟨#[105,110,116]⟩,⟨#[98,111,111,108]⟩,⟨#[119,104,101,110]⟩,⟨#[119,104,101,110,111,116]⟩,⟨#[105,102]⟩,⟨#[116,104,101,110]⟩,⟨#[101,108,115,101]⟩,⟨#[102,98,121]⟩,⟨#[109,101,114,103,101]⟩,⟨#[116,114,117,101]⟩,⟨#[102,97,108,115,101]⟩,⟨#[97,110,100]⟩,⟨#[111,114]⟩,⟨#[120,111,114]⟩,⟨#[110,111,116]⟩,⟨#[109,111,100]⟩]
def kwB (s : ByteArray) : Bool:=s.toList == [110,111,100,101] || s.toList == [114,101,116,117,114,110,115] || s.toList == [118,97,114] || s.toList == [108,101,116] || s.toList == [116,101,108] || s.toList == [105,110,116] || s.toList == [98,111,111,108] || s.toList == [119,104,101,110] || s.toList == [119,104,101,110,111,116] || s.toList == [105,102] || s.toList == [116,104,101,110] || s.toList == [101,108,115,101] || s.toList == [102,98,121] || s.toList == [109,101,114,103,101] || s.toList == [116,114,117,101] || s.toList == [102,97,108,115,101] || s.toList == [97,110,100] || s.toList == [111,114] || s.toList == [120,111,114] || s.toList == [110,111,116] || s.toList == [109,111,100]
def inB (l : List ByteArray) (s : ByteArray) : Bool:=l.any (fun x => x.toList == s.toList)
theorem kws_small : ∀ x,x ∈ kws → x.size ≤ 7:=by decide
set_option maxHeartbeats 1000000 in
theorem l1Keywords_ok (w : World) :
  Calls Tryz.prog 93 #[] w fun e w' => ∃ v,e = .returned v ∧ SlAt 1 16 RStr w.heap.size w' v kws ∧ Below w.heap.size w w':=by
 go_enter Tryz.func93,Tryz.ntmps93
 go_wp2
 go_ret
 refine ⟨_,rfl,?_,(Below.refl _ _).alloc (Nat.le_refl _) _⟩
 refine ⟨_,_,rfl,by simp [Len,kws],by simp [Len,kws],fun i hi => ⟨_,_,[.string kws[i]],rfl,Nat.le_refl _,by simp,rfl,?_,rfl,?_⟩⟩
 ·intro j hj
  have hj0 : j = 0:=by simpa using hj
  subst hj0
  have hc : ∀ (i : Nat) (hi : i < kws.length),(kws.map Value.string).toArray[i]? = some (.string kws[i]):=by
   intro i hi
   simp [hi]
  rw [World.cell?_alloc_at _ _ _ _ rfl]
  simp only [Nat.zero_add,Nat.mul_one,Nat.add_zero]
  exact hc i hi
 ·have:=kws_small kws[i] (List.getElem_mem hi)
  unfold Len
  omega
set_option maxHeartbeats 1000000 in
theorem isKeyword_ok (s : ByteArray) (w : World) :
  Calls Tryz.prog 120 #[.string s] w fun e w' => e = .returned (.bool (kwB s)) ∧ w' = w:=by
 go_enter Tryz.func120,Tryz.ntmps120
 go_wp2
 all_goals
  go_ret
  refine ⟨ret_bool ?_,rfl⟩
  simp_all [kwB]
set_option maxHeartbeats 400000 in
theorem l1In_ok (l : List ByteArray) (v : Value) (s : ByteArray) (w : World) (hv : SlAt 1 16 RStr 0 w v l) :
  Calls Tryz.prog 74 #[v,.string s] w fun e w' => e = .returned (.bool (inB l s)) ∧ w' = w:=by
 obtain ⟨a,cap,rfl,_,hn,hx⟩:=hv
 unfold Len at hn
 have HX:=hide hx
 clear hx
 go_enter Tryz.func74,Tryz.ntmps74
 go_wp2
 go_loopg [6,9] l.length (fun g x i wr => ∃ (k : Nat),k ≤ l.length ∧ g = l.length - k ∧ i = .int .i64 k ∧ wr = w ∧ ∀ j (h : j < l.length),j < k → (l[j].toList == s.toList) = false)
 case atStart => exact ⟨0,by omega,by omega,rfl,rfl,fun j _ h2 => by omega⟩
 case round =>
  obtain ⟨k,hk,hg,rfl,rfl,hall⟩:=hrel
  have HG:=hide hg
  have HA:=hide hall
  clear hg hall
  by_cases hlt : k < l.length
  ·obtain ⟨b,o,cs,rfl,_,hb,hcs,hc,hR⟩:=uh HX k hlt
   obtain ⟨rfl,hsn⟩:=hR
   have c0:=hc 0 (by simp)
   simp only [Nat.mul_one,Nat.add_zero,List.getElem_cons_zero,List.getElem_cons_succ] at c0
   clear hc hcs
   cases he : (l[k].toList == s.toList)
   ·have A' : ∀ j (h : j < l.length),j < k + 1 → (l[j].toList == s.toList) = false:=by
     intro j h h1
     by_cases e : j = k
     ·subst e; exact he
     ·exact uh HA j h (by omega)
    have HA':=hide A'
    clear A'
    go_wp2
    go_roundg (l.length - (k + 1))
    case measure => have:=uh HG; omega
    case rel => exact ⟨k + 1,by omega,rfl,by go_num,rfl,uh HA'⟩
   ·have T : inB l s = true:=by
     unfold inB
     rw [List.any_eq_true]
     exact ⟨l[k],List.getElem_mem hlt,he⟩
    have HT:=hide T
    clear T
    go_wp2
    go_ret
    exact ⟨ret_bool (uh HT).symm,rfl⟩
  ·have e : k = l.length:=by omega
   have T : inB l s = false:=by
    unfold inB
    rw [List.any_eq_false]
    intro x hx
    obtain ⟨j,hj,rfl⟩:=List.getElem_of_mem hx
    rw [uh HA j hj (by omega)]
    decide
   have HT:=hide T
   clear T
   go_wp2
   go_ret
   exact ⟨ret_bool (uh HT).symm,rfl⟩
theorem inB_kws (s : ByteArray) : inB kws s = kwB s:=by
 simp only [inB,kws,kwB,List.any_cons,List.any_nil,ByteArray.toList_eq,Bool.or_false,BEq.comm (a:=s.data.toList),Bool.or_assoc]
def plainB (s : ByteArray) : Bool:=decide (1 ≤ s.size ∧ s.size ≤ 40) && letB (byt s 0) && !kwB s && allB (fun i => wordB (byt s i)) 0 s.size
def Ans (v : Value) (w : World) (e : Ending) (w' : World) : Prop:=e = .returned v ∧ Below w.heap.size w w'
set_option maxHeartbeats 1000000 in
theorem l1Plain_ok (s : ByteArray) (w : World) (hs : Len s.size) :
  Calls Tryz.prog 70 #[.string s] w (Ans (.bool (plainB s)) w):=by
 unfold Len at hs
 by_cases h1 : s.size < 1
 ·have e : plainB s = false:=by simp [plainB]; omega
  rw [e]
  have d1 : decide ((s.size : Int) < 1) = true:=by simp; omega
  clear e
  go_enter Tryz.func70,Tryz.ntmps70
  go_wp2
  go_ret
  exact ⟨rfl,Below.refl _ _⟩
 have d1 : decide ((s.size : Int) < 1) = false:=by simp; omega
 by_cases h2 : 40 < s.size
 ·have e : plainB s = false:=by simp [plainB]; omega
  rw [e]
  have d2 : decide (40 < (s.size : Int)) = true:=by simp; omega
  clear e
  go_enter Tryz.func70,Tryz.ntmps70
  go_wp2
  go_ret
  exact ⟨rfl,Below.refl _ _⟩
 have d2 : decide (40 < (s.size : Int)) = false:=by simp; omega
 have g0 : 0 < s.size:=by omega
 have b0:=byt_lt g0
 have hb0:=u8_bd s[0]
 cases hl : letB (s[0].toNat : Int)
 ·have e : plainB s = false:=by simp [plainB,b0,hl]
  rw [e]
  clear e b0
  go_enter Tryz.func70,Tryz.ntmps70
  go_wp2_with (go_at_call 92; refine (l1Letter_ok _ _ (by omega) (by omega)).mono ?_; rintro e w' ⟨rfl,rfl⟩; rw [hl])
  go_ret
  exact ⟨rfl,Below.refl _ _⟩
 cases hkw : kwB s
 ·have e : plainB s = allB (fun i => wordB (byt s i)) 0 s.size:=by
   have : 1 ≤ s.size ∧ s.size ≤ 40:=by omega
   simp [plainB,b0,hl,hkw,this]
  rw [e]
  clear e b0
  have HK:=hide hkw
  clear hkw
  go_enter Tryz.func70,Tryz.ntmps70
  go_wp2_with fail
  refine (l1Letter_ok _ _ (by omega) (by omega)).mono ?_
  rintro e w' ⟨rfl,rfl⟩
  rw [hl]
  go_wp2_with fail
  refine (l1Keywords_ok _).mono ?_
  rintro e w1 ⟨v,rfl,hv,hbl⟩
  obtain ⟨av,cv,rfl⟩:=hv.shape
  have HV:=hide hv
  clear hv
  go_wp2_with fail
  refine (l1In_ok kws _ s _ ?_).mono ?_
  ·exact (uh HV).lower RStr_lowers (Nat.zero_le _)
  rintro e w1 ⟨rfl,rfl⟩
  rw [inB_kws,uh HK]
  clear HV
  go_wp2
  go_loopg [3] s.size (fun g i wr => ∃ (k : Nat),k ≤ s.size ∧ g = s.size - k ∧ i = .int .i64 k ∧ wr = w1 ∧ ∀ j,j < k → 0 ≤ j → wordB (byt s j) = true)
  case atStart => exact ⟨0,by omega,by omega,rfl,rfl,fun j h1 h2 => by omega⟩
  case round =>
   obtain ⟨k,hk,hg,rfl,rfl,hall⟩:=hrel
   have HG:=hide hg
   have HA:=hide hall
   clear hg hall
   by_cases hlt : k < s.size
   ·have hbd:=u8_bd s[k]
    have W : wordB (byt s k) = (letB (s[k].toNat : Int) || digB (s[k].toNat : Int) || (s[k].toNat : Int) == 95):=by rw [byt_lt hlt]; rfl
    cases hl : letB (s[k].toNat : Int) <;> cases hd : digB (s[k].toNat : Int) <;> cases hu : ((s[k].toNat : Int) == 95)
    case false.false.false =>
     have hu' : ((s[k].toNat : Int) != 95) = true:=by rw [bne,hu]; rfl
     have F : allB (fun i => wordB (byt s i)) 0 s.size = false:=allB_false hlt (Nat.zero_le _) (by rw [W,hl,hd,hu]; rfl)
     have HF:=hide F
     clear F W
     go_wp2_with (first | (go_at_call 92; refine (l1Letter_ok _ _ (by omega) (by omega)).mono ?_; rintro e w' ⟨rfl,rfl⟩; rw [hl]) | (go_at_call 94; refine (l1Digit_ok _ _ (by omega) (by omega)).mono ?_; rintro e w' ⟨rfl,rfl⟩; rw [hd]))
     go_ret
     exact ⟨ret_bool (uh HF).symm,hbl⟩
    all_goals
     have hu' : ((s[k].toNat : Int) != 95) = !((s[k].toNat : Int) == 95):=rfl
     rw [hu] at hu'
     have A' : ∀ j,j < k + 1 → 0 ≤ j → wordB (byt s j) = true:=by
      intro j h1 h2
      by_cases e : j = k
      ·subst e; rw [W,hl,hd,hu]; rfl
      ·exact uh HA j (by omega) h2
     have HA':=hide A'
     clear A' W
     go_wp2_with (first | (go_at_call 92; refine (l1Letter_ok _ _ (by omega) (by omega)).mono ?_; rintro e w' ⟨rfl,rfl⟩; rw [hl]) | (go_at_call 94; refine (l1Digit_ok _ _ (by omega) (by omega)).mono ?_; rintro e w' ⟨rfl,rfl⟩; rw [hd]))
     go_roundg (s.size - (k + 1))
     case measure => have:=uh HG; omega
     case rel => exact ⟨k + 1,by omega,rfl,by go_num,rfl,uh HA'⟩
   ·have e : k = s.size:=by omega
    have T : allB (fun i => wordB (byt s i)) 0 s.size = true:=allB_true (by have:=uh HA; rw [e] at this; exact this)
    have HT:=hide T
    clear T
    go_wp2
    go_ret
    exact ⟨ret_bool (uh HT).symm,hbl⟩
 ·have e : plainB s = false:=by simp [plainB,hkw]
  rw [e]
  clear e b0
  have HK:=hide hkw
  clear hkw
  go_enter Tryz.func70,Tryz.ntmps70
  go_wp2_with fail
  refine (l1Letter_ok _ _ (by omega) (by omega)).mono ?_
  rintro e w' ⟨rfl,rfl⟩
  rw [hl]
  go_wp2_with fail
  refine (l1Keywords_ok _).mono ?_
  rintro e w1 ⟨v,rfl,hv,hbl⟩
  obtain ⟨av,cv,rfl⟩:=hv.shape
  have HV:=hide hv
  clear hv
  go_wp2_with fail
  refine (l1In_ok kws _ s _ ?_).mono ?_
  ·exact (uh HV).lower RStr_lowers (Nat.zero_le _)
  rintro e w1 ⟨rfl,rfl⟩
  rw [inB_kws,uh HK]
  go_wp2
  go_ret
  exact ⟨rfl,hbl⟩
def nameB (s : ByteArray) : Bool:=plainB s || freshB s
set_option maxHeartbeats 1000000 in
theorem l1Name_ok (s : ByteArray) (w : World) (hs : Len s.size) :
  Calls Tryz.prog 44 #[.string s] w (Ans (.bool (nameB s)) w):=by
 cases hp : plainB s
 ·have e : nameB s = freshB s:=by simp [nameB,hp]
  rw [e]
  clear e
  go_enter Tryz.func44,Tryz.ntmps44
  go_wp2_with fail
  refine (l1Plain_ok s _ hs).mono ?_
  rintro e w1 ⟨rfl,hb⟩
  rw [hp]
  go_wp2_with fail
  refine (l1Fresh_ok s _ hs).mono ?_
  rintro e w' ⟨rfl,rfl⟩
  go_wp2
  go_ret
  exact ⟨rfl,hb⟩
 ·have e : nameB s = true:=by simp [nameB,hp]
  rw [e]
  clear e
  go_enter Tryz.func44,Tryz.ntmps44
  go_wp2_with fail
  refine (l1Plain_ok s _ hs).mono ?_
  rintro e w1 ⟨rfl,hb⟩
  rw [hp]
  go_wp2
  go_ret
  exact ⟨rfl,hb⟩
theorem typeOK_ok (t : Int) (w : World) : Calls Tryz.prog 125 #[.int .i64 t] w (fun e w' => e = .returned (.bool (decide (t = 1 ∨ t = 2))) ∧ w' = w):=by
 by_cases h1 : t = 1
 ·subst h1
  go_enter Tryz.func125,Tryz.ntmps125
  go_wp2
  go_ret
  exact ⟨rfl,rfl⟩
 ·by_cases h2 : t = 2
  ·subst h2
   go_enter Tryz.func125,Tryz.ntmps125
   go_wp2
   go_ret
   exact ⟨rfl,rfl⟩
  ·rw [decide_eq_false (fun h => by rcases h with h | h; exact h1 h; exact h2 h)]
   have b1 : (t == 1) = false:=by rw [beq_eq_false_iff_ne]; exact h1
   have b2 : (t == 2) = false:=by rw [beq_eq_false_iff_ne]; exact h2
   go_enter Tryz.func125,Tryz.ntmps125
   go_wp2
   go_ret
   exact ⟨rfl,rfl⟩
def RByte (_ : Nat) (_ : World) (cs : List Value) (x : Int) : Prop:=cs = [.int .u8 x] ∧ 0 ≤ x ∧ x ≤ 255
theorem RByte_kept : KeptBy RByte:=fun _ _ _ _ _ _ h => h
def valOfByte (cs : List Value) : Value:=cs.headD (.bool false)
def valOfStr (cs : List Value) : Value:=cs.headD (.bool false)
def valOfItems (cs : List Value) : Value:=cs.headD (.bool false)
def valOfItem (cs : List Value) : Value:=.agg cs.toArray
set_option maxHeartbeats 400000 in
theorem everyByte_isWordByte_ok (p : Int → Bool) (hf : ∀ (x : Int) cs w,RByte 0 w cs x → Calls Tryz.prog 122 #[valOfByte cs] w (Ans (.bool (p x)) w)) (xs : List Int) (v : Value) (w : World) (hv : SlAt 1 1 RByte 0 w v xs) :
  Calls Tryz.prog 121 #[v,.func (.func 122) #[] #[]] w (Ans (.bool (xs.all p)) w):=by
 obtain ⟨a,cap,rfl,_,hn,hx⟩:=hv
 unfold Len at hn
 have HX:=hide hx
 have HFN:=hide hf
 clear hx hf
 go_enter Tryz.func121,Tryz.ntmps121
 go_wp2
 go_loopg [6,9] xs.length (fun g x i wr => ∃ (k : Nat),k ≤ xs.length ∧ g = xs.length - k ∧ i = .int .i64 k ∧ Below w.heap.size w wr ∧ ∀ j (h : j < xs.length),j < k → p xs[j] = true)
 case atStart => exact ⟨0,Nat.zero_le _,by omega,rfl,Below.refl _ _,fun j _ h => absurd h (Nat.not_lt_zero _)⟩
 case round =>
  obtain ⟨k,hk,hg,rfl,hbl,hall⟩:=hrel
  have HG:=hide hg
  have HA:=hide hall
  clear hg hall
  by_cases hlt : k < xs.length
  ·obtain ⟨b,o,cs,rfl,_,hb,hcs,hc,hR⟩:=uh HX k hlt
   have hR:=RByte_kept.stays _ _ _ _ _ hbl hR
   have hc : ∀ j (hj : j < cs.length),wr.cell? ⟨b,o + k * 1 + j,none⟩ = some cs[j]:=fun j hj => by rw [hbl.cell (p:=⟨b,_,none⟩) hb]; exact hc j hj
   have hcall:=uh HFN xs[k] cs wr hR
   obtain ⟨rfl,hx0,hx1⟩:=hR
   have c0:=hc 0 (by simp)
   simp only [Nat.mul_one,Nat.add_zero,List.getElem_cons_zero,List.getElem_cons_succ] at c0
   simp only [valOfByte,List.headD_cons] at hcall
   have HC:=hide hcall
   clear hc hcs hcall
   cases hp : p xs[k]
   ·have F : xs.all p = false:=by
     rw [List.all_eq_false]
     exact ⟨xs[k],List.getElem_mem hlt,by rw [hp]; decide⟩
    have HF:=hide F
    clear F
    go_wp2_with fail
    refine (uh HC).mono ?_
    rintro e w1 ⟨rfl,hb1⟩
    rw [hp]
    go_wp2
    go_ret
    exact ⟨ret_bool (uh HF).symm,hbl.trans (hb1.mono hbl.size)⟩
   ·have A' : ∀ j (h : j < xs.length),j < k + 1 → p xs[j] = true:=by
     intro j h h1
     by_cases e : j = k
     ·subst e; exact hp
     ·exact uh HA j h (by omega)
    have HA':=hide A'
    clear A'
    go_wp2_with fail
    refine (uh HC).mono ?_
    rintro e w1 ⟨rfl,hb1⟩
    rw [hp]
    go_wp2
    go_roundg (xs.length - (k + 1))
    case measure => have:=uh HG; omega
    case rel => exact ⟨k + 1,by omega,rfl,by go_num,hbl.trans (hb1.mono hbl.size),uh HA'⟩
  ·have e : k = xs.length:=by omega
   have T : xs.all p = true:=by
    rw [List.all_eq_true]
    intro x hx
    obtain ⟨j,hj,rfl⟩:=List.getElem_of_mem hx
    exact uh HA j hj (by omega)
   have HT:=hide T
   clear T
   go_wp2
   go_ret
   exact ⟨ret_bool (uh HT).symm,hbl⟩
set_option maxHeartbeats 400000 in
theorem everyByte_isDigit_ok (p : Int → Bool) (hf : ∀ (x : Int) cs w,RByte 0 w cs x → Calls Tryz.prog 124 #[valOfByte cs] w (Ans (.bool (p x)) w)) (xs : List Int) (v : Value) (w : World) (hv : SlAt 1 1 RByte 0 w v xs) :
  Calls Tryz.prog 121 #[v,.func (.func 124) #[] #[]] w (Ans (.bool (xs.all p)) w):=by
 obtain ⟨a,cap,rfl,_,hn,hx⟩:=hv
 unfold Len at hn
 have HX:=hide hx
 have HFN:=hide hf
 clear hx hf
 go_enter Tryz.func121,Tryz.ntmps121
 go_wp2
 go_loopg [6,9] xs.length (fun g x i wr => ∃ (k : Nat),k ≤ xs.length ∧ g = xs.length - k ∧ i = .int .i64 k ∧ Below w.heap.size w wr ∧ ∀ j (h : j < xs.length),j < k → p xs[j] = true)
 case atStart => exact ⟨0,Nat.zero_le _,by omega,rfl,Below.refl _ _,fun j _ h => absurd h (Nat.not_lt_zero _)⟩
 case round =>
  obtain ⟨k,hk,hg,rfl,hbl,hall⟩:=hrel
  have HG:=hide hg
  have HA:=hide hall
  clear hg hall
  by_cases hlt : k < xs.length
  ·obtain ⟨b,o,cs,rfl,_,hb,hcs,hc,hR⟩:=uh HX k hlt
   have hR:=RByte_kept.stays _ _ _ _ _ hbl hR
   have hc : ∀ j (hj : j < cs.length),wr.cell? ⟨b,o + k * 1 + j,none⟩ = some cs[j]:=fun j hj => by rw [hbl.cell (p:=⟨b,_,none⟩) hb]; exact hc j hj
   have hcall:=uh HFN xs[k] cs wr hR
   obtain ⟨rfl,hx0,hx1⟩:=hR
   have c0:=hc 0 (by simp)
   simp only [Nat.mul_one,Nat.add_zero,List.getElem_cons_zero,List.getElem_cons_succ] at c0
   simp only [valOfByte,List.headD_cons] at hcall
   have HC:=hide hcall
   clear hc hcs hcall
   cases hp : p xs[k]
   ·have F : xs.all p = false:=by
     rw [List.all_eq_false]
     exact ⟨xs[k],List.getElem_mem hlt,by rw [hp]; decide⟩
    have HF:=hide F
    clear F
    go_wp2_with fail
    refine (uh HC).mono ?_
    rintro e w1 ⟨rfl,hb1⟩
    rw [hp]
    go_wp2
    go_ret
    exact ⟨ret_bool (uh HF).symm,hbl.trans (hb1.mono hbl.size)⟩
   ·have A' : ∀ j (h : j < xs.length),j < k + 1 → p xs[j] = true:=by
     intro j h h1
     by_cases e : j = k
     ·subst e; exact hp
     ·exact uh HA j h (by omega)
    have HA':=hide A'
    clear A'
    go_wp2_with fail
    refine (uh HC).mono ?_
    rintro e w1 ⟨rfl,hb1⟩
    rw [hp]
    go_wp2
    go_roundg (xs.length - (k + 1))
    case measure => have:=uh HG; omega
    case rel => exact ⟨k + 1,by omega,rfl,by go_num,hbl.trans (hb1.mono hbl.size),uh HA'⟩
  ·have e : k = xs.length:=by omega
   have T : xs.all p = true:=by
    rw [List.all_eq_true]
    intro x hx
    obtain ⟨j,hj,rfl⟩:=List.getElem_of_mem hx
    exact uh HA j hj (by omega)
   have HT:=hide T
   clear T
   go_wp2
   go_ret
   exact ⟨ret_bool (uh HT).symm,hbl⟩
def bys (s : ByteArray) : List Int:=s.data.toList.map (fun b => (b.toNat : Int))
theorem bys_length (s : ByteArray) : (bys s).length = s.size:=by simp [bys]
theorem bys_get (s : ByteArray) (i : Nat) (h : i < (bys s).length) : (bys s)[i] = byt s i:=by
 have h' : i < s.size:=by rw [bys_length] at h; exact h
 rw [byt_lt h']
 simp [bys]
 rfl
theorem bytes_at (w : World) (e : TypeId) (s : ByteArray) (cap : Nat) (hs : Len s.size) (hcap : s.size ≤ cap) :
  SlAt 1 1 RByte 0 (Lib.bytesWorld w e s) (.slice (some ⟨w.heap.size,0,none⟩) s.size cap) (bys s):=by
 have hl:=bys_length s
 refine ⟨_,cap,by rw [hl],⟨by rw [hl,Nat.mul_one]; exact hs,by rw [hl]; exact hcap⟩,by rw [hl]; exact hs,fun i hi => ?_⟩
 have hi' : i < s.size:=by omega
 refine ⟨_,0,[.int .u8 (bys s)[i]],rfl,Nat.zero_le _,by rw [Lib.bytesWorld_size]; omega,rfl,fun j hj => ?_,rfl,?_,?_⟩
 ·have hj0 : j = 0:=by simpa using hj
  subst hj0
  simp only [Nat.zero_add,Nat.mul_one,Nat.add_zero,List.getElem_cons_zero]
  rw [Lib.bytesWorld_cell w e s i hi',bys_get,byt_lt hi']
  simp [List.getD,hi']
  rfl
 ·rw [bys_get,byt_lt hi']; exact (u8_bd _).1
 ·rw [bys_get,byt_lt hi']; exact (u8_bd _).2
theorem bytes_below (w : World) (e : TypeId) (s : ByteArray) : Below w.heap.size w (Lib.bytesWorld w e s):=by
 refine ⟨?_,?_,?_,by rw [Lib.bytesWorld_size]; omega,fun k hk => Lib.bytesWorld_at_old w e s k hk⟩
 all_goals simp [Lib.bytesWorld,World.freeze,World.alloc,World.drew,-World.alloc_eq,-World.drew_eq]
theorem all_bys (p : Int → Bool) (s : ByteArray) : (bys s).all p = allB (fun i => p (byt s i)) 0 s.size:=by
 rw [Bool.eq_iff_iff,List.all_eq_true]
 constructor
 ·intro h
  refine allB_true fun j hj _ => ?_
  have hj' : j < (bys s).length:=by rw [bys_length]; exact hj
  rw [← bys_get s j hj']
  exact h _ (List.getElem_mem hj')
 ·intro h x hx
  obtain ⟨j,hj,rfl⟩:=List.getElem_of_mem hx
  rw [bys_get]
  have h':=h
  unfold allB at h'
  rw [decide_eq_true_iff] at h'
  exact h' j (by rw [bys_length] at hj; exact hj) (Nat.zero_le _)
theorem hWord (x : Int) (cs : List Value) (w : World) (h : RByte 0 w cs x) : Calls Tryz.prog 122 #[valOfByte cs] w (Ans (.bool (wordB x)) w):=by
 obtain ⟨rfl,h0,h1⟩:=h
 refine (isWordByte_ok x w h0 h1).mono ?_
 rintro e w' ⟨rfl,rfl⟩
 exact ⟨rfl,Below.refl _ _⟩
theorem hDigit (x : Int) (cs : List Value) (w : World) (h : RByte 0 w cs x) : Calls Tryz.prog 124 #[valOfByte cs] w (Ans (.bool (digB x)) w):=by
 obtain ⟨rfl,h0,h1⟩:=h
 refine (isDigit_ok x w h0 h1).mono ?_
 rintro e w' ⟨rfl,rfl⟩
 exact ⟨rfl,Below.refl _ _⟩
theorem empty_yes (s : ByteArray) (h : s.size = 0) : (s.toList == []) = true:=by
 have e : s.data.toList = []:=List.eq_nil_of_length_eq_zero (by rw [Array.length_toList]; exact h)
 rw [ByteArray.toList_eq,e]
 rfl
theorem empty_no (s : ByteArray) (h : s.size ≠ 0) : (s.toList == []) = false:=by
 rw [beq_eq_false_iff_ne,ByteArray.toList_eq]
 intro hh
 have:=congrArg List.length hh
 rw [Array.length_toList] at this
 exact h this
set_option maxHeartbeats 400000 in
theorem isName_ok (s : ByteArray) (w : World) (hs : Len s.size) :
  Calls Tryz.prog 98 #[.string s] w (Ans (.bool (plainB s)) w):=by
 have HS:=hide hs
 unfold Len at hs
 by_cases h1 : s.size < 1
 ·have e : plainB s = false:=by simp [plainB]; omega
  rw [e]
  have d1 : (s.toList == []) = true:=empty_yes s (by omega)
  clear e
  go_enter Tryz.func98,Tryz.ntmps98
  go_wp2
  go_ret
  exact ⟨rfl,Below.refl _ _⟩
 have d1 : (s.toList == []) = false:=empty_no s (by omega)
 by_cases h2 : 40 < s.size
 ·have e : plainB s = false:=by simp [plainB]; omega
  rw [e]
  have d2 : decide (40 < (s.size : Int)) = true:=by simp; omega
  clear e
  go_enter Tryz.func98,Tryz.ntmps98
  go_wp2
  go_ret
  exact ⟨rfl,Below.refl _ _⟩
 have d2 : decide (40 < (s.size : Int)) = false:=by simp; omega
 have g0 : 0 < s.size:=by omega
 have b0:=byt_lt g0
 have hb0:=u8_bd s[0]
 cases hl : letB (s[0].toNat : Int)
 ·have e : plainB s = false:=by simp [plainB,b0,hl]
  rw [e]
  clear e b0
  go_enter Tryz.func98,Tryz.ntmps98
  go_wp2_with (go_at_call 119; refine (isLetter_ok _ _ (by omega) (by omega)).mono ?_; rintro e w' ⟨rfl,rfl⟩; rw [hl])
  go_ret
  exact ⟨rfl,Below.refl _ _⟩
 cases hkw : kwB s
 ·have e : plainB s = (bys s).all wordB:=by
   rw [all_bys]
   have : 1 ≤ s.size ∧ s.size ≤ 40:=by omega
   simp [plainB,b0,hl,hkw,this]
  rw [e]
  clear e b0
  have hcv:=fun w => Lib.run_convert_string_bytes (P:=Tryz.prog) w 9 122 5 s Tryz.underlying9 Tryz.underlying122 Tryz.underlying5
  go_enter Tryz.func98,Tryz.ntmps98
  go_wp2_with fail
  refine (isLetter_ok _ _ (by omega) (by omega)).mono ?_
  rintro e w' ⟨rfl,rfl⟩
  rw [hl]
  go_wp2_with fail
  refine (isKeyword_ok _ _).mono ?_
  rintro e w' ⟨rfl,rfl⟩
  rw [hkw]
  go_wp2_with fail
  refine (everyByte_isWordByte_ok wordB hWord (bys s) _ _ (bytes_at _ _ s _ (uh HS) (grownCap_ge _ _ _ _))).mono ?_
  rintro e w1 ⟨rfl,hb⟩
  go_wp2
  go_ret
  exact ⟨rfl,(bytes_below _ _ _).trans (hb.mono (bytes_below _ _ _).size)⟩
 ·have e : plainB s = false:=by simp [plainB,hkw]
  rw [e]
  clear e b0
  go_enter Tryz.func98,Tryz.ntmps98
  go_wp2_with fail
  refine (isLetter_ok _ _ (by omega) (by omega)).mono ?_
  rintro e w' ⟨rfl,rfl⟩
  rw [hl]
  go_wp2_with fail
  refine (isKeyword_ok _ _).mono ?_
  rintro e w' ⟨rfl,rfl⟩
  rw [hkw]
  go_wp2
  go_ret
  exact ⟨rfl,Below.refl _ _⟩
theorem u8_int (a b : UInt8) : ((a.toNat : Int) == (b.toNat : Int)) = (a == b):=by
 rw [Bool.eq_iff_iff,beq_iff_eq,beq_iff_eq,Int.ofNat_inj,UInt8.toNat_inj]
theorem first_is (s : ByteArray) (h : 1 ≤ s.size) : ((s.extract 0 1).toList == [36]) = (byt s 0 == 36):=by
 rw [byt_lt (show 0 < s.size from h),ByteArray.toList_eq]
 have e : (s.extract 0 1).data.toList = [s[0]'h]:=by
  match s,h with
  | ⟨⟨a :: t⟩⟩,_ => simp; rfl
 rw [e]
 have:=u8_int (s[0]'h) 36
 rw [show ((36 : UInt8).toNat : Int) = 36 from rfl] at this
 rw [this,Bool.eq_iff_iff,beq_iff_eq,beq_iff_eq,List.cons.injEq]
 simp
def tl (s : ByteArray) : ByteArray:=s.extract 1 s.size
theorem tl_size (s : ByteArray) : (tl s).size = s.size - 1:=by simp [tl]
theorem tl_byt (s : ByteArray) (i : Nat) (h : i < s.size - 1) : byt (tl s) i = byt s (i + 1):=by
 have h1 : i < (tl s).size:=by rw [tl_size]; exact h
 rw [byt_lt h1,byt_lt (show i + 1 < s.size by omega)]
 congr 2
 simp only [tl,ByteArray.getElem_eq_getElem_data,ByteArray.data_extract,Array.getElem_extract,Nat.add_comm]
def startB (s : ByteArray) : Bool:=decide (1 ≤ s.size) && (byt s 0 == 36)
set_option maxHeartbeats 400000 in
theorem hasPrefix_ok (s : ByteArray) (w : World) (hs : Len s.size) :
  Calls Tryz.prog 145 #[.string s,.string ⟨#[36]⟩] w fun e w' => e = .returned (.bool (startB s)) ∧ w' = w:=by
 unfold Len at hs
 by_cases h1 : 1 ≤ s.size
 ·have e : startB s = ((s.extract 0 1).toList == [36]):=by rw [first_is s h1]; simp [startB,h1]
  rw [e]
  clear e
  go_enter Tryz.func145,Tryz.ntmps145
  go_wp2
  go_ret
  exact ⟨rfl,rfl⟩
 ·have e : startB s = false:=by simp [startB,h1]
  rw [e]
  clear e
  go_enter Tryz.func145,Tryz.ntmps145
  go_wp2
  go_ret
  exact ⟨rfl,rfl⟩
set_option maxHeartbeats 400000 in
theorem cutLite_ok (s : ByteArray) (w : World) (hs : Len s.size) :
  Calls Tryz.prog 135 #[.string s,.string ⟨#[36]⟩] w fun e w' => e = .returned (.tuple #[.string (if startB s = true then tl s else s),.bool (startB s)]) ∧ w' = w:=by
 have HS:=hide hs
 unfold Len at hs
 cases hst : startB s
 ·rw [if_neg (by decide)]
  go_enter Tryz.func135,Tryz.ntmps135
  go_wp2_with (go_at_call 145; refine (hasPrefix_ok s _ (uh HS)).mono ?_; rintro e w' ⟨rfl,rfl⟩; rw [hst])
  go_ret2
  exact ⟨rfl,rfl⟩
 ·rw [if_pos rfl]
  have h1 : 1 ≤ s.size:=by
   simp [startB] at hst
   have:=hst.1
   omega
  have h1' : (1 : Int) ≤ (s.size : Int):=by omega
  have HT : Hid (tl s = s.extract 1 s.size):=rfl
  go_enter Tryz.func135,Tryz.ntmps135
  go_wp2_with (go_at_call 145; refine (hasPrefix_ok s _ (uh HS)).mono ?_; rintro e w' ⟨rfl,rfl⟩; rw [hst])
  go_ret2
  exact ⟨rfl,rfl⟩
set_option maxHeartbeats 400000 in
theorem cutPrefix_ok (s : ByteArray) (w : World) (hs : Len s.size) :
  Calls Tryz.prog 123 #[.string s,.string ⟨#[36]⟩] w fun e w' => e = .returned (.tuple #[.string (if startB s = true then tl s else s),.bool (startB s)]) ∧ w' = w:=by
 cases hst : startB s
 ·rw [if_neg (by decide)]
  go_enter Tryz.func123,Tryz.ntmps123
  go_wp2_with (go_at_call 135; refine (cutLite_ok s _ hs).mono ?_; rintro e w' ⟨rfl,rfl⟩; rw [hst,if_neg (by decide)])
  go_ret2
  exact ⟨rfl,rfl⟩
 ·rw [if_pos rfl]
  go_enter Tryz.func123,Tryz.ntmps123
  go_wp2_with (go_at_call 135; refine (cutLite_ok s _ hs).mono ?_; rintro e w' ⟨rfl,rfl⟩; rw [hst,if_pos rfl])
  go_ret2
  exact ⟨rfl,rfl⟩
theorem fresh_alt (s : ByteArray) (h : startB s = true) : freshB s = (decide (1 ≤ (tl s).size ∧ (tl s).size ≤ 9) && !decide (byt (tl s) 0 = 48) && (bys (tl s)).all digB):=by
 have hs1 : 1 ≤ s.size:=by simp [startB] at h; have:=h.1; omega
 have hb0 : byt s 0 = 36:=by simp [startB] at h; exact h.2
 rw [all_bys,tl_size]
 by_cases h2 : 2 ≤ s.size
 ·have e1 : byt (tl s) 0 = byt s 1:=tl_byt s 0 (by omega)
  have e2 : allB (fun i => digB (byt (tl s) i)) 0 (s.size - 1) = allB (fun i => digB (byt s i)) 1 s.size:=by
   unfold allB
   rw [decide_eq_decide]
   constructor
   ·intro hh j hj h1j
    have:=hh (j - 1) (by omega) (Nat.zero_le _)
    simp only at this
    rw [tl_byt s (j - 1) (by omega),show j - 1 + 1 = j from by omega] at this
    exact this
   ·intro hh j hj _
    simp only
    rw [tl_byt s j hj]
    exact hh (j + 1) (by omega) (by omega)
  have e3 : decide (2 ≤ s.size ∧ s.size ≤ 10) = decide (1 ≤ s.size - 1 ∧ s.size - 1 ≤ 9):=by rw [decide_eq_decide]; omega
  rw [e1,e2]
  simp only [freshB,hb0,e3]
  simp
 ·have e3 : decide (2 ≤ s.size ∧ s.size ≤ 10) = false:=by rw [decide_eq_false_iff_not]; omega
  have e4 : decide (1 ≤ s.size - 1 ∧ s.size - 1 ≤ 9) = false:=by rw [decide_eq_false_iff_not]; omega
  simp only [freshB,e3,e4,Bool.false_and]
theorem fresh_not (s : ByteArray) (h : startB s = false) : freshB s = false:=by
 unfold startB at h
 unfold freshB
 by_cases h1 : 1 ≤ s.size
 ·simp only [h1,decide_true,Bool.true_and] at h
  have : ¬ byt s 0 = 36:=by intro hh; rw [hh] at h; exact absurd h (by decide)
  simp [this]
 ·have : decide (2 ≤ s.size ∧ s.size ≤ 10) = false:=by rw [decide_eq_false_iff_not]; omega
  rw [this]
  simp
set_option maxHeartbeats 400000 in
theorem isFresh_ok (s : ByteArray) (w : World) (hs : Len s.size) :
  Calls Tryz.prog 99 #[.string s] w (Ans (.bool (freshB s)) w):=by
 cases hst : startB s
 ·rw [fresh_not s hst]
  go_enter Tryz.func99,Tryz.ntmps99
  go_wp2_with (go_at_call 123; refine (cutPrefix_ok s _ hs).mono ?_; rintro e w' ⟨rfl,rfl⟩; rw [hst,if_neg (by decide)])
  go_ret
  exact ⟨rfl,Below.refl _ _⟩
 rw [fresh_alt s hst]
 have hls : Len (tl s).size:=by unfold Len at *; rw [tl_size]; omega
 generalize htl : tl s = d at *
 have HT:=hide htl
 have HL:=hide hls
 clear htl
 unfold Len at hls
 by_cases h1 : d.size < 1
 ·have e : (decide (1 ≤ d.size ∧ d.size ≤ 9) && !decide (byt d 0 = 48) && (bys d).all digB) = false:=by
   have : decide (1 ≤ d.size ∧ d.size ≤ 9) = false:=by rw [decide_eq_false_iff_not]; omega
   simp only [this,Bool.false_and]
  rw [e]
  have d1 : decide ((d.size : Int) < 1) = true:=by simp; omega
  clear e
  go_enter Tryz.func99,Tryz.ntmps99
  go_wp2_with (go_at_call 123; refine (cutPrefix_ok s _ hs).mono ?_; rintro e w' ⟨rfl,rfl⟩; rw [hst,if_pos rfl,uh HT])
  go_ret
  exact ⟨rfl,Below.refl _ _⟩
 have d1 : decide ((d.size : Int) < 1) = false:=by simp; omega
 by_cases h2 : 9 < d.size
 ·have e : (decide (1 ≤ d.size ∧ d.size ≤ 9) && !decide (byt d 0 = 48) && (bys d).all digB) = false:=by
   have : decide (1 ≤ d.size ∧ d.size ≤ 9) = false:=by rw [decide_eq_false_iff_not]; omega
   simp only [this,Bool.false_and]
  rw [e]
  have d2 : decide (9 < (d.size : Int)) = true:=by simp; omega
  clear e
  go_enter Tryz.func99,Tryz.ntmps99
  go_wp2_with (go_at_call 123; refine (cutPrefix_ok s _ hs).mono ?_; rintro e w' ⟨rfl,rfl⟩; rw [hst,if_pos rfl,uh HT])
  go_ret
  exact ⟨rfl,Below.refl _ _⟩
 have d2 : decide (9 < (d.size : Int)) = false:=by simp; omega
 have g0 : 0 < d.size:=by omega
 have b0:=byt_lt g0
 by_cases h3 : (d[0].toNat : Int) = 48
 ·have e : (decide (1 ≤ d.size ∧ d.size ≤ 9) && !decide (byt d 0 = 48) && (bys d).all digB) = false:=by simp [b0,h3]
  rw [e]
  have d3 : ((d[0].toNat : Int) == 48) = true:=by rw [beq_iff_eq]; exact h3
  clear e b0 h3
  go_enter Tryz.func99,Tryz.ntmps99
  go_wp2_with (go_at_call 123; refine (cutPrefix_ok s _ hs).mono ?_; rintro e w' ⟨rfl,rfl⟩; rw [hst,if_pos rfl,uh HT])
  go_ret
  exact ⟨rfl,Below.refl _ _⟩
 have d3 : ((d[0].toNat : Int) == 48) = false:=by rw [beq_eq_false_iff_ne]; exact h3
 have e : (decide (1 ≤ d.size ∧ d.size ≤ 9) && !decide (byt d 0 = 48) && (bys d).all digB) = (bys d).all digB:=by
  have : 1 ≤ d.size ∧ d.size ≤ 9:=by omega
  simp [b0,h3,this]
 rw [e]
 clear e b0 h3
 have hcv:=fun w => Lib.run_convert_string_bytes (P:=Tryz.prog) w 9 122 5 d Tryz.underlying9 Tryz.underlying122 Tryz.underlying5
 go_enter Tryz.func99,Tryz.ntmps99
 go_wp2_with fail
 refine (cutPrefix_ok s _ hs).mono ?_
 rintro e w' ⟨rfl,rfl⟩
 rw [hst,if_pos rfl,uh HT]
 go_wp2_with fail
 refine (everyByte_isDigit_ok digB hDigit (bys d) _ _ (bytes_at _ _ d _ (uh HL) (grownCap_ge _ _ _ _))).mono ?_
 rintro e w1 ⟨rfl,hb⟩
 go_wp2
 go_ret
 exact ⟨rfl,(bytes_below _ _ _).trans (hb.mono (bytes_below _ _ _).size)⟩
set_option maxHeartbeats 400000 in
theorem nameOK_ok (s : ByteArray) (w : World) (hs : Len s.size) :
  Calls Tryz.prog 78 #[.string s] w (Ans (.bool (nameB s)) w):=by
 cases hp : plainB s
 ·have e : nameB s = freshB s:=by simp [nameB,hp]
  rw [e]
  clear e
  go_enter Tryz.func78,Tryz.ntmps78
  go_wp2_with fail
  refine (isName_ok s _ hs).mono ?_
  rintro e w1 ⟨rfl,hb⟩
  rw [hp]
  go_wp2_with fail
  refine (isFresh_ok s _ hs).mono ?_
  rintro e w2 ⟨rfl,hb2⟩
  go_wp2
  go_ret
  exact ⟨rfl,hb.trans (hb2.mono hb.size)⟩
 ·have e : nameB s = true:=by simp [nameB,hp]
  rw [e]
  clear e
  go_enter Tryz.func78,Tryz.ntmps78
  go_wp2_with fail
  refine (isName_ok s _ hs).mono ?_
  rintro e w1 ⟨rfl,hb⟩
  rw [hp]
  go_wp2
  go_ret
  exact ⟨rfl,hb⟩
end Go.Proofs.YtjjldnkhadakcaaGreat
