import Derived.Test.YtfioeoihociilaaGreatData
import Derived.Maps.OwnSet
import Derived.DeepKeys4
import Derived.Test.YtfioeoihociilaaGreatProg
import Derived.KernelRfl
import Derived.WalkLawsBesides
import Derived.Deep.LoopGhost
import Derived.Test.YtfioeoihociilaaGreatFill
namespace Go.Proofs.YtfioeoihociilaaGreat
open Go.RowKit
open Go.Maps (Keyed IsMap)
set_option linter.unusedVariables false
def tokR (v : Value) : Option (DataW Value × List MemPlace):=some (.held v,[])
def MapF (P : Program) (k : TypeId) (z : Value) (w : World) (b n : Nat) (f : ByteArray → Value) : Prop :=
 ∃ D,w.ownsMap P k tokR b n D ∧ ∀ s : ByteArray,D.atKey (.string s.data.toList) (.held z) = .held (f s)
variable {P : Program} {k : TypeId} {z : Value} {w : World} {b n : Nat} {f : ByteArray → Value}
theorem MapF.made (w : World) : MapF P k z (w.alloc (.map #[] 0)) w.heap.size 0 (fun _ => z) :=
 ⟨.map [],World.ownsMap_made w P k tokR,fun s => rfl⟩
theorem MapF.lt (h : MapF P k z w b n f) : b < w.heap.size:=by
 obtain ⟨D,h,_⟩:=h
 exact h.lt
theorem MapF.nocell (h : MapF P k z w b n f) (j : Nat) : w.cell? ⟨b,j,none⟩ = none:=by
 obtain ⟨D,⟨es,clock,h1,_⟩,_⟩:=h
 simp [World.cell?,h1]
theorem MapF.block {w' : World} (h : MapF P k z w b n f) (hb : w'.heap[b]? = w.heap[b]?) : MapF P k z w' b n f:=by
 obtain ⟨D,⟨es,clock,h1,h2,h3,h4⟩,h5⟩:=h
 exact ⟨D,⟨es,clock,hb.trans h1,h2,h3,h4⟩,h5⟩
theorem MapF.below {w' : World} (h : MapF P k z w b n f) (hb : Below w.heap.size w w') : MapF P k z w' b n f:=h.block (hb.block b h.lt)
theorem MapF.mono {n' : Nat} (h : MapF P k z w b n f) (hn : n ≤ n') : MapF P k z w b n' f:=by
 obtain ⟨D,h,h5⟩:=h
 exact ⟨D,h.mono hn,h5⟩
theorem MapF.look {t e : TypeId} (h : MapF P k z w b n f) (hk : P.underlying k = some .string) (ht : P.underlying t = some (.map k e)) (hz : (zeroValue e).run P w = .ok z w) {s : ByteArray} (hs : s.size ≤ maxLen) :
  (Instr.lookup t (.map (some b)) (.string s) false).run P w = .ok (f s) w:=by
 obtain ⟨D,h,h5⟩:=h
 obtain ⟨v,ps,hrun,hv⟩:=h.lookup (Maps.string_keyed hk) ht hz (zd:=.held z) (zp:=[]) rfl (WideMaps.keyOf_string_mk hk hs)
 rw [h5 s] at hv
 unfold tokR at hv
 simp only [Option.some.injEq,Prod.mk.injEq,DataW.held.injEq] at hv
 rw [hrun,hv.1]
theorem bytes_eq {s x : ByteArray} (h : s.data.toList = x.data.toList) : s = x:=by
 cases s; cases x
 simp only [ByteArray.mk.injEq]
 exact Array.toList_inj.1 h
theorem MapF.store {t e : TypeId} (h : MapF P k z w b n f) (hk : P.underlying k = some .string) (ht : P.underlying t = some (.map k e)) (hn : n < maxLen) {s : ByteArray} (hs : s.size ≤ maxLen) (v : Value) :
  ∃ w' f',(Instr.mapUpdate t (.map (some b)) (.string s) v).run P w = .ok () w' ∧ MapF P k z w' b (n + 1) f' ∧ f' s = v ∧ (∀ x,x ≠ s → f' x = f x) ∧ w.grownBy w' (some b):=by
 obtain ⟨D,h,h5⟩:=h
 obtain ⟨w',hrun,ho,hg⟩:=h.update (Maps.string_keyed hk) ht hn (WideMaps.keyOf_string_mk hk hs) (val:=v) (d:=.held v) (ps:=[]) rfl
 refine ⟨w',fun x => if x.data.toList = s.data.toList then v else f x,hrun,⟨_,ho,fun x => ?_⟩,?_,fun x hx => ?_,hg⟩
 ·by_cases hx : x.data.toList = s.data.toList
  ·show _ = DataW.held (if _ then _ else _)
   rw [if_pos hx,hx]
   exact Maps.atKey_put_same h.isMap ((Maps.string_keyed hk).key (WideMaps.keyOf_string_mk hk hs)) _ _
  ·show _ = DataW.held (if _ then _ else _)
   rw [if_neg hx,Maps.atKey_put_other (by simpa using hx)]
   exact h5 x
 ·simp
 ·exact if_neg (fun h => hx (bytes_eq h))
end Go.Proofs.YtfioeoihociilaaGreat
namespace Go.Proofs.YtfioeoihociilaaGreat
open Go.RowKit
open Go.Maps (Keyed IsMap)
set_option linter.unusedVariables false
structure KeyOf (P : Program) (k : TypeId) (α : Type) where
 val : α → Value
 lit : α → Lit
 ok : α → Prop
 law : Keyed P k
 reads : ∀ a,ok a → keyOf P k (val a) = some (lit a)
 inj : ∀ a b,val a = val b → a = b
variable {P : Program} {k : TypeId} {α : Type} (E : KeyOf P k α) {z : Value} {w : World} {b n : Nat} {f : α → Value}
def MapK (z : Value) (w : World) (b n : Nat) (f : α → Value) : Prop :=
 ∃ D,w.ownsMap P k tokR b n D ∧ ∀ a,E.ok a → D.atKey (E.lit a) (.held z) = .held (f a)
variable {E}
theorem MapK.made (w : World) : MapK E z (w.alloc (.map #[] 0)) w.heap.size 0 (fun _ => z) :=
 ⟨.map [],World.ownsMap_made w P k tokR,fun s _ => rfl⟩
theorem MapK.lt (h : MapK E z w b n f) : b < w.heap.size:=by
 obtain ⟨D,h,_⟩:=h
 exact h.lt
theorem MapK.nocell (h : MapK E z w b n f) (j : Nat) : w.cell? ⟨b,j,none⟩ = none:=by
 obtain ⟨D,⟨es,clock,h1,_⟩,_⟩:=h
 simp [World.cell?,h1]
theorem MapK.block {w' : World} (h : MapK E z w b n f) (hb : w'.heap[b]? = w.heap[b]?) : MapK E z w' b n f:=by
 obtain ⟨D,⟨es,clock,h1,h2,h3,h4⟩,h5⟩:=h
 exact ⟨D,⟨es,clock,hb.trans h1,h2,h3,h4⟩,h5⟩
theorem MapK.look {t e : TypeId} (h : MapK E z w b n f) (ht : P.underlying t = some (.map k e)) (hz : (zeroValue e).run P w = .ok z w) {a : α} (ha : E.ok a) :
  (Instr.lookup t (.map (some b)) (E.val a) false).run P w = .ok (f a) w:=by
 obtain ⟨D,h,h5⟩:=h
 obtain ⟨v,ps,hrun,hv⟩:=h.lookup E.law ht hz (zd:=.held z) (zp:=[]) rfl (E.reads a ha)
 rw [h5 a ha] at hv
 unfold tokR at hv
 simp only [Option.some.injEq,Prod.mk.injEq,DataW.held.injEq] at hv
 rw [hrun,hv.1]
theorem MapK.store {t e : TypeId} (h : MapK E z w b n f) (ht : P.underlying t = some (.map k e)) (hn : n < maxLen) {a : α} (ha : E.ok a) (v : Value) :
  ∃ w' f',(Instr.mapUpdate t (.map (some b)) (E.val a) v).run P w = .ok () w' ∧ MapK E z w' b (n + 1) f' ∧ f' a = v ∧ (∀ x,x ≠ a → f' x = f x) ∧ w.grownBy w' (some b):=by
 classical
 obtain ⟨D,h,h5⟩:=h
 obtain ⟨w',hrun,ho,hg⟩:=h.update E.law ht hn (E.reads a ha) (val:=v) (d:=.held v) (ps:=[]) rfl
 refine ⟨w',fun x => if x = a then v else f x,hrun,⟨_,ho,fun x hx => ?_⟩,?_,fun x hx => ?_,hg⟩
 ·by_cases e : x = a
  ·show _ = DataW.held (if _ then _ else _)
   rw [if_pos e,e]
   exact Maps.atKey_put_same h.isMap (E.law.key (E.reads a ha)) _ _
  ·show _ = DataW.held (if _ then _ else _)
   rw [if_neg e,Maps.atKey_put_other (fun hl => e (E.inj _ _ (E.law.inj (E.reads x hx) (show keyOf P k (E.val a) = some (E.lit x) by rw [hl]; exact E.reads a ha))))]
   exact h5 x hx
 ·simp
 ·exact if_neg hx
def condV (c : DCond) : Value:=.agg #[.string c.name,.bool c.on]
def condLit (c:DCond):Lit:=.string (keyBytes [.string c.name.data.toList,.bool c.on])
theorem cond_reads (c : DCond) (h : c.name.size ≤ maxLen):keyOf Tryz.prog 65 (condV c)=some (condLit c):=by
 have cC : Tryz.prog.cellsOf 65 = 2:=by kernel_rfl
 have cS : Tryz.prog.cellsOf 9 = 1:=by kernel_rfl
 have cB : Tryz.prog.cellsOf 4 = 1:=by kernel_rfl
 have hp : decide (0 < Tryz.prog.types.size) = true:=by kernel_rfl
 obtain ⟨m,hm⟩ : ∃ m,Tryz.prog.types.size = m + 1:=⟨Tryz.prog.types.size - 1,by have:=of_decide_eq_true hp; omega⟩
 unfold condV keyOf
 rw [Tryz.underlying65]
 have h1 : Tryz.prog.keyType 65 = true:=by kernel_rfl
 have h2 : Value.formed Tryz.prog 65 (.agg #[.string c.name,.bool c.on]) = true:=by
  simp [Value.formed,Tryz.underlying65,cC]
 simp only [h1,h2,Bool.and_self,if_true]
 rw [hm]
 simp[condLit,Program.keyLits,Tryz.underlying65,Tryz.underlying9,Tryz.underlying4,cC,cS,cB,Value.cells,h]
theorem laidK : laidOutB Tryz.prog = true:=by kernel_rfl
theorem cond_keyed : Keyed Tryz.prog 65:=Maps.Keyed.of_law (deep_law_laid laidK (m:=3) (by decide) (of_decide_eq_true (by kernel_rfl)) (by kernel_rfl) (by rw [Tryz.underlying65]))
def keyCond : KeyOf Tryz.prog 65 DCond where
 val:=condV
 lit:=condLit
 ok:=fun c => c.name.size ≤ maxLen
 law:=cond_keyed
 reads:=cond_reads
 inj:=fun a b h => by
  unfold condV at h
  simp only [Value.agg.injEq,Array.mk.injEq,List.cons.injEq,Value.string.injEq,Value.bool.injEq,and_true] at h
  cases a; cases b
  simp only at h
  obtain ⟨rfl,rfl⟩:=h
  rfl
end Go.Proofs.YtfioeoihociilaaGreat
namespace Go.Proofs.YtfioeoihociilaaGreat
open Go.RowKit
set_option linter.unusedSimpArgs false
set_option linter.unusedVariables false
def letB (c : Int) : Bool:=decide ((97 ≤ c ∧ c ≤ 122) ∨ (65 ≤ c ∧ c ≤ 90))
def digB (c : Int) : Bool:=decide (48 ≤ c ∧ c ≤ 57)
def wordB (c : Int) : Bool:=letB c || digB c || c == 95
theorem ret_bool {a b : Bool} (h : a = b) : Ending.returned (.bool a) = .returned (.bool b):=by rw [h]
set_option maxHeartbeats 400000 in
theorem l1Letter_ok (c : Int) (w : World) (h0 : 0 ≤ c) (h1 : c ≤ 255) :
  Calls Tryz.prog 72 #[.int .u8 c] w fun e w' => e = .returned (.bool (letB c)) ∧ w' = w:=by
 go_enter Tryz.func72,Tryz.ntmps72
 go_wp2
 all_goals
  go_ret
  refine ⟨ret_bool ?_,rfl⟩
  unfold letB
  rw [Bool.eq_iff_iff]
  simp
  try omega
set_option maxHeartbeats 400000 in
theorem l1Digit_ok (c : Int) (w : World) (h0 : 0 ≤ c) (h1 : c ≤ 255) :
  Calls Tryz.prog 74 #[.int .u8 c] w fun e w' => e = .returned (.bool (digB c)) ∧ w' = w:=by
 go_enter Tryz.func74,Tryz.ntmps74
 go_wp2
 all_goals
  go_ret
  refine ⟨ret_bool ?_,rfl⟩
  unfold digB
  rw [Bool.eq_iff_iff]
  simp
  try omega
set_option maxHeartbeats 400000 in
theorem isLetter_ok (c : Int) (w : World) (h0 : 0 ≤ c) (h1 : c ≤ 255) :
  Calls Tryz.prog 106 #[.int .u8 c] w fun e w' => e = .returned (.bool (letB c)) ∧ w' = w:=by
 go_enter Tryz.func106,Tryz.ntmps106
 go_wp2
 all_goals
  go_ret
  refine ⟨ret_bool ?_,rfl⟩
  unfold letB
  rw [Bool.eq_iff_iff]
  simp
  try omega
set_option maxHeartbeats 400000 in
theorem isDigit_ok (c : Int) (w : World) (h0 : 0 ≤ c) (h1 : c ≤ 255) :
  Calls Tryz.prog 111 #[.int .u8 c] w fun e w' => e = .returned (.bool (digB c)) ∧ w' = w:=by
 go_enter Tryz.func111,Tryz.ntmps111
 go_wp2
 all_goals
  go_ret
  refine ⟨ret_bool ?_,rfl⟩
  unfold digB
  rw [Bool.eq_iff_iff]
  simp
  try omega
set_option maxHeartbeats 400000 in
theorem isWordByte_ok (c : Int) (w : World) (h0 : 0 ≤ c) (h1 : c ≤ 255) :
  Calls Tryz.prog 109 #[.int .u8 c] w fun e w' => e = .returned (.bool (wordB c)) ∧ w' = w:=by
 cases hl : letB c <;> cases hd : digB c
 all_goals
  go_enter Tryz.func109,Tryz.ntmps109
  go_wp2_with (first | (go_at_call 106; refine (isLetter_ok _ _ h0 h1).mono ?_; rintro e w' ⟨rfl,rfl⟩; rw [hl]) | (go_at_call 111; refine (isDigit_ok _ _ h0 h1).mono ?_; rintro e w' ⟨rfl,rfl⟩; rw [hd]))
  go_ret
  refine ⟨ret_bool ?_,rfl⟩
  simp [wordB,hl,hd]
def byt (s : ByteArray) (i : Nat) : Int:=if h : i < s.size then (s[i].toNat : Int) else 0
theorem byt_lt {s : ByteArray} {i : Nat} (h : i < s.size) : byt s i = (s[i].toNat : Int):=by simp [byt,h]
theorem u8_bd (x : UInt8) : 0 ≤ (x.toNat : Int) ∧ (x.toNat : Int) ≤ 255:=by have:=x.toNat_lt; omega
def allB (p : Nat → Bool) (i n : Nat) : Bool:=decide (∀ j,j < n → i ≤ j → p j = true)
theorem allB_true {p : Nat → Bool} {i n : Nat} (h : ∀ j,j < n → i ≤ j → p j = true) : allB p i n = true:=by simpa [allB] using h
theorem allB_false {p : Nat → Bool} {i n k : Nat} (h1 : k < n) (h2 : i ≤ k) (h : p k = false) : allB p i n = false:=by
 unfold allB
 rw [decide_eq_false_iff_not]
 intro hh
 have:=hh k h1 h2
 rw [h] at this
 cases this
def freshB (s : ByteArray) : Bool:=decide (2 ≤ s.size ∧ s.size ≤ 10) && decide (byt s 0 = 36) && !decide (byt s 1 = 48) && allB (fun i => digB (byt s i)) 1 s.size
set_option maxHeartbeats 400000 in
theorem l1Fresh_ok (s : ByteArray) (w : World) (hs : Len s.size) :
  Calls Tryz.prog 45 #[.string s] w fun e w' => e = .returned (.bool (freshB s)) ∧ w' = w:=by
 unfold Len at hs
 by_cases h1 : s.size < 2
 ·have e : freshB s = false:=by simp [freshB]; omega
  rw [e]
  have d1 : decide ((s.size : Int) < 2) = true:=by simp; omega
  go_enter Tryz.func45,Tryz.ntmps45
  go_wp2
  go_ret
  exact ⟨rfl,rfl⟩
 have d1 : decide ((s.size : Int) < 2) = false:=by simp; omega
 by_cases h2 : 10 < s.size
 ·have e : freshB s = false:=by simp [freshB]; omega
  rw [e]
  have d2 : decide (10 < (s.size : Int)) = true:=by simp; omega
  go_enter Tryz.func45,Tryz.ntmps45
  go_wp2
  go_ret
  exact ⟨rfl,rfl⟩
 have d2 : decide (10 < (s.size : Int)) = false:=by simp; omega
 have g0 : 0 < s.size:=by omega
 have g1 : 1 < s.size:=by omega
 have b0:=byt_lt g0
 have b1:=byt_lt g1
 by_cases h3 : (s[0].toNat : Int) = 36
 case neg =>
  have e : freshB s = false:=by simp [freshB,b0,h3]
  rw [e]
  have d3 : ((s[0].toNat : Int) != 36) = true:=by rw [bne_iff_ne]; exact h3
  clear b0 b1 e
  go_enter Tryz.func45,Tryz.ntmps45
  go_wp2
  go_ret
  exact ⟨rfl,rfl⟩
 have d3 : ((s[0].toNat : Int) != 36) = false:=by simp [h3]
 by_cases h4 : (s[1].toNat : Int) = 48
 ·have e : freshB s = false:=by simp [freshB,b1,h4]
  rw [e]
  have d4 : ((s[1].toNat : Int) == 48) = true:=by simp [h4]
  clear b0 b1 e h3 h4
  go_enter Tryz.func45,Tryz.ntmps45
  go_wp2
  go_ret
  exact ⟨rfl,rfl⟩
 have d4 : ((s[1].toNat : Int) == 48) = false:=by simp [h4]
 have e : freshB s = allB (fun i => digB (byt s i)) 1 s.size:=by
  simp only [freshB,b0,b1,h3,h4]
  simp
  intro h
  omega
 rw [e]
 clear b0 b1 e h3 h4
 go_enter Tryz.func45,Tryz.ntmps45
 go_wp2
 go_loopg [3] (s.size - 1) (fun g i wr => ∃ (k : Nat),k ≤ s.size ∧ 1 ≤ k ∧ g = s.size - k ∧ i = .int .i64 k ∧ wr = w ∧ ∀ j,j < k → 1 ≤ j → digB (byt s j) = true)
 case atStart => exact ⟨1,by omega,Nat.le_refl _,by omega,rfl,rfl,fun j h1 h2 => by omega⟩
 case round =>
  obtain ⟨k,hk,hk1,hg,rfl,rfl,hall⟩:=hrel
  have HG:=hide hg
  have HA:=hide hall
  clear hg hall
  by_cases hlt : k < s.size
  ·have hbd:=u8_bd s[k]
   cases hd : digB (s[k].toNat : Int)
   ·have F : allB (fun i => digB (byt s i)) 1 s.size = false:=allB_false hlt hk1 (by rw [byt_lt hlt]; exact hd)
    have HF:=hide F
    clear F
    go_wp2_with (go_at_call 74; refine (l1Digit_ok _ _ (by omega) (by omega)).mono ?_; rintro e w' ⟨rfl,rfl⟩; rw [hd])
    go_ret
    exact ⟨ret_bool (uh HF).symm,rfl⟩
   ·have A' : ∀ j,j < k + 1 → 1 ≤ j → digB (byt s j) = true:=by
     intro j h1 h2
     by_cases e : j = k
     ·subst e; rw [byt_lt hlt]; exact hd
     ·exact uh HA j (by omega) h2
    have HA':=hide A'
    clear A'
    go_wp2_with (go_at_call 74; refine (l1Digit_ok _ _ (by omega) (by omega)).mono ?_; rintro e w' ⟨rfl,rfl⟩; rw [hd])
    go_roundg (s.size - (k + 1))
    case measure => have:=uh HG; omega
    case rel => exact ⟨k + 1,by omega,by omega,rfl,by go_num,rfl,uh HA'⟩
  ·have e : k = s.size:=by omega
   have T : allB (fun i => digB (byt s i)) 1 s.size = true:=allB_true (by have:=uh HA; rw [e] at this; exact this)
   have HT:=hide T
   clear T
   go_wp2
   go_ret
   exact ⟨ret_bool (uh HT).symm,rfl⟩
def kws : List ByteArray:=[⟨#[110,111,100,101]⟩,⟨#[114,101,116,117,114,110,115]⟩,⟨#[118,97,114]⟩,⟨#[108,101,116]⟩,⟨#[116,101,108]⟩,⟨#[105,110,116]⟩,⟨#[98,111,111,108]⟩,⟨#[119,104,101,110]⟩,⟨#[119,104,101,110,111,116]⟩,⟨#[105,102]⟩,⟨#[116,104,101,110]⟩,⟨#[101,108,115,101]⟩,⟨#[102,98,121]⟩,⟨#[109,101,114,103,101]⟩,⟨#[116,114,117,101]⟩,⟨#[102,97,108,115,101]⟩,⟨#[97,110,100]⟩,⟨#[111,114]⟩,⟨#[120,111,114]⟩,⟨#[110,111,116]⟩,⟨#[109,111,100]⟩]
def kwB (s : ByteArray) : Bool:=s.toList == [110,111,100,101] || s.toList == [114,101,116,117,114,110,115] || s.toList == [118,97,114] || s.toList == [108,101,116] || s.toList == [116,101,108] || s.toList == [105,110,116] || s.toList == [98,111,111,108] || s.toList == [119,104,101,110] || s.toList == [119,104,101,110,111,116] || s.toList == [105,102] || s.toList == [116,104,101,110] || s.toList == [101,108,115,101] || s.toList == [102,98,121] || s.toList == [109,101,114,103,101] || s.toList == [116,114,117,101] || s.toList == [102,97,108,115,101] || s.toList == [97,110,100] || s.toList == [111,114] || s.toList == [120,111,114] || s.toList == [110,111,116] || s.toList == [109,111,100]
def inB (l : List ByteArray) (s : ByteArray) : Bool:=l.any (fun x => x.toList == s.toList)
theorem kws_small : ∀ x,x ∈ kws → x.size ≤ 7:=by decide
set_option maxHeartbeats 1000000 in
theorem l1Keywords_ok (w : World) :
  Calls Tryz.prog 73 #[] w fun e w' => ∃ v,e = .returned v ∧ SlAt 1 16 RStr w.heap.size w' v kws ∧ Below w.heap.size w w':=by
 go_enter Tryz.func73,Tryz.ntmps73
 go_wp2
 go_ret
 refine ⟨_,rfl,?_,(Below.refl _ _).alloc (Nat.le_refl _) _⟩
 refine ⟨_,_,rfl,by simp [Len,kws],by simp [Len,kws],fun i hi => ⟨_,_,[.string kws[i]],rfl,Nat.le_refl _,by simp,rfl,?_,rfl,?_⟩⟩
 ·intro j hj
  have hj0 : j = 0:=by simpa using hj
  subst hj0
  have hc : ∀ (i : Nat) (hi : i < kws.length),(kws.map Value.string).toArray[i]? = some (.string kws[i]):=by
   intro i hi
   simp [hi]
  rw [World.cell?_alloc_at _ _ _ _ rfl]
  simp only [Nat.zero_add,Nat.mul_one,Nat.add_zero]
  exact hc i hi
 ·have:=kws_small kws[i] (List.getElem_mem hi)
  unfold Len
  omega
set_option maxHeartbeats 1000000 in
theorem isKeyword_ok (s : ByteArray) (w : World) :
  Calls Tryz.prog 107 #[.string s] w fun e w' => e = .returned (.bool (kwB s)) ∧ w' = w:=by
 go_enter Tryz.func107,Tryz.ntmps107
 go_wp2
 all_goals
  go_ret
  refine ⟨ret_bool ?_,rfl⟩
  simp_all [kwB]
set_option maxHeartbeats 400000 in
theorem l1In_ok (l : List ByteArray) (v : Value) (s : ByteArray) (w : World) (hv : SlAt 1 16 RStr 0 w v l) :
  Calls Tryz.prog 25 #[v,.string s] w fun e w' => e = .returned (.bool (inB l s)) ∧ w' = w:=by
 obtain ⟨a,cap,rfl,_,hn,hx⟩:=hv
 unfold Len at hn
 have HX:=hide hx
 clear hx
 go_enter Tryz.func25,Tryz.ntmps25
 go_wp2
 go_loopg [6,9] l.length (fun g x i wr => ∃ (k : Nat),k ≤ l.length ∧ g = l.length - k ∧ i = .int .i64 k ∧ wr = w ∧ ∀ j (h : j < l.length),j < k → (l[j].toList == s.toList) = false)
 case atStart => exact ⟨0,by omega,by omega,rfl,rfl,fun j _ h2 => by omega⟩
 case round =>
  obtain ⟨k,hk,hg,rfl,rfl,hall⟩:=hrel
  have HG:=hide hg
  have HA:=hide hall
  clear hg hall
  by_cases hlt : k < l.length
  ·obtain ⟨b,o,cs,rfl,_,hb,hcs,hc,hR⟩:=uh HX k hlt
   obtain ⟨rfl,hsn⟩:=hR
   have c0:=hc 0 (by simp)
   simp only [Nat.mul_one,Nat.add_zero,List.getElem_cons_zero,List.getElem_cons_succ] at c0
   clear hc hcs
   cases he : (l[k].toList == s.toList)
   ·have A' : ∀ j (h : j < l.length),j < k + 1 → (l[j].toList == s.toList) = false:=by
     intro j h h1
     by_cases e : j = k
     ·subst e; exact he
     ·exact uh HA j h (by omega)
    have HA':=hide A'
    clear A'
    go_wp2
    go_roundg (l.length - (k + 1))
    case measure => have:=uh HG; omega
    case rel => exact ⟨k + 1,by omega,rfl,by go_num,rfl,uh HA'⟩
   ·have T : inB l s = true:=by
     unfold inB
     rw [List.any_eq_true]
     exact ⟨l[k],List.getElem_mem hlt,he⟩
    have HT:=hide T
    clear T
    go_wp2
    go_ret
    exact ⟨ret_bool (uh HT).symm,rfl⟩
  ·have e : k = l.length:=by omega
   have T : inB l s = false:=by
    unfold inB
    rw [List.any_eq_false]
    intro x hx
    obtain ⟨j,hj,rfl⟩:=List.getElem_of_mem hx
    rw [uh HA j hj (by omega)]
    decide
   have HT:=hide T
   clear T
   go_wp2
   go_ret
   exact ⟨ret_bool (uh HT).symm,rfl⟩
theorem inB_kws (s : ByteArray) : inB kws s = kwB s:=by
 simp only [inB,kws,kwB,List.any_cons,List.any_nil,ByteArray.toList_eq,Bool.or_false,BEq.comm (a:=s.data.toList),Bool.or_assoc]
def plainB (s : ByteArray) : Bool:=decide (1 ≤ s.size ∧ s.size ≤ 40) && letB (byt s 0) && !kwB s && allB (fun i => wordB (byt s i)) 0 s.size
def Ans (v : Value) (w : World) (e : Ending) (w' : World) : Prop:=e = .returned v ∧ Below w.heap.size w w'
set_option maxHeartbeats 1000000 in
theorem l1Plain_ok (s : ByteArray) (w : World) (hs : Len s.size) :
  Calls Tryz.prog 44 #[.string s] w (Ans (.bool (plainB s)) w):=by
 unfold Len at hs
 by_cases h1 : s.size < 1
 ·have e : plainB s = false:=by simp [plainB]; omega
  rw [e]
  have d1 : decide ((s.size : Int) < 1) = true:=by simp; omega
  clear e
  go_enter Tryz.func44,Tryz.ntmps44
  go_wp2
  go_ret
  exact ⟨rfl,Below.refl _ _⟩
 have d1 : decide ((s.size : Int) < 1) = false:=by simp; omega
 by_cases h2 : 40 < s.size
 ·have e : plainB s = false:=by simp [plainB]; omega
  rw [e]
  have d2 : decide (40 < (s.size : Int)) = true:=by simp; omega
  clear e
  go_enter Tryz.func44,Tryz.ntmps44
  go_wp2
  go_ret
  exact ⟨rfl,Below.refl _ _⟩
 have d2 : decide (40 < (s.size : Int)) = false:=by simp; omega
 have g0 : 0 < s.size:=by omega
 have b0:=byt_lt g0
 have hb0:=u8_bd s[0]
 cases hl : letB (s[0].toNat : Int)
 ·have e : plainB s = false:=by simp [plainB,b0,hl]
  rw [e]
  clear e b0
  go_enter Tryz.func44,Tryz.ntmps44
  go_wp2_with (go_at_call 72; refine (l1Letter_ok _ _ (by omega) (by omega)).mono ?_; rintro e w' ⟨rfl,rfl⟩; rw [hl])
  go_ret
  exact ⟨rfl,Below.refl _ _⟩
 cases hkw : kwB s
 ·have e : plainB s = allB (fun i => wordB (byt s i)) 0 s.size:=by
   have : 1 ≤ s.size ∧ s.size ≤ 40:=by omega
   simp [plainB,b0,hl,hkw,this]
  rw [e]
  clear e b0
  have HK:=hide hkw
  clear hkw
  go_enter Tryz.func44,Tryz.ntmps44
  go_wp2_with fail
  refine (l1Letter_ok _ _ (by omega) (by omega)).mono ?_
  rintro e w' ⟨rfl,rfl⟩
  rw [hl]
  go_wp2_with fail
  refine (l1Keywords_ok _).mono ?_
  rintro e w1 ⟨v,rfl,hv,hbl⟩
  obtain ⟨av,cv,rfl⟩:=hv.shape
  have HV:=hide hv
  clear hv
  go_wp2_with fail
  refine (l1In_ok kws _ s _ ?_).mono ?_
  ·exact (uh HV).lower RStr_lowers (Nat.zero_le _)
  rintro e w1 ⟨rfl,rfl⟩
  rw [inB_kws,uh HK]
  clear HV
  go_wp2
  go_loopg [3] s.size (fun g i wr => ∃ (k : Nat),k ≤ s.size ∧ g = s.size - k ∧ i = .int .i64 k ∧ wr = w1 ∧ ∀ j,j < k → 0 ≤ j → wordB (byt s j) = true)
  case atStart => exact ⟨0,by omega,by omega,rfl,rfl,fun j h1 h2 => by omega⟩
  case round =>
   obtain ⟨k,hk,hg,rfl,rfl,hall⟩:=hrel
   have HG:=hide hg
   have HA:=hide hall
   clear hg hall
   by_cases hlt : k < s.size
   ·have hbd:=u8_bd s[k]
    have W : wordB (byt s k) = (letB (s[k].toNat : Int) || digB (s[k].toNat : Int) || (s[k].toNat : Int) == 95):=by rw [byt_lt hlt]; rfl
    cases hl : letB (s[k].toNat : Int) <;> cases hd : digB (s[k].toNat : Int) <;> cases hu : ((s[k].toNat : Int) == 95)
    case false.false.false =>
     have hu' : ((s[k].toNat : Int) != 95) = true:=by rw [bne,hu]; rfl
     have F : allB (fun i => wordB (byt s i)) 0 s.size = false:=allB_false hlt (Nat.zero_le _) (by rw [W,hl,hd,hu]; rfl)
     have HF:=hide F
     clear F W
     go_wp2_with (first | (go_at_call 72; refine (l1Letter_ok _ _ (by omega) (by omega)).mono ?_; rintro e w' ⟨rfl,rfl⟩; rw [hl]) | (go_at_call 74; refine (l1Digit_ok _ _ (by omega) (by omega)).mono ?_; rintro e w' ⟨rfl,rfl⟩; rw [hd]))
     go_ret
     exact ⟨ret_bool (uh HF).symm,hbl⟩
    all_goals
     have hu' : ((s[k].toNat : Int) != 95) = !((s[k].toNat : Int) == 95):=rfl
     rw [hu] at hu'
     have A' : ∀ j,j < k + 1 → 0 ≤ j → wordB (byt s j) = true:=by
      intro j h1 h2
      by_cases e : j = k
      ·subst e; rw [W,hl,hd,hu]; rfl
      ·exact uh HA j (by omega) h2
     have HA':=hide A'
     clear A' W
     go_wp2_with (first | (go_at_call 72; refine (l1Letter_ok _ _ (by omega) (by omega)).mono ?_; rintro e w' ⟨rfl,rfl⟩; rw [hl]) | (go_at_call 74; refine (l1Digit_ok _ _ (by omega) (by omega)).mono ?_; rintro e w' ⟨rfl,rfl⟩; rw [hd]))
     go_roundg (s.size - (k + 1))
     case measure => have:=uh HG; omega
     case rel => exact ⟨k + 1,by omega,rfl,by go_num,rfl,uh HA'⟩
   ·have e : k = s.size:=by omega
    have T : allB (fun i => wordB (byt s i)) 0 s.size = true:=allB_true (by have:=uh HA; rw [e] at this; exact this)
    have HT:=hide T
    clear T
    go_wp2
    go_ret
    exact ⟨ret_bool (uh HT).symm,hbl⟩
 ·have e : plainB s = false:=by simp [plainB,hkw]
  rw [e]
  clear e b0
  have HK:=hide hkw
  clear hkw
  go_enter Tryz.func44,Tryz.ntmps44
  go_wp2_with fail
  refine (l1Letter_ok _ _ (by omega) (by omega)).mono ?_
  rintro e w' ⟨rfl,rfl⟩
  rw [hl]
  go_wp2_with fail
  refine (l1Keywords_ok _).mono ?_
  rintro e w1 ⟨v,rfl,hv,hbl⟩
  obtain ⟨av,cv,rfl⟩:=hv.shape
  have HV:=hide hv
  clear hv
  go_wp2_with fail
  refine (l1In_ok kws _ s _ ?_).mono ?_
  ·exact (uh HV).lower RStr_lowers (Nat.zero_le _)
  rintro e w1 ⟨rfl,rfl⟩
  rw [inB_kws,uh HK]
  go_wp2
  go_ret
  exact ⟨rfl,hbl⟩
def nameB (s : ByteArray) : Bool:=plainB s || freshB s
set_option maxHeartbeats 1000000 in
theorem l1Name_ok (s : ByteArray) (w : World) (hs : Len s.size) :
  Calls Tryz.prog 20 #[.string s] w (Ans (.bool (nameB s)) w):=by
 cases hp : plainB s
 ·have e : nameB s = freshB s:=by simp [nameB,hp]
  rw [e]
  clear e
  go_enter Tryz.func20,Tryz.ntmps20
  go_wp2_with fail
  refine (l1Plain_ok s _ hs).mono ?_
  rintro e w1 ⟨rfl,hb⟩
  rw [hp]
  go_wp2_with fail
  refine (l1Fresh_ok s _ hs).mono ?_
  rintro e w' ⟨rfl,rfl⟩
  go_wp2
  go_ret
  exact ⟨rfl,hb⟩
 ·have e : nameB s = true:=by simp [nameB,hp]
  rw [e]
  clear e
  go_enter Tryz.func20,Tryz.ntmps20
  go_wp2_with fail
  refine (l1Plain_ok s _ hs).mono ?_
  rintro e w1 ⟨rfl,hb⟩
  rw [hp]
  go_wp2
  go_ret
  exact ⟨rfl,hb⟩
theorem typeOK_ok (t : Int) (w : World) : Calls Tryz.prog 83 #[.int .i64 t] w (fun e w' => e = .returned (.bool (decide (t = 1 ∨ t = 2))) ∧ w' = w):=by
 by_cases h1 : t = 1
 ·subst h1
  go_enter Tryz.func83,Tryz.ntmps83
  go_wp2
  go_ret
  exact ⟨rfl,rfl⟩
 ·by_cases h2 : t = 2
  ·subst h2
   go_enter Tryz.func83,Tryz.ntmps83
   go_wp2
   go_ret
   exact ⟨rfl,rfl⟩
  ·rw [decide_eq_false (fun h => by rcases h with h | h; exact h1 h; exact h2 h)]
   have b1 : (t == 1) = false:=by rw [beq_eq_false_iff_ne]; exact h1
   have b2 : (t == 2) = false:=by rw [beq_eq_false_iff_ne]; exact h2
   go_enter Tryz.func83,Tryz.ntmps83
   go_wp2
   go_ret
   exact ⟨rfl,rfl⟩
end Go.Proofs.YtfioeoihociilaaGreat
