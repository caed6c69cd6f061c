import Derived.Test.YtajabbnlbopcbaaGreatDoorTI1
import Derived.Test.YtajabbnlbopcbaaGreatDoorShelf
namespace Go.Proofs.YtajabbnlbopcbaaGreatDoor
open Go.RowKit
set_option linter.unusedSimpArgs false
set_option linter.unusedVariables false
structure Env (w : World) : Prop where
 ops : w.rangeAt 1 0 opCells
 tab : Lib.TabIs Tryz.prog w "internal/strconv.uint64pow10" .u64 Lib.pow10Tab
 three : 3 ≤ w.heap.size
theorem gPow : Tryz.prog.globalNamed "internal/strconv.uint64pow10" = some 2 := by kernel_rfl
theorem Env.below {B : Nat} {w w' : World} (h : Env w) (hb : Below B w w') (hB : 3 ≤ B) : Env w':=by
 refine ⟨fun j v hv => ?_,?_,Nat.le_trans h.three hb.size⟩
 ·rw [hb.cell (p:=⟨1,_,none⟩) (show 1 < B by omega)]
  exact h.ops j v hv
 ·have:=h.tab
  unfold Lib.TabIs World.var? at *
  rw [gPow] at *
  simp only [Option.bind_some] at *
  rw [hb.block 2 (by omega)]
  exact this
theorem grow_bl (w : World) (k : Nat) (os : Array Obj) : Below w.heap.size w (Sort.grow (w.drewN k) os):=by
 refine ⟨rfl,rfl,rfl,?_,fun i hi => ?_⟩
 ·show w.heap.size ≤ (w.heap ++ os).size
  rw [Array.size_append]
  omega
 ·show (w.heap ++ os)[i]? = w.heap[i]?
  rw [Array.getElem?_append_left hi]
def TextsAt (w : World) (g : Nat) (ts : List ByteArray) : Prop:=w.heap[g]? = some (.cells (ts.map Value.string).toArray 9)
theorem textsAt_new (w : World) (ts : List ByteArray) (cs : Array Value) (h : cs = (ts.map Value.string).toArray) : TextsAt (w.alloc (.cells cs 9)) w.heap.size ts:=by
 subst h
 show (w.heap.push _)[w.heap.size]? = _
 rw [Array.getElem?_push_size]
def TextsOut (t : DItem) (w : World) (e : Ending) (w' : World) : Prop :=
 ∃ g cap,e = .returned (.slice (some ⟨g,0,none⟩) (tsT t).length cap) ∧ w.heap.size ≤ g ∧ TextsAt w' g (tsT t) ∧ Below w.heap.size w w'
theorem textsOut_mk {t : DItem} {w w1 : World} {g n cap : Nat} {cs : Array Value} (ts : List ByteArray) (hts : tsT t = ts) (hn : n = ts.length) (hcs : cs = (ts.map Value.string).toArray) (hg : g = w1.heap.size) (hb : Below w.heap.size w w1) :
  TextsOut t w (.returned (.slice (some ⟨g,0,none⟩) n cap)) (w1.alloc (.cells cs 9)):=by
 subst hts hn hg
 exact ⟨_,cap,rfl,hb.size,textsAt_new _ _ _ hcs,hb.alloc hb.size _⟩
set_option maxHeartbeats 4000000 in
theorem textsAround_ok (t : DItem) (ht : itB t = true) (w : World) (hE : Env w) :
  Calls Tryz.prog 91 #[.agg #[.int .i64 t.op,.int .i64 t.val,.string t.name]] w (TextsOut t w):=by
 have hb0 : Below w.heap.size w (w.alloc (.cells #[.int .i64 t.op,.int .i64 t.val,.string t.name] 88)):=(Below.refl _ _).alloc (Nat.le_refl _) _
 have HE:=hide (hE.below hb0 hE.three)
 obtain ⟨h0,hr,hn⟩:=(it_iff t).1 ht
 have hnm : t.op = 3 ∨ t.op = 23 ∨ t.op = 24 → t.name.size ≤ 40:=fun ho => by
  simp only [nmB,if_pos ho] at hn
  exact name_size _ hn
 have hvl : t.op = 1 ∨ t.op = 21 → -2147483647 ≤ t.val ∧ t.val ≤ 2147483647:=fun ho => by
  simp only [rgB,decide_eq_true_iff,loI,hiI] at hr
  rcases ho with ho | ho <;> simp [ho] at hr <;> omega
 have hbl : t.op = 2 ∨ t.op = 22 ∨ t.op = 23 → t.val = 0 ∨ t.val = 1:=fun ho => by
  simp only [rgB,decide_eq_true_iff,loI,hiI] at hr
  rcases ho with ho | ho | ho <;> simp [ho] at hr <;> omega
 clear hr hn ht hE
 have HB0:=hide hb0
 clear hb0
 obtain ⟨op,val,name⟩:=t
 simp only at *
 by_cases h1 : op = 1
 ·subst h1
  have HL : Hid (tsT ⟨1,val,name⟩ = [dcT val]):=rfl
  go_enter Tryz.func91,Tryz.ntmps91
  have hv:=hvl (by omega)
  have hz:=dcT_size val hv
  have HC:=hide (Tryz.strconv_Itoa val (by omega) (by omega) _ (uh HE).tab)
  go_wp2_with fail
  refine (uh HC).mono ?_
  rintro e w1 ⟨rfl,k1,os1,h1⟩
  have HB1 : Hid (Below w.heap.size w w1):=by
   subst h1
   exact (uh HB0).trans ((grow_bl _ k1 os1).mono (uh HB0).size)
  have hs1 : w.heap.size ≤ w1.heap.size:=(uh HB1).size
  clear h1 HC
  have ed : (⟨(Lib.itoa val).toArray⟩ : ByteArray) = dcT val:=rfl
  rw [ed]
  generalize dcT val = dv at *
  go_wp2
  go_ret
  exact textsOut_mk _ (uh HL) rfl rfl (by simp) (uh HB1)
 by_cases h2 : op = 2
 ·subst h2
  have HL : Hid (tsT ⟨2,val,name⟩ = [flT val]):=rfl
  go_enter Tryz.func91,Tryz.ntmps91
  have HC:=hide (truthText_ok val (w.alloc (.cells #[.int .i64 2,.int .i64 val,.string name] 88)) (hbl (by omega)))
  have hz:=flT_size val
  go_wp2_with fail
  refine (uh HC).mono ?_
  rintro e w1 ⟨rfl,h9⟩
  obtain rfl:=h9.symm
  generalize flT val = fv at *
  go_wp2
  go_ret
  exact textsOut_mk _ (uh HL) rfl rfl (by simp) (uh HB0)
 by_cases h3 : op = 3
 ·subst h3
  have HL : Hid (tsT ⟨3,val,name⟩ = [name]):=rfl
  go_enter Tryz.func91,Tryz.ntmps91
  have hz:=hnm (by omega)
  go_wp2
  go_ret
  exact textsOut_mk _ (uh HL) rfl rfl (by simp) (uh HB0)
 by_cases h4 : op = 4
 ·subst h4
  have HL : Hid (tsT ⟨4,val,name⟩ = [Lneg,Lcl]):=rfl
  go_enter Tryz.func91,Tryz.ntmps91
  go_wp2
  go_ret
  exact textsOut_mk _ (uh HL) rfl rfl (by simp) (uh HB0)
 by_cases h5 : op = 5
 ·subst h5
  have HL : Hid (tsT ⟨5,val,name⟩ = [Lnot,Lcl]):=rfl
  go_enter Tryz.func91,Tryz.ntmps91
  go_wp2
  go_ret
  exact textsOut_mk _ (uh HL) rfl rfl (by simp) (uh HB0)
 by_cases h20 : op = 20
 ·subst h20
  have HL : Hid (tsT ⟨20,val,name⟩ = [Lif,Lthen,Lelse,Lcl]):=rfl
  go_enter Tryz.func91,Tryz.ntmps91
  go_wp2
  go_ret
  exact textsOut_mk _ (uh HL) rfl rfl (by simp) (uh HB0)
 by_cases h21 : op = 21
 ·subst h21
  have HL : Hid (tsT ⟨21,val,name⟩ = [Lop ++ dcT val ++ Lfby,Lcl]):=rfl
  go_enter Tryz.func91,Tryz.ntmps91
  have hv:=hvl (by omega)
  have hz:=dcT_size val hv
  have HC:=hide (Tryz.strconv_Itoa val (by omega) (by omega) _ (uh HE).tab)
  go_wp2_with fail
  refine (uh HC).mono ?_
  rintro e w1 ⟨rfl,k1,os1,h1⟩
  have HB1 : Hid (Below w.heap.size w w1):=by
   subst h1
   exact (uh HB0).trans ((grow_bl _ k1 os1).mono (uh HB0).size)
  have hs1 : w.heap.size ≤ w1.heap.size:=(uh HB1).size
  clear h1 HC
  have ed : (⟨(Lib.itoa val).toArray⟩ : ByteArray) = dcT val:=rfl
  rw [ed]
  generalize dcT val = dv at *
  go_wp2
  go_ret
  exact textsOut_mk _ (uh HL) rfl rfl (by simp) (uh HB1)
 by_cases h22 : op = 22
 ·subst h22
  have HL : Hid (tsT ⟨22,val,name⟩ = [Lop ++ flT val ++ Lfby,Lcl]):=rfl
  go_enter Tryz.func91,Tryz.ntmps91
  have HC:=hide (truthText_ok val (w.alloc (.cells #[.int .i64 22,.int .i64 val,.string name] 88)) (hbl (by omega)))
  have hz:=flT_size val
  go_wp2_with fail
  refine (uh HC).mono ?_
  rintro e w1 ⟨rfl,h9⟩
  obtain rfl:=h9.symm
  generalize flT val = fv at *
  go_wp2
  go_ret
  exact textsOut_mk _ (uh HL) rfl rfl (by simp) (uh HB0)
 by_cases h23 : op = 23
 ·subst h23
  have HL : Hid (tsT ⟨23,val,name⟩ = [Lop,cnT (decide (val = 1)) name ++ Lcl]):=rfl
  go_enter Tryz.func91,Tryz.ntmps91
  have HC:=hide (condText_ok name (decide (val = 1)) (w.alloc (.cells #[.int .i64 23,.int .i64 val,.string name] 88)) (hnm (by omega)))
  have hz:=cnT_size (decide (val = 1)) name (hnm (by omega))
  go_wp2_with fail
  refine (uh HC).mono ?_
  rintro e w1 ⟨rfl,hb1⟩
  have HB1 : Hid (Below w.heap.size w w1):=(uh HB0).trans (hb1.mono (uh HB0).size)
  have hs1 : w.heap.size ≤ w1.heap.size:=(uh HB1).size
  clear hb1 HC
  generalize cnT (decide (val = 1)) name = cv at *
  go_wp2
  go_ret
  exact textsOut_mk _ (uh HL) rfl rfl (by simp) (uh HB1)
 by_cases h24 : op = 24
 ·subst h24
  have HL : Hid (tsT ⟨24,val,name⟩ = [Lmerge ++ name ++ Lsp,Lsp,Lcl]):=rfl
  go_enter Tryz.func91,Tryz.ntmps91
  have hz:=hnm (by omega)
  go_wp2
  go_ret
  exact textsOut_mk _ (uh HL) rfl rfl (by simp) (uh HB0)
 have HL : Hid (tsT ⟨op,val,name⟩ = [Lop,Lsp ++ sgT op ++ Lsp,Lcl]):=by
  show tsT ⟨op,val,name⟩ = [Lop,Lsp ++ sgT op ++ Lsp,Lcl]
  simp only [tsT,if_neg h1,if_neg h2,if_neg h3,if_neg h4,if_neg h5,if_neg h20,if_neg h21,if_neg h22,if_neg h23,if_neg h24]
 have HC:=hide (signText_ok op _ (uh HE).ops)
 have hz:=sgT_size op
 go_enter Tryz.func91,Tryz.ntmps91
 go_wp2_with fail
 refine (uh HC).mono ?_
 rintro e w1 ⟨rfl,hb1⟩
 have HB1 : Hid (Below w.heap.size w w1):=(uh HB0).trans (hb1.mono (uh HB0).size)
 have hs1 : w.heap.size ≤ w1.heap.size:=(uh HB1).size
 clear hb1 HC
 generalize sgT op = sg at *
 go_wp2
 go_ret
 exact textsOut_mk _ (uh HL) rfl rfl rfl (uh HB1)
end Go.Proofs.YtajabbnlbopcbaaGreatDoor
