import Derived.Test.YtajabbnlbopcbaaGreatDoorPF3
import Derived.Deep.MidRow
import Derived.BigRegion
import Derived.Test.YtajabbnlbopcbaaGreatDoorVQ1
import Derived.Test.YtajabbnlbopcbaaGreatDoorEvery
import Derived.Test.YtajabbnlbopcbaaGreatDoorLX2
import Derived.Test.YtajabbnlbopcbaaGreatDoorOwnF
namespace Go.Proofs.YtajabbnlbopcbaaGreatDoor
open Go.RowKit
set_option linter.unusedSimpArgs false
set_option linter.unusedVariables false
theorem condText_ok (nm : ByteArray) (on : Bool) (w : World) (h : nm.size ≤ 40) :
  Calls Tryz.prog 62 #[.agg #[.string nm,.bool on]] w (Ans (.string (cnT on nm)) w):=by
 go_enter Tryz.func62,Tryz.ntmps62
 cases on
 all_goals
  go_wp2
  go_ret
  exact ⟨rfl,(Below.refl _ _).alloc (Nat.le_refl _) _⟩
theorem truthText_ok (v : Int) (w : World) (h : v = 0 ∨ v = 1) :
  Calls Tryz.prog 105 #[.int .i64 v] w fun e w' => e = .returned (.string (flT v)) ∧ w' = w:=by
 rcases h with rfl | rfl
 all_goals
  go_enter Tryz.func105,Tryz.ntmps105
  go_wp2
  go_ret
  exact ⟨rfl,rfl⟩
def opTab : List (ByteArray × Int × Int):=[(⟨#[111,114]⟩,1,18),(⟨#[120,111,114]⟩,1,19),(⟨#[97,110,100]⟩,2,17),(⟨#[61]⟩,3,11),(⟨#[60,62]⟩,3,12),(⟨#[60]⟩,3,13),(⟨#[60,61]⟩,3,14),(⟨#[62]⟩,3,15),(⟨#[62,61]⟩,3,16),(⟨#[43]⟩,4,6),(⟨#[45]⟩,4,7),(⟨#[42]⟩,5,8),(⟨#[47]⟩,5,9),(⟨#[109,111,100]⟩,5,10)]
def opCs (x : ByteArray × Int × Int) : List Value:=[.string x.1,.int .i64 x.2.1,.int .i64 x.2.2]
def opCells : List Value:=opTab.flatMap opCs
def opAt (k : Nat) : ByteArray × Int × Int:=opTab.getD k (⟨#[]⟩,0,0)
theorem u158 : Tryz.prog.underlying 146 = some (.array 14 145):=by kernel_rfl
theorem i158 : (Tryz.prog.info? 146).map (·.size) = some opCells.length:=by kernel_rfl
theorem part_op0 (w : World) : (Instr.index 146 (.agg opCells.toArray) (.int .i64 ((0 : Nat) : Int))).run Tryz.prog w = .ok (.agg #[.string (opAt 0).1,.int .i64 (opAt 0).2.1,.int .i64 (opAt 0).2.2]) w:=by kernel_rfl
theorem part_op1 (w : World) : (Instr.index 146 (.agg opCells.toArray) (.int .i64 ((1 : Nat) : Int))).run Tryz.prog w = .ok (.agg #[.string (opAt 1).1,.int .i64 (opAt 1).2.1,.int .i64 (opAt 1).2.2]) w:=by kernel_rfl
theorem part_op2 (w : World) : (Instr.index 146 (.agg opCells.toArray) (.int .i64 ((2 : Nat) : Int))).run Tryz.prog w = .ok (.agg #[.string (opAt 2).1,.int .i64 (opAt 2).2.1,.int .i64 (opAt 2).2.2]) w:=by kernel_rfl
theorem part_op3 (w : World) : (Instr.index 146 (.agg opCells.toArray) (.int .i64 ((3 : Nat) : Int))).run Tryz.prog w = .ok (.agg #[.string (opAt 3).1,.int .i64 (opAt 3).2.1,.int .i64 (opAt 3).2.2]) w:=by kernel_rfl
theorem part_op4 (w : World) : (Instr.index 146 (.agg opCells.toArray) (.int .i64 ((4 : Nat) : Int))).run Tryz.prog w = .ok (.agg #[.string (opAt 4).1,.int .i64 (opAt 4).2.1,.int .i64 (opAt 4).2.2]) w:=by kernel_rfl
theorem part_op5 (w : World) : (Instr.index 146 (.agg opCells.toArray) (.int .i64 ((5 : Nat) : Int))).run Tryz.prog w = .ok (.agg #[.string (opAt 5).1,.int .i64 (opAt 5).2.1,.int .i64 (opAt 5).2.2]) w:=by kernel_rfl
theorem part_op6 (w : World) : (Instr.index 146 (.agg opCells.toArray) (.int .i64 ((6 : Nat) : Int))).run Tryz.prog w = .ok (.agg #[.string (opAt 6).1,.int .i64 (opAt 6).2.1,.int .i64 (opAt 6).2.2]) w:=by kernel_rfl
theorem part_op7 (w : World) : (Instr.index 146 (.agg opCells.toArray) (.int .i64 ((7 : Nat) : Int))).run Tryz.prog w = .ok (.agg #[.string (opAt 7).1,.int .i64 (opAt 7).2.1,.int .i64 (opAt 7).2.2]) w:=by kernel_rfl
theorem part_op8 (w : World) : (Instr.index 146 (.agg opCells.toArray) (.int .i64 ((8 : Nat) : Int))).run Tryz.prog w = .ok (.agg #[.string (opAt 8).1,.int .i64 (opAt 8).2.1,.int .i64 (opAt 8).2.2]) w:=by kernel_rfl
theorem part_op9 (w : World) : (Instr.index 146 (.agg opCells.toArray) (.int .i64 ((9 : Nat) : Int))).run Tryz.prog w = .ok (.agg #[.string (opAt 9).1,.int .i64 (opAt 9).2.1,.int .i64 (opAt 9).2.2]) w:=by kernel_rfl
theorem part_op10 (w : World) : (Instr.index 146 (.agg opCells.toArray) (.int .i64 ((10 : Nat) : Int))).run Tryz.prog w = .ok (.agg #[.string (opAt 10).1,.int .i64 (opAt 10).2.1,.int .i64 (opAt 10).2.2]) w:=by kernel_rfl
theorem part_op11 (w : World) : (Instr.index 146 (.agg opCells.toArray) (.int .i64 ((11 : Nat) : Int))).run Tryz.prog w = .ok (.agg #[.string (opAt 11).1,.int .i64 (opAt 11).2.1,.int .i64 (opAt 11).2.2]) w:=by kernel_rfl
theorem part_op12 (w : World) : (Instr.index 146 (.agg opCells.toArray) (.int .i64 ((12 : Nat) : Int))).run Tryz.prog w = .ok (.agg #[.string (opAt 12).1,.int .i64 (opAt 12).2.1,.int .i64 (opAt 12).2.2]) w:=by kernel_rfl
theorem part_op13 (w : World) : (Instr.index 146 (.agg opCells.toArray) (.int .i64 ((13 : Nat) : Int))).run Tryz.prog w = .ok (.agg #[.string (opAt 13).1,.int .i64 (opAt 13).2.1,.int .i64 (opAt 13).2.2]) w:=by kernel_rfl
theorem part_op : ∀ (k : Nat) (_ : k < 14) (w : World),(Instr.index 146 (.agg opCells.toArray) (.int .i64 k)).run Tryz.prog w = .ok (.agg #[.string (opAt k).1,.int .i64 (opAt k).2.1,.int .i64 (opAt k).2.2]) w
 | 0,_,w => part_op0 w
 | 1,_,w => part_op1 w
 | 2,_,w => part_op2 w
 | 3,_,w => part_op3 w
 | 4,_,w => part_op4 w
 | 5,_,w => part_op5 w
 | 6,_,w => part_op6 w
 | 7,_,w => part_op7 w
 | 8,_,w => part_op8 w
 | 9,_,w => part_op9 w
 | 10,_,w => part_op10 w
 | 11,_,w => part_op11 w
 | 12,_,w => part_op12 w
 | 13,_,w => part_op13 w
 | k + 14,h,_ => absurd h (by omega)
theorem sgT_at : ∀ k,k < 14 → sgT (opAt k).2.2 = (opAt k).1:=by decide
theorem sgT_no (op : Int) (h : ∀ j,j < 14 → (opAt j).2.2 ≠ op) : sgT op = ⟨#[]⟩:=by
 have h0 : ¬ op = 18:=fun e => h 0 (by decide) e.symm
 have h1 : ¬ op = 19:=fun e => h 1 (by decide) e.symm
 have h2 : ¬ op = 17:=fun e => h 2 (by decide) e.symm
 have h3 : ¬ op = 11:=fun e => h 3 (by decide) e.symm
 have h4 : ¬ op = 12:=fun e => h 4 (by decide) e.symm
 have h5 : ¬ op = 13:=fun e => h 5 (by decide) e.symm
 have h6 : ¬ op = 14:=fun e => h 6 (by decide) e.symm
 have h7 : ¬ op = 15:=fun e => h 7 (by decide) e.symm
 have h8 : ¬ op = 16:=fun e => h 8 (by decide) e.symm
 have h9 : ¬ op = 6:=fun e => h 9 (by decide) e.symm
 have h10 : ¬ op = 7:=fun e => h 10 (by decide) e.symm
 have h11 : ¬ op = 8:=fun e => h 11 (by decide) e.symm
 have h12 : ¬ op = 9:=fun e => h 12 (by decide) e.symm
 have h13 : ¬ op = 10:=fun e => h 13 (by decide) e.symm
 simp only [sgT,if_neg h0,if_neg h1,if_neg h2,if_neg h3,if_neg h4,if_neg h5,if_neg h6,if_neg h7,if_neg h8,if_neg h9,if_neg h10,if_neg h11,if_neg h12,if_neg h13]
theorem wpList_index {P : Program} {ops : Array Oper} {rest : List Oper} {op : Oper} {a : Act} {w : World} {Q : Exit → Act → World → Prop} (hgd : op.guard = none) (ty : TypeId) (x i : Operand) (ho : op.op = .index ty x i)
  (vx vi v : Value) (hx : a.eval x = vx) (hi : a.eval i = vi) (hr : (Instr.index ty vx vi).run P w = .ok v w) (h : wpList P ops Q rest (a.put op.dst v) w) : wpList P ops Q (op :: rest) a w :=
 wpList_plain hgd fun _ hK => by
  unfold Oper.wp execOp
  simp only [ho,hx,hi,Sem.run_bind,hr,Result.andThen_ok,Sem.run_pure]
  exact hK _ _ h
set_option maxHeartbeats 1000000 in
theorem signText_ok (op : Int) (w : World) (h : w.rangeAt 1 0 opCells) :
  Calls Tryz.prog 106 #[.int .i64 op] w (Ans (.string (sgT op)) w):=by
 have HH:=hide h
 have HP:=hide part_op
 clear h
 go_enter Tryz.func106,Tryz.ntmps106
 go_wp2_with (refine wpList_load_mid rfl 146 (.global 1) rfl 1 0 rfl opCells (.array 14 145) (uh HH) u158 rfl i158 ?_)
 generalize opCells.toArray = OC at *
 go_loopg [6] 14 (fun g i wr => ∃ (k : Nat),k ≤ 14 ∧ g = 14 - k ∧ i = .int .i64 k ∧ (∀ j,j < k → (opAt j).2.2 ≠ op) ∧ Below w.heap.size w wr)
 case atStart => exact ⟨0,Nat.zero_le _,rfl,rfl,fun j hj => absurd hj (Nat.not_lt_zero _),Below.refl _ _⟩
 case round =>
  obtain ⟨k,hk,hg,rfl,hno,hbl⟩:=hrel
  have HG:=hide hg
  have HN:=hide hno
  clear hg hno
  by_cases hlt : k < 14
  ·have HI:=hide (uh HP k hlt)
   have HS:=hide (sgT_at k hlt)
   have HE : Hid (opAt k = opAt k):=rfl
   by_cases he : (opAt k).2.2 = op
   ·subst he
    generalize opAt k = p at *
    obtain ⟨s,l,o⟩:=p
    simp only at *
    go_wp2_with (refine wpList_index rfl 146 (.tmp 5) (.tmp 6) rfl (.agg OC) (.int .i64 k) _ rfl rfl (uh HI _) ?_)
    go_ret
    exact ⟨ret_str (uh HS).symm,hbl.alloc hbl.size _⟩
   ·have HN2 : Hid (∀ j,j < k + 1 → (opAt j).2.2 ≠ op):=fun j hj => by
     by_cases hjk : j = k
     ·subst hjk; exact he
     ·exact uh HN j (by omega)
    generalize hq : opAt k = p at *
    obtain ⟨s,l,o⟩:=p
    simp only at *
    have HQ:=hide hq
    clear hq
    go_wp2_with (refine wpList_index rfl 146 (.tmp 5) (.tmp 6) rfl (.agg OC) (.int .i64 k) _ rfl rfl (uh HI _) ?_)
    go_roundg (14 - (k + 1))
    case measure => have:=uh HG; omega
    case rel => exact ⟨k + 1,by omega,rfl,by go_num,uh HN2,hbl.alloc hbl.size _⟩
  ·have e : k = 14:=by omega
   subst e
   go_wp2
   go_ret
   exact ⟨ret_str (sgT_no op (uh HN)).symm,hbl⟩
end Go.Proofs.YtajabbnlbopcbaaGreatDoor
namespace Go.Proofs.YtajabbnlbopcbaaGreatDoor
open Go.RowKit
set_option linter.unusedSimpArgs false
set_option linter.unusedVariables false
structure Tr (r : Nat) (w w' : World) : Prop where
 os : w'.os = w.os
 tape : w'.tape = w.tape
 output : w'.output = w.output
 size : w.heap.size ≤ w'.heap.size
 block : ∀ k,k < w.heap.size → k ≠ r → w'.heap[k]? = w.heap[k]?
theorem Tr.refl (r : Nat) (w : World) : Tr r w w:=⟨rfl,rfl,rfl,Nat.le_refl _,fun _ _ _ => rfl⟩
theorem Tr.trans {r : Nat} {a b c : World} (h : Tr r a b) (k : Tr r b c) : Tr r a c :=
 ⟨k.os.trans h.os,k.tape.trans h.tape,k.output.trans h.output,Nat.le_trans h.size k.size,fun i hi hs => (k.block i (Nat.lt_of_lt_of_le hi h.size) hs).trans (h.block i hi hs)⟩
theorem Tr.of_below {r : Nat} {w w' : World} (h : Below w.heap.size w w') : Tr r w w':=⟨h.os,h.tape,h.output,h.size,fun k hk _ => h.block k hk⟩
theorem Tr.setCell (r : Nat) (w : World) (i : Nat) (u : Value) : Tr r w (w.setCell ⟨r,i,none⟩ u) :=
 ⟨rfl,rfl,rfl,by simp [World.setCell],fun k hk hn => Below.heap_setCell _ _ _ _ hn⟩
theorem Tr.below {r : Nat} {w w' : World} (h : Tr r w w') {B : Nat} (hB : B ≤ w.heap.size) (hr : B ≤ r) : Below B w w':=⟨h.os,h.tape,h.output,h.size,fun k hk => h.block k (by omega) (by omega)⟩
theorem Tr.blk {r : Nat} {w w' : World} (h : Tr r w w') {g : Nat} {e : TypeId} {cs : Array Value} (hb : BlkAt w g e cs) (hn : g ≠ r) : BlkAt w' g e cs:=(h.block g hb.lt hn).trans hb
theorem bytes_toListA {x s : ByteArray} : (x.toList == s.toList) = decide (x = s):=by
 rw [Bool.eq_iff_iff,beq_iff_eq,decide_eq_true_iff,ByteArray.toList_eq,ByteArray.toList_eq]
 exact ⟨fun h => ByteArray.ext (Array.toList_inj.1 h),fun h => by rw [h]⟩
def RTok (_ : Nat) (_ : World) (cs : List Value) (t : TK) : Prop:=cs = [.int .i64 t.1.kind,.string t.1.text,.int .i64 t.1.val,.int .i64 t.2]
theorem RTok_kept : KeptBy RTok:=fun _ _ _ _ _ _ h => h
structure Ps (ts : List TK) (W0 : World) (q : Nat) (tv : Value) (w : World) (L : List Pc) (iv : Value) : Prop where
 toks : SlAt 4 40 RTok 0 W0 tv ts
 low : W0.heap.size ≤ q
 few : ts.length ≤ 20001
 good : W0.rangeAt 1 0 opCells ∧ 2 ≤ W0.heap.size
 old : Below W0.heap.size W0 w
 at_ : ∃ i : Nat,BlkAt w q 83 #[tv,.int .i64 i,iv] ∧ (ts.drop i).map (·.1) = L ∧ i ≤ ts.length
section
variable {ts : List TK} {W0 : World} {q : Nat} {tv iv : Value} {w : World} {L : List Pc}
theorem Ps.lt (h : Ps ts W0 q tv w L iv) : q < w.heap.size:=by
 obtain ⟨i,hb,_⟩:=h.at_
 exact hb.lt
theorem Ps.below {w' : World} (h : Ps ts W0 q tv w L iv) (hb : Below w.heap.size w w') : Ps ts W0 q tv w' L iv:=by
 obtain ⟨i,h1,h2,h3⟩:=h.at_
 exact ⟨h.toks,h.low,h.few,h.good,h.old.trans (hb.mono h.old.size),i,h1.below hb h1.lt,h2,h3⟩
theorem drop_next {ts : List TK} {i : Nat} {t : Pc} {L : List Pc} (h : (ts.drop i).map (·.1) = t :: L) : i < ts.length ∧ (ts.drop (i + 1)).map (·.1) = L:=by
 have hl : i < ts.length:=by
  have:=congrArg List.length h
  simp at this
  omega
 refine ⟨hl,?_⟩
 rw [List.drop_eq_getElem_cons hl,List.map_cons] at h
 exact (List.cons.inj h).2
theorem drop_at {ts : List TK} {i k : Nat} {L : List Pc} (h : (ts.drop i).map (·.1) = L) (hk : k < L.length) : ∃ h9 : i + k < ts.length,ts[i + k].1 = L[k]:=by
 have hl : i + k < ts.length:=by
  rw [← h] at hk
  simp at hk
  omega
 refine ⟨hl,?_⟩
 subst h
 simp
set_option maxHeartbeats 4000000 in
theorem ahead_ok (h : Ps ts W0 q tv w L iv) (k : Nat) (hk : k ≤ 2) (hkl : k < L.length) :
  Calls Tryz.prog 48 #[.pointer (some ⟨q,0,none⟩),.int .i64 k] w fun e w' => ∃ p9 : Int,e = .returned (.agg #[.int .i64 (L[k].kind : Int),.string L[k].text,.int .i64 L[k].val,.int .i64 p9]) ∧ Below w.heap.size w w':=by
 obtain ⟨i0,hblk,hdr,hil⟩:=h.at_
 obtain ⟨hi,ei⟩:=drop_at hdr hkl
 have hr:=hblk.lt
 have hfew:=h.few
 rw [← ei]
 obtain ⟨PO,hPO⟩ : ∃ PO : Ending → World → Prop,PO = fun e w' => ∃ p9 : Int,e = .returned (.agg #[.int .i64 (ts[i0 + k].1.kind : Int),.string ts[i0 + k].1.text,.int .i64 ts[i0 + k].1.val,.int .i64 p9]) ∧ Below w.heap.size w w':=⟨_,rfl⟩
 rw [← hPO]
 obtain ⟨W,hW⟩ : ∃ W,W = w.alloc (.cells #[.int .i64 0,.string ⟨#[]⟩,.int .i64 0,.int .i64 0] 105):=⟨_,rfl⟩
 have P0 : Below w.heap.size w W:=hW ▸ (Below.refl _ _).alloc (Nat.le_refl _) _
 have hb : BlkAt W q _ _:=hblk.below P0 hr
 have ht:=h.toks.stays RTok_kept (h.old.trans (P0.mono h.old.size))
 obtain ⟨a,cap,rfl,_,_,hx⟩:=ht
 obtain ⟨b,o,cs,rfl,_,hbl,_,hc,hR⟩:=hx (i0 + k) hi
 clear hx
 have hR' : cs = [.int .i64 ts[i0 + k].1.kind,.string ts[i0 + k].1.text,.int .i64 ts[i0 + k].1.val,.int .i64 ts[i0 + k].2]:=hR
 subst hR'
 have d0:=hc 0 (by simp)
 have d1:=hc 1 (by simp)
 have d2:=hc 2 (by simp)
 have d3:=hc 3 (by simp)
 have c0:=hb.cell (i:=0) (v:=.slice (some ⟨b,o,none⟩) ts.length cap) rfl
 have c1:=hb.cell (i:=1) (v:=.int .i64 i0) rfl
 simp only [List.getElem_cons_zero,List.getElem_cons_succ,Nat.add_zero] at d0 d1 d2 d3
 generalize ts[i0 + k] = t at *
 obtain ⟨⟨kd,tx,vl⟩,ps⟩:=t
 simp only at *
 have HPO:=hide hPO
 clear h hdr ei hkl hPO hblk
 generalize ts.length = N at *
 have hsz : W.heap.size = w.heap.size + 1:=by simp [hW]
 have hz : BlkAt W w.heap.size 105 #[.int .i64 0,.string ⟨#[]⟩,.int .i64 0,.int .i64 0]:=hW ▸ blk_box _ _ _
 have z0:=hz.cell (i:=0) (v:=.int .i64 0) rfl
 have z1:=hz.cell (i:=1) (v:=.string ⟨#[]⟩) rfl
 have z2:=hz.cell (i:=2) (v:=.int .i64 0) rfl
 have z3:=hz.cell (i:=3) (v:=.int .i64 0) rfl
 have g0:=hz.free 0
 have g1:=hz.free 1
 have g2:=hz.free 2
 have g3:=hz.free 3
 have HZ:=hide hz
 have HW:=hide hW
 have HP0:=hide P0
 have e1 : min ((i0 : Int) + k) ((N : Int) - 1) = ((i0 + k : Nat) : Int):=by omega
 have e3 : ((i0 + k : Nat) : Int) < N:=by omega
 have hp9 : i0 ≤ 20001:=by omega
 clear hz P0 hb hc hR hW hil
 go_enter Tryz.func48,Tryz.ntmps48
 go_wp2
 rw [← uh HW]
 go_region
 have hB:=blk_set4 (x0:=.int .i64 kd) (x1:=.string tx) (x2:=.int .i64 vl) (x3:=.int .i64 ps) (uh HZ) (uh HP0) (Nat.le_refl _)
 have hB2:=hB.2.drew
 have hB1 : BlkAt ((((W.setCell ⟨w.heap.size,0,none⟩ (.int .i64 kd)).setCell ⟨w.heap.size,1,none⟩ (.string tx)).setCell ⟨w.heap.size,2,none⟩ (.int .i64 vl)).setCell ⟨w.heap.size,3,none⟩ (.int .i64 ps)).drew w.heap.size 105 #[.int .i64 kd,.string tx,.int .i64 vl,.int .i64 ps]:=hB.1
 clear hB
 generalize ((((W.setCell _ _).setCell _ _).setCell _ _).setCell _ _).drew = X at hB1 hB2 ⊢
 have cc0:=hB1.cell (i:=0) (v:=.int .i64 kd) rfl
 have cc1:=hB1.cell (i:=1) (v:=.string tx) rfl
 have cc2:=hB1.cell (i:=2) (v:=.int .i64 vl) rfl
 have cc3:=hB1.cell (i:=3) (v:=.int .i64 ps) rfl
 have HX:=hide hB2
 clear hB1 hB2
 go_wp2
 refine bodyPost_ret (v:=.agg #[.int .i64 kd,.string tx,.int .i64 vl,.int .i64 ps]) (by simp [results,Tryz.results48,go_sem,cc0,cc1,cc2,cc3]) rfl ?_
 rw [uh HPO]
 exact ⟨ps,rfl,uh HX⟩
theorem itok_field0 (k : Int) (t : ByteArray) (v p : Int) (w : World) : (Instr.field 105 (.agg #[.int .i64 k,.string t,.int .i64 v,.int .i64 p]) 0).run Tryz.prog w = .ok (.int .i64 k) w:=by
 simp [Instr.field,run_underlying Tryz.underlying105,part,asAgg,go_sem]
theorem itok_field1 (k : Int) (t : ByteArray) (v p : Int) (w : World) : (Instr.field 105 (.agg #[.int .i64 k,.string t,.int .i64 v,.int .i64 p]) 1).run Tryz.prog w = .ok (.string t) w:=by
 simp [Instr.field,run_underlying Tryz.underlying105,part,asAgg,go_sem]
theorem ahead0_ok {t : Pc} (h : Ps ts W0 q tv w (t :: L) iv) :
  Calls Tryz.prog 48 #[.pointer (some ⟨q,0,none⟩),.int .i64 0] w fun e w' => ∃ p9 : Int,e = .returned (.agg #[.int .i64 (t.kind : Int),.string t.text,.int .i64 t.val,.int .i64 p9]) ∧ Below w.heap.size w w':=ahead_ok h 0 (by omega) (by simp)
set_option maxHeartbeats 1000000 in
theorem sees_ok {t : Pc} (h : Ps ts W0 q tv w (t :: L) iv) (W : ByteArray) : Calls Tryz.prog 74 #[.pointer (some ⟨q,0,none⟩),.string W] w (Ans (.bool (decide (t.text = W))) w):=by
 have HA:=hide (ahead0_ok h)
 have hfd:=itok_field1
 clear h
 obtain ⟨kd,tx,vl⟩:=t
 simp only at *
 go_enter Tryz.func74,Tryz.ntmps74
 go_wp2_with (go_at_call 48; refine (uh HA).mono ?_; rintro e w1 ⟨p9,rfl,hb⟩; have HB:=hide hb; clear hb)
 go_ret
 refine ⟨ret_bool (by simp [bytes_toListA]),uh HB⟩
theorem Ps.step {t : Pc} (h : Ps ts W0 q tv w (t :: L) iv) : ∃ i : Nat,i ≤ 20001 ∧ BlkAt w q 83 #[tv,.int .i64 i,iv] ∧ ∀ X,Tr q w X → BlkAt X q 83 #[tv,.int .i64 ((i : Int) + 1),iv] → Ps ts W0 q tv X L iv:=by
 obtain ⟨i,h1,h2,h3⟩:=h.at_
 have hn:=drop_next h2
 have hf:=h.few
 refine ⟨i,by omega,h1,fun X hT hX => ⟨h.toks,h.low,h.few,h.good,h.old.trans (hT.below h.old.size h.low),i + 1,?_,hn.2,by omega⟩⟩
 have e : ((i + 1 : Nat) : Int) = (i : Int) + 1:=by omega
 rw [e]
 exact hX
set_option maxHeartbeats 1000000 in
theorem takes_no {t : Pc} (h : Ps ts W0 q tv w (t :: L) iv) {W : ByteArray} (hW : ¬ t.text = W) : Calls Tryz.prog 77 #[.pointer (some ⟨q,0,none⟩),.string W] w (Ans (.bool false) w):=by
 have hc:=sees_ok h W
 rw [decide_eq_false hW] at hc
 have HI:=hide hc
 clear h hc hW
 go_enter Tryz.func77,Tryz.ntmps77
 go_wp2_with (go_at_call 74; refine (uh HI).mono ?_; rintro e w1 ⟨rfl,hb⟩; have HB:=hide hb; clear hb)
 go_ret
 exact ⟨rfl,uh HB⟩
def PsAns (ts : List TK) (W0 : World) (q : Nat) (tv iv : Value) (w : World) (v : Value) (L : List Pc) (e : Ending) (w' : World) : Prop:=e = .returned v ∧ Ps ts W0 q tv w' L iv ∧ Tr q w w'
set_option maxHeartbeats 1000000 in
theorem takes_yes {t : Pc} (h : Ps ts W0 q tv w (t :: L) iv) {W : ByteArray} (hW : t.text = W) : Calls Tryz.prog 77 #[.pointer (some ⟨q,0,none⟩),.string W] w (PsAns ts W0 q tv iv w (.bool true) L):=by
 have hc:=sees_ok h W
 rw [decide_eq_true hW] at hc
 have HI:=hide hc
 obtain ⟨i,hi,hblk,hst⟩:=h.step
 have HST:=hide hst
 have HBK:=hide hblk
 have hlt:=hblk.lt
 clear h hc hW hst hblk
 go_enter Tryz.func77,Tryz.ntmps77
 go_wp2_with (go_at_call 74; refine (uh HI).mono ?_; rintro e w1 ⟨rfl,hb⟩; have HB:=hide hb; have hb1:=(uh HBK).below hb hlt; have c1:=hb1.cell (i:=1) (v:=.int .i64 i) rfl; have f1:=hb1.free 1; have HB1:=hide hb1; clear hb hb1)
 go_ret
 have ht : Tr q w (w1.setCell ⟨q,1,none⟩ (.int .i64 ((i : Int) + 1))):=(Tr.of_below (uh HB)).trans (Tr.setCell q w1 1 _)
 exact ⟨rfl,uh HST _ ht ((uh HB1).set 1 _),ht⟩
set_option maxHeartbeats 1000000 in
theorem want_ok {t : Pc} (h : Ps ts W0 q tv w (t :: L) iv) {W : ByteArray} (hW : t.text = W) : Calls Tryz.prog 72 #[.pointer (some ⟨q,0,none⟩),.string W] w (PsAns ts W0 q tv iv w (.tuple #[]) L):=by
 have HT:=hide (takes_yes h hW)
 clear h hW
 go_enter Tryz.func72,Tryz.ntmps72
 go_wp2_with fail
 refine (uh HT).mono ?_
 rintro e w1 ⟨rfl,hP,hT⟩
 have HP:=hide hP
 have HT1:=hide hT
 clear hP hT HT
 go_wp2
 first | go_end0 | skip
 exact ⟨rfl,uh HP,uh HT1⟩
set_option maxHeartbeats 1000000 in
theorem name_ok {t : Pc} (h : Ps ts W0 q tv w (t :: L) iv) (hk : t.kind = 1) (hz : t.text.size ≤ 20000) : Calls Tryz.prog 73 #[.pointer (some ⟨q,0,none⟩)] w (PsAns ts W0 q tv iv w (.string t.text) L):=by
 have HA:=hide (ahead0_ok h)
 obtain ⟨i,hi,hblk,hst⟩:=h.step
 have HST:=hide hst
 have HBK:=hide hblk
 have hlt:=hblk.lt
 clear h hst hblk
 obtain ⟨kd,tx,vl⟩:=t
 simp only at *
 subst hk
 have e1 : ((1 : Nat) : Int) = 1:=rfl
 rw [e1] at HA
 clear e1
 obtain ⟨PO,hPO⟩ : ∃ PO : Ending → World → Prop,PO = PsAns ts W0 q tv iv w (.string tx) L:=⟨_,rfl⟩
 rw [← hPO]
 have HPO:=hide hPO
 clear hPO
 go_enter Tryz.func73,Tryz.ntmps73
 go_wp2_with fail
 refine (uh HA).mono ?_
 rintro e w1 ⟨p9,rfl,hb1⟩
 have hA : Below w.heap.size w (w1.alloc (.cells #[.int .i64 1,.string tx,.int .i64 vl,.int .i64 p9] 105)):=hb1.alloc hb1.size _
 have hbx:=blk_box w1 #[.int .i64 1,.string tx,.int .i64 vl,.int .i64 p9] 105
 have d0:=hbx.cell (i:=0) (v:=.int .i64 1) rfl
 have hne : w1.heap.size ≠ q:=by have:=hb1.size; omega
 have hbq:=(uh HBK).below hA hlt
 have ht : Tr q (w1.alloc (.cells #[.int .i64 1,.string tx,.int .i64 vl,.int .i64 p9] 105)) ((w1.alloc (.cells #[.int .i64 1,.string tx,.int .i64 vl,.int .i64 p9] 105)).setCell ⟨q,1,none⟩ (.int .i64 ((i : Int) + 1))):=Tr.setCell _ _ _ _
 have hTR:=(Tr.of_below (r:=q) hA).trans ht
 have HP2:=hide (uh HST _ hTR (hbq.set 1 _))
 have c1:=hbq.cell (i:=1) (v:=.int .i64 i) rfl
 have f1:=hbq.free 1
 have l1:=hbq.lt
 have d1:=(ht.blk hbx hne).cell (i:=1) (v:=.string tx) rfl
 have HTR:=hide hTR
 have HCL:=hide (clone_ok tx ((w1.alloc (.cells #[.int .i64 1,.string tx,.int .i64 vl,.int .i64 p9] 105)).setCell ⟨q,1,none⟩ (.int .i64 ((i : Int) + 1))) (by unfold Len; omega))
 clear hb1 hA hbx hne ht hTR hbq HA
 go_wp2_with fail
 refine (uh HCL).mono ?_
 rintro e w3 ⟨rfl,hb3⟩
 have HP3:=hide ((uh HP2).below hb3)
 have HT3:=hide ((uh HTR).trans (Tr.of_below hb3))
 clear hb3 HCL
 go_wp2
 first | go_ret | skip
 rw [uh HPO]
 exact ⟨rfl,uh HP3,uh HT3⟩
end
end Go.Proofs.YtajabbnlbopcbaaGreatDoor
namespace Go.Proofs.YtajabbnlbopcbaaGreatDoor
open Go.RowKit
set_option linter.unusedSimpArgs false
set_option linter.unusedVariables false
structure CuAt (code : List Int) (W0 : World) (cb : Nat) (cv : Value) (w : World) (c : Cur) : Prop where
 cod : SlAt 1 1 RByte 0 W0 cv code
 few : code.length ≤ 1048576
 low : W0.heap.size ≤ cb
 old : Below W0.heap.size W0 w
 blk : BlkAt w cb 36 #[cv,.int .i64 c.at_,.int .i64 c.room,.int .i64 c.seed]
theorem tmodN (a b : Nat) : (a : Int).tmod (b : Int) = ((a % b : Nat) : Int):=rfl
theorem tdivN (a b : Nat) : (a : Int).tdiv (b : Int) = ((a / b : Nat) : Int):=rfl
section
variable {code : List Int} {W0 : World} {cb : Nat} {cv : Value} {w : World} {c : Cur}
theorem CuAt.below {w' : World} (h : CuAt code W0 cb cv w c) (hb : Below w.heap.size w w') : CuAt code W0 cb cv w' c :=
 ⟨h.cod,h.few,h.low,h.old.trans (hb.mono h.old.size),h.blk.below hb h.blk.lt⟩
theorem CuAt.go {w' : World} {c' : Cur} (h : CuAt code W0 cb cv w c) (ht : Tr cb w w') (hb : BlkAt w' cb 36 #[cv,.int .i64 c'.at_,.int .i64 c'.room,.int .i64 c'.seed]) : CuAt code W0 cb cv w' c' :=
 ⟨h.cod,h.few,h.low,h.old.trans (ht.below h.old.size h.low),hb⟩
def CuAns (code : List Int) (W0 : World) (cb : Nat) (cv : Value) (w : World) (v : Value) (c' : Cur) (e : Ending) (w' : World) : Prop:=e = .returned v ∧ CuAt code W0 cb cv w' c' ∧ Tr cb w w'
set_option maxHeartbeats 4000000 in
theorem byte_ok (h : CuAt code W0 cb cv w c) (hok : okB 1 c) : Calls Tryz.prog 22 #[.pointer (some ⟨cb,0,none⟩)] w (CuAns code W0 cb cv w (.int .i64 (byF code c).1) (byF code c).2):=by
 obtain ⟨at_,room,seed⟩:=c
 obtain ⟨k1,k2,k3,k4⟩:=hok
 simp only at k1 k2 k3 k4
 have hblk:=h.blk
 obtain ⟨ca,cc,rfl⟩:=h.cod.shape
 have hfew:=h.few
 obtain ⟨W1,hW1⟩ : ∃ W1,W1 = w.setCell ⟨cb,1,none⟩ (.int .i64 ((at_ : Int) + 1)):=⟨_,rfl⟩
 have hT1 : Tr cb w W1:=hW1 ▸ Tr.setCell _ _ _ _
 have hb1 : BlkAt W1 cb 36 #[.slice ca code.length cc,.int .i64 ((at_ : Int) + 1),.int .i64 room,.int .i64 seed]:=by rw [hW1]; exact hblk.set 1 _
 have e1 : ((at_ + 1 : Nat) : Int) = (at_ : Int) + 1:=by omega
 have c1:=hblk.cell (i:=1) (v:=.int .i64 at_) rfl
 have f1:=hblk.free 1
 have l1:=hblk.lt
 have d0:=hb1.cell (i:=0) (v:=.slice ca code.length cc) rfl
 have d1:=hb1.cell (i:=1) (v:=.int .i64 ((at_ : Int) + 1)) rfl
 have d3:=hb1.cell (i:=3) (v:=.int .i64 seed) rfl
 have g3:=hb1.free 3
 have m1:=hb1.lt
 obtain ⟨PO,hPO⟩ : ∃ PO : Ending → World → Prop,PO = CuAns code W0 cb (.slice ca code.length cc) w (.int .i64 (byF code ⟨at_,room,seed⟩).1) (byF code ⟨at_,room,seed⟩).2:=⟨_,rfl⟩
 rw [← hPO]
 have HW1:=hide hW1
 have HPO:=hide hPO
 by_cases hA : 100 + 40 * code.length < at_ + 1
 ·have HF : Hid (PO (.returned (.int .i64 0)) W1.drew):=by
   show PO _ _
   rw [hPO]
   have e : byF code ⟨at_,room,seed⟩ = (0,⟨at_ + 1,room,seed⟩):=by unfold byF; rw [if_pos hA]
   rw [e]
   exact ⟨rfl,h.go (hT1.trans (Tr.of_below (Below.refl _ _).drew)) (by simp only [e1]; exact hb1),hT1.trans (Tr.of_below (Below.refl _ _).drew)⟩
  have dA : decide (100 + 40 * (code.length : Int) < (at_ : Int) + 1) = true:=by simp; omega
  clear h hPO hT1 hb1 hW1 hblk hA e1
  generalize code.length = N at *
  go_enter Tryz.func22,Tryz.ntmps22
  go_wp2
  rw [← uh HW1]
  go_region
  go_wp2
  first | go_ret | skip
  exact uh HF
 ·have dA : decide (100 + 40 * (code.length : Int) < (at_ : Int) + 1) = false:=by simp; omega
  by_cases hB : code.length < at_ + 1
  ·have dB : decide ((code.length : Int) < (at_ : Int) + 1) = true:=by simp; omega
   obtain ⟨sd,hsd,hsd2⟩ : ∃ sd : Nat,sd = (seed * 1103515245 + 12345) % 2147483648 ∧ sd < 2147483648:=⟨_,rfl,by omega⟩
   have hsI : ((seed : Int) * 1103515245 + 12345).tmod 2147483648 = (sd : Int):=by
    have e9 : (seed : Int) * 1103515245 + 12345 = ((seed * 1103515245 + 12345 : Nat) : Int):=by omega
    rw [e9,hsd]
    exact tmodN _ 2147483648
   obtain ⟨by_,hby,hby2⟩ : ∃ b : Nat,b = sd / 65536 % 256 ∧ b < 256:=⟨_,rfl,by omega⟩
   have hbI : ((sd : Int).tdiv 65536).tmod 256 = (by_ : Int):=by rw [hby]; exact (congrArg (fun z => Int.tmod z 256) (tdivN sd 65536)).trans (tmodN _ 256)
   obtain ⟨W2,hW2⟩ : ∃ W2,W2 = (W1.setCell ⟨cb,3,none⟩ (.int .i64 sd)).drew.drew:=⟨_,rfl⟩
   have hT2 : Tr cb W1 W2:=(Tr.setCell cb W1 3 (.int .i64 sd)).trans (hW2 ▸ Tr.of_below (Below.refl _ _).drew.drew)
   have hb2 : BlkAt W2 cb 36 #[.slice ca code.length cc,.int .i64 ((at_ : Int) + 1),.int .i64 room,.int .i64 sd]:=by rw [hW2]; exact hb1.set 3 _
   have q3:=hb2.cell (i:=3) (v:=.int .i64 sd) rfl
   have HF : Hid (PO (.returned (.int .i64 ((sd : Int) / 65536 % 256))) W2):=by
    show PO _ _
    rw [hPO,show (sd : Int) / 65536 % 256 = (by_ : Int) by omega]
    have e : byF code ⟨at_,room,seed⟩ = (by_,⟨at_ + 1,room,sd⟩):=by unfold byF; rw [if_neg hA,if_pos hB,hby,hsd]
    rw [e]
    exact ⟨rfl,h.go (hT1.trans hT2) (by simp only [e1]; exact hb2),hT1.trans hT2⟩
   have HW2:=hide hW2
   rw [hW2] at q3
   clear h hPO hT1 hb1 hW1 hblk hA hB e1 hsd hby hT2 hb2 hW2
   generalize code.length = N at *
   go_enter Tryz.func22,Tryz.ntmps22
   go_wp2
   rw [← uh HW1]
   go_region
   go_wp2
   go_region
   go_wp2
   first | go_ret | skip
   rw [← uh HW2]
   exact uh HF
  ·have dB : decide ((code.length : Int) < (at_ : Int) + 1) = false:=by simp; omega
   have hlt : at_ < code.length:=by omega
   obtain ⟨a9,c9,he9,_,_,hx⟩:=h.cod
   simp only [Value.slice.injEq] at he9
   obtain ⟨rfl,_,rfl⟩:=he9
   obtain ⟨b,o,cl,rfl,_,hb,hcs,hc,hR⟩:=hx at_ hlt
   obtain ⟨rfl,hx0,hx1⟩:=hR
   have c0:=hc 0 (by simp)
   simp only [Nat.add_zero,Nat.mul_one,List.getElem_cons_zero] at c0
   have hold:=h.old
   have hlow:=h.low
   have hTo : Below W0.heap.size W0 W1:=hold.trans (hT1.below hold.size hlow)
   have k0 : W1.cell? ⟨b,o + at_,none⟩ = some (.int .u8 code[at_]):=(hTo.cell (p:=⟨b,o + at_,none⟩) hb).trans c0
   have hgd : code.getD at_ 0 = code[at_]:=by rw [List.getD_eq_getElem?_getD,List.getElem?_eq_getElem hlt]; rfl
   obtain ⟨bt,hbt⟩ : ∃ bt : Nat,code[at_] = (bt : Int):=⟨code[at_].toNat,by omega⟩
   have hbt2 : bt ≤ 255:=by omega
   obtain ⟨sd,hsd,hsd2⟩ : ∃ sd : Nat,sd = (seed * 31 + bt + 7) % 2147483648 ∧ sd < 2147483648:=⟨_,rfl,by omega⟩
   have hsI : ((seed : Int) * 31 + (bt : Int) + 7).tmod 2147483648 = (sd : Int):=by
    have e9 : (seed : Int) * 31 + (bt : Int) + 7 = ((seed * 31 + bt + 7 : Nat) : Int):=by omega
    rw [e9,hsd]
    exact tmodN _ 2147483648
   rw [hbt] at k0
   obtain ⟨W2,hW2⟩ : ∃ W2,W2 = (W1.setCell ⟨cb,3,none⟩ (.int .i64 sd)).drew.drew.drew:=⟨_,rfl⟩
   have hT2 : Tr cb W1 W2:=(Tr.setCell cb W1 3 (.int .i64 sd)).trans (hW2 ▸ Tr.of_below (Below.refl _ _).drew.drew.drew)
   have hb2 : BlkAt W2 cb 36 #[.slice (some ⟨b,o,none⟩) code.length cc,.int .i64 ((at_ : Int) + 1),.int .i64 room,.int .i64 sd]:=by rw [hW2]; exact hb1.set 3 _
   have k0' : W2.cell? ⟨b,o + at_,none⟩ = some (.int .u8 bt):=((hTo.trans (hT2.below (by have:=hTo.size; omega) hlow)).cell (p:=⟨b,o + at_,none⟩) hb).trans (c0.trans (by rw [hbt]))
   have q0:=hb2.cell (i:=0) (v:=.slice (some ⟨b,o,none⟩) code.length cc) rfl
   have q1:=hb2.cell (i:=1) (v:=.int .i64 ((at_ : Int) + 1)) rfl
   have HF : Hid (∀ X,Below W2.heap.size W2 X → PO (.returned (.int .i64 bt)) X):=fun X hX => by
    rw [hPO]
    have e : byF code ⟨at_,room,seed⟩ = (bt,⟨at_ + 1,room,sd⟩):=by
     unfold byF
     rw [if_neg hA,if_neg hB]
     simp only [hgd,hbt,Int.toNat_natCast,hsd]
    rw [e]
    refine ⟨rfl,h.go ((hT1.trans hT2).trans (Tr.of_below hX)) (by simp only [e1]; exact hb2.below hX hb2.lt),(hT1.trans hT2).trans (Tr.of_below hX)⟩
   have HW2:=hide hW2
   have ea : (at_ : Int) + 1 - 1 = at_:=by omega
   have hatI : (at_ : Int) < (code.length : Int):=by omega
   clear h hPO hT1 hb1 hW1 hblk hA hB e1 hsd hT2 hb2 hW2 hx hc hcs c0 hTo hold hlow hgd hbt hx0 hx1
   generalize code.length = N at *
   go_enter Tryz.func22,Tryz.ntmps22
   go_wp2
   rw [← uh HW1]
   go_region
   go_wp2
   go_region
   go_wp2
   go_region
   rw [← uh HW2]
   go_wp2
   go_region
   go_wp2
   first | go_ret | skip
   exact uh HF _ (Below.refl _ _).drew
set_option maxHeartbeats 1000000 in
theorem pick_ok (h : CuAt code W0 cb cv w c) (n : Nat) (hn : n ≤ 256) (hok : okB 1 c) : Calls Tryz.prog 9 #[.pointer (some ⟨cb,0,none⟩),.int .i64 n] w (CuAns code W0 cb cv w (.int .i64 (pkF code n c).1) (pkF code n c).2):=by
 by_cases h1 : n ≤ 1
 ·have e : pkF code n c = (0,c):=by unfold pkF; rw [if_pos h1]
  rw [e]
  have d1 : decide ((n : Int) ≤ 1) = true:=by simp; omega
  have HH:=hide h
  clear h e
  go_enter Tryz.func9,Tryz.ntmps9
  go_wp2
  first | go_ret | skip
  exact ⟨rfl,uh HH,Tr.refl _ _⟩
 ·have e : pkF code n c = ((byF code c).1 % n,(byF code c).2):=by unfold pkF; rw [if_neg h1]
  rw [e]
  have HB:=hide (byte_ok h hok)
  have d1 : decide ((n : Int) ≤ 1) = false:=by simp; omega
  have d2 : decide ((n : Int) ≤ 256) = true:=by simp; omega
  have hn0 : ¬ (n : Int) = 0:=by omega
  generalize byF code c = x at *
  obtain ⟨b,c'⟩:=x
  simp only at *
  obtain ⟨m,hm,hmn⟩ : ∃ m : Nat,m = b % n ∧ m < n:=⟨_,rfl,Nat.mod_lt _ (by omega)⟩
  have hmI : ((b : Int)).tmod (n : Int) = (m : Int):=by rw [hm]; exact tmodN b n
  rw [← hm]
  clear hm
  clear h e h1
  go_enter Tryz.func9,Tryz.ntmps9
  go_wp2_with fail
  refine (uh HB).mono ?_
  rintro e w1 ⟨rfl,hc1,ht1⟩
  have HC:=hide (And.intro hc1 ht1)
  clear hc1 ht1
  go_wp2
  first | go_ret | skip
  exact ⟨rfl,(uh HC).1,(uh HC).2⟩
end
end Go.Proofs.YtajabbnlbopcbaaGreatDoor
namespace Go.Proofs.YtajabbnlbopcbaaGreatDoor
open Go.RowKit
set_option linter.unusedSimpArgs false
set_option linter.unusedVariables false
theorem cond_len {w : World} {v : Value} {xs : List DCond} (h : SlAt 2 24 RCond 0 w v xs) : ∀ x,x ∈ xs → Len x.name.size:=by
 obtain ⟨a,cap,rfl,_,_,hx⟩:=h
 intro x hm
 obtain ⟨i,hi,rfl⟩:=List.getElem_of_mem hm
 obtain ⟨_,_,_,_,_,_,_,_,hR⟩:=hx i hi
 exact hR.2
theorem RCond_f : ∀ (w : World) (cs : List Value) (x : DCond),RCond 0 w cs x → cs = elCond.f x:=fun _ _ _ h => h.1
theorem OwnV.atL {P : Program} {α : Type} {E : ElF P α} {R : Nat → World → List Value → α → Prop} {w : World} {base : Nat} {v : Value} {xs : List α} (h : OwnV E w base v xs) (hR : ∀ x,x ∈ xs → R base w (E.f x) x) (hn : xs.length * E.byt ≤ 140737488355328) : SlAt E.sz E.byt R base w v xs:=by
 obtain ⟨a,cap,hv,h1,h2,h3⟩:=h.at (R:=fun _ w cs x => R base w cs x) hR hn
 refine ⟨a,cap,hv,h1,h2,fun i hi => ?_⟩
 obtain ⟨b,o,cs,e1,e2,e3⟩:=h3 i hi
 subst e1
 exact ⟨b,o,cs,rfl,h.block b (by rw [hv]; rfl),e3⟩
set_option maxHeartbeats 1000000 in
theorem l1Longer_lo (ks : List DCond) (u : Value) (nm : ByteArray) (on : Bool) (w : World) (hu : SlAt 2 24 RCond 0 w u ks) (hn : Len nm.size) (hl : ks.length ≤ 1000) :
  Calls Tryz.prog 49 #[u,.string nm,.bool on] w fun e w' => ∃ v,e = .returned v ∧ SlAt 2 24 RCond w.heap.size w' v (ks ++ [⟨nm,on⟩]) ∧ Below w.heap.size w w':=by
 have HLN:=hide (cond_len hu)
 have HN:=hide hn
 have P0 : Below w.heap.size w (w.alloc (.cells #[] 86)):=(Below.refl _ _).alloc (Nat.le_refl _) _
 have HP0:=hide P0
 have HU:=hide (hu.stays RCond_kept P0)
 have HO:=hide (OwnV.start (E:=elCond) w w.heap.size (Nat.le_refl _))
 obtain ⟨a,cap,rfl⟩:=hu.shape
 clear hu P0 hn
 go_enter Tryz.func49,Tryz.ntmps49
 go_wp2_with (at_builtin; go_must (refine wpList_append_allF elCond RCond_f _ rfl _ _ rfl w.heap.size w.heap.size 0 [] rfl (uh HO) _ rfl ks (uh HU) (by simp [elCond]; omega) (by simp) ?_))
 intro g1 cap1 w1 hown1 hgr1
 have hb1:=(uh HO).grown (uh HP0) hgr1 (by simp) (Nat.le_refl _)
 have hs1:=hb1.size
 have HB1:=hide hb1
 have hal : Below w1.heap.size w1 (w1.alloc (.cells #[.string nm,.bool on] 86)):=(Below.refl _ _).alloc (Nat.le_refl _) _
 have HO1:=hide (hown1.below hal)
 have HB2 : Hid (Below w.heap.size w (w1.alloc (.cells #[.string nm,.bool on] 86))):=hb1.trans (hal.mono hs1)
 clear hown1 hgr1 hb1 hal
 try simp only [List.length_nil,List.nil_append,Nat.zero_add] at HO1
 try simp only [List.length_nil,List.nil_append,Nat.zero_add]
 go_wp2_with (at_builtin; go_must (refine wpList_append_oneF elCond _ rfl _ _ rfl w.heap.size _ ks rfl (uh HO1) w1.heap.size ⟨nm,on⟩ rfl (fun j u hu => by rw [World.cell?_alloc_at _ _ _ _ rfl]; simpa [elCond] using hu) (by simp [elCond]; omega) (by simp; omega) ?_))
 intro v2 w2 hown2 hgr2
 have hb2:=(uh HO1).grown (uh HB2) hgr2 (by simp; omega) (Nat.le_refl _)
 have HD:=hide (hown2.atL (R:=RCond) (fun x hx => ⟨rfl,by
  rcases List.mem_append.1 hx with hx | hx
  ·exact uh HLN x hx
  ·simp only [List.mem_singleton] at hx
   subst hx
   exact uh HN⟩) (by simp [elCond]; omega))
 have HB3:=hide hb2
 clear hown2 hgr2 hb2
 go_wp2
 go_ret
 exact ⟨_,rfl,uh HD,uh HB3⟩
end Go.Proofs.YtajabbnlbopcbaaGreatDoor
