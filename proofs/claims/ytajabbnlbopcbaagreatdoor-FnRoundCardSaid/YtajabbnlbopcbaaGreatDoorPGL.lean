import Derived.Test.YtajabbnlbopcbaaGreatDoorImpl
import Derived.Defers
import Derived.Recover
namespace Go.Proofs.YtajabbnlbopcbaaGreatDoor
open Go.RowKit
set_option linter.unusedSimpArgs false
set_option linter.unusedVariables false
theorem fault_nil (w : World) : Calls Tryz.prog 15 #[.nilIface] w (fun e w' => e = .returned (.tuple #[.int .i64 0,.int .i64 0]) ∧ w' = w):=by
 have hn : (binOp BinOp.eql 20 .nilIface .nilIface).run Tryz.prog w = .ok (.bool true) w:=by kernel_rfl
 go_enter Tryz.func15,Tryz.ntmps15
 go_wp2
 exact bodyPost_ret (v:=.tuple #[.int .i64 0,.int .i64 0]) (by kernel_rfl) rfl ⟨rfl,rfl⟩
set_option maxHeartbeats 1000000 in
theorem fault_is (c a : Int) (w : World) : Calls Tryz.prog 15 #[faultV c a] w (fun e w' => e = .returned (.tuple #[.int .i64 c,.int .i64 a]) ∧ Below w.heap.size w w'):=by
 have hn : (binOp BinOp.eql 20 (faultV c a) .nilIface).run Tryz.prog w = .ok (.bool false) w:=by kernel_rfl
 have ha : (Instr.typeAssert (faultV c a) 20 78 true).run Tryz.prog w = .ok (.tuple #[.agg #[.int .i64 c,.int .i64 a],.bool true]) w:=by kernel_rfl
 obtain ⟨A,hAA⟩ : ∃ A,A = w.alloc (.cells #[.int .i64 c,.int .i64 a] 78):=⟨_,rfl⟩
 have hA : Below w.heap.size w A:=hAA ▸ (Below.refl _ _).alloc (Nat.le_refl _) _
 have hb : BlkAt A w.heap.size 78 #[.int .i64 c,.int .i64 a]:=hAA ▸ blk_box w _ _
 have c0:=hb.cell (i:=0) (v:=.int .i64 c) rfl
 have c1:=hb.cell (i:=1) (v:=.int .i64 a) rfl
 have HA:=hide hA
 have HAA:=hide hAA
 clear hA hb hAA
 unfold faultV at *
 go_enter Tryz.func15,Tryz.ntmps15
 go_wp2_with fail
 rw [← uh HAA]
 go_region
 all_goals
  go_wp2
  exact bodyPost_ret (v:=.tuple #[.int .i64 c,.int .i64 a]) (by simp [results,Tryz.results15,go_sem]) rfl ⟨rfl,(uh HA).drew⟩
theorem catch_idle (p1 p2 : Nat) (x1 x2 : Int) (w : World) (h1 : BlkAt w p1 3 #[.int .i64 x1]) (h2 : BlkAt w p2 3 #[.int .i64 x2]) (hne : p2 ≠ p1) :
  CallsD Tryz.prog 14 #[.pointer (some ⟨p1,0,none⟩),.pointer (some ⟨p2,0,none⟩)] .returning w fun e u' w' => e = .returned (.tuple #[]) ∧ u' = .returning ∧ w' = (w.setCell ⟨p1,0,none⟩ (.int .i64 0)).setCell ⟨p2,0,none⟩ (.int .i64 0):=by
 have c1:=h1.cell (i:=0) (v:=.int .i64 x1) rfl
 have f1:=h1.free 0
 have h3:=(Tr.setCell p1 w 0 (.int .i64 0)).blk h2 hne
 have c2:=h3.cell (i:=0) (v:=.int .i64 x2) rfl
 have f2:=h3.free 0
 refine callsD_of_wpS Tryz.func14 rfl fun c₀ cs hu => ?_
 apply wpS_region
 simp [wpOpsS,go_sem,recoverD,hu,Tryz.ntmps14,Exit.thenS]
 refine (fault_nil w).mono ?_
 rintro e w' ⟨rfl,hw⟩
 subst hw
 simp [go_sem,c1,f1,c2,f2,bodyPostS,results,Tryz.results14,Oper.upon]
 cases c₀
 simp_all
theorem catch_fault (p1 p2 : Nat) (x1 x2 c a : Int) (older : List PanicEntry) (w : World) (h1 : BlkAt w p1 3 #[.int .i64 x1]) (h2 : BlkAt w p2 3 #[.int .i64 x2]) (hne : p2 ≠ p1) :
  CallsD Tryz.prog 14 #[.pointer (some ⟨p1,0,none⟩),.pointer (some ⟨p2,0,none⟩)] (.panicking ({ v:=faultV c a,recovered:=false } :: older)) w fun e u' w' => e = .returned (.tuple #[]) ∧ u' = .panicking ({ v:=faultV c a,recovered:=true } :: older) ∧ ∃ w2,Below w.heap.size w w2 ∧ w' = (w2.setCell ⟨p1,0,none⟩ (.int .i64 c)).setCell ⟨p2,0,none⟩ (.int .i64 a):=by
 refine callsD_of_wpS Tryz.func14 rfl fun c₀ cs hu => ?_
 apply wpS_region
 simp [wpOpsS,go_sem,recoverD,hu,Tryz.ntmps14,Exit.thenS]
 refine (fault_is c a w).mono ?_
 rintro e w2 ⟨rfl,hb⟩
 have g1:=h1.below hb h1.lt
 have g2:=h2.below hb h2.lt
 have c1:=g1.cell (i:=0) (v:=.int .i64 x1) rfl
 have f1:=g1.free 0
 have h3:=(Tr.setCell p1 w2 0 (.int .i64 c)).blk g2 hne
 have c2:=h3.cell (i:=0) (v:=.int .i64 x2) rfl
 have f2:=h3.free 0
 simp [go_sem,c1,f1,c2,f2,bodyPostS,results,Tryz.results14,Oper.upon]
 exact ⟨w2,hb,rfl⟩
def ParsePst (ns : List DNode) (w : World) (e : Ending) (w' : World) : Prop:=∃ a n c,e = .returned (.tuple #[.agg #[.slice a n c],.int .i64 0,.int .i64 0]) ∧ SlAt 5 112 RNode 0 w' (.slice a n c) ns ∧ Below w.heap.size w w'
set_option maxHeartbeats 4000000 in
theorem Parse_ok {ns : List PNode} (hn : okPr ns) (hsz : (flP (prP ns)).size ≤ 20000) (w : World) (ht : w.rangeAt 1 0 opCells) (h2 : 2 ≤ w.heap.size) : Calls Tryz.prog 6 #[.string (flP (prP ns))] w (ParsePst (ns.map PNode.node) w):=by
 have hmf : ∀ (fn : Fn) (first cap : Array Value) (w : World),(Instr.makeFunc fn first cap).run Tryz.prog w = .ok (.func fn first cap) w:=fun _ _ _ _ => rfl
 obtain ⟨A,hAA⟩ : ∃ A,A = ((w.alloc (.cells #[.slice none 0 0] 25)).alloc (.cells #[.int .i64 0] 3)).alloc (.cells #[.int .i64 0] 3):=⟨_,rfl⟩
 have hA : Below w.heap.size w A:=hAA ▸ (((Below.refl _ _).alloc (Nat.le_refl _) _).alloc (by simp) _).alloc (by simp; omega) _
 have HTA : Hid (A.rangeAt 1 0 opCells):=fun j v hv => by
  rw [hA.cell (p:=⟨1,_,none⟩) (show 1 < w.heap.size by omega)]
  exact ht j v hv
 have HC:=hide (parse_ok hn hsz A (uh HTA) (by have:=hA.size; omega))
 generalize flP (prP ns) = s at *
 have HBX : Hid (BlkAt A w.heap.size 25 #[.slice none 0 0] ∧ BlkAt A (w.heap.size + 1) 3 #[.int .i64 0] ∧ BlkAt A (w.heap.size + 1 + 1) 3 #[.int .i64 0] ∧ A.heap.size = w.heap.size + 3):=by
  rw [hAA]
  refine ⟨((blk_box w _ _).below ((Below.refl _ _).alloc (Nat.le_refl _) _) (by simp)).below ((Below.refl _ _).alloc (Nat.le_refl _) _) (by simp; omega),?_,?_,by simp⟩
  ·have g:=blk_box (w.alloc (.cells #[.slice none 0 0] 25)) #[.int .i64 0] 3
   have g2 : BlkAt ((w.alloc (.cells #[.slice none 0 0] 25)).alloc (.cells #[.int .i64 0] 3)) (w.heap.size + 1) 3 #[.int .i64 0]:=by simpa using g
   exact g2.below ((Below.refl _ _).alloc (Nat.le_refl _) _) (by simp)
  ·have g:=blk_box ((w.alloc (.cells #[.slice none 0 0] 25)).alloc (.cells #[.int .i64 0] 3)) #[.int .i64 0] 3
   simpa using g
 have HA:=hide hA
 have HAA:=hide hAA
 clear hA hAA hn ht hsz
 go_enter_defers Tryz.func6,Tryz.ntmps6
 go_wp2_with fail
 rw [← uh HAA]
 refine (uh HC).mono ?_
 rintro e w1 ⟨v,rfl,⟨a,n,c,rfl⟩,hF,hb1⟩
 obtain ⟨hB0,hB1,hB2,hAs⟩:=uh HBX
 have g0:=hB0.below hb1 hB0.lt
 have g1:=hB1.below hb1 hB1.lt
 have g2:=hB2.below hb1 hB2.lt
 have hz1:=hb1.size
 obtain ⟨Z0,hZ0⟩ : ∃ Z0,Z0 = w1.setCell ⟨w.heap.size,0,none⟩ (.slice a n c):=⟨_,rfl⟩
 have t0 : Tr w.heap.size w1 Z0:=hZ0 ▸ Tr.setCell _ _ _ _
 have k0 : BlkAt Z0 w.heap.size 25 #[.slice a n c]:=by rw [hZ0]; exact g0.set 0 _
 have k1:=t0.blk g1 (by omega)
 have k2:=t0.blk g2 (by omega)
 obtain ⟨Z1,hZ1⟩ : ∃ Z1,Z1 = Z0.setCell ⟨w.heap.size + 1,0,none⟩ (.int .i64 0):=⟨_,rfl⟩
 have t1 : Tr (w.heap.size + 1) Z0 Z1:=hZ1 ▸ Tr.setCell _ _ _ _
 have l0:=t1.blk k0 (by omega)
 have l1 : BlkAt Z1 (w.heap.size + 1) 3 #[.int .i64 0]:=by rw [hZ1]; exact k1.set 0 _
 have l2:=t1.blk k2 (by omega)
 obtain ⟨Z2,hZ2⟩ : ∃ Z2,Z2 = Z1.setCell ⟨w.heap.size + 1 + 1,0,none⟩ (.int .i64 0):=⟨_,rfl⟩
 have t2 : Tr (w.heap.size + 1 + 1) Z1 Z2:=hZ2 ▸ Tr.setCell _ _ _ _
 have m0:=t2.blk l0 (by omega)
 have m1:=t2.blk l1 (by omega)
 have m2 : BlkAt Z2 (w.heap.size + 1 + 1) 3 #[.int .i64 0]:=by rw [hZ2]; exact l2.set 0 _
 have HCI:=hide (catch_idle (w.heap.size + 1) (w.heap.size + 1 + 1) 0 0 Z2 m1 m2 (by omega))
 obtain ⟨Z4,hZ4⟩ : ∃ Z4,Z4 = (Z2.setCell ⟨w.heap.size + 1,0,none⟩ (.int .i64 0)).setCell ⟨w.heap.size + 1 + 1,0,none⟩ (.int .i64 0):=⟨_,rfl⟩
 have t3 : Tr (w.heap.size + 1) Z2 (Z2.setCell ⟨w.heap.size + 1,0,none⟩ (.int .i64 0)):=Tr.setCell _ _ _ _
 have t4 : Tr (w.heap.size + 1 + 1) (Z2.setCell ⟨w.heap.size + 1,0,none⟩ (.int .i64 0)) Z4:=hZ4 ▸ Tr.setCell _ _ _ _
 have n0:=t4.blk (t3.blk m0 (by omega)) (by omega)
 have n1 : BlkAt Z4 (w.heap.size + 1) 3 #[.int .i64 0]:=t4.blk (m1.set 0 _) (by omega)
 have n2 : BlkAt Z4 (w.heap.size + 1 + 1) 3 #[.int .i64 0]:=by rw [hZ4]; exact (t3.blk m2 (by omega)).set 0 _
 have r0:=n0.cell (i:=0) (v:=.slice a n c) rfl
 have r1:=n1.cell (i:=0) (v:=.int .i64 0) rfl
 have r2:=n2.cell (i:=0) (v:=.int .i64 0) rfl
 have HFN : Hid (ParsePst (ns.map PNode.node) w (.returned (.tuple #[.agg #[.slice a n c],.int .i64 0,.int .i64 0])) Z4):=by
  have hs0:=t0.size
  have hs1:=t1.size
  have hs2:=t2.size
  have hs3:=t3.size
  have hkeep : ∀ b,A.heap.size + 1 ≤ b → b < w1.heap.size → Z4.heap[b]? = w1.heap[b]?:=fun b h1 h2 => (t4.block b (by omega) (by omega)).trans ((t3.block b (by omega) (by omega)).trans ((t2.block b (by omega) (by omega)).trans ((t1.block b (by omega) (by omega)).trans (t0.block b h2 (by omega)))))
  obtain ⟨bs,q1,q2,q3⟩:=hF.keep (FrQ.t rNode TNode_fr _ _) hkeep
  refine ⟨a,n,c,rfl,q1.sl rfl (fun _ => rfl) (fun cs x bs h => TNode_sl h),?_⟩
  have hw:=(uh HA).size
  exact ((((((uh HA).trans (hb1.mono hw)).trans (t0.below (by omega) (Nat.le_refl _))).trans (t1.below (by omega) (by omega))).trans (t2.below (by omega) (by omega))).trans (t3.below (by omega) (by omega))).trans (t4.below (by omega) (by omega))
 have y0:=g0.cell (i:=0) (v:=.slice none 0 0) rfl
 have z0:=g0.free 0
 have y1:=k1.cell (i:=0) (v:=.int .i64 0) rfl
 have z1:=k1.free 0
 have y2:=l2.cell (i:=0) (v:=.int .i64 0) rfl
 have z2:=l2.free 0
 have x0:=g0.lt
 have x1:=k1.lt
 have x2:=l2.lt
 have HZ:=hide (And.intro hZ0 (And.intro hZ1 (And.intro hZ2 hZ4)))
 rw [hZ0] at y1 z1 x1
 rw [hZ1,hZ0] at y2 z2 x2
 clear hB0 hB1 hB2 hAs g0 g1 g2 hz1 t0 k0 k1 k2 t1 l0 l1 l2 t2 m0 m1 m2 t3 t4 n0 n1 n2 hF hb1 hZ0 hZ1 hZ2 hZ4 HC HBX
 go_wp2
 rw [← (uh HZ).1,← (uh HZ).2.1,← (uh HZ).2.2.1]
 refine leaves_cons (f:=14) (args:=#[.pointer (some ⟨w.heap.size + 1,0,none⟩),.pointer (some ⟨w.heap.size + 1 + 1,0,none⟩)]) (by simp) (by simp [go_sem]) ?_
 refine (uh HCI).mono ?_
 rintro e u' w'' ⟨rfl,rfl,hw⟩
 rw [hw,← (uh HZ).2.2.2]
 simp [Leaves,settle,results,Tryz.results6,go_sem,r0,r1,r2]
 exact uh HFN
set_option maxHeartbeats 4000000 in
theorem Parse_long {s : ByteArray} (h : 20000 < s.size) (hs : Len s.size) (w : World) : Calls Tryz.prog 6 #[.string s] w (fun e w' => e = .returned (.tuple #[.agg #[.slice none 0 0],.int .i64 1,.int .i64 0]) ∧ Below w.heap.size w w'):=by
 have hmf : ∀ (fn : Fn) (first cap : Array Value) (w : World),(Instr.makeFunc fn first cap).run Tryz.prog w = .ok (.func fn first cap) w:=fun _ _ _ _ => rfl
 obtain ⟨A,hAA⟩ : ∃ A,A = ((w.alloc (.cells #[.slice none 0 0] 25)).alloc (.cells #[.int .i64 0] 3)).alloc (.cells #[.int .i64 0] 3):=⟨_,rfl⟩
 have hA : Below w.heap.size w A:=hAA ▸ (((Below.refl _ _).alloc (Nat.le_refl _) _).alloc (by simp) _).alloc (by simp; omega) _
 have HC:=hide (parse_long h hs A)
 have HBX : Hid (BlkAt A w.heap.size 25 #[.slice none 0 0] ∧ BlkAt A (w.heap.size + 1) 3 #[.int .i64 0] ∧ BlkAt A (w.heap.size + 1 + 1) 3 #[.int .i64 0] ∧ A.heap.size = w.heap.size + 3):=by
  rw [hAA]
  refine ⟨((blk_box w _ _).below ((Below.refl _ _).alloc (Nat.le_refl _) _) (by simp)).below ((Below.refl _ _).alloc (Nat.le_refl _) _) (by simp; omega),?_,?_,by simp⟩
  ·have g:=blk_box (w.alloc (.cells #[.slice none 0 0] 25)) #[.int .i64 0] 3
   have g2 : BlkAt ((w.alloc (.cells #[.slice none 0 0] 25)).alloc (.cells #[.int .i64 0] 3)) (w.heap.size + 1) 3 #[.int .i64 0]:=by simpa using g
   exact g2.below ((Below.refl _ _).alloc (Nat.le_refl _) _) (by simp)
  ·have g:=blk_box ((w.alloc (.cells #[.slice none 0 0] 25)).alloc (.cells #[.int .i64 0] 3)) #[.int .i64 0] 3
   simpa using g
 have HA:=hide hA
 have HAA:=hide hAA
 clear hA hAA h hs
 obtain ⟨PO,hPO⟩ : ∃ PO : Ending → World → Prop,PO = fun e w' => e = .returned (.tuple #[.agg #[.slice none 0 0],.int .i64 1,.int .i64 0]) ∧ Below w.heap.size w w':=⟨_,rfl⟩
 rw [← hPO]
 have HPO:=hide hPO
 clear hPO
 go_enter_defers Tryz.func6,Tryz.ntmps6
 go_wp2_with fail
 rw [← uh HAA]
 refine (uh HC).mono ?_
 rintro e w1 ⟨rfl,hb1⟩
 obtain ⟨hB0,hB1,hB2,hAs⟩:=uh HBX
 have g0:=hB0.below hb1 hB0.lt
 have g1:=hB1.below hb1 hB1.lt
 have g2:=hB2.below hb1 hB2.lt
 have hz1:=hb1.size
 have HCF:=hide (catch_fault (w.heap.size + 1) (w.heap.size + 1 + 1) 0 0 1 0 [] w1 g1 g2 (by omega))
 refine leaves_cons (f:=14) (args:=#[.pointer (some ⟨w.heap.size + 1,0,none⟩),.pointer (some ⟨w.heap.size + 1 + 1,0,none⟩)]) (by simp) (by simp [go_sem]) ?_
 refine (uh HCF).mono ?_
 rintro e u' w'' ⟨rfl,rfl,w2,hb2,hw⟩
 have k0:=g0.below hb2 g0.lt
 have k1:=g1.below hb2 g1.lt
 have k2:=g2.below hb2 g2.lt
 have hz2:=hb2.size
 have t3 : Tr (w.heap.size + 1) w2 (w2.setCell ⟨w.heap.size + 1,0,none⟩ (.int .i64 1)):=Tr.setCell _ _ _ _
 obtain ⟨Z4,hZ4⟩ : ∃ Z4,Z4 = (w2.setCell ⟨w.heap.size + 1,0,none⟩ (.int .i64 1)).setCell ⟨w.heap.size + 1 + 1,0,none⟩ (.int .i64 0):=⟨_,rfl⟩
 have t4 : Tr (w.heap.size + 1 + 1) (w2.setCell ⟨w.heap.size + 1,0,none⟩ (.int .i64 1)) Z4:=hZ4 ▸ Tr.setCell _ _ _ _
 have n0:=t4.blk (t3.blk k0 (by omega)) (by omega)
 have n1 : BlkAt Z4 (w.heap.size + 1) 3 #[.int .i64 1]:=t4.blk (k1.set 0 _) (by omega)
 have n2 : BlkAt Z4 (w.heap.size + 1 + 1) 3 #[.int .i64 0]:=by rw [hZ4]; exact (t3.blk k2 (by omega)).set 0 _
 have r0:=n0.cell (i:=0) (v:=.slice none 0 0) rfl
 have r1:=n1.cell (i:=0) (v:=.int .i64 1) rfl
 have r2:=n2.cell (i:=0) (v:=.int .i64 0) rfl
 have HFN : Hid (PO (.returned (.tuple #[.agg #[.slice none 0 0],.int .i64 1,.int .i64 0])) Z4):=by
  show PO _ _
  rw [uh HPO]
  have hw:=(uh HA).size
  have hs3:=t3.size
  have h9:=(uh HA).trans (hb1.mono hw)
  exact ⟨rfl,((h9.trans (hb2.mono (by omega))).trans (t3.below (by omega) (by omega))).trans (t4.below (by omega) (by omega))⟩
 rw [hw,← hZ4]
 simp [Leaves,settle,results,Tryz.results6,go_sem,r0,r1,r2]
 exact uh HFN
end Go.Proofs.YtajabbnlbopcbaaGreatDoor
