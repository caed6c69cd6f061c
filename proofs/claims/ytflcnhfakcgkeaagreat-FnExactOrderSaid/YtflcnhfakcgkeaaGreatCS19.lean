import Derived.Test.YtflcnhfakcgkeaaGreatCE1
import Derived.Laws.Rows
import Derived.Laws.CopyRow
namespace Go.Proofs.YtflcnhfakcgkeaaGreat
open Go.RowKit
set_option linter.unusedSimpArgs false
set_option linter.unusedVariables false
theorem X9:(Tryz.prog.info? 69).map (fun i=>(i.zero,i.size,i.bytes))=some (some (.pointer none),1,8):=by kernel_rfl
def lu (n k p:Nat):List Value:=List.replicate k (xk p)++List.replicate (n-k) (.pointer none)
theorem G6 {w0 w:World} {B:Nat} (h:Below B w0 w) {nb:Nat} (hnb:B<=nb) (r:Array Value):Below B w0 (w.setRow nb r):=by
 refine⟨h.os,h.tape,h.output,by rw[size_setRow];exact h.size,fun k hk=>?_⟩
 rw[setRow_other w nb k r (by omega)]
 exact h.block k hk
def Q8 (n p:Nat) (w:World) (e:Ending) (w':World):Prop:=e=.returned (.slice (some ⟨w.heap.size,0,none⟩) n n)∧dh w' w.heap.size 69 (List.replicate n (xk p)).toArray∧Below w.heap.size w w'
set_option maxRecDepth 20000 in
set_option maxHeartbeats 2000000 in
theorem ase (w:World) (s p:Nat) (hs:w.cell? ⟨s,0,none⟩=some (xk p)) :
  Calls Tryz.prog 162 #[.slice (some ⟨s,0,none⟩) 1 1,.int .i64 0] w (Q8 0 p w):=by
 have hmk:(Instr.makeSlice 201 (.int .i64 0) (.int .i64 0)).run Tryz.prog w=.ok (.slice (some ⟨w.heap.size,0,none⟩) 0 0) (w.alloc (.cells (lu 0 0 p).toArray 69)):=(Am (P:=Tryz.prog) 201 69 (.pointer none) 1 8 Tryz.underlying201 X9 0 (by decide) (by decide) w).trans (by kernel_rfl)
 have hA:Below w.heap.size w (w.alloc (.cells (lu 0 0 p).toArray 69)):=(Below.refl _ _).alloc (Nat.le_refl _) _
 have hbx:=jd w (lu 0 0 p).toArray 69
 have hcp:∀ty,(Builtin.copy_ #[201,201] ty #[.slice (some ⟨w.heap.size,0,none⟩) 0 0,.slice (some ⟨s,0,none⟩) 1 1]).run Tryz.prog (w.alloc (.cells (lu 0 0 p).toArray 69))=.ok (.int .i64 0) ((w.alloc (.cells (lu 0 0 p).toArray 69)).setRow w.heap.size (lu 0 0 p).toArray):=fun ty =>
  run_copy_row (P:=Tryz.prog) _ 201 201 ty 69 w.heap.size 0 0 0 ⟨s,0,none⟩ 1 1 (lu 0 0 p).toArray 69 (List.replicate 0 (xk p)) Tryz.underlying201 (by kernel_rfl) hbx rfl (fun j v hj=>by
   have hj0:j=0∧v=xk p:=by
    rw[List.getElem?_replicate] at hj
    split at hj
    ·simp only[Option.some.injEq] at hj
     exact⟨by omega,hj.symm⟩
    ·cases hj
   obtain⟨rfl,rfl⟩:=hj0
   rw[Addr.add_lit]
   exact(hA.cell (World.block_lt_of_cell? w _ hs)).trans hs) (by simp[lu]) (fun v hv=>by
   rw[List.mem_replicate] at hv
   rw[hv.2]
   rfl)
 have hb2:=G6 hA (Nat.le_refl _) (lu 0 0 p).toArray
 have HR2:Hid (dh ((w.alloc (.cells (lu 0 0 p).toArray 69)).setRow w.heap.size (lu 0 0 p).toArray) w.heap.size 69 (lu 0 0 p).toArray):=setRow_heap _ _ _ _ _ _ hbx
 have HB2:=hide hb2
 have HM:=hide (fun w'=>a0u w')
 clear hA hbx hs hb2
 obtain⟨w1,hw1⟩:∃z,z=w.alloc (.cells (lu 0 0 p).toArray 69):=⟨_,rfl⟩
 rw[←hw1] at hmk hcp HR2 HB2
 obtain⟨w2,hw2⟩:∃z,z=w1.setRow w.heap.size (lu 0 0 p).toArray:=⟨_,rfl⟩
 rw[←hw2] at hcp HR2 HB2
 obtain⟨nb,hnb⟩:∃z,z=w.heap.size:=⟨_,rfl⟩
 rw[←hnb] at hmk hcp HR2
 have Gl:=hide hnb
 clear hw1 hw2 hnb
 go_enter Tryz.func162,Tryz.ntmps162
 go_wp2_with fail
 refine(uh HM _).mono ?_
 rintro e w3 ⟨rfl,hw3⟩
 rw[hw3]
 clear hw3
 go_wp2
 clear hmk hcp
 go_loopg [8] 0 (fun gm iv wr=>∃k:Nat,k<=0∧0<=k∧gm=0-k∧iv=.int .i64 k∧dh wr nb 69 (lu 0 k p).toArray∧Below w.heap.size w wr)
 case atStart=>exact⟨0,by decide,by decide,rfl,rfl,uh HR2,uh HB2⟩
 case round =>
  obtain⟨k,hk,hk1,hg,rfl,hrow,hb⟩:=hrel
  rename World=>wr
  have HG:=hide hg
  clear hg HR2 HB2
  have hkn:k=0:=by omega
  subst hkn
  have HF:Hid (Q8 0 p w (.returned (.slice (some ⟨nb,0,none⟩) 0 0)) wr):=by
   refine hide ⟨by rw[uh Gl],?_,hb⟩
   rw[←uh Gl]
   exact hrow
  clear hrow hb
  go_wp2
  go_ret
  exact uh HF
set_option maxRecDepth 20000 in
set_option maxHeartbeats 2000000 in
theorem asf (w:World) (s p:Nat) (hs:w.cell? ⟨s,0,none⟩=some (xk p)) :
  Calls Tryz.prog 162 #[.slice (some ⟨s,0,none⟩) 1 1,.int .i64 1] w (Q8 1 p w):=by
 have hmk:(Instr.makeSlice 201 (.int .i64 1) (.int .i64 1)).run Tryz.prog w=.ok (.slice (some ⟨w.heap.size,0,none⟩) 1 1) (w.alloc (.cells (lu 1 0 p).toArray 69)):=(Am (P:=Tryz.prog) 201 69 (.pointer none) 1 8 Tryz.underlying201 X9 1 (by decide) (by decide) w).trans (by kernel_rfl)
 have hA:Below w.heap.size w (w.alloc (.cells (lu 1 0 p).toArray 69)):=(Below.refl _ _).alloc (Nat.le_refl _) _
 have hbx:=jd w (lu 1 0 p).toArray 69
 have hcp:∀ty,(Builtin.copy_ #[201,201] ty #[.slice (some ⟨w.heap.size,0,none⟩) 1 1,.slice (some ⟨s,0,none⟩) 1 1]).run Tryz.prog (w.alloc (.cells (lu 1 0 p).toArray 69))=.ok (.int .i64 1) ((w.alloc (.cells (lu 1 0 p).toArray 69)).setRow w.heap.size (lu 1 1 p).toArray):=fun ty =>
  run_copy_row (P:=Tryz.prog) _ 201 201 ty 69 w.heap.size 0 1 1 ⟨s,0,none⟩ 1 1 (lu 1 0 p).toArray 69 (List.replicate 1 (xk p)) Tryz.underlying201 (by kernel_rfl) hbx rfl (fun j v hj=>by
   have hj0:j=0∧v=xk p:=by
    rw[List.getElem?_replicate] at hj
    split at hj
    ·simp only[Option.some.injEq] at hj
     exact⟨by omega,hj.symm⟩
    ·cases hj
   obtain⟨rfl,rfl⟩:=hj0
   rw[Addr.add_lit]
   exact(hA.cell (World.block_lt_of_cell? w _ hs)).trans hs) (by simp[lu]) (fun v hv=>by
   rw[List.mem_replicate] at hv
   rw[hv.2]
   rfl)
 have hb2:=G6 hA (Nat.le_refl _) (lu 1 1 p).toArray
 have HR2:Hid (dh ((w.alloc (.cells (lu 1 0 p).toArray 69)).setRow w.heap.size (lu 1 1 p).toArray) w.heap.size 69 (lu 1 1 p).toArray):=setRow_heap _ _ _ _ _ _ hbx
 have HB2:=hide hb2
 have HM:=hide (fun w'=>a0v w')
 clear hA hbx hs hb2
 obtain⟨w1,hw1⟩:∃z,z=w.alloc (.cells (lu 1 0 p).toArray 69):=⟨_,rfl⟩
 rw[←hw1] at hmk hcp HR2 HB2
 obtain⟨w2,hw2⟩:∃z,z=w1.setRow w.heap.size (lu 1 1 p).toArray:=⟨_,rfl⟩
 rw[←hw2] at hcp HR2 HB2
 obtain⟨nb,hnb⟩:∃z,z=w.heap.size:=⟨_,rfl⟩
 rw[←hnb] at hmk hcp HR2
 have Gl:=hide hnb
 clear hw1 hw2 hnb
 go_enter Tryz.func162,Tryz.ntmps162
 go_wp2_with fail
 refine(uh HM _).mono ?_
 rintro e w3 ⟨rfl,hw3⟩
 rw[hw3]
 clear hw3
 go_wp2
 clear hmk hcp
 go_loopg [8] 0 (fun gm iv wr=>∃k:Nat,k<=1∧1<=k∧gm=1-k∧iv=.int .i64 k∧dh wr nb 69 (lu 1 k p).toArray∧Below w.heap.size w wr)
 case atStart=>exact⟨1,by decide,by decide,rfl,rfl,uh HR2,uh HB2⟩
 case round =>
  obtain⟨k,hk,hk1,hg,rfl,hrow,hb⟩:=hrel
  rename World=>wr
  have HG:=hide hg
  clear hg HR2 HB2
  have hkn:k=1:=by omega
  subst hkn
  have HF:Hid (Q8 1 p w (.returned (.slice (some ⟨nb,0,none⟩) 1 1)) wr):=by
   refine hide ⟨by rw[uh Gl],?_,hb⟩
   rw[←uh Gl]
   exact hrow
  clear hrow hb
  go_wp2
  go_ret
  exact uh HF
set_option maxRecDepth 20000 in
set_option maxHeartbeats 2000000 in
theorem asg (w:World) (s p:Nat) (hs:w.cell? ⟨s,0,none⟩=some (xk p)) :
  Calls Tryz.prog 162 #[.slice (some ⟨s,0,none⟩) 1 1,.int .i64 2] w (Q8 2 p w):=by
 have hmk:(Instr.makeSlice 201 (.int .i64 2) (.int .i64 2)).run Tryz.prog w=.ok (.slice (some ⟨w.heap.size,0,none⟩) 2 2) (w.alloc (.cells (lu 2 0 p).toArray 69)):=(Am (P:=Tryz.prog) 201 69 (.pointer none) 1 8 Tryz.underlying201 X9 2 (by decide) (by decide) w).trans (by kernel_rfl)
 have hA:Below w.heap.size w (w.alloc (.cells (lu 2 0 p).toArray 69)):=(Below.refl _ _).alloc (Nat.le_refl _) _
 have hbx:=jd w (lu 2 0 p).toArray 69
 have hcp:∀ty,(Builtin.copy_ #[201,201] ty #[.slice (some ⟨w.heap.size,0,none⟩) 2 2,.slice (some ⟨s,0,none⟩) 1 1]).run Tryz.prog (w.alloc (.cells (lu 2 0 p).toArray 69))=.ok (.int .i64 1) ((w.alloc (.cells (lu 2 0 p).toArray 69)).setRow w.heap.size (lu 2 1 p).toArray):=fun ty =>
  run_copy_row (P:=Tryz.prog) _ 201 201 ty 69 w.heap.size 0 2 2 ⟨s,0,none⟩ 1 1 (lu 2 0 p).toArray 69 (List.replicate 1 (xk p)) Tryz.underlying201 (by kernel_rfl) hbx rfl (fun j v hj=>by
   have hj0:j=0∧v=xk p:=by
    rw[List.getElem?_replicate] at hj
    split at hj
    ·simp only[Option.some.injEq] at hj
     exact⟨by omega,hj.symm⟩
    ·cases hj
   obtain⟨rfl,rfl⟩:=hj0
   rw[Addr.add_lit]
   exact(hA.cell (World.block_lt_of_cell? w _ hs)).trans hs) (by simp[lu]) (fun v hv=>by
   rw[List.mem_replicate] at hv
   rw[hv.2]
   rfl)
 have hb2:=G6 hA (Nat.le_refl _) (lu 2 1 p).toArray
 have HR2:Hid (dh ((w.alloc (.cells (lu 2 0 p).toArray 69)).setRow w.heap.size (lu 2 1 p).toArray) w.heap.size 69 (lu 2 1 p).toArray):=setRow_heap _ _ _ _ _ _ hbx
 have HB2:=hide hb2
 have HM:=hide (fun w'=>a0w w')
 clear hA hbx hs hb2
 obtain⟨w1,hw1⟩:∃z,z=w.alloc (.cells (lu 2 0 p).toArray 69):=⟨_,rfl⟩
 rw[←hw1] at hmk hcp HR2 HB2
 obtain⟨w2,hw2⟩:∃z,z=w1.setRow w.heap.size (lu 2 1 p).toArray:=⟨_,rfl⟩
 rw[←hw2] at hcp HR2 HB2
 obtain⟨nb,hnb⟩:∃z,z=w.heap.size:=⟨_,rfl⟩
 rw[←hnb] at hmk hcp HR2
 have Gl:=hide hnb
 clear hw1 hw2 hnb
 go_enter Tryz.func162,Tryz.ntmps162
 go_wp2_with fail
 refine(uh HM _).mono ?_
 rintro e w3 ⟨rfl,hw3⟩
 rw[hw3]
 clear hw3
 go_wp2
 clear hmk hcp
 go_loopg [8] 1 (fun gm iv wr=>∃k:Nat,k<=2∧1<=k∧gm=2-k∧iv=.int .i64 k∧dh wr nb 69 (lu 2 k p).toArray∧Below w.heap.size w wr)
 case atStart=>exact⟨1,by decide,by decide,rfl,rfl,uh HR2,uh HB2⟩
 case round =>
  obtain⟨k,hk,hk1,hg,rfl,hrow,hb⟩:=hrel
  rename World=>wr
  have HG:=hide hg
  clear hg HR2 HB2
  by_cases hk1:k=1
  ·subst hk1
   have hrd:dh wr.drew nb 69 (lu 2 1 p).toArray:=hrow
   have hcp:∀ty,(Builtin.copy_ #[201,201] ty #[.slice (some ⟨nb,1,none⟩) 1 1,.slice (some ⟨nb,0,none⟩) 1 2]).run Tryz.prog wr.drew=.ok (.int .i64 1) (wr.drew.setRow nb (lu 2 2 p).toArray):=fun ty =>
    run_copy_row (P:=Tryz.prog) _ 201 201 ty 69 nb 1 1 1 ⟨nb,0,none⟩ 1 2 (lu 2 1 p).toArray 69 (List.replicate 1 (xk p)) Tryz.underlying201 (by kernel_rfl) hrd rfl (fun j v hj=>by
     have hj0:j=0∧v=xk p:=by
      rw[List.getElem?_replicate] at hj
      split at hj
      ·simp only[Option.some.injEq] at hj
       exact⟨by omega,hj.symm⟩
      ·cases hj
     obtain⟨rfl,rfl⟩:=hj0
     rw[Addr.add_lit]
     exact hrd.cell (i:=0) (v:=xk p) rfl) (by simp[lu]) (fun v hv=>by
     rw[List.mem_replicate] at hv
     rw[hv.2]
     rfl)
   have Ox:Hid (dh (wr.drew.setRow nb (lu 2 2 p).toArray) nb 69 (lu 2 2 p).toArray):=setRow_heap _ _ _ _ _ _ hrd
   have Cj:Hid (Below w.heap.size w (wr.drew.setRow nb (lu 2 2 p).toArray)):=G6 hb.drew (by rw[uh Gl];exact Nat.le_refl _) _
   clear hrow hrd hb
   go_wp2
   go_region_held3 (fun w'=>True) (go_keep) (first|(fail))
   go_wp2
   go_roundg (2-2)
   case measure =>
    have h9:=uh HG
    omega
   case rel=>exact⟨2,by decide,by decide,rfl,rfl,uh Ox,uh Cj⟩
  have hkn:k=2:=by omega
  subst hkn
  have HF:Hid (Q8 2 p w (.returned (.slice (some ⟨nb,0,none⟩) 2 2)) wr):=by
   refine hide ⟨by rw[uh Gl],?_,hb⟩
   rw[←uh Gl]
   exact hrow
  clear hrow hb
  go_wp2
  go_ret
  exact uh HF
set_option maxRecDepth 20000 in
set_option maxHeartbeats 2000000 in
theorem ash (w:World) (s p:Nat) (hs:w.cell? ⟨s,0,none⟩=some (xk p)) :
  Calls Tryz.prog 162 #[.slice (some ⟨s,0,none⟩) 1 1,.int .i64 3] w (Q8 3 p w):=by
 have hmk:(Instr.makeSlice 201 (.int .i64 3) (.int .i64 3)).run Tryz.prog w=.ok (.slice (some ⟨w.heap.size,0,none⟩) 3 3) (w.alloc (.cells (lu 3 0 p).toArray 69)):=(Am (P:=Tryz.prog) 201 69 (.pointer none) 1 8 Tryz.underlying201 X9 3 (by decide) (by decide) w).trans (by kernel_rfl)
 have hA:Below w.heap.size w (w.alloc (.cells (lu 3 0 p).toArray 69)):=(Below.refl _ _).alloc (Nat.le_refl _) _
 have hbx:=jd w (lu 3 0 p).toArray 69
 have hcp:∀ty,(Builtin.copy_ #[201,201] ty #[.slice (some ⟨w.heap.size,0,none⟩) 3 3,.slice (some ⟨s,0,none⟩) 1 1]).run Tryz.prog (w.alloc (.cells (lu 3 0 p).toArray 69))=.ok (.int .i64 1) ((w.alloc (.cells (lu 3 0 p).toArray 69)).setRow w.heap.size (lu 3 1 p).toArray):=fun ty =>
  run_copy_row (P:=Tryz.prog) _ 201 201 ty 69 w.heap.size 0 3 3 ⟨s,0,none⟩ 1 1 (lu 3 0 p).toArray 69 (List.replicate 1 (xk p)) Tryz.underlying201 (by kernel_rfl) hbx rfl (fun j v hj=>by
   have hj0:j=0∧v=xk p:=by
    rw[List.getElem?_replicate] at hj
    split at hj
    ·simp only[Option.some.injEq] at hj
     exact⟨by omega,hj.symm⟩
    ·cases hj
   obtain⟨rfl,rfl⟩:=hj0
   rw[Addr.add_lit]
   exact(hA.cell (World.block_lt_of_cell? w _ hs)).trans hs) (by simp[lu]) (fun v hv=>by
   rw[List.mem_replicate] at hv
   rw[hv.2]
   rfl)
 have hb2:=G6 hA (Nat.le_refl _) (lu 3 1 p).toArray
 have HR2:Hid (dh ((w.alloc (.cells (lu 3 0 p).toArray 69)).setRow w.heap.size (lu 3 1 p).toArray) w.heap.size 69 (lu 3 1 p).toArray):=setRow_heap _ _ _ _ _ _ hbx
 have HB2:=hide hb2
 have HM:=hide (fun w'=>a0x w')
 clear hA hbx hs hb2
 obtain⟨w1,hw1⟩:∃z,z=w.alloc (.cells (lu 3 0 p).toArray 69):=⟨_,rfl⟩
 rw[←hw1] at hmk hcp HR2 HB2
 obtain⟨w2,hw2⟩:∃z,z=w1.setRow w.heap.size (lu 3 1 p).toArray:=⟨_,rfl⟩
 rw[←hw2] at hcp HR2 HB2
 obtain⟨nb,hnb⟩:∃z,z=w.heap.size:=⟨_,rfl⟩
 rw[←hnb] at hmk hcp HR2
 have Gl:=hide hnb
 clear hw1 hw2 hnb
 go_enter Tryz.func162,Tryz.ntmps162
 go_wp2_with fail
 refine(uh HM _).mono ?_
 rintro e w3 ⟨rfl,hw3⟩
 rw[hw3]
 clear hw3
 go_wp2
 clear hmk hcp
 go_loopg [8] 2 (fun gm iv wr=>∃k:Nat,k<=3∧1<=k∧gm=3-k∧iv=.int .i64 k∧dh wr nb 69 (lu 3 k p).toArray∧Below w.heap.size w wr)
 case atStart=>exact⟨1,by decide,by decide,rfl,rfl,uh HR2,uh HB2⟩
 case round =>
  obtain⟨k,hk,hk1,hg,rfl,hrow,hb⟩:=hrel
  rename World=>wr
  have HG:=hide hg
  clear hg HR2 HB2
  by_cases hk1:k=1
  ·subst hk1
   have hrd:dh wr.drew nb 69 (lu 3 1 p).toArray:=hrow
   have hcp:∀ty,(Builtin.copy_ #[201,201] ty #[.slice (some ⟨nb,1,none⟩) 2 2,.slice (some ⟨nb,0,none⟩) 1 3]).run Tryz.prog wr.drew=.ok (.int .i64 1) (wr.drew.setRow nb (lu 3 2 p).toArray):=fun ty =>
    run_copy_row (P:=Tryz.prog) _ 201 201 ty 69 nb 1 2 2 ⟨nb,0,none⟩ 1 3 (lu 3 1 p).toArray 69 (List.replicate 1 (xk p)) Tryz.underlying201 (by kernel_rfl) hrd rfl (fun j v hj=>by
     have hj0:j=0∧v=xk p:=by
      rw[List.getElem?_replicate] at hj
      split at hj
      ·simp only[Option.some.injEq] at hj
       exact⟨by omega,hj.symm⟩
      ·cases hj
     obtain⟨rfl,rfl⟩:=hj0
     rw[Addr.add_lit]
     exact hrd.cell (i:=0) (v:=xk p) rfl) (by simp[lu]) (fun v hv=>by
     rw[List.mem_replicate] at hv
     rw[hv.2]
     rfl)
   have Ox:Hid (dh (wr.drew.setRow nb (lu 3 2 p).toArray) nb 69 (lu 3 2 p).toArray):=setRow_heap _ _ _ _ _ _ hrd
   have Cj:Hid (Below w.heap.size w (wr.drew.setRow nb (lu 3 2 p).toArray)):=G6 hb.drew (by rw[uh Gl];exact Nat.le_refl _) _
   clear hrow hrd hb
   go_wp2
   go_region_held3 (fun w'=>True) (go_keep) (first|(fail))
   go_wp2
   go_roundg (3-2)
   case measure =>
    have h9:=uh HG
    omega
   case rel=>exact⟨2,by decide,by decide,rfl,rfl,uh Ox,uh Cj⟩
  by_cases hk2:k=2
  ·subst hk2
   have hrd:dh wr.drew nb 69 (lu 3 2 p).toArray:=hrow
   have hcp:∀ty,(Builtin.copy_ #[201,201] ty #[.slice (some ⟨nb,2,none⟩) 1 1,.slice (some ⟨nb,0,none⟩) 2 3]).run Tryz.prog wr.drew=.ok (.int .i64 1) (wr.drew.setRow nb (lu 3 3 p).toArray):=fun ty =>
    run_copy_row (P:=Tryz.prog) _ 201 201 ty 69 nb 2 1 1 ⟨nb,0,none⟩ 2 3 (lu 3 2 p).toArray 69 (List.replicate 1 (xk p)) Tryz.underlying201 (by kernel_rfl) hrd rfl (fun j v hj=>by
     have hj0:j=0∧v=xk p:=by
      rw[List.getElem?_replicate] at hj
      split at hj
      ·simp only[Option.some.injEq] at hj
       exact⟨by omega,hj.symm⟩
      ·cases hj
     obtain⟨rfl,rfl⟩:=hj0
     rw[Addr.add_lit]
     exact hrd.cell (i:=0) (v:=xk p) rfl) (by simp[lu]) (fun v hv=>by
     rw[List.mem_replicate] at hv
     rw[hv.2]
     rfl)
   have Ox:Hid (dh (wr.drew.setRow nb (lu 3 3 p).toArray) nb 69 (lu 3 3 p).toArray):=setRow_heap _ _ _ _ _ _ hrd
   have Cj:Hid (Below w.heap.size w (wr.drew.setRow nb (lu 3 3 p).toArray)):=G6 hb.drew (by rw[uh Gl];exact Nat.le_refl _) _
   clear hrow hrd hb
   go_wp2
   go_region_held3 (fun w'=>True) (go_keep) (first|(fail))
   go_wp2
   go_roundg (3-3)
   case measure =>
    have h9:=uh HG
    omega
   case rel=>exact⟨3,by decide,by decide,rfl,rfl,uh Ox,uh Cj⟩
  have hkn:k=3:=by omega
  subst hkn
  have HF:Hid (Q8 3 p w (.returned (.slice (some ⟨nb,0,none⟩) 3 3)) wr):=by
   refine hide ⟨by rw[uh Gl],?_,hb⟩
   rw[←uh Gl]
   exact hrow
  clear hrow hb
  go_wp2
  go_ret
  exact uh HF
def Xj (t:eu) (ks:List cu):List (List cu) :=
 if t.op=23 then [ks.dropLast] else if t.op=24 then [ks++[⟨t.name,true⟩],ks++[⟨t.name,false⟩]] else List.replicate (Af t.op) ks
def Nl (lo:Nat) (X:Nat->Prop) (C L:List cu->Option Nat) (N:Nat) (cls:List (List cu)) (w:World) (e:Ending) (w':World):Prop :=
 ∃(ob:Nat) (ps:List Nat) (C' L':List cu->Option Nat) (N':Nat),e=.returned (.slice (some ⟨ob,0,none⟩) ps.length ps.length)∧dh w' ob 69 (ps.map xk).toArray∧w.heap.size<=ob∧Trie w' lo X C' L' N'∧N'<=N+2∧Grow lo w C L w' C' L'∧cls.map C'=ps.map some
set_option maxRecDepth 20000 in
set_option maxHeartbeats 4000000 in
theorem anh (w:World) (lo:Nat) (X:Nat->Prop) (C L:List cu->Option Nat) (N:Nat) (h:Trie w lo X C L N) (hlo:lo<=w.heap.size) (vl:Int) (nm:ByteArray) (ks:List cu) (c:cu) (p:Nat) (hp:C (ks++[c])=some p) :
  Calls Tryz.prog 157 #[.agg #[.int .i64 23,.int .i64 vl,.string nm],.pointer (some ⟨p,0,none⟩)] w (Nl lo X C L N [ks] w):=by
 have hA:Below w.heap.size w (w.alloc (.cells #[.int .i64 23,.int .i64 vl,.string nm] 97)):=(Below.refl _ _).alloc (Nat.le_refl _) _
 obtain⟨q,M,hq,_⟩:=h.up _ _ _ hp
 have hpb:=((h.below hA).blk _ p hp).1
 have q0:=hpb.cell (i:=0) (v:=.pointer (some ⟨q,0,none⟩)) (by unfold Ai;rw[Pq,hq];rfl)
 have HF:Hid (Nl lo X C L N [ks] w (.returned (.slice (some ⟨w.heap.size+1,0,none⟩) 1 1)) ((w.alloc (.cells #[.int .i64 23,.int .i64 vl,.string nm] 97)).alloc (.cells #[.pointer (some ⟨q,0,none⟩)] 69))):=by
  have hB:Below w.heap.size w ((w.alloc (.cells #[.int .i64 23,.int .i64 vl,.string nm] 97)).alloc (.cells #[.pointer (some ⟨q,0,none⟩)] 69)):=hA.alloc hA.size _
  refine hide ⟨w.heap.size+1,[q],C,L,N,rfl,?_,by omega,h.below hB,by omega,Grow.of_below hB hlo,by rw[List.map_cons,hq];rfl⟩
  have h9:=jd (w.alloc (.cells #[.int .i64 23,.int .i64 vl,.string nm] 97)) #[.pointer (some ⟨q,0,none⟩)] 69
  rw[show (w.alloc (.cells #[.int .i64 23,.int .i64 vl,.string nm] 97)).heap.size=w.heap.size+1 from by simp] at h9
  exact h9
 obtain⟨PO,l7⟩:∃PO:Ending->World->Prop,PO=Nl lo X C L N [ks] w:=⟨_,rfl⟩
 rw[←l7] at HF ⊢
 clear h hA hp hpb hq l7
 go_enter Tryz.func157,Tryz.ntmps157
 go_wp2
 first
  | exact uh HF
  | (go_ret;exact uh HF)
theorem asi (op:Int) (h:1<=op∧op<=22):(Af op=0∧G5 op=0)∨(Af op=1∧G5 op=1)∨(Af op=2∧G5 op=2)∨(Af op=3∧G5 op=3):=by
 have hb:=Gh op
 unfold Af
 omega
set_option maxRecDepth 20000 in
set_option maxHeartbeats 4000000 in
theorem apv (w:World) (lo:Nat) (X:Nat->Prop) (C L:List cu->Option Nat) (N:Nat) (h:Trie w lo X C L N) (hlo:lo<=w.heap.size) (op vl:Int) (nm:ByteArray) (hop:1<=op∧op<=22) (ks:List cu) (p:Nat) (hp:C ks=some p) :
  Calls Tryz.prog 157 #[.agg #[.int .i64 op,.int .i64 vl,.string nm],.pointer (some ⟨p,0,none⟩)] w (Nl lo X C L N (List.replicate (Af op) ks) w):=by
 have hA:Below w.heap.size w (w.alloc (.cells #[.int .i64 op,.int .i64 vl,.string nm] 97)):=(Below.refl _ _).alloc (Nat.le_refl _) _
 have hB:Below w.heap.size w ((w.alloc (.cells #[.int .i64 op,.int .i64 vl,.string nm] 97)).alloc (.cells #[.pointer (some ⟨p,0,none⟩)] 69)):=hA.alloc hA.size _
 have hbk:=jd (w.alloc (.cells #[.int .i64 op,.int .i64 vl,.string nm] 97)) #[.pointer (some ⟨p,0,none⟩)] 69
 rw[show (w.alloc (.cells #[.int .i64 op,.int .i64 vl,.string nm] 97)).heap.size=w.heap.size+1 from by simp] at hbk
 have k0:=hbk.cell (i:=0) (v:=xk p) rfl
 have bx0:=(jd w #[.int .i64 op,.int .i64 vl,.string nm] 97).cell (i:=0) (v:=.int .i64 op) rfl
 have bx1:=(((jd w #[.int .i64 op,.int .i64 vl,.string nm] 97).below ((Below.refl _ _).alloc (Nat.le_refl _) (.cells #[.pointer (some ⟨p,0,none⟩)] 69)) (by simp))).cell (i:=0) (v:=.int .i64 op) rfl
 have Jh:=hide (fun w=>Ll op w)
 have hA2:((w.alloc (.cells #[.int .i64 op,.int .i64 vl,.string nm] 97)).alloc (.cells #[.pointer (some ⟨p,0,none⟩)] 69)).heap.size=w.heap.size+2:=by simp
 obtain⟨wB,hwB⟩:∃z,z=(w.alloc (.cells #[.int .i64 op,.int .i64 vl,.string nm] 97)).alloc (.cells #[.pointer (some ⟨p,0,none⟩)] 69):=⟨_,rfl⟩
 have gq:Hid (∀n w',Q8 n p wB (.returned (.slice (some ⟨wB.heap.size,0,none⟩) n n)) w'->n=Af op->Nl lo X C L N (List.replicate (Af op) ks) w (.returned (.slice (some ⟨wB.heap.size,0,none⟩) n n)) w'):=fun n w' hr hn=>by
  obtain⟨_,h2,h3⟩:=hr
  rw[←hwB] at hB hA2
  have vg:Below w.heap.size w w':=hB.trans (h3.mono hB.size)
  refine⟨wB.heap.size,List.replicate n p,C,L,N,by rw[List.length_replicate],by rw[List.map_replicate];exact h2,by omega,h.below vg,by omega,Grow.of_below vg hlo,by rw[hn,List.map_replicate,List.map_replicate,hp]⟩
 obtain⟨PO,l7⟩:∃PO:Ending->World->Prop,PO=Nl lo X C L N (List.replicate (Af op) ks) w:=⟨_,rfl⟩
 rw[←l7] at gq ⊢
 have e1:(op == 23)=false:=by rw[beq_eq_false_iff_ne];omega
 have e2:(op == 24)=false:=by rw[beq_eq_false_iff_ne];omega
 have hac:=asi op hop
 rw[←hwB] at k0 bx1
 have HK0:=hide k0
 clear h hA hB hbk hp l7 hA2 hop hlo k0
 rcases hac with ⟨a1,a2⟩|⟨a1,a2⟩|⟨a1,a2⟩|⟨a1,a2⟩
 ·have HF:=hide (fun w' hr=>uh gq 0 w' hr a1.symm)
  have Ya:=hide (ase wB (w.heap.size+1) p (uh HK0))
  rw[a2] at Jh
  clear gq HK0 a1 a2
  subst hwB
  go_enter Tryz.func157,Tryz.ntmps157
  go_wp2_with fail
  refine(uh Jh _).mono ?_
  rintro e w1 ⟨rfl,hw1⟩
  rw[hw1]
  clear hw1
  go_wp2_with fail
  refine(uh Ya).mono ?_
  rintro e w2 ⟨rfl,hr1,hr2⟩
  have he:=uh HF w2 ⟨rfl,hr1,hr2⟩
  rw[show ((w.alloc (.cells #[.int .i64 op,.int .i64 vl,.string nm] 97)).alloc (.cells #[.pointer (some ⟨p,0,none⟩)] 69)).heap.size=w.heap.size+1+1 from by simp] at he
  have HE:=hide he
  clear he
  clear HF Ya Jh hr1 hr2 bx0 bx1
  go_wp2
  exact uh HE
 ·have HF:=hide (fun w' hr=>uh gq 1 w' hr a1.symm)
  have Ya:=hide (asf wB (w.heap.size+1) p (uh HK0))
  rw[a2] at Jh
  clear gq HK0 a1 a2
  subst hwB
  go_enter Tryz.func157,Tryz.ntmps157
  go_wp2_with fail
  refine(uh Jh _).mono ?_
  rintro e w1 ⟨rfl,hw1⟩
  rw[hw1]
  clear hw1
  go_wp2_with fail
  refine(uh Ya).mono ?_
  rintro e w2 ⟨rfl,hr1,hr2⟩
  have he:=uh HF w2 ⟨rfl,hr1,hr2⟩
  rw[show ((w.alloc (.cells #[.int .i64 op,.int .i64 vl,.string nm] 97)).alloc (.cells #[.pointer (some ⟨p,0,none⟩)] 69)).heap.size=w.heap.size+1+1 from by simp] at he
  have HE:=hide he
  clear he
  clear HF Ya Jh hr1 hr2 bx0 bx1
  go_wp2
  exact uh HE
 ·have HF:=hide (fun w' hr=>uh gq 2 w' hr a1.symm)
  have Ya:=hide (asg wB (w.heap.size+1) p (uh HK0))
  rw[a2] at Jh
  clear gq HK0 a1 a2
  subst hwB
  go_enter Tryz.func157,Tryz.ntmps157
  go_wp2_with fail
  refine(uh Jh _).mono ?_
  rintro e w1 ⟨rfl,hw1⟩
  rw[hw1]
  clear hw1
  go_wp2_with fail
  refine(uh Ya).mono ?_
  rintro e w2 ⟨rfl,hr1,hr2⟩
  have he:=uh HF w2 ⟨rfl,hr1,hr2⟩
  rw[show ((w.alloc (.cells #[.int .i64 op,.int .i64 vl,.string nm] 97)).alloc (.cells #[.pointer (some ⟨p,0,none⟩)] 69)).heap.size=w.heap.size+1+1 from by simp] at he
  have HE:=hide he
  clear he
  clear HF Ya Jh hr1 hr2 bx0 bx1
  go_wp2
  exact uh HE
 ·have HF:=hide (fun w' hr=>uh gq 3 w' hr a1.symm)
  have Ya:=hide (ash wB (w.heap.size+1) p (uh HK0))
  rw[a2] at Jh
  clear gq HK0 a1 a2
  subst hwB
  go_enter Tryz.func157,Tryz.ntmps157
  go_wp2_with fail
  refine(uh Jh _).mono ?_
  rintro e w1 ⟨rfl,hw1⟩
  rw[hw1]
  clear hw1
  go_wp2_with fail
  refine(uh Ya).mono ?_
  rintro e w2 ⟨rfl,hr1,hr2⟩
  have he:=uh HF w2 ⟨rfl,hr1,hr2⟩
  rw[show ((w.alloc (.cells #[.int .i64 op,.int .i64 vl,.string nm] 97)).alloc (.cells #[.pointer (some ⟨p,0,none⟩)] 69)).heap.size=w.heap.size+1+1 from by simp] at he
  have HE:=hide he
  clear he
  clear HF Ya Jh hr1 hr2 bx0 bx1
  go_wp2
  exact uh HE
structure Q1 (w:World) (lo:Nat) (X:Nat->Prop) (C L:List cu->Option Nat) (N:Nat) (ks:List cu) (nm:ByteArray) (vl:Int) (b:Bool) (pp:Nat) (w':World):Prop where
 ex:∃C' L',Trie w' lo X C' L' (N+1)∧C' (ks++[⟨nm,b⟩])=some pp∧Grow lo w C L w' C' L'
 bx:dh w' w.heap.size 97 #[.int .i64 24,.int .i64 vl,.string nm]
structure Q2 (w:World) (lo:Nat) (X:Nat->Prop) (C L:List cu->Option Nat) (N:Nat) (ks:List cu) (nm:ByteArray) (b b':Bool) (pp qq:Nat) (w':World):Prop where
 ex:∃C' L',Trie w' lo X C' L' (N+2)∧C' (ks++[⟨nm,b⟩])=some pp∧C' (ks++[⟨nm,b'⟩])=some qq∧Grow lo w C L w' C' L'
set_option maxRecDepth 20000 in
set_option maxHeartbeats 4000000 in
theorem ak6 (w:World) (lo:Nat) (X:Nat->Prop) (C L:List cu->Option Nat) (N:Nat) (h:Trie w lo X C L N) (hlo:lo<=w.heap.size) (vl:Int) (nm:ByteArray) (hnm:nm.size<=maxLen) (hN:N+1<maxLen) (ks:List cu) (hkl:ks.length<=1000000) (p:Nat) (hp:C ks=some p) :
  Calls Tryz.prog 157 #[.agg #[.int .i64 24,.int .i64 vl,.string nm],.pointer (some ⟨p,0,none⟩)] w (Nl lo X C L N [ks++[⟨nm,true⟩],ks++[⟨nm,false⟩]] w):=by
 have hA:Below w.heap.size w (w.alloc (.cells #[.int .i64 24,.int .i64 vl,.string nm] 97)):=(Below.refl _ _).alloc (Nat.le_refl _) _
 have hbx:=jd w #[.int .i64 24,.int .i64 vl,.string nm] 97
 have bx0:=hbx.cell (i:=0) (v:=.int .i64 24) rfl
 have bx2:=hbx.cell (i:=2) (v:=.string nm) rfl
 have hAd:=hA.drew
 have HT1:Hid (∀b,Calls Tryz.prog 84 #[.pointer (some ⟨p,0,none⟩),.agg #[.string nm,.bool b]] (w.alloc (.cells #[.int .i64 24,.int .i64 vl,.string nm] 97)).drew fun e w'=>∃pp,e=.returned (.pointer (some ⟨pp,0,none⟩))∧Hid (Q1 w lo X C L N ks nm vl b pp w')∧w'.cell? ⟨w.heap.size,2,none⟩=some (.string nm)):=fun b=>by
  have ht:=h.below hAd
  refine(afc _ lo X C L N ht ks p hp ⟨nm,b⟩ hnm (by omega) (Nat.le_trans hlo hAd.size) hkl).mono ?_
  rintro e w' ⟨pp,C',L',rfl,h1,h2,h3⟩
  have hbd:dh (w.alloc (.cells #[.int .i64 24,.int .i64 vl,.string nm] 97)).drew w.heap.size 97 #[.int .i64 24,.int .i64 vl,.string nm]:=hbx
  have vg:=h3.blk ht (c:=.int .i64 24) (cs:=[.int .i64 vl,.string nm]) hbd (by decide)
  exact⟨pp,rfl,⟨⟨C',L',h1,h2,(Grow.of_below hAd hlo).trans h3⟩,vg⟩,vg.cell (i:=2) rfl⟩
 have HT2:Hid (∀b b' pp w',Hid (Q1 w lo X C L N ks nm vl b pp w')->Calls Tryz.prog 84 #[.pointer (some ⟨p,0,none⟩),.agg #[.string nm,.bool b']] w' fun e w''=>∃qq,e=.returned (.pointer (some ⟨qq,0,none⟩))∧Hid (Q2 w lo X C L N ks nm b b' pp qq w'')∧w''.cell? ⟨w.heap.size,2,none⟩=some (.string nm)):=fun b b' pp w' hq=>by
  obtain⟨⟨C',L',h1,h2,h3⟩,hb8⟩:=uh hq
  refine(afc _ lo X C' L' (N+1) h1 ks p (h3.c _ _ hp) ⟨nm,b'⟩ hnm hN (Nat.le_trans hlo h3.keep.size) hkl).mono ?_
  rintro e w'' ⟨qq,C2,L2,rfl,g1,g2,g3⟩
  have vg:=g3.blk h1 (c:=.int .i64 24) (cs:=[.int .i64 vl,.string nm]) hb8 (by decide)
  exact⟨qq,rfl,⟨⟨C2,L2,g1,g3.c _ _ h2,g2,h3.trans g3⟩⟩,vg.cell (i:=2) rfl⟩
 have HF:Hid (∀b b' pp qq w',Q2 w lo X C L N ks nm b b' pp qq w'->∀(pt pf:Nat),(b=true∧b'=false∧pt=pp∧pf=qq)∨(b=false∧b'=true∧pt=qq∧pf=pp)->Nl lo X C L N [ks++[⟨nm,true⟩],ks++[⟨nm,false⟩]] w (.returned (.slice (some ⟨w'.heap.size,0,none⟩) 2 2)) (w'.alloc (.cells #[.pointer (some ⟨pt,0,none⟩),.pointer (some ⟨pf,0,none⟩)] 69))):=fun b b' pp qq w' hq pt pf hc=>by
  obtain⟨⟨C',L',h1,h2,h3,h4⟩⟩:=hq
  have hal:Below w'.heap.size w' (w'.alloc (.cells #[.pointer (some ⟨pt,0,none⟩),.pointer (some ⟨pf,0,none⟩)] 69)):=(Below.refl _ _).alloc (Nat.le_refl _) _
  refine⟨w'.heap.size,[pt,pf],C',L',N+2,rfl,jd w' _ _,h4.keep.size,h1.below hal,Nat.le_refl _,h4.trans (Grow.of_below hal (Nat.le_trans hlo h4.keep.size)),?_⟩
  rcases hc with ⟨rfl,rfl,rfl,rfl⟩|⟨rfl,rfl,rfl,rfl⟩
  ·rw[List.map_cons,List.map_cons,h2,h3];rfl
  ·rw[List.map_cons,List.map_cons,h2,h3];rfl
 obtain⟨PO,l7⟩:∃PO:Ending->World->Prop,PO=Nl lo X C L N [ks++[⟨nm,true⟩],ks++[⟨nm,false⟩]] w:=⟨_,rfl⟩
 rw[←l7] at HF ⊢
 clear h hlo hnm hN hkl hp hA hbx hAd l7
 go_enter Tryz.func157,Tryz.ntmps157
 go_wp2_with fail
 generalize w.alloc (.cells #[.int .i64 24,.int .i64 vl,.string nm] 97)=wA at *
 go_region_held3 (fun w'=>w'.cell? ⟨w.heap.size,2,none⟩=some (.string nm)) (go_keep) (first|(go_at_call 84;refine(uh HT1 _).mono ?_;rintro e w1 ⟨pp,rfl,HQ1,z1⟩)|(go_at_call 84;refine(uh HT2 _ _ _ _ HQ1).mono ?_;rintro e w2 ⟨qq,rfl,HQ2,z2⟩))
 ·have HE:=hide (uh HF _ _ _ _ _ (uh HQ2) _ _ (Or.inl ⟨rfl,rfl,rfl,rfl⟩))
  clear HT1 HT2 HF HQ1 HQ2 z1 z2
  go_wp2
  exact uh HE
theorem asj (w:World) (lo:Nat) (X:Nat->Prop) (C L:List cu->Option Nat) (N:Nat) (h:Trie w lo X C L N) (hlo:lo<=w.heap.size) (t:eu) (hnm:t.name.size<=maxLen) (hop:1<=t.op∧t.op<=24) (hN:N+1<maxLen) (ks:List cu) (hkl:ks.length<=1000000) (h23:t.op=23->ks≠[]) (p:Nat) (hp:C ks=some p) :
  Calls Tryz.prog 157 #[.agg #[.int .i64 t.op,.int .i64 t.val,.string t.name],.pointer (some ⟨p,0,none⟩)] w (Nl lo X C L N (Xj t ks) w):=by
 obtain⟨op,vl,nm⟩:=t
 unfold Xj
 simp only at *
 by_cases h1:op=23
 ·subst h1
  rw[if_pos rfl]
  obtain⟨Ej,c,rfl⟩:=al6 ks (h23 rfl)
  rw[List.dropLast_concat]
  exact anh w lo X C L N h hlo vl nm Ej c p hp
 ·rw[if_neg h1]
  by_cases h2:op=24
  ·subst h2
   rw[if_pos rfl]
   exact ak6 w lo X C L N h hlo vl nm hnm hN ks hkl p hp
  ·rw[if_neg h2]
   exact apv w lo X C L N h hlo op vl nm (by omega) ks p hp
end Go.Proofs.YtflcnhfakcgkeaaGreat
