import Derived.Test.YtajabbnlbopcbaaGreatDoorTI1
namespace Go.Proofs.YtajabbnlbopcbaaGreatDoor
open Go.RowKit
set_option linter.unusedSimpArgs false
set_option linter.unusedVariables false
theorem step_append_run {P : Program} {w w' : World} {ops : Array Oper} {o : Oper} {a : Act} {K : Act → World → Prop} {Q : Exit → Act → World → Prop} {Er : Prop} (hgd : o.guard = none) (s x : Operand) (t ty : TypeId)
  (ho : o.op = .call { callee:=.builtin .append,args:=#[s,x],argTypes:=#[t,t] }) (hty : o.type = ty) (v xv v' : Value) (hs : a.eval s = v) (hx : a.eval x = xv) (hrun : (Builtin.append_ #[t,t] ty #[v,xv]).run P w = .ok v' w') (h : K (a.put o.dst v') w') :
  if Region.wanted o (yielded ops a.tmps) = true then Oper.wp P o a w K Q else Er:=by
 have hwant : Region.wanted o (yielded ops a.tmps) = true:=by simp [Region.wanted,hgd]
 rw [if_pos hwant]
 subst hty
 unfold Oper.wp execOp
 simp only [ho,resolve,invoke,builtin,Sem.run_bind,Sem.run_pure,Result.andThen_ok,List.map_toArray,List.map_cons,List.map_nil,hs,hx,hrun]
 exact h
theorem OwnV.cellT {P : Program} {α : Type} {E : ElF P α} {w : World} {base : Nat} {v : Value} {xs : List α} (h : OwnV E w base v xs) {g : Nat} (hg : v.ownBlock = some g) : ∃ cur,w.heap[g]? = some (.cells cur E.T (0,0)):=by
 obtain ⟨_,h2⟩:=h
 rcases h2 with ⟨rfl,_⟩ | ⟨g',cap,cur,rfl,_,hh,_⟩
 ·cases hg
 ·cases hg
  exact ⟨cur,hh⟩
structure Px (ts : List TK) (W0 : World) (q : Nat) (tv : Value) (W1 w : World) (L : List Pc) (xs : List DItem) (iv : Value) : Prop where
 ps : Ps ts W0 q tv w L iv
 own : OwnV elItem w W1.heap.size iv xs
 tr : Tr q W1 w
 lt : q < W1.heap.size
structure Kq (q : Nat) (iv iv' : Value) (A B : World) : Prop where
 os : B.os = A.os
 tape : B.tape = A.tape
 output : B.output = A.output
 size : A.heap.size ≤ B.heap.size
 other : ∀ k,k < A.heap.size → k ≠ q → iv.ownBlock ≠ some k → B.heap[k]? = A.heap[k]?
 new : ∀ b,iv'.ownBlock = some b → iv.ownBlock = some b ∨ A.heap.size ≤ b
section
variable {ts : List TK} {W0 : World} {q : Nat} {tv iv iv' iv'' : Value} {W1 w : World} {L : List Pc} {xs : List DItem}
theorem Px.go {w' : World} {L' : List Pc} (h : Px ts W0 q tv W1 w L xs iv) (hp' : Ps ts W0 q tv w' L' iv) (ht' : Tr q w w') : Px ts W0 q tv W1 w' L' xs iv :=
 ⟨hp',h.own.ofBlock (fun b hb => ht'.block b (World.ownsRow.lt h.own b hb).2 (fun e => by have:=(World.ownsRow.lt h.own b hb).1; have:=h.lt; omega)),h.tr.trans ht',h.lt⟩
theorem Px.below {w' : World} (h : Px ts W0 q tv W1 w L xs iv) (hb : Below w.heap.size w w') : Px ts W0 q tv W1 w' L xs iv:=h.go (h.ps.below hb) (Tr.of_below hb)
theorem Kq.trans {A B C : World} (h : Kq q iv iv' A B) (k : Kq q iv' iv'' B C) : Kq q iv iv'' A C :=
 ⟨k.os.trans h.os,k.tape.trans h.tape,k.output.trans h.output,Nat.le_trans h.size k.size,fun i h1 h2 h3 => (k.other i (Nat.lt_of_lt_of_le h1 h.size) h2 (fun e => by rcases h.new i e with h9 | h9; exact h3 h9; omega)).trans (h.other i h1 h2 h3),fun b hb => by
  rcases k.new b hb with h9 | h9
  ·exact h.new b h9
  ·exact Or.inr (Nat.le_trans h.size h9)⟩
theorem Kq.of_tr {A B : World} (h : Tr q A B) : Kq q iv iv A B:=⟨h.os,h.tape,h.output,h.size,fun k h1 h2 _ => h.block k h1 h2,fun _ h => Or.inl h⟩
theorem Kq.of_below {A B : World} (h : Below A.heap.size A B) : Kq q iv iv A B:=Kq.of_tr (Tr.of_below h)
theorem Kq.blk {A B : World} (h : Kq q iv iv' A B) {b U : Nat} {cs : Array Value} (hb : BlkAt A b U cs) (hq : b ≠ q) (hU : iv.ownBlock ≠ some b) : BlkAt B b U cs:=(h.other b hb.lt hq hU).trans hb
theorem Px.ne (h : Px ts W0 q tv W1 w L xs iv) {b U : Nat} {cs : Array Value} (hb : BlkAt w b U cs) (hU : U ≠ 83) : b ≠ q:=fun e => by
 obtain ⟨i,h2,_⟩:=h.ps.at_
 subst e
 exact blk_not h2 (fun e => hU e.symm) hb
theorem Px.nrow (h : Px ts W0 q tv W1 w L xs iv) {b U : Nat} {cs : Array Value} (hb : BlkAt w b U cs) (hU : U ≠ 88) : iv.ownBlock ≠ some b:=OwnV.notBlk' h.own hb (fun e => hU e.symm)
theorem Px.nnew (h : Px ts W0 q tv W1 w L xs iv) {b : Nat} (hb : w.heap.size ≤ b) : iv.ownBlock ≠ some b:=fun e => by have:=(World.ownsRow.lt h.own b e).2; omega
def PxAns (ts : List TK) (W0 : World) (q : Nat) (tv : Value) (W1 w : World) (iv : Value) (v : Value) (L : List Pc) (xs : List DItem) (e : Ending) (w' : World) : Prop:=∃ iv',e = .returned v ∧ Px ts W0 q tv W1 w' L xs iv' ∧ Kq q iv iv' w w'
def PxSame (ts : List TK) (W0 : World) (q : Nat) (tv : Value) (W1 w : World) (iv : Value) (v : Value) (L : List Pc) (xs : List DItem) (e : Ending) (w' : World) : Prop:=e = .returned v ∧ Px ts W0 q tv W1 w' L xs iv ∧ Tr q w w'
theorem px_takes {t : Pc} (h : Px ts W0 q tv W1 w (t :: L) xs iv) {W : ByteArray} (hW : t.text = W) : Calls Tryz.prog 77 #[.pointer (some ⟨q,0,none⟩),.string W] w (PxSame ts W0 q tv W1 w iv (.bool true) L xs):=by
 refine (takes_yes h.ps hW).mono ?_
 rintro e w1 ⟨rfl,hp,ht⟩
 exact ⟨rfl,h.go hp ht,ht⟩
theorem px_takesno {t : Pc} (h : Px ts W0 q tv W1 w (t :: L) xs iv) {W : ByteArray} (hW : ¬ t.text = W) : Calls Tryz.prog 77 #[.pointer (some ⟨q,0,none⟩),.string W] w (PxSame ts W0 q tv W1 w iv (.bool false) (t :: L) xs):=by
 refine (takes_no h.ps hW).mono ?_
 rintro e w1 ⟨rfl,hb⟩
 exact ⟨rfl,h.below hb,Tr.of_below hb⟩
theorem px_want {t : Pc} (h : Px ts W0 q tv W1 w (t :: L) xs iv) {W : ByteArray} (hW : t.text = W) : Calls Tryz.prog 72 #[.pointer (some ⟨q,0,none⟩),.string W] w (PxSame ts W0 q tv W1 w iv (.tuple #[]) L xs):=by
 refine (want_ok h.ps hW).mono ?_
 rintro e w1 ⟨rfl,hp,ht⟩
 exact ⟨rfl,h.go hp ht,ht⟩
theorem px_name {t : Pc} (h : Px ts W0 q tv W1 w (t :: L) xs iv) (hk : t.kind = 1) (hz : t.text.size ≤ 20000) : Calls Tryz.prog 73 #[.pointer (some ⟨q,0,none⟩)] w (PxSame ts W0 q tv W1 w iv (.string t.text) L xs):=by
 refine (name_ok h.ps hk hz).mono ?_
 rintro e w1 ⟨rfl,hp,ht⟩
 exact ⟨rfl,h.go hp ht,ht⟩
set_option maxHeartbeats 2000000 in
theorem emit_ok (h : Px ts W0 q tv W1 w L xs iv) (op val : Int) (nm : ByteArray) (hl : xs.length ≤ 100000) : Calls Tryz.prog 113 #[.pointer (some ⟨q,0,none⟩),.agg #[.int .i64 op,.int .i64 val,.string nm]] w (PxAns ts W0 q tv W1 w iv (.tuple #[]) L (xs ++ [⟨op,val,nm⟩])):=by
 obtain ⟨h1,h2,h3,h4⟩:=h
 obtain ⟨i,hblk,hdr,hil⟩:=h1.at_
 obtain ⟨oa,oc,rfl⟩:=h2.slice
 obtain ⟨PO,hPO⟩ : ∃ PO : Ending → World → Prop,PO = PxAns ts W0 q tv W1 w (.slice oa xs.length oc) (.tuple #[]) L (xs ++ [⟨op,val,nm⟩]):=⟨_,rfl⟩
 rw [← hPO]
 obtain ⟨X,hX⟩ : ∃ X,X = w.alloc (.cells #[.int .i64 op,.int .i64 val,.string nm] 88):=⟨_,rfl⟩
 have hXb : Below w.heap.size w X:=hX ▸ (Below.refl _ _).alloc (Nat.le_refl _) _
 have hbo : BlkAt X w.heap.size 88 #[.int .i64 op,.int .i64 val,.string nm]:=hX ▸ blk_box w _ _
 have hA : Below X.heap.size X (X.alloc (.cells #[.int .i64 op,.int .i64 val,.string nm] 88)).drew:=((Below.refl _ _).alloc (Nat.le_refl _) _).drew
 have hXA:=hXb.trans (hA.mono hXb.size)
 obtain ⟨v5,w5,hrun5,hown5,hgr5,hnew5⟩:=run_append_one elItem (X.alloc (.cells #[.int .i64 op,.int .i64 val,.string nm] 88)).drew 55 W1.heap.size (.slice oa xs.length oc) xs (h2.below hXA) X.heap.size ⟨op,val,nm⟩ (fun j u hu => (blk_box X #[.int .i64 op,.int .i64 val,.string nm] 88).cell (i:=j) (v:=u) (by simpa [elItem] using hu)) (by simp [elItem]; omega) (by have:=h3.size; have:=hXA.size; omega)
 obtain ⟨va,vc,rfl⟩:=hown5.slice
 have hbX:=hblk.below hXb hblk.lt
 have hbA:=hblk.below hXA hblk.lt
 have hqo : (Value.slice oa xs.length oc).ownBlock ≠ some q:=fun e => by have:=(World.ownsRow.lt h2 q e).1; omega
 have hb5 : BlkAt w5 q 83 #[tv,.int .i64 i,.slice oa xs.length oc]:=(hgr5.block q (by have:=hblk.lt; have:=hXA.size; omega) (fun e => hqo e.symm)).trans hbA
 have hq5 : (Value.slice va (xs ++ [(⟨op,val,nm⟩ : DItem)]).length vc).ownBlock ≠ some q:=fun e => by have:=(World.ownsRow.lt hown5 q e).1; omega
 have hT5 : Tr q W1 w5:=⟨hgr5.os.trans (hXA.os.trans h3.os),hgr5.tape.trans (hXA.tape.trans h3.tape),hgr5.output.trans (hXA.output.trans h3.output),by have:=hgr5.size; have:=hXA.size; have:=h3.size; omega,fun k hk hn => (hgr5.block k (by have:=hXA.size; have:=h3.size; omega) (fun e => by have:=(World.ownsRow.lt h2 k e.symm).1; omega)).trans ((hXA.block k (by have:=h3.size; omega)).trans (h3.block k hk hn))⟩
 have HF : Hid (PO (.returned (.tuple #[])) (w5.setCell ⟨q,2,none⟩ (.slice va (xs ++ [(⟨op,val,nm⟩ : DItem)]).length vc))):=by
  show PO _ _
  rw [hPO]
  refine ⟨.slice va (xs ++ [(⟨op,val,nm⟩ : DItem)]).length vc,rfl,⟨⟨h1.toks,h1.low,h1.few,h1.good,?_,i,hb5.set 2 _,hdr,hil⟩,hown5.ofBlock (fun b hb => Below.heap_setCell _ _ _ _ (fun e => hq5 ((show b = q from e) ▸ hb))),hT5.trans (Tr.setCell _ _ _ _),h4⟩,?_⟩
  rotate_left
  ·have hk1 : Kq q (.slice oa xs.length oc) (.slice va (xs ++ [(⟨op,val,nm⟩ : DItem)]).length vc) w w5:=⟨hgr5.os.trans hXA.os,hgr5.tape.trans hXA.tape,hgr5.output.trans hXA.output,by have:=hgr5.size; have:=hXA.size; omega,fun k g1 g2 g3 => (hgr5.block k (by have:=hXA.size; omega) (fun e => g3 e.symm)).trans (hXA.block k g1),fun b hb => by
    rcases hnew5 b hb with h9 | h9
    ·exact Or.inl h9
    ·exact Or.inr (by have:=hXA.size; omega)⟩
   exact hk1.trans (Kq.of_tr (Tr.setCell _ _ _ _))
  have hlow:=h1.low
  have hB9 : Below W0.heap.size w w5:=⟨hgr5.os.trans hXA.os,hgr5.tape.trans hXA.tape,hgr5.output.trans hXA.output,by have:=hgr5.size; have:=hXA.size; omega,fun k hk => (hgr5.block k (by have:=hXA.size; have:=h1.old.size; omega) (fun e => by have:=(World.ownsRow.lt h2 k e.symm).1; omega)).trans (hXA.block k (by have:=h1.old.size; omega))⟩
  exact (h1.old.trans hB9).setCell (p:=⟨q,2,none⟩) hlow _
 have y0:=hbX.cell (i:=2) (v:=.slice oa xs.length oc) rfl
 have y0a:=hbA.cell (i:=2) (v:=.slice oa xs.length oc) rfl
 have y0b:=hb5.cell (i:=2) (v:=.slice oa xs.length oc) rfl
 have z0b:=hb5.free 2
 have e0:=hbo.cell (i:=0) (v:=.int .i64 op) rfl
 have e1:=hbo.cell (i:=1) (v:=.int .i64 val) rfl
 have e2:=hbo.cell (i:=2) (v:=.string nm) rfl
 have l0 : q < X.heap.size:=hbX.lt
 have l5 : q < w5.heap.size:=hb5.lt
 have HRUN5 : Hid ((Builtin.append_ #[55,55] 55 #[.slice oa xs.length oc,.slice (some ⟨X.heap.size,0,none⟩) 1 1]).run Tryz.prog (X.alloc (.cells #[.int .i64 op,.int .i64 val,.string nm] 88)).drew = .ok (.slice va (xs ++ [(⟨op,val,nm⟩ : DItem)]).length vc) w5):=hrun5
 generalize (xs ++ [(⟨op,val,nm⟩ : DItem)]).length = n5 at *
 generalize xs.length = n0 at *
 clear hXb hbo hA hXA hrun5 hown5 hgr5 hnew5 hbX hbA hqo hb5 hq5 hT5 hblk hdr hil h1 h2 h3 h4 hPO
 go_enter Tryz.func113,Tryz.ntmps113
 go_wp2
 rw [← hX]
 clear hX
 go_region_law (refine step_append_run rfl _ _ 55 55 rfl rfl _ _ _ rfl rfl (uh HRUN5) ?_)
 all_goals
  go_wp2
  first | go_end0 | skip
  exact uh HF
end
end Go.Proofs.YtajabbnlbopcbaaGreatDoor
namespace Go.Proofs.YtajabbnlbopcbaaGreatDoor
open Go.RowKit
set_option linter.unusedSimpArgs false
set_option linter.unusedVariables false
section
variable {ts : List TK} {W0 : World} {q : Nat} {tv iv iv' : Value} {W1 w : World} {L : List Pc} {xs : List DItem}
theorem Px.tab (h : Px ts W0 q tv W1 w L xs iv) : w.rangeAt 1 0 opCells:=by
 have hg:=h.ps.good
 exact fun j v hv => by
  rw [h.ps.old.cell (p:=⟨1,_,none⟩) (show 1 < W0.heap.size by omega)]
  exact hg.1 j v hv
theorem Px.box (h : Px ts W0 q tv W1 w L xs iv) {b U : Nat} {cs : Array Value} (hb : BlkAt w b U cs) (hR : iv.ownBlock ≠ some b) (hP : U ≠ 83) (hW : W1.heap.size ≤ b) {X : World} (ht : Tr b w X) : Px ts W0 q tv W1 X L xs iv:=by
 have hne:=h.ne hb hP
 obtain ⟨h1,h2,h3,h4⟩:=h
 obtain ⟨i,g1,g2,g3⟩:=h1.at_
 have hlow:=h1.low
 refine ⟨⟨h1.toks,h1.low,h1.few,h1.good,h1.old.trans (ht.below h1.old.size (by omega)),i,ht.blk g1 (fun e => hne e.symm),g2,g3⟩,h2.ofBlock (fun b9 hb9 => ht.block b9 (World.ownsRow.lt h2 b9 hb9).2 (fun e => hR (e ▸ hb9))),?_,h4⟩
 exact ⟨ht.os.trans h3.os,ht.tape.trans h3.tape,ht.output.trans h3.output,Nat.le_trans h3.size ht.size,fun k hk hn => (ht.block k (by have:=h3.size; omega) (by omega)).trans (h3.block k hk hn)⟩
theorem Kq.new' {b : Nat} {A B C : World} (h : Kq q iv iv' A B) (ht : Tr b B C) (hb : A.heap.size ≤ b) : Kq q iv iv' A C :=
 ⟨ht.os.trans h.os,ht.tape.trans h.tape,ht.output.trans h.output,Nat.le_trans h.size ht.size,fun k h1 h2 h3 => (ht.block k (by have:=h.size; omega) (by omega)).trans (h.other k h1 h2 h3),h.new⟩
theorem Tr.set3 (b : Nat) (w : World) (x y z : Value) : Tr b w (((w.setCell ⟨b,0,none⟩ x).setCell ⟨b,1,none⟩ y).setCell ⟨b,2,none⟩ z):=((Tr.setCell b w 0 x).trans (Tr.setCell b _ 1 y)).trans (Tr.setCell b _ 2 z)
def PxSame2 (ts : List TK) (W0 : World) (q : Nat) (tv : Value) (W1 w : World) (iv : Value) (v : Value) (L : List Pc) (xs : List DItem) (e : Ending) (w' : World) : Prop:=e = .returned v ∧ Px ts W0 q tv W1 w' L xs iv ∧ Kq q iv iv w w'
def opV (x : ByteArray × Int × Int) : Value:=.agg #[.string x.1,.int .i64 x.2.1,.int .i64 x.2.2]
set_option maxHeartbeats 4000000 in
theorem operator_ok {t : Pc} (h : Px ts W0 q tv W1 w (t :: L) xs iv) (level : Int) (k : Nat) (hk : k ≤ 14) (hno : ∀ j,j < k → ¬ ((opAt j).2.1 = level ∧ t.text = (opAt j).1)) (hyes : k < 14 → (opAt k).2.1 = level ∧ t.text = (opAt k).1) :
  Calls Tryz.prog 146 #[.pointer (some ⟨q,0,none⟩),.int .i64 level] w (PxSame2 ts W0 q tv W1 w iv (.tuple #[opV (opAt k),.bool (decide (k < 14))]) (if k < 14 then L else t :: L) xs):=by
 have HX0:=hide h
 have HW1 : Hid (W1.heap.size ≤ w.heap.size):=h.tr.size
 have HNO:=hide hno
 have HYES:=hide hyes
 have HP:=hide part_op
 clear h hno hyes
 obtain ⟨PO,hPO⟩ : ∃ PO : Ending → World → Prop,PO = PxSame2 ts W0 q tv W1 w iv (.tuple #[opV (opAt k),.bool (decide (k < 14))]) (if k < 14 then L else t :: L) xs:=⟨_,rfl⟩
 rw [← hPO]
 have HPO:=hide hPO
 clear hPO
 obtain ⟨WA,hWA⟩ : ∃ WA,WA = w.alloc (.cells #[.string ⟨#[]⟩,.int .i64 0,.int .i64 0] 145):=⟨_,rfl⟩
 have hB0 : Below w.heap.size w WA:=hWA ▸ (Below.refl _ _).alloc (Nat.le_refl _) _
 have HZ0 : Hid (BlkAt WA w.heap.size 145 #[.string ⟨#[]⟩,.int .i64 0,.int .i64 0]):=hWA ▸ blk_box w _ _
 have HXA:=hide ((uh HX0).below hB0)
 have HK0:=hide (Kq.of_below (q:=q) (iv:=iv) hB0)
 have HHA:=hide (uh HXA).tab
 clear hB0 HX0
 go_enter Tryz.func146,Tryz.ntmps146
 go_wp2_with (rw [← hWA]; refine wpList_load_mid rfl 146 (.global 1) rfl 1 0 rfl opCells (.array 14 145) (uh HHA) u158 rfl i158 ?_)
 have HWA:=hide hWA
 clear hWA
 generalize opCells.toArray = OC at *
 go_loopg [9] 14 (fun g i wr => ∃ (j : Nat),j ≤ k ∧ g = 14 - j ∧ i = .int .i64 j ∧ Px ts W0 q tv W1 wr (t :: L) xs iv ∧ BlkAt wr w.heap.size 145 #[.string ⟨#[]⟩,.int .i64 0,.int .i64 0] ∧ Kq q iv iv w wr)
 case atStart => rw [← uh HWA]; exact ⟨0,Nat.zero_le _,rfl,rfl,uh HXA,uh HZ0,uh HK0⟩
 case round =>
  obtain ⟨j,hj,hg,rfl,hpx,hz,hkq⟩:=hrel
  have HG:=hide hg
  have HX:=hide hpx
  have HZ:=hide hz
  have HK:=hide hkq
  clear hg hpx hz hkq
  by_cases hlt : j < 14
  ·have HI:=hide (uh HP j hlt)
   by_cases hjk : j = k
   ·subst hjk
    obtain ⟨hl,htx⟩:=uh HYES hlt
    have HPO2 : Hid (∀ w',Px ts W0 q tv W1 w' L xs iv → Kq q iv iv w w' → PO (.returned (.tuple #[opV (opAt j),.bool true])) w'):=fun w' h9 h8 => by
     rw [uh HPO,if_pos hlt,decide_eq_true hlt]
     exact ⟨rfl,h9,h8⟩
    unfold opV at HPO2
    clear HNO HYES
    generalize opAt j = p at *
    obtain ⟨s,l,o⟩:=p
    simp only at *
    subst hl
    have hAb : Below wr.heap.size wr (wr.alloc (.cells #[.string s,.int .i64 l,.int .i64 o] 145)):=(Below.refl _ _).alloc (Nat.le_refl _) _
    have hXA:=(uh HX).below hAb
    have hbx:=blk_box wr #[.string s,.int .i64 l,.int .i64 o] 145
    have hzA:=(uh HZ).below hAb (uh HZ).lt
    have HT:=hide (px_takes hXA htx)
    have d0:=hbx.cell (i:=0) (v:=.string s) rfl
    have d1:=hbx.cell (i:=1) (v:=.int .i64 l) rfl
    have HNE:=hide (hXA.ne hbx (by decide))
    have HNZ:=hide (hXA.ne hzA (by decide))
    have HBX:=hide hbx
    have HZA:=hide hzA
    have HKA:=hide ((uh HK).trans (Kq.of_below hAb))
    clear hAb hbx htx hzA hXA
    go_wp2_with (first | (refine wpList_index rfl 146 (.tmp 8) (.tmp 9) rfl (.agg OC) (.int .i64 j) _ rfl rfl (uh HI _) ?_) | (go_at_call 77; refine (uh HT).mono ?_; rintro e w2 ⟨rfl,hpx2,hkq2⟩; have hb2:=hkq2.blk (uh HBX) (uh HNE); have hz2:=hkq2.blk (uh HZA) (uh HNZ); have c0:=hb2.cell (i:=0) (v:=.string s) rfl; have c1:=hb2.cell (i:=1) (v:=.int .i64 l) rfl; have c2:=hb2.cell (i:=2) (v:=.int .i64 o) rfl; have y0:=hz2.cell (i:=0) (v:=.string ⟨#[]⟩) rfl; have y1:=hz2.cell (i:=1) (v:=.int .i64 0) rfl; have y2:=hz2.cell (i:=2) (v:=.int .i64 0) rfl; have f0:=hz2.free 0; have f1:=hz2.free 1; have f2:=hz2.free 2; have lz:=hz2.lt; have HP2:=hide hpx2; have HK2:=hide ((uh HKA).trans (Kq.of_tr hkq2)); have HZ2:=hide hz2; clear hpx2 hkq2 hb2 hz2))
    have hz3:=(uh HZ2).set3 (x:=.string s) (y:=.int .i64 l) (z:=.int .i64 o)
    have r0:=hz3.cell (i:=0) (v:=.string s) rfl
    have r1:=hz3.cell (i:=1) (v:=.int .i64 l) rfl
    have r2:=hz3.cell (i:=2) (v:=.int .i64 o) rfl
    have HFN:=hide (uh HPO2 _ ((uh HP2).box (uh HZ2) ((uh HP2).nrow (uh HZ2) (by decide)) (by decide) (uh HW1) (Tr.set3 w.heap.size w2 (.string s) (.int .i64 l) (.int .i64 o))) ((uh HK2).new' (Tr.set3 w.heap.size w2 (.string s) (.int .i64 l) (.int .i64 o)) (Nat.le_refl _)))
    clear hz3
    exact bodyPost_ret (v:=.tuple #[.agg #[.string s,.int .i64 l,.int .i64 o],.bool true]) (by simp [results,Tryz.results146,go_sem,r0,r1,r2]) rfl (uh HFN)
   ·have hn:=uh HNO j (by omega)
    generalize opAt j = p at *
    obtain ⟨s,l,o⟩:=p
    simp only at *
    have hAb : Below wr.heap.size wr (wr.alloc (.cells #[.string s,.int .i64 l,.int .i64 o] 145)):=(Below.refl _ _).alloc (Nat.le_refl _) _
    have hXA:=(uh HX).below hAb
    have hbx:=blk_box wr #[.string s,.int .i64 l,.int .i64 o] 145
    have hzA:=(uh HZ).below hAb (uh HZ).lt
    have d0:=hbx.cell (i:=0) (v:=.string s) rfl
    have d1:=hbx.cell (i:=1) (v:=.int .i64 l) rfl
    have HNZ:=hide (hXA.ne hzA (by decide))
    have HZA:=hide hzA
    have HKA:=hide ((uh HK).trans (Kq.of_below hAb))
    have HXX:=hide hXA
    by_cases hl : l = level
    ·subst hl
     have HT:=hide (px_takesno hXA (W:=s) (fun e => hn ⟨rfl,e⟩))
     clear hAb hbx hzA hXA hn
     go_wp2_with (first | (refine wpList_index rfl 146 (.tmp 8) (.tmp 9) rfl (.agg OC) (.int .i64 j) _ rfl rfl (uh HI _) ?_) | (go_at_call 77; refine (uh HT).mono ?_; rintro e w2 ⟨rfl,hpx2,hkq2⟩; have HP2:=hide hpx2; have HK2:=hide ((uh HKA).trans (Kq.of_tr hkq2)); have HZ2:=hide (hkq2.blk (uh HZA) (uh HNZ)); clear hpx2 hkq2))
     go_roundg (14 - (j + 1))
     case measure => have:=uh HG; omega
     case rel => exact ⟨j + 1,by omega,rfl,by go_num,uh HP2,uh HZ2,uh HK2⟩
    ·have hlb : (l == level) = false:=by rw [beq_eq_false_iff_ne]; exact hl
     clear hAb hbx hzA hXA hn
     go_wp2_with (first | (refine wpList_index rfl 146 (.tmp 8) (.tmp 9) rfl (.agg OC) (.int .i64 j) _ rfl rfl (uh HI _) ?_))
     go_roundg (14 - (j + 1))
     case measure => have:=uh HG; omega
     case rel => exact ⟨j + 1,by omega,rfl,by go_num,uh HXX,uh HZA,uh HKA⟩
  ·have e : j = 14:=by omega
   have e2 : k = 14:=by omega
   subst e
   subst e2
   have hz3:=(uh HZ).set3 (x:=.string ⟨#[]⟩) (y:=.int .i64 0) (z:=.int .i64 0)
   have r0:=hz3.cell (i:=0) (v:=.string ⟨#[]⟩) rfl
   have r1:=hz3.cell (i:=1) (v:=.int .i64 0) rfl
   have r2:=hz3.cell (i:=2) (v:=.int .i64 0) rfl
   have y0:=(uh HZ).cell (i:=0) (v:=.string ⟨#[]⟩) rfl
   have y1:=(uh HZ).cell (i:=1) (v:=.int .i64 0) rfl
   have y2:=(uh HZ).cell (i:=2) (v:=.int .i64 0) rfl
   have f0:=(uh HZ).free 0
   have f1:=(uh HZ).free 1
   have f2:=(uh HZ).free 2
   have lz:=(uh HZ).lt
   have HFN : Hid (PO (.returned (.tuple #[.agg #[.string ⟨#[]⟩,.int .i64 0,.int .i64 0],.bool false])) (((wr.setCell ⟨w.heap.size,0,none⟩ (.string ⟨#[]⟩)).setCell ⟨w.heap.size,1,none⟩ (.int .i64 0)).setCell ⟨w.heap.size,2,none⟩ (.int .i64 0))):=by
    show PO _ _
    rw [uh HPO]
    exact ⟨rfl,(uh HX).box (uh HZ) ((uh HX).nrow (uh HZ) (by decide)) (by decide) (uh HW1) (Tr.set3 _ _ _ _ _),(uh HK).new' (Tr.set3 _ _ _ _ _) (Nat.le_refl _)⟩
   clear hz3
   go_wp2
   exact bodyPost_ret (v:=.tuple #[.agg #[.string ⟨#[]⟩,.int .i64 0,.int .i64 0],.bool false]) (by simp [results,Tryz.results146,go_sem,r0,r1,r2]) rfl (uh HFN)
set_option maxHeartbeats 1000000 in
theorem join_ok (h : Px ts W0 q tv W1 w L xs iv) (x : ByteArray × Int × Int) (hl : xs.length ≤ 100000) : Calls Tryz.prog 144 #[.pointer (some ⟨q,0,none⟩),opV x] w (PxAns ts W0 q tv W1 w iv (.tuple #[]) L (xs ++ [⟨x.2.2,0,⟨#[]⟩⟩])):=by
 obtain ⟨s,l,o⟩:=x
 unfold opV
 simp only
 have hb : Below w.heap.size w (w.alloc (.cells #[.string s,.int .i64 l,.int .i64 o] 145)):=(Below.refl _ _).alloc (Nat.le_refl _) _
 have HE:=hide (emit_ok (h.below hb) o 0 ⟨#[]⟩ hl)
 have HB:=hide (Kq.of_below (q:=q) (iv:=iv) hb)
 clear h hb
 go_enter Tryz.func144,Tryz.ntmps144
 go_wp2_with fail
 refine (uh HE).mono ?_
 rintro e w2 ⟨iv2,rfl,hp,hk⟩
 have HP:=hide hp
 have HK:=hide ((uh HB).trans hk)
 clear hp hk
 go_wp2
 first | go_end0 | skip
 exact ⟨iv2,rfl,uh HP,uh HK⟩
end
end Go.Proofs.YtajabbnlbopcbaaGreatDoor
namespace Go.Proofs.YtajabbnlbopcbaaGreatDoor
open Go.RowKit
set_option linter.unusedSimpArgs false
set_option linter.unusedVariables false
section
variable {ts : List TK} {W0 : World} {q : Nat} {tv iv iv' : Value} {W1 w : World} {L : List Pc} {xs : List DItem}
theorem Ps.grown (h : Ps ts W0 q tv w L iv) {w' : World} {row : Option Nat} (hg : w.grownBy w' row) {B : Nat} (hr : ∀ b,row = some b → B ≤ b) (hq : q < B) : Ps ts W0 q tv w' L iv:=by
 obtain ⟨i,g1,g2,g3⟩:=h.at_
 have hl:=h.low
 refine ⟨h.toks,h.low,h.few,h.good,h.old.trans ⟨hg.os,hg.tape,hg.output,hg.size,fun k hk => hg.block k (by have:=h.old.size; omega) (fun e => by have:=hr k e.symm; omega)⟩,i,(hg.block q g1.lt (fun e => by have:=hr q e.symm; omega)).trans g1,g2,g3⟩
theorem Tr.grown {r : Nat} {w0 w w' : World} (h : Tr r w0 w) {row : Option Nat} (hg : w.grownBy w' row) (hr : ∀ b,row = some b → w0.heap.size ≤ b) : Tr r w0 w' :=
 ⟨hg.os.trans h.os,hg.tape.trans h.tape,hg.output.trans h.output,Nat.le_trans h.size hg.size,fun k hk hn => (hg.block k (by have:=h.size; omega) (fun e => by have:=hr k e.symm; omega)).trans (h.block k hk hn)⟩
def CdsPost (ts : List TK) (W0 : World) (q : Nat) (tv iv : Value) (w : World) (cs : List DCond) (L : List Pc) (e : Ending) (w' : World) : Prop :=
 ∃ a c,e = .returned (.slice a cs.length c) ∧ OwnV elCond w' w.heap.size (.slice a cs.length c) cs ∧ Ps ts W0 q tv w' L iv ∧ Tr q w w'
set_option maxHeartbeats 4000000 in
theorem conditions_ok {t : Pc} (cs : List DCond) (h : Ps ts W0 q tv w (cs.flatMap cdK ++ t :: L) iv) (hn : ∀ c ∈ cs,c.name.size ≤ 40) (hlen : cs.length ≤ 20000) (ht1 : ¬ t.text = Kwhen) (ht2 : ¬ t.text = Kwhenot) :
  Calls Tryz.prog 96 #[.pointer (some ⟨q,0,none⟩)] w (CdsPost ts W0 q tv iv w cs (t :: L)):=by
 have HS0:=hide h
 have hql:=h.lt
 have HN:=hide hn
 clear h hn
 obtain ⟨PO,hPO⟩ : ∃ PO : Ending → World → Prop,PO = CdsPost ts W0 q tv iv w cs (t :: L):=⟨_,rfl⟩
 rw [← hPO]
 have HPO:=hide hPO
 clear hPO
 go_enter Tryz.func96,Tryz.ntmps96
 go_wp2
 go_loopg [3] cs.length (fun g v wr => ∃ (pre rest : List DCond),cs = pre ++ rest ∧ g = rest.length ∧ Ps ts W0 q tv wr (rest.flatMap cdK ++ t :: L) iv ∧ OwnV elCond wr w.heap.size v pre ∧ Tr q w wr)
 case atStart => exact ⟨[],cs,rfl,rfl,uh HS0,OwnV.nil _ _,Tr.refl _ _⟩
 case round =>
  obtain ⟨pre,rest,hcs,hg,hps,hown,htr⟩:=hrel
  have HG:=hide hg
  have HS:=hide hps
  have HO:=hide hown
  have HT:=hide htr
  obtain ⟨va,vc,rfl⟩:=hown.slice
  clear hg hps hown htr
  cases rest with
  | nil =>
   have h1 : Ps ts W0 q tv wr (t :: L) iv:=uh HS
   have HC1:=hide (takes_no h1 ht1)
   have HF : Hid (∀ w',Below wr.heap.size wr w' → PO (.returned (.slice va pre.length vc)) w'):=fun w' hb => by
    rw [uh HPO]
    have e : cs = pre:=by rw [hcs,List.append_nil]
    rw [e]
    exact ⟨va,vc,rfl,(uh HO).below hb,h1.below hb,(uh HT).trans (Tr.of_below hb)⟩
   have HC2 : Hid (∀ w',Below wr.heap.size wr w' → Calls Tryz.prog 77 #[.pointer (some ⟨q,0,none⟩),.string Kwhenot] w' (Ans (.bool false) w')):=fun w' hb => takes_no (h1.below hb) ht2
   clear h1 hcs
   go_wp2_with (first | (go_at_call 77; refine (uh HC1).mono ?_; rintro e w2 ⟨rfl,hb2⟩; have HB2:=hide hb2; have HC3:=hide (uh HC2 _ hb2); clear hb2 HC1 HC2) | (go_at_call 77; refine (uh HC3).mono ?_; rintro e w3 ⟨rfl,hb3⟩; have HB3:=hide ((uh HB2).trans (hb3.mono (uh HB2).size)); clear hb3))
   exact uh HF _ (uh HB3)
  | cons c r =>
   have hnc:=uh HN c (by rw [hcs]; simp)
   have h1 : Ps ts W0 q tv wr (cwP c.on :: nmP c.name :: (r.flatMap cdK ++ t :: L)) iv:=uh HS
   have hpl : pre.length < 20000:=by rw [hcs] at hlen; simp at hlen; omega
   have hwq : q < wr.heap.size:=by have:=(uh HT).size; omega
   obtain ⟨nm,on⟩:=c
   simp only at *
   have hdone : ∀ w2,Ps ts W0 q tv w2 (nmP nm :: (r.flatMap cdK ++ t :: L)) iv → Tr q wr w2 → Calls Tryz.prog 73 #[.pointer (some ⟨q,0,none⟩)] w2 (fun e w3 => e = .returned (.string nm) ∧ Hid (OwnV elCond (w3.alloc (.cells #[.string nm,.bool on] 86)) w.heap.size (.slice va pre.length vc) pre) ∧ Hid (Ps ts W0 q tv (w3.alloc (.cells #[.string nm,.bool on] 86)) (r.flatMap cdK ++ t :: L) iv ∧ Tr q w (w3.alloc (.cells #[.string nm,.bool on] 86))) ∧ w.heap.size ≤ w3.heap.size):=by
    intro w2 hp2 ht2
    refine (name_ok hp2 rfl (show nm.size ≤ 20000 by omega)).mono ?_
    rintro e w3 ⟨rfl,hp3,ht3⟩
    have hA : Below w3.heap.size w3 (w3.alloc (.cells #[.string nm,.bool on] 86)):=(Below.refl _ _).alloc (Nat.le_refl _) _
    have htt:=(ht2.trans ht3)
    refine ⟨rfl,hide ?_,hide ⟨hp3.below hA,((uh HT).trans htt).trans (Tr.of_below hA)⟩,by have:=((uh HT).trans htt).size; omega⟩
    exact ((uh HO).ofBlock (fun b hb => htt.block b (World.ownsRow.lt (uh HO) b hb).2 (fun e => by have:=(World.ownsRow.lt (uh HO) b hb).1; omega))).below hA
   have HD:=hide hdone
   have HCS : Hid (cs = (pre ++ [⟨nm,on⟩]) ++ r):=by show cs = _; rw [hcs]; simp
   clear hdone hcs hnc
   cases on
   ·have HC1:=hide (takes_no h1 (W:=Kwhen) (by decide))
    have HC2 : Hid (∀ w',Below wr.heap.size wr w' → Calls Tryz.prog 77 #[.pointer (some ⟨q,0,none⟩),.string Kwhenot] w' (PsAns ts W0 q tv iv w' (.bool true) (nmP nm :: (r.flatMap cdK ++ t :: L)))):=fun w' hb => takes_yes (h1.below hb) rfl
    clear h1
    go_wp2_with (first | (go_at_call 77; refine (uh HC1).mono ?_; rintro e w2 ⟨rfl,hb2⟩; have HB2:=hide hb2; have HC3:=hide (uh HC2 _ hb2); clear hb2 HC1 HC2) | (go_at_call 77; refine (uh HC3).mono ?_; rintro e w3 ⟨rfl,hp3,ht3⟩; have HD3:=hide (uh HD _ hp3 ((Tr.of_below (uh HB2)).trans ht3)); clear hp3 ht3 HC3) | (go_at_call 73; refine (uh HD3).mono ?_; rintro e w4 ⟨rfl,HO4,HP4,hz4⟩; clear HD3) | (at_builtin; go_must (refine wpList_append_oneF elCond _ rfl _ _ rfl w.heap.size _ pre rfl (uh HO4) w4.heap.size ⟨nm,false⟩ rfl (fun j u hu => by rw [World.cell?_alloc_at _ _ _ _ rfl]; simpa [elCond] using hu) (by simp [elCond]; omega) (by simp; omega) ?_)))
    intro v5 w5 hown5 hgr5
    have HO5:=hide hown5
    have hrow : ∀ b,(Value.slice va pre.length vc).ownBlock = some b → w.heap.size ≤ b:=fun b hb => (World.ownsRow.lt (uh HO4) b hb).1
    have HP5:=hide ((uh HP4).1.grown hgr5 hrow hql)
    have HT5:=hide ((uh HP4).2.grown hgr5 hrow)
    obtain ⟨a5,c5,rfl⟩:=hown5.slice
    clear hown5 hgr5 hrow
    go_wp2
    go_roundg r.length
    case measure => have:=uh HG; simp at this; omega
    case rel => exact ⟨_,r,uh HCS,rfl,uh HP5,uh HO5,uh HT5⟩
   ·have HC1:=hide (takes_yes h1 (W:=Kwhen) rfl)
    clear h1
    go_wp2_with (first | (go_at_call 77; refine (uh HC1).mono ?_; rintro e w3 ⟨rfl,hp3,ht3⟩; have HD3:=hide (uh HD _ hp3 ht3); clear hp3 ht3 HC1) | (go_at_call 73; refine (uh HD3).mono ?_; rintro e w4 ⟨rfl,HO4,HP4,hz4⟩; clear HD3) | (at_builtin; go_must (refine wpList_append_oneF elCond _ rfl _ _ rfl w.heap.size _ pre rfl (uh HO4) w4.heap.size ⟨nm,true⟩ rfl (fun j u hu => by rw [World.cell?_alloc_at _ _ _ _ rfl]; simpa [elCond] using hu) (by simp [elCond]; omega) (by simp; omega) ?_)))
    intro v5 w5 hown5 hgr5
    have HO5:=hide hown5
    have hrow : ∀ b,(Value.slice va pre.length vc).ownBlock = some b → w.heap.size ≤ b:=fun b hb => (World.ownsRow.lt (uh HO4) b hb).1
    have HP5:=hide ((uh HP4).1.grown hgr5 hrow hql)
    have HT5:=hide ((uh HP4).2.grown hgr5 hrow)
    obtain ⟨a5,c5,rfl⟩:=hown5.slice
    clear hown5 hgr5 hrow
    go_wp2
    go_roundg r.length
    case measure => have:=uh HG; simp at this; omega
    case rel => exact ⟨_,r,uh HCS,rfl,uh HP5,uh HO5,uh HT5⟩
end
end Go.Proofs.YtajabbnlbopcbaaGreatDoor
