import Derived.RangeFuncNested
import Derived.RangeFuncBound
import Derived.RangeFuncCalls
import Derived.RangeFuncFrom
import Derived.RangeFuncLeaves
import Derived.Shelf.Abstract
import Derived.Shelf.RegionOpen
import Derived.WalkKit
import Derived.OwnWalkIn
import Derived.TacticsInMore
import Derived.LoopNIn
import Derived.LoopIn
import Derived.Test.YtfioeoihociilaaGreatCS26
namespace Go.Proofs.YtfioeoihociilaaGreat
open Go.RowKit Go.Shelf
set_option linter.unusedSimpArgs false
set_option linter.unusedVariables false
attribute [local go_sem] Oper.semAt_some
structure KpM (n0 mb : Nat) (A B : World) : Prop where
 os : B.os = A.os
 tape : B.tape = A.tape
 output : B.output = A.output
 size : A.heap.size ≤ B.heap.size
 low : ∀ k,k < n0 → k ≠ mb → B.heap[k]? = A.heap[k]?
 cells : ∀ k cs T z,k ≠ mb → A.heap[k]? = some (.cells cs T z) → B.heap[k]? = some (.cells cs T z)
 mrow : (∃ cs,BlkAt A mb 3 cs) → ∃ cs,BlkAt B mb 3 cs
theorem KpM.refl (n0 mb : Nat) (A : World) : KpM n0 mb A A:=⟨rfl,rfl,rfl,Nat.le_refl _,fun _ _ _ => rfl,fun _ _ _ _ _ h => h,fun h => h⟩
theorem KpM.trans {n0 mb : Nat} {A B C : World} (h : KpM n0 mb A B) (k : KpM n0 mb B C) : KpM n0 mb A C:=⟨k.os.trans h.os,k.tape.trans h.tape,k.output.trans h.output,Nat.le_trans h.size k.size,fun i h1 h2 => (k.low i h1 h2).trans (h.low i h1 h2),fun i cs T z h1 h2 => k.cells i cs T z h1 (h.cells i cs T z h1 h2),fun h9 => k.mrow (h.mrow h9)⟩
theorem KpM.ofBelow {n0 mb : Nat} {A B : World} (h : Below A.heap.size A B) (hn : n0 ≤ A.heap.size) : KpM n0 mb A B:=⟨h.os,h.tape,h.output,h.size,fun k h1 _ => h.block k (by omega),fun k cs T z _ h2 => (h.block k (Array.getElem?_eq_some_iff.1 h2).1).trans h2,fun ⟨cs,h9⟩ => ⟨cs,h9.below h h9.lt⟩⟩
theorem KpM.ofGrown {n0 mb : Nat} {A B : World} (h : A.grownBy B (some mb)) (hn : n0 ≤ A.heap.size) (hm : ∃ cs,BlkAt B mb 3 cs) : KpM n0 mb A B:=⟨h.os,h.tape,h.output,h.size,fun k h1 h2 => h.block k (by omega) (fun e => h2 (Option.some.inj e)),fun k cs T z h1 h2 => (h.block k (Array.getElem?_eq_some_iff.1 h2).1 (fun e => h1 (Option.some.inj e))).trans h2,fun _ => hm⟩
theorem KpM.blk {n0 mb : Nat} {A B : World} (h : KpM n0 mb A B) {b : Nat} {T : TypeId} {cs : Array Value} (hb : BlkAt A b T cs) (hne : b ≠ mb) : BlkAt B b T cs:=h.cells b cs T _ hne hb
theorem KpM.old {n0 mb : Nat} {A B W : World} (h : KpM n0 mb A B) (ho : Below W.heap.size W A) (h1 : W.heap.size ≤ n0) (h2 : W.heap.size ≤ mb) : Below W.heap.size W B:=⟨h.os.trans ho.os,h.tape.trans ho.tape,h.output.trans ho.output,Nat.le_trans ho.size h.size,fun k hk => (h.low k (by omega) (by omega)).trans (ho.block k hk)⟩
theorem KpM.own {n0 mb : Nat} {A B : World} (h : KpM n0 mb A B) {base : Nat} {v : Value} {xs : List ByteArray} (ho : OwnV elStr A base v xs) (hm : ∃ cs,BlkAt A mb 3 cs) : OwnV elStr B base v xs:=by
 obtain ⟨cs,hmb⟩:=hm
 refine ho.ofBlock (fun b hb => ?_)
 have hne : b ≠ mb:=fun e => OwnV.notBlk' ho hmb (by decide) (e ▸ hb)
 obtain ⟨cur,hcur⟩:=ho.cellsOf hb
 exact (h.cells b cur _ _ hne hcur).trans hcur.symm
theorem KpM.codes {n0 mb : Nat} {A B W : World} (h : KpM n0 mb A B) (h1 : W.heap.size ≤ n0) (h2 : W.heap.size ≤ mb) {v : Value} {codes : List (List DItem)} (hc : CodesAt W A v codes) (hm : ∃ cs,BlkAt A mb 3 cs) : CodesAt W B v codes:=by
 obtain ⟨cs0,hmb⟩:=hm
 obtain ⟨a,cap,hv,hx⟩:=hc
 refine ⟨a,cap,hv,fun k hk => ?_⟩
 obtain ⟨g1,o,cv,e1,e2,e3,e4⟩:=hx k hk
 rcases e4 with e4 | ⟨cs,e4⟩
 ·exact ⟨g1,o,cv,e1,(World.cell?_of_block (w:=A) (h.low g1 (by omega) (by omega))).trans e2,e3,Or.inl e4⟩
 ·have hne : g1 ≠ mb:=fun e => by
   rw [e] at e4
   exact blk_not hmb (by decide) e4
  have h5:=h.blk e4 hne
  exact ⟨g1,o,cv,e1,(World.cell?_of_block (w:=A) (h5.trans e4.symm)).trans e2,e3,Or.inr ⟨cs,h5⟩⟩
theorem kpM_b {n0 mb : Nat} {w : World} (hn : n0 ≤ w.heap.size) (W : World) (l : Nat) (o o' : Obj) (hl : w.heap.size ≤ l) (h : W.heap[l]? = some o) (hc : o.isCells = false) (_ : o.isWalk = false) : KpM n0 mb W (W.putObj l o'):=by
 have hg:=grownBy_putObj' W l o'
 have hx : ∀ (k : Nat) (cs : Array Value) (T : TypeId) (z : Nat × Nat),W.heap[k]? = some (Obj.cells cs T z) → (W.putObj l o').heap[k]? = some (Obj.cells cs T z):=fun k cs T z h2 => by
  refine (hg.block k (Array.getElem?_eq_some_iff.1 h2).1 (fun e => ?_)).trans h2
  have e':=Option.some.inj e
  rw [← e',h2] at h
  rw [← Option.some.inj h] at hc
  cases hc
 exact ⟨hg.os,hg.tape,hg.output,hg.size,fun k h1 _ => hg.block k (by have:=(Array.getElem?_eq_some_iff.1 h).1; omega) (fun e => by have:=Option.some.inj e; omega),fun k cs T z _ h2 => hx k cs T z h2,fun ⟨cs,h9⟩ => ⟨cs,hx _ _ _ _ h9⟩⟩
theorem wrap64_small (k : Nat) (h : k ≤ 1000000) : wrap64 ((k : Int) + 1) = (k : Int) + 1:=by
 unfold wrap64
 omega
theorem int_succ (k : Nat) (h : k ≤ 1000000) : Value.int .i64 (wrap64 ((k : Int) + 1)) = .int .i64 ((k + 1 : Nat) : Int):=by
 rw [wrap64_small k h]
 simp
theorem meas_succ (n k : Nat) (h : k ≤ 1000000) (hk : k < n) : n - (intOf (.int .i64 (wrap64 ((k : Int) + 1)))).toNat < n - (intOf (.int .i64 (k : Int))).toNat:=by
 rw [wrap64_small k h]
 simp only [intOf]
 omega
def ctxM (v : Value) (w : World) : Nat:=match v with
 | .pointer (some a) => match w.cell? ⟨a.block,3,none⟩ with | some (.int _ n) => n.toNat | _ => 0
 | _ => 0
theorem ctxM_of {w : World} {p : Nat} {n : Nat} (h : w.cell? ⟨p,3,none⟩ = some (.int .i64 (n : Int))) : ctxM (.pointer (some ⟨p,0,none⟩)) w = n:=by
 unfold ctxM
 simp only [h,Int.toNat_natCast]
end Go.Proofs.YtfioeoihociilaaGreat
