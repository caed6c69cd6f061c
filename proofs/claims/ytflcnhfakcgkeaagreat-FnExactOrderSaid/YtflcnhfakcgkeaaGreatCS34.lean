import Derived.RangeFuncNested
import Derived.RangeFuncBound
import Derived.RangeFuncCalls
import Derived.RangeFuncFrom
import Derived.RangeFuncLeaves
import Derived.Shelf.Abstract
import Derived.Shelf.RegionOpen
import Derived.WalkKit
import Derived.OwnWalkIn
import Derived.TacticsInMore
import Derived.LoopNIn
import Derived.LoopIn
import Derived.Test.YtflcnhfakcgkeaaGreatCS26
namespace Go.Proofs.YtflcnhfakcgkeaaGreat
open Go.RowKit Go.Shelf
set_option linter.unusedSimpArgs false
set_option linter.unusedVariables false
attribute [local go_sem] Oper.semAt_some
structure Bv (lo:Nat) (A B:World):Prop where
 os:B.os=A.os
 tape:B.tape=A.tape
 output:B.output=A.output
 size:A.heap.size<=B.heap.size
 low:∀k,k<lo->B.heap[k]?=A.heap[k]?
 cells:∀(k:Nat) cs (T:Nat) z,T≠3->T≠26->A.heap[k]?=some (.cells cs T z)->B.heap[k]?=some (.cells cs T z)
theorem Bv.refl (lo:Nat) (A:World):Bv lo A A:=⟨rfl,rfl,rfl,Nat.le_refl _,fun _ _=>rfl,fun _ _ _ _ _ _ h=>h⟩
theorem Bv.trans {lo:Nat} {A B C:World} (h:Bv lo A B) (k:Bv lo B C):Bv lo A C:=⟨k.os.trans h.os,k.tape.trans h.tape,k.output.trans h.output,Nat.le_trans h.size k.size,fun i h1=>(k.low i h1).trans (h.low i h1),fun i cs T z h1 h2 h3=>k.cells i cs T z h1 h2 (h.cells i cs T z h1 h2 h3)⟩
theorem Bv.J8 {lo:Nat} {A B:World} (h:Below A.heap.size A B) (hn:lo<=A.heap.size):Bv lo A B:=⟨h.os,h.tape,h.output,h.size,fun k h1=>h.block k (by omega),fun k cs T z _ _ h2=>(h.block k (Array.getElem?_eq_some_iff.1 h2).1).trans h2⟩
theorem Bv.Tf {lo mb:Nat} {A B:World} (h:A.grownBy B (some mb)) (hn:lo<=A.heap.size) (hm:lo<=mb) (hT:∃cs,dh A mb 3 cs∨dh A mb 26 cs):Bv lo A B:=⟨h.os,h.tape,h.output,h.size,fun k h1=>h.block k (by omega) (fun e=>by have:=Option.some.inj e;omega),fun k cs T z h1 h2 h3=>(h.block k (Array.getElem?_eq_some_iff.1 h3).1 (fun e=>by
 have e':=Option.some.inj e
 subst e'
 obtain⟨cs9,h9|h9⟩:=hT
 ·unfold dh at h9
  rw[h3] at h9
  simp only[Option.some.injEq,Obj.cells.injEq] at h9
  exact h1 h9.2.1
 ·unfold dh at h9
  rw[h3] at h9
  simp only[Option.some.injEq,Obj.cells.injEq] at h9
  exact h2 h9.2.1)).trans h3⟩
theorem Bv.blk {lo:Nat} {A B:World} (h:Bv lo A B) {b T:Nat} {cs:Array Value} (hb:dh A b T cs) (h1:T≠3) (h2:T≠26):dh B b T cs:=h.cells b cs T _ h1 h2 hb
theorem Bv.old {lo:Nat} {A B W:World} (h:Bv lo A B) (ho:Below W.heap.size W A) (h1:W.heap.size<=lo):Below W.heap.size W B:=⟨h.os.trans ho.os,h.tape.trans ho.tape,h.output.trans ho.output,Nat.le_trans ho.size h.size,fun k hk=>(h.low k (by omega)).trans (ho.block k hk)⟩
theorem Bv.own {lo:Nat} {A B:World} (h:Bv lo A B) {base:Nat} {v:Value} {xs:List ByteArray} (ho:iw zh A base v xs):iw zh B base v xs:=by
 refine ho.Dp (fun b hb=>?_)
 obtain⟨cur,hcur⟩:=ho.cellsOf hb
 exact(h.cells b cur _ _ (by decide) (by decide) hcur).trans hcur.symm
theorem Bv.codes {lo:Nat} {A B W:World} (h:Bv lo A B) (h1:W.heap.size<=lo) {v:Value} {codes:List (List eu)} (hc:Bl W A v codes):Bl W B v codes:=by
 obtain⟨a,cap,hv,hx⟩:=hc
 refine⟨a,cap,hv,fun k hk=>?_⟩
 obtain⟨g1,o,cv,e1,e2,e3,e4⟩:=hx k hk
 rcases e4 with e4|⟨cs,e4⟩
 ·exact⟨g1,o,cv,e1,(World.cell?_of_block (w:=A) (h.low g1 (by omega))).trans e2,e3,Or.inl e4⟩
 ·have h5:=h.blk e4 (by decide) (by decide)
  exact⟨g1,o,cv,e1,(World.cell?_of_block (w:=A) (h5.trans e4.symm)).trans e2,e3,Or.inr ⟨cs,h5⟩⟩
theorem avt {lo:Nat} {w:World} (hn:lo<=w.heap.size) (W:World) (l:Nat) (o o':Obj) (hl:w.heap.size<=l) (h:W.heap[l]?=some o) (hc:o.isCells=false) (_:o.isWalk=false):Bv lo W (W.putObj l o'):=by
 have hg:=grownBy_putObj' W l o'
 have hx:∀(k:Nat) (cs:Array Value) (T:TypeId) (z:Nat × Nat),W.heap[k]?=some (Obj.cells cs T z)->(W.putObj l o').heap[k]?=some (Obj.cells cs T z):=fun k cs T z h2=>by
  refine(hg.block k (Array.getElem?_eq_some_iff.1 h2).1 (fun e=>?_)).trans h2
  have e':=Option.some.inj e
  rw[←e',h2] at h
  rw[←Option.some.inj h] at hc
  cases hc
 exact⟨hg.os,hg.tape,hg.output,hg.size,fun k h1=>hg.block k (by have:=(Array.getElem?_eq_some_iff.1 h).1;omega) (fun e=>by have:=Option.some.inj e;omega),fun k cs T z _ _ h2=>hx k cs T z h2⟩
theorem wrap64_small (k:Nat) (h:k<=1000000):wrap64 ((k:Int)+1)=(k:Int)+1:=by
 unfold wrap64
 omega
theorem ai6 (k:Nat) (h:k<=1000000):Value.int .i64 (wrap64 ((k:Int)+1))=.int .i64 ((k+1:Nat):Int):=by
 rw[wrap64_small k h]
 simp
theorem agl (n k:Nat) (h:k<=1000000) (hk:k<n):n-(intOf (.int .i64 (wrap64 ((k:Int)+1)))).toNat<n-(intOf (.int .i64 (k:Int))).toNat:=by
 rw[wrap64_small k h]
 simp only[intOf]
 omega
def ac9 (v:Value) (w:World):Nat:=match v with
 | .pointer (some a)=>match w.cell? ⟨a.block,3,none⟩ with|some (.int _ n)=>n.toNat|_=>0
 | _=>0
theorem ama {w:World} {p:Nat} {n:Nat} (h:w.cell? ⟨p,3,none⟩=some (.int .i64 (n:Int))):ac9 (.pointer (some ⟨p,0,none⟩)) w=n:=by
 unfold ac9
 simp only[h,Int.toNat_natCast]
end Go.Proofs.YtflcnhfakcgkeaaGreat
