import Derived.Test.YtflcnhfakcgkeaaGreatCS36
namespace Go.Proofs.YtflcnhfakcgkeaaGreat
open Go.RowKit Go.Shelf
set_option linter.unusedSimpArgs false
set_option linter.unusedVariables false
attribute [local go_sem] Oper.semAt_some
def D7 (x:ay) (G:List Int) (u v:Nat):Prop:=∃hu:u<x.eqs.length,∃nm,nm∈Qj (aj x) x.eqs[u]∧G.getD (jc (aj x) nm) 0=(v:Int)
structure aar (x:ay) (G:List Int):Prop where
 lh:∀e,e∈x.eqs->0<e.lhs.length
 lk:∀e,e∈x.eqs->∀s,s∈e.lhs->jc (aj x) s<(aj x).length
 cd:∀e,e∈x.eqs->∀c,c∈dw e->Po c∧c.length<=3000
 cl:∀e,e∈x.eqs->(dw e).length<=500
 nms:∀e,e∈x.eqs->∀nm,nm∈Qj (aj x) e->jc (aj x) nm<(aj x).length∧nm.size<=maxLen
 giv:∀k,k<(aj x).length->G.getD k 0<(x.eqs.length:Int)
 len:x.eqs.length<=500
structure Ti (W0 w:World) (x:ay) (nb no:Nat) (G:List Int) (sb vb:Nat) (ov:Value) (D:List Nat) (C L:List cu->Option Nat) (N mb:Nat) (M:List Int):Prop where
 sc:Sc W0 w (.pointer (some ⟨nb,no,none⟩)) .nilFunc (aj x) G sb vb ov D C L N
 node:At 5 o7 W0 nb no x
 mlo:W0.heap.size<=mb
 row:dh w mb 3 (M.map (Value.int .i64)).toArray
theorem Ti.below {W0 w w':World} {x:ay} {nb no:Nat} {G:List Int} {sb vb:Nat} {ov:Value} {D:List Nat} {C L:List cu->Option Nat} {N mb:Nat} {M:List Int} (h:Ti W0 w x nb no G sb vb ov D C L N mb M) (hb:Below w.heap.size w w'):Ti W0 w' x nb no G sb vb ov D C L N mb M :=
 ⟨h.sc.below hb,h.node,h.mlo,h.row.below hb h.row.lt⟩
theorem Ti.turn {W0 w w':World} {x:ay} {nb no:Nat} {G:List Int} {sb vb:Nat} {ov:Value} {D:List Nat} {C L:List cu->Option Nat} {N mb:Nat} {M M':List Int} (h:Ti W0 w x nb no G sb vb ov D C L N mb M) (hg:w.grownBy w' (some mb)) (hr:dh w' mb 3 (M'.map (Value.int .i64)).toArray):Ti W0 w' x nb no G sb vb ov D C L N mb M' :=
 ⟨h.sc.row h.row (by decide) (by decide) (by decide) (by decide) h.mlo hg,h.node,h.mlo,hr⟩
def V9 (x:ay) (G:List Int) (mb:Nat) (M:List Int) (e:Nat) (w:World) (en:Ending) (w':World):Prop :=
 ∃(r:Bool) (M':List Int),en=.returned (.bool r)∧w.grownBy w' (some mb)∧dh w' mb 3 (M'.map (Value.int .i64)).toArray∧(r=true->∃u,u<x.eqs.length∧Tg (D7 x G) u u)∧(r=false->MInv (D7 x G) x.eqs.length M'∧Ls x.eqs.length M M'∧uo M' e=2)
theorem Ji {w:World} {mb:Nat} {M:List Int} (h:dh w mb 3 (M.map (Value.int .i64)).toArray) (i:Nat) (hi:i<M.length):w.cell? ⟨mb,i,none⟩=some (.int .i64 (uo M i)):=by
 refine h.cell (v:=.int .i64 (uo M i)) ?_
 unfold uo
 rw[List.getD_eq_getElem?_getD,List.getElem?_eq_getElem hi]
 simp[hi]
theorem adb {w:World} {mb:Nat} {M:List Int} (h:dh w mb 3 (M.map (Value.int .i64)).toArray) (i:Nat) (v:Int):dh (w.setCell ⟨mb,i,none⟩ (.int .i64 v)) mb 3 ((M.set i v).map (Value.int .i64)).toArray:=by
 have h9:=h.set i (.int .i64 v)
 have e:((M.set i v).map (Value.int .i64)).toArray=(M.map (Value.int .i64)).toArray.setIfInBounds i (.int .i64 v):=by
  rw[List.map_set]
  simp
 rw[e]
 exact h9
set_option maxRecDepth 100000 in
set_option maxHeartbeats 2000000 in
theorem ad9 (W0 w:World) (x:ay) (nb no:Nat) (G:List Int) (sb vb:Nat) (ov:Value) (D:List Nat) (C L:List cu->Option Nat) (N mb:Nat) (M:List Int) (h:Ti W0 w x nb no G sb vb ov D C L N mb M) (hi:MInv (D7 x G) x.eqs.length M) (e:Nat) (he:e<x.eqs.length) (hg:∀u,u<x.eqs.length->uo M u=1->Tg (D7 x G) u e) (h0:uo M e≠0) :
  Calls Tryz.prog 110 #[.pointer (some ⟨sb,0,none⟩),.int .i64 (e:Int),.slice (some ⟨mb,0,none⟩) x.eqs.length x.eqs.length] w (V9 x G mb M e w):=by
 have hml:e<M.length:=by rw[hi.len];exact he
 have m0:=Ji h.row e hml
 have hlt:=h.row.lt
 have gq:Hid (∀w',Below w.heap.size w w'->V9 x G mb M e w (.returned (.bool (uo M e == 1))) w'):=fun w' hb=>by
  refine⟨_,M,rfl,below_grown hb _,h.row.below hb hlt,fun h9=>?_,fun h9=>?_⟩
  ·rw[beq_iff_eq] at h9
   exact⟨e,he,hg e he h9⟩
  ·refine⟨hi,Ls.refl _ _,?_⟩
   rw[beq_eq_false_iff_ne] at h9
   rcases hi.val e he with h8|h8|h8
   ·exact absurd h8 h0
   ·exact absurd h8 h9
   ·exact h8
 have hA:Below w.heap.size w (((w.alloc (.cells #[.pointer (some ⟨sb,0,none⟩)] 50)).alloc (.cells #[.slice (some ⟨mb,0,none⟩) x.eqs.length x.eqs.length] 26)).alloc (.cells #[.bool false] 4)):=(((Below.refl _ w).alloc (Nat.le_refl _) _).alloc (by simp) _).alloc (by simp;omega) _
 have m1:=(hA.cell (p:=⟨mb,e,none⟩) hlt).trans m0
 have HA:=hide hA
 have heI:(e:Int)<(x.eqs.length:Int):=by omega
 have he0:(0:Int)<=(e:Int):=by omega
 have hnn:(uo M e != 0)=true:=by rw[bne_iff_ne];exact h0
 have hne:(uo M e == 0)=false:=by rw[beq_eq_false_iff_ne];exact h0
 obtain⟨PO,l7⟩:∃PO:Ending->World->Prop,PO=V9 x G mb M e w:=⟨_,rfl⟩
 rw[←l7] at gq ⊢
 generalize uo M e=me at *
 generalize x.eqs.length=n at *
 clear h hi hg hml l7 h0 hA m0
 go_enter Tryz.func110,Tryz.ntmps110
 go_wp2
 have hA2:Below w.heap.size w (((w.alloc (.cells #[.pointer (some ⟨sb,0,none⟩)] 50)).alloc (.cells #[.slice (some ⟨mb,0,none⟩) n n] 26)).alloc (.cells #[.bool (me == 1)] 4)):=(((Below.refl _ w).alloc (Nat.le_refl _) _).alloc (by simp) _).alloc (by simp;omega) _
 have hc5:(((w.alloc (.cells #[.pointer (some ⟨sb,0,none⟩)] 50)).alloc (.cells #[.slice (some ⟨mb,0,none⟩) n n] 26)).alloc (.cells #[.bool (me == 1)] 4)).cell? ⟨w.heap.size+1+1,0,none⟩=some (.bool (me == 1)):=by
  have h9:=(jd ((w.alloc (.cells #[.pointer (some ⟨sb,0,none⟩)] 50)).alloc (.cells #[.slice (some ⟨mb,0,none⟩) n n] 26)) #[.bool (me == 1)] 4).cell (i:=0) (v:=.bool (me == 1)) rfl
  rw[show ((w.alloc (.cells #[.pointer (some ⟨sb,0,none⟩)] 50)).alloc (.cells #[.slice (some ⟨mb,0,none⟩) n n] 26)).heap.size=w.heap.size+1+1 from by simp] at h9
  exact h9
 refine bodyPost_ret (v:=.bool (me == 1)) ?_ rfl (uh gq _ hA2)
 simp[results,Tryz.f110,go_sem,hc5]
end Go.Proofs.YtflcnhfakcgkeaaGreat
