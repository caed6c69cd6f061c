import Derived.Test.YtjjldnkhadakcaaGreatIS2
import Derived.Test.YtjjldnkhadakcaaGreatIS1
import Derived.Test.YtjjldnkhadakcaaGreatST3
import Derived.Test.YtjjldnkhadakcaaGreatMI24
namespace Go.Proofs.YtjjldnkhadakcaaGreat
open Go.RowKit
set_option linter.unusedSimpArgs false
set_option linter.unusedVariables false
structure Out (L L' : List Int) (so sn vo vn : Nat) : Prop where
 len : L'.length = L.length
 same : ∀ p,¬ (so ≤ p ∧ p < so + sn) → ¬ (vo ≤ p ∧ p < vo + vn) → L'.getD p 0 = L.getD p 0
theorem Out.refl (L : List Int) (so sn vo vn : Nat) : Out L L so sn vo vn:=⟨rfl,fun _ _ _ => rfl⟩
theorem Out.trans {L L' L'' : List Int} {so sn vo vn : Nat} (h : Out L L' so sn vo vn) (k : Out L' L'' so sn vo vn) : Out L L'' so sn vo vn :=
 ⟨k.len.trans h.len,fun p h1 h2 => (k.same p h1 h2).trans (h.same p h1 h2)⟩
theorem Out.wider {L L' : List Int} {so sn vo vn so' sn' vo' vn' : Nat} (h : Out L L' so sn vo vn) (h1 : so' ≤ so) (h2 : so + sn ≤ so' + sn') (h3 : vo' ≤ vo) (h4 : vo + vn ≤ vo' + vn') : Out L L' so' sn' vo' vn' :=
 ⟨h.len,fun p g1 g2 => h.same p (fun e => g1 ⟨by omega,by omega⟩) (fun e => g2 ⟨by omega,by omega⟩)⟩
theorem Out.setV {L : List Int} {so sn vo vn p : Nat} (v : Int) (h1 : vo ≤ p) (h2 : p < vo + vn) (hp : p < L.length) : Out L (L.set p v) so sn vo vn :=
 ⟨List.length_set,fun q _ g2 => by rw [getD_set L p q v hp,if_neg (fun e => g2 ⟨by omega,by omega⟩)]⟩
theorem Out.setS {L : List Int} {so sn vo vn p : Nat} (v : Int) (h1 : so ≤ p) (h2 : p < so + sn) (hp : p < L.length) : Out L (L.set p v) so sn vo vn :=
 ⟨List.length_set,fun q g1 _ => by rw [getD_set L p q v hp,if_neg (fun e => g1 ⟨by omega,by omega⟩)]⟩
theorem Geo.move {B : Nat} {L L' : List Int} {so vo rest : Nat} {sa pa : Option Addr} {sv vv pv : Value} {vars state : List Int} (g : Geo B L so vo rest sa pa sv vv pv vars state) (hl : L'.length = L.length) (hv : ∀ p,p < vars.length → L'.getD (vo + p) 0 = L.getD (vo + p) 0) (hs : ∀ p,p < state.length → L'.getD (so + p) 0 = L.getD (so + p) 0) : Geo B L' so vo rest sa pa sv vv pv vars state :=
 ⟨g.vv,g.sv,g.sa,g.pv,g.pa,by rw [hl]; exact g.vl,g.sl,g.v0,fun p hp => (hv p hp).trans (g.vs p hp),fun p hp => (hs p hp).trans (g.ss p hp),g.vq,g.sq,by rw [hl]; exact g.ln⟩
theorem Geo.setV {B : Nat} {L : List Int} {so vo rest : Nat} {sa pa : Option Addr} {sv vv pv : Value} {vars state : List Int} (g : Geo B L so vo rest sa pa sv vv pv vars state) {p : Nat} {v : Int} (hp : p < vars.length) (hv : Q32 v) : Geo B (L.set (vo + p) v) so vo rest sa pa sv vv pv (vars.set p v) state:=by
 have h1:=g.vl
 have h2:=g.sl
 refine ⟨by rw [List.length_set]; exact g.vv,g.sv,g.sa,g.pv,by rw [List.length_set]; exact g.pa,by rw [List.length_set,List.length_set]; exact g.vl,g.sl,by rw [List.length_set]; exact g.v0,fun q hq => ?_,fun q hq => ?_,set_32 g.vq hv,g.sq,by rw [List.length_set]; exact g.ln⟩
 ·rw [List.length_set] at hq
  rw [getD_set L _ _ v (by omega),getD_set vars _ _ v hp]
  by_cases e : q = p
  ·rw [if_pos e,if_pos (by omega)]
  ·rw [if_neg e,if_neg (by omega)]
   exact g.vs q hq
 ·rw [getD_set L _ _ v (by omega),if_neg (by omega)]
  exact g.ss q hq
theorem Geo.setS {B : Nat} {L : List Int} {so vo rest : Nat} {sa pa : Option Addr} {sv vv pv : Value} {vars state : List Int} (g : Geo B L so vo rest sa pa sv vv pv vars state) {p : Nat} {v : Int} (hp : p < state.length) (hv : Q32 v) : Geo B (L.set (so + p) v) so vo rest sa pa sv vv pv vars (state.set p v):=by
 have h1:=g.vl
 have h2:=g.sl
 refine ⟨g.vv,by rw [List.length_set]; exact g.sv,by rw [List.length_set]; exact g.sa,g.pv,g.pa,by rw [List.length_set]; exact g.vl,by rw [List.length_set]; exact g.sl,g.v0,fun q hq => ?_,fun q hq => ?_,g.vq,set_32 g.sq hv,by rw [List.length_set]; exact g.ln⟩
 ·rw [getD_set L _ _ v (by omega),if_neg (by omega)]
  exact g.vs q hq
 ·rw [List.length_set] at hq
  rw [getD_set L _ _ v (by omega),getD_set state _ _ v hp]
  by_cases e : q = p
  ·rw [if_pos e,if_pos (by omega)]
  ·rw [if_neg e,if_neg (by omega)]
   exact g.ss q hq
theorem Dyn.notStk {W w : World} {base fb pb B : Nat} {L : List Int} {sv vv pv stk : Value} (h : Dyn W w base fb pb B L sv vv pv stk) : stk.ownBlock ≠ some B ∧ stk.ownBlock ≠ some fb ∧ B ≠ fb:=by
 obtain ⟨xs,hx⟩:=h.stk
 refine ⟨fun e => ?_,OwnV.notBlk' hx h.fr (by decide),fun e => ?_⟩
 ·have:=hx.block B e
  have:=h.bb
  omega
 ·have h8:=h.row
  rw [e] at h8
  have h9:=h8.symm.trans h.fr
  simp only [Option.some.injEq,Obj.cells.injEq] at h9
  exact absurd h9.2.1 (by decide)
theorem Dyn.setRow {W w : World} {base fb pb B : Nat} {L : List Int} {sv vv pv stk : Value} (h : Dyn W w base fb pb B L sv vv pv stk) (p : Nat) (v : Int) : Dyn W (w.setCell ⟨B,p,none⟩ (.int .i32 v)) base fb pb B (L.set p v) sv vv pv stk ∧ But [B] w (w.setCell ⟨B,p,none⟩ (.int .i32 v)):=by
 obtain ⟨xs,hx⟩:=h.stk
 obtain ⟨n1,n2,n3⟩:=h.notStk
 have hk : But [B] w (w.setCell ⟨B,p,none⟩ (.int .i32 v)):=But.setCell _ (p:=⟨B,p,none⟩) (List.mem_singleton.2 rfl) _
 refine ⟨⟨h.old.trans (hk.below _ h.old.size (fun k hk => by rw [List.mem_singleton] at hk; subst hk; exact h.b0)),hk.blk h.fr (by rw [List.mem_singleton]; exact fun e => n3 e.symm),row_set h.row p v,⟨xs,hx.ofBlock (fun b hb9 => hk.block b (hx.lt b hb9).2 (fun e => by rw [List.mem_singleton] at e; subst e; exact n1 hb9))⟩,h.fb0,h.b0,h.bb,Nat.le_trans h.bw hk.size⟩,hk⟩
def rAt (ks : List DClass) (i : Nat) : Int:=match ks[i]? with | some k => ((varsOf k).length : Int) + roomTo (rTo ks i) k.insts k.insts.length | none => 0
theorem rTo_get (ks : List DClass) (n j : Nat) (h : j < n) : (rTo ks n).getD j 0 = rAt ks j:=by
 induction n with
 | zero => omega
 | succ n ih =>
  rw [rTo,List.getD_eq_getElem?_getD]
  by_cases e : j = n
  ·subst e
   rw [List.getElem?_append_right (by rw [rTo_len]; exact Nat.le_refl _),rTo_len,Nat.sub_self]
   rfl
  ·rw [List.getElem?_append_left (by rw [rTo_len]; omega),← List.getD_eq_getElem?_getD]
   exact ih (by omega)
theorem room_mono (rs insts : List Int) (q n : Nat) (hq : q < n) : rs.getD (insts.getD q 0).toNat 0 ≤ roomTo rs insts n:=by
 induction n with
 | zero => omega
 | succ n ih =>
  rw [roomTo]
  unfold maxS
  by_cases e : q = n
  ·subst e
   split <;> omega
  ·have:=ih (by omega)
   split <;> omega
theorem room_le (rs insts : List Int) (m : Int) (hm : 0 ≤ m) (h : ∀ q,q < insts.length → rs.getD (insts.getD q 0).toNat 0 ≤ m) (n : Nat) (hn : n ≤ insts.length) : 0 ≤ roomTo rs insts n ∧ roomTo rs insts n ≤ m:=by
 induction n with
 | zero => exact ⟨Int.le_refl _,hm⟩
 | succ n ih =>
  have h1:=ih (by omega)
  have h2:=h n (by omega)
  rw [roomTo]
  unfold maxS
  split <;> omega
def rN (ks : List DClass) (i : Nat) : Nat:=(rAt ks i).toNat
theorem room_facts (ks : List DClass) (hp : plansB ks = true) : ∀ (n i : Nat),i ≤ n → ∀ k,ks[i]? = some k → rAt ks i = (rN ks i : Int) ∧ rN ks i ≤ 1000 * (i + 1) ∧ (varsOf k).length ≤ rN ks i ∧ ∀ q g : Nat,q < k.insts.length → k.insts.getD q 0 = (g : Int) → (varsOf k).length + rN ks g ≤ rN ks i:=by
 intro n
 induction n with
 | zero =>
  intro i hi k hk
  have hi0 : i = 0:=by omega
  subst hi0
  obtain ⟨hil,rfl⟩:=List.getElem?_eq_some_iff.1 hk
  have hins:=((fok_of ks hp).ins 0 hil).2
  have hv:=declB_len _ (tree_of ks 0 _ hk hp).2.2.2.2.1
  have he : rAt ks 0 = ((varsOf ks[0]).length : Int) + roomTo (rTo ks 0) ks[0].insts ks[0].insts.length:=by unfold rAt; rw [hk]
  have h0 : ks[0].insts.length = 0:=by
   rcases Nat.eq_zero_or_pos ks[0].insts.length with h | h
   ·exact h
   ·have:=hins 0 h; omega
  have h1 : roomTo (rTo ks 0) ks[0].insts ks[0].insts.length = 0:=by rw [h0]; rfl
  rw [h1] at he
  refine ⟨by unfold rN; omega,by unfold rN; omega,by unfold rN; omega,fun q g hq _ => by omega⟩
 | succ n ih =>
  intro i hi k hk
  obtain ⟨hil,rfl⟩:=List.getElem?_eq_some_iff.1 hk
  have hins:=((fok_of ks hp).ins i hil).2
  have hv:=declB_len _ (tree_of ks i _ hk hp).2.2.2.2.1
  have he : rAt ks i = ((varsOf ks[i]).length : Int) + roomTo (rTo ks i) ks[i].insts ks[i].insts.length:=by unfold rAt; rw [hk]
  have hone : ∀ q,q < ks[i].insts.length → (rTo ks i).getD (ks[i].insts.getD q 0).toNat 0 = (rN ks (ks[i].insts.getD q 0).toNat : Int) ∧ rN ks (ks[i].insts.getD q 0).toNat ≤ 1000 * i:=fun q hq => by
   have h1:=hins q hq
   have hgd : ks[i].insts.getD q 0 = ks[i].insts[q]:=by rw [List.getD_eq_getElem?_getD,List.getElem?_eq_getElem hq,Option.getD_some]
   rw [hgd]
   have h2 : ks[i].insts[q].toNat < i:=by omega
   rw [rTo_get ks i _ h2]
   obtain ⟨g1,g2,_⟩:=ih ks[i].insts[q].toNat (by omega) _ (List.getElem?_eq_getElem (by omega))
   exact ⟨g1,by omega⟩
  obtain ⟨b1,b2⟩:=room_le (rTo ks i) ks[i].insts ((1000 * i : Nat) : Int) (by omega) (fun q hq => by have:=hone q hq; omega) ks[i].insts.length (Nat.le_refl _)
  refine ⟨by unfold rN; omega,by unfold rN; omega,by unfold rN; omega,fun q g hq hg => ?_⟩
  have h3:=room_mono (rTo ks i) ks[i].insts q ks[i].insts.length hq
  have h4:=(hone q hq).1
  rw [hg,Int.toNat_natCast] at h3 h4
  have h5 : rAt ks i = (rN ks i : Int):=by unfold rN; omega
  omega
structure PEnv (W Wm : World) (ks : List DClass) (b0 o0 mc : Nat) (pl : List Nat) : Prop where
 hp : plansB ks = true
 all : pl.length = ks.length
 ep : EP (fun _ => True) W ks b0 o0 pl (fTo ks ks.length) (rTo ks ks.length) (kTo ks ks.length)
 ex : EX (fun _ => True) W Wm ks b0 o0 pl
 old : Below Wm.heap.size Wm W
 hm : SlAt 7 160 RClass 0 Wm (.slice (some ⟨b0,o0,none⟩) ks.length mc) ks
structure CEnv (W Wm : World) (ks : List DClass) (b0 o0 : Nat) (pl : List Nat) (i : Nat) (k : DClass) (pb mb : Nat) (fa : Option Addr) (fc : Nat) (bv : Value) (X : BD) (nodes : List (TypeId × Nat)) : Prop where
 hk : ks[i]? = some k
 hpb : pl[i]? = some pb
 c0 : W.cell? ⟨pb,0,none⟩ = some (.pointer (some ⟨b0,o0 + i * 7,none⟩))
 c1 : W.cell? ⟨pb,1,none⟩ = some (.map (some mb))
 c3 : W.cell? ⟨pb,3,none⟩ = some (.slice fa (fAt ks i).length fc)
 c4 : W.cell? ⟨pb,4,none⟩ = some bv
 c6 : W.cell? ⟨pb,6,none⟩ = some (.int .i64 (rN ks i))
 map : MapN W mb (varsOf k).length (namesF (varsOf k))
 body : SlAt 1 16 RIf 0 W bv nodes
 nodes : NodesAt X (fun _ => True) W (treeOf ks k) nodes
 Xk : X.k = k
 Xm : X.Wm = Wm
 ins : InsIn pl (fTo ks i) k X.ins
 ci : ∃ a1 n1,W.cell? ⟨b0,o0 + i * 7 + 1,none⟩ = some (.slice a1 k.ins.length n1)
 co : ∃ a2 n2,W.cell? ⟨b0,o0 + i * 7 + 2,none⟩ = some (.slice a2 k.outs.length n2)
theorem cenv_of {W Wm : World} {ks : List DClass} {b0 o0 mc : Nat} {pl : List Nat} (h : PEnv W Wm ks b0 o0 mc pl) (i : Nat) (k : DClass) (hk : ks[i]? = some k) : ∃ pb mb fa fc bv X nodes,CEnv W Wm ks b0 o0 pl i k pb mb fa fc bv X nodes:=by
 obtain ⟨hi,hke⟩:=List.getElem?_eq_some_iff.1 hk
 have hip : i < pl.length:=by rw [h.all]; exact hi
 obtain ⟨mb,iv,fa,fc,bv,g1,_,_,_⟩:=h.ep.pa i hip (by rw [fTo_len]; exact hi) (by rw [h.ep.kl]; exact hip) (by rw [rTo_len]; exact hi)
 obtain ⟨k',mb',iv',fv',bv',ki',ri',X,nodes,t,e1,⟨e2,_⟩,⟨e3,_⟩,⟨e4,e5,e6⟩,e7,⟨e8,_⟩,e9⟩:=h.ex i hip
 rw [hk] at e1
 cases e1
 have hbl:=g1.symm.trans e2
 simp only [planCells,Option.some.injEq,Obj.cells.injEq,Array.mk.injEq,List.cons.injEq,Value.map.injEq,and_true,true_and] at hbl
 obtain ⟨hmb,-,-,hbv,-,-⟩:=hbl
 subst hmb hbv
 have hf : (fTo ks ks.length)[i]'(by rw [fTo_len]; exact hi) = fAt ks i:=by
  have h9:=fTo_get ks ks.length i hi
  rwa [List.getD_eq_getElem?_getD,List.getElem?_eq_getElem (by rw [fTo_len]; exact hi),Option.getD_some] at h9
 have hr : (rTo ks ks.length)[i]'(by rw [rTo_len]; exact hi) = (rN ks i : Int):=by
  have h9:=rTo_get ks ks.length i hi
  rw [List.getD_eq_getElem?_getD,List.getElem?_eq_getElem (by rw [rTo_len]; exact hi),Option.getD_some] at h9
  rw [h9]
  exact (room_facts ks h.hp i i (Nat.le_refl _) k hk).1
 have ht : treeOf ks k = t:=by unfold treeOf; rw [e7]
 obtain ⟨_,_,hve,_,_,hx⟩:=h.hm.stays RClass_kept h.old
 simp only [Value.slice.injEq] at hve
 obtain ⟨rfl,_,rfl⟩:=hve
 obtain ⟨_,_,cs,hae,_,hmb9,hcl,hmc,hRC⟩:=hx i hi
 simp only [Option.some.injEq,Addr.mk.injEq,and_true] at hae
 obtain ⟨rfl,rfl⟩:=hae
 rw [hke] at hRC
 obtain ⟨a1,a2,a3,a4,a5,a6,rfl,hnm,k1,k2,_⟩:=hRC
 obtain ⟨i1,n1,rfl⟩:=k1.shape
 obtain ⟨i2,n2,rfl⟩:=k2.shape
 refine ⟨pl[i],mb,fa,fc,bv,X,nodes,hk,List.getElem?_eq_getElem hip,g1.cell (i:=0) rfl,g1.cell (i:=1) rfl,?_,g1.cell (i:=4) rfl,?_,e3,e8,by rw [ht]; exact e9,e4,e5,e6,⟨i1,n1,hmc 1 (by simp)⟩,⟨i2,n2,hmc 2 (by simp)⟩⟩
 ·have h9:=g1.cell (i:=3) rfl
  rw [hf] at h9
  exact h9
 ·have h9:=g1.cell (i:=6) rfl
  rw [hr] at h9
  exact h9
theorem call_place {W Wm : World} {ks : List DClass} {b0 o0 mc : Nat} {pl : List Nat} (hE : PEnv W Wm ks b0 o0 mc pl) {i : Nat} {k : DClass} (hk : ks[i]? = some k) {ins : List (Nat × Nat)} (hin : InsIn pl (fTo ks i) k ins) {s : DStm} {q g : Nat} {gc : DClass} (h : CallG ks k i s q g gc) :
  ∃ pb2 mb2 fa fc bv X2 nodes2,ins.getD s.at_.toNat (0,0) = (pb2,offF ks k q) ∧ CEnv W Wm ks b0 o0 pl g gc pb2 mb2 fa fc bv X2 nodes2:=by
 obtain ⟨hi,hke⟩:=List.getElem?_eq_some_iff.1 hk
 obtain ⟨pb2,mb2,fa,fc,bv,X2,nodes2,hc⟩:=cenv_of hE g gc h.gk
 refine ⟨pb2,mb2,fa,fc,bv,X2,nodes2,?_,hc⟩
 obtain ⟨p,h1,h2⟩:=hin q h.ql
 have hgd : k.insts[q]'h.ql = (g : Int):=by
  rw [← h.gq,List.getD_eq_getElem?_getD,List.getElem?_eq_getElem h.ql,Option.getD_some]
 rw [hgd,Int.toNat_natCast,hc.hpb] at h1
 cases h1
 rw [h.at_,Int.toNat_natCast,h2]
 have hins:=((fok_of ks hE.hp).ins i hi).2
 subst hke
 rw [first_s ks i _ _ hins q (Nat.le_of_lt h.ql)]
 rfl
theorem vars_pos {ks : List DClass} (hp : plansB ks = true) {i : Nat} {k : DClass} (hk : ks[i]? = some k) : 0 < (varsOf k).length ∧ (varsOf k).length ≤ 1000:=by
 have hd:=(tree_of ks i k hk hp).2.2.2.2.1
 refine ⟨?_,declB_len k hd⟩
 unfold declB at hd
 rw [Bool.and_eq_true] at hd
 have:=of_decide_eq_true hd.1
 rw [vars_len]
 omega
def argV (n : Nat) (ar : List Int) (j : Nat) : List Int:=ar.take j ++ List.replicate (n - j) 0
theorem argV_set (n : Nat) (ar : List Int) (j : Nat) (hj : j < ar.length) (hn : ar.length ≤ n) : (argV n ar j).set j (ar.getD j 0) = argV n ar (j + 1):=by
 unfold argV
 have hl : (ar.take j).length = j:=by rw [List.length_take]; omega
 obtain ⟨d,hd⟩ : ∃ d,n - j = d + 1:=⟨n - j - 1,by omega⟩
 rw [hd,show n - (j + 1) = d by omega,List.replicate_succ,List.set_append_right _ _ (by omega),hl,Nat.sub_self,List.set_cons_zero,List.take_add_one,List.getElem?_eq_getElem hj,Option.toList_some,List.append_assoc,List.getD_eq_getElem?_getD,List.getElem?_eq_getElem hj,Option.getD_some]
 rfl
theorem argV_all (k : DClass) (ar : List Int) : argV (varsOf k).length ar ar.length = startV k ar:=by
 unfold argV startV
 rw [List.take_length]
theorem argV_zero (n : Nat) (ar : List Int) : argV n ar 0 = List.replicate n 0:=by
 unfold argV
 rw [List.take_zero,List.nil_append,Nat.sub_zero]
theorem getD_rep (n p : Nat) : (List.replicate n (0 : Int)).getD p 0 = 0:=by
 rw [List.getD_eq_getElem?_getD,List.getElem?_replicate]
 split <;> rfl
theorem geo_inner {B : Nat} {L : List Int} {so vo rest : Nat} {sa pa : Option Addr} {sv vv pv : Value} {vars state : List Int} (G : Geo B L so vo rest sa pa sv vv pv vars state) {off nf n : Nat} (hn0 : 0 < n) (hn : n ≤ rest) (ho : off + nf ≤ state.length) (ar : List Int) {sa2 pa2 : Option Addr} (hs2 : 0 < nf → sa2 = some ⟨B,so + off,none⟩) (hp2 : 0 < rest - n → pa2 = some ⟨B,vo + vars.length + n,none⟩) :
  Geo B (setL L (vo + vars.length) (List.replicate n 0)) (so + off) (vo + vars.length) (rest - n) sa2 pa2 (.slice sa2 nf nf) (.slice (some ⟨B,vo + vars.length,none⟩) n n) (.slice pa2 (rest - n) (rest - n)) (argV n ar 0) ((state.drop off).take nf) ∧ Geo B (setL L (vo + vars.length) (List.replicate n 0)) so vo rest sa pa sv vv pv vars state ∧ Out L (setL L (vo + vars.length) (List.replicate n 0)) so state.length vo (vars.length + rest):=by
 have h1:=G.vl
 have h2:=G.sl
 have hg : ∀ p,(setL L (vo + vars.length) (List.replicate n 0)).getD p 0 = if vo + vars.length ≤ p ∧ p < vo + vars.length + n then 0 else L.getD p 0:=fun p => by
  rw [setL_get _ _ _ _ (by rw [List.length_replicate]; omega),List.length_replicate]
  split
  ·exact getD_rep _ _
  ·rfl
 have hal : (argV n ar 0).length = n:=by rw [argV_zero,List.length_replicate]
 have hsl : ((state.drop off).take nf).length = nf:=by rw [List.length_take,List.length_drop]; omega
 refine ⟨⟨by rw [hal],by rw [hsl],by rw [hsl]; exact hs2,rfl,by rw [hal]; exact hp2,by rw [setL_len,hal]; omega,by rw [hsl]; omega,by rw [hal]; exact hn0,fun p hp => ?_,fun p hp => ?_,?_,fun x hx => G.sq x (List.mem_of_mem_drop (List.mem_of_mem_take hx)),by rw [setL_len]; exact G.ln⟩,G.move (setL_len _ _ _) (fun p hp => ?_) (fun p hp => ?_),⟨setL_len _ _ _,fun p g1 g2 => ?_⟩⟩
 ·rw [hal] at hp
  rw [hg,if_pos (by omega),argV_zero,getD_rep]
 ·rw [hsl] at hp
  rw [hg,if_neg (by omega),Nat.add_assoc,G.ss (off + p) (by omega)]
  rw [List.getD_eq_getElem?_getD,List.getD_eq_getElem?_getD,List.getElem?_take,if_pos hp,List.getElem?_drop]
 ·intro x hx
  rw [argV_zero] at hx
  have:=List.eq_of_mem_replicate hx
  unfold Q32
  omega
 ·rw [hg,if_neg (by omega)]
 ·rw [hg,if_neg (by omega)]
 ·rw [hg,if_neg (fun e => g2 ⟨by omega,by omega⟩)]
theorem geo_outer {B : Nat} {L L' : List Int} {so vo rest : Nat} {sa pa : Option Addr} {sv vv pv : Value} {vars state : List Int} (G : Geo B L so vo rest sa pa sv vv pv vars state) {off nf n rest2 : Nat} (hn : n + rest2 ≤ rest) (ho : off + nf ≤ state.length) (st' : List Int) (hl' : st'.length = nf) (hq : ∀ x,x ∈ st' → Q32 x)
  (hO : Out L L' (so + off) nf (vo + vars.length) (n + rest2)) (hs : ∀ p,p < nf → L'.getD (so + off + p) 0 = st'.getD p 0) :
  Geo B L' so vo rest sa pa sv vv pv vars (state.take off ++ (st' ++ state.drop (off + nf))) ∧ Out L L' so state.length vo (vars.length + rest):=by
 have h1:=G.vl
 have h2:=G.sl
 have hsl : (state.take off ++ (st' ++ state.drop (off + nf))).length = state.length:=by
  simp only [List.length_append,List.length_take,List.length_drop,hl']
  omega
 refine ⟨⟨G.vv,by rw [hsl]; exact G.sv,by rw [hsl]; exact G.sa,G.pv,G.pa,by rw [hO.len]; exact G.vl,by rw [hsl]; exact G.sl,G.v0,fun p hp => ?_,fun p hp => ?_,G.vq,fun x hx => ?_,by rw [hO.len]; exact G.ln⟩,hO.wider (by omega) (by omega) (by omega) (by omega)⟩
 ·rw [hO.same _ (by omega) (by omega),G.vs p hp]
 ·rw [hsl] at hp
  rw [List.getD_eq_getElem?_getD (l:=state.take off ++ _)]
  have htl : (state.take off).length = off:=by rw [List.length_take]; omega
  by_cases c1 : p < off
  ·rw [List.getElem?_append_left (by omega),List.getElem?_take,if_pos c1,hO.same _ (by omega) (by omega),G.ss p hp,List.getD_eq_getElem?_getD]
  ·rw [List.getElem?_append_right (by omega),htl]
   by_cases c2 : p < off + nf
   ·rw [List.getElem?_append_left (by omega),← List.getD_eq_getElem?_getD,← hs (p - off) (by omega)]
    congr 1
    omega
   ·rw [List.getElem?_append_right (by omega),hl',List.getElem?_drop,hO.same _ (by omega) (by omega),G.ss p hp,List.getD_eq_getElem?_getD]
    congr 2
    omega
 ·rcases List.mem_append.1 hx with hx | hx
  ·exact G.sq x (List.mem_of_mem_take hx)
  ·rcases List.mem_append.1 hx with hx | hx
   ·exact hq x hx
   ·exact G.sq x (List.mem_of_mem_drop hx)
structure CarIn (W w0 w : World) (base fb pb B : Nat) (L0 L : List Int) (sv vv pv stk0 stk : Value) (so vo rest : Nat) (sa pa : Option Addr) (sn vn : Nat) (x : VS) : Prop where
 dyn : Dyn W w base fb pb B L sv vv pv stk
 geo : Geo B L so vo rest sa pa sv vv pv x.1 x.2
 out : Out L0 L so sn vo (vn + rest)
 but : But (fb :: B :: blkL stk0) w0 w
 mov : Moved w0 stk0 stk
 vl : x.1.length = vn
 sl : x.2.length = sn
def CarPost (W : World) (base fb pb B : Nat) (L : List Int) (sv vv pv stk : Value) (so vo rest : Nat) (sa pa : Option Addr) (sn vn : Nat) (y : VS) (c : Int) (w : World) (e : Ending) (w' : World) : Prop :=
 e = .returned (.int .i64 (IntKind.i64.wrap c)) ∧ ∃ L' stk',CarIn W w w' base fb pb B L L' sv vv pv stk stk' so vo rest sa pa sn vn y
theorem CarIn.refl {W w : World} {base fb pb B : Nat} {L : List Int} {sv vv pv stk : Value} {so vo rest : Nat} {sa pa : Option Addr} {sn vn : Nat} {x : VS} (hD : Dyn W w base fb pb B L sv vv pv stk) (hG : Geo B L so vo rest sa pa sv vv pv x.1 x.2) (hv : x.1.length = vn) (hs : x.2.length = sn) : CarIn W w w base fb pb B L L sv vv pv stk stk so vo rest sa pa sn vn x :=
 ⟨hD,hG,Out.refl _ _ _ _ _,But.refl _ _,Moved.refl _ _,hv,hs⟩
theorem Moved.trans {w0 w1 : World} {a b c : Value} (h : Moved w0 a b) (hs : w0.heap.size ≤ w1.heap.size) (k : Moved w1 b c) : Moved w0 a c:=fun x hx => by
 rcases k x hx with h1 | h1
 ·exact h x h1
 ·exact Or.inr (Nat.le_trans hs h1)
theorem CarIn.go {W w0 w1 w2 : World} {base fb pb B : Nat} {L0 L1 L2 : List Int} {sv vv pv stk0 stk1 stk2 : Value} {so vo rest : Nat} {sa pa : Option Addr} {sn vn : Nat} {x y : VS} (h : CarIn W w0 w1 base fb pb B L0 L1 sv vv pv stk0 stk1 so vo rest sa pa sn vn x) (k : CarIn W w1 w2 base fb pb B L1 L2 sv vv pv stk1 stk2 so vo rest sa pa sn vn y) : CarIn W w0 w2 base fb pb B L0 L2 sv vv pv stk0 stk2 so vo rest sa pa sn vn y:=by
 refine ⟨k.dyn,k.geo,h.out.trans k.out,h.but.then k.but (fun b hb => ?_),h.mov.trans h.but.size k.mov,k.vl,k.sl⟩
 rcases List.mem_cons.1 hb with rfl | hb
 ·exact Or.inl List.mem_cons_self
 rcases List.mem_cons.1 hb with rfl | hb
 ·exact Or.inl (List.mem_cons_of_mem _ List.mem_cons_self)
 rcases h.mov.mem b hb with h9 | h9
 ·exact Or.inl (List.mem_cons_of_mem _ (List.mem_cons_of_mem _ h9))
 ·exact Or.inr h9
theorem CarIn.val {W w0 w1 w2 : World} {base fb pb B : Nat} {L0 L1 : List Int} {sv vv pv stk0 stk1 stk2 : Value} {so vo rest : Nat} {sa pa : Option Addr} {sn vn : Nat} {x : VS} (h : CarIn W w0 w1 base fb pb B L0 L1 sv vv pv stk0 stk1 so vo rest sa pa sn vn x) (hD : Dyn W w2 base fb pb B L1 sv vv pv stk2) (hb : But (fb :: blkL stk1) w1 w2) (hm : Moved w1 stk1 stk2) : CarIn W w0 w2 base fb pb B L0 L1 sv vv pv stk0 stk2 so vo rest sa pa sn vn x:=by
 refine h.go ⟨hD,h.geo,Out.refl _ _ _ _ _,hb.mono (fun k hk => Or.inl ?_),hm,h.vl,h.sl⟩
 rcases List.mem_cons.1 hk with rfl | hk
 ·exact List.mem_cons_self
 ·exact List.mem_cons_of_mem _ (List.mem_cons_of_mem _ hk)
theorem CarIn.below {W w0 w1 w2 : World} {base fb pb B : Nat} {L0 L1 : List Int} {sv vv pv stk0 stk1 : Value} {so vo rest : Nat} {sa pa : Option Addr} {sn vn : Nat} {x : VS} (h : CarIn W w0 w1 base fb pb B L0 L1 sv vv pv stk0 stk1 so vo rest sa pa sn vn x) (hb : Below w1.heap.size w1 w2) : CarIn W w0 w2 base fb pb B L0 L1 sv vv pv stk0 stk1 so vo rest sa pa sn vn x :=
 h.go ⟨h.dyn.stays hb,h.geo,Out.refl _ _ _ _ _,But.of_below hb,Moved.refl _ _,h.vl,h.sl⟩
theorem CarIn.setV {W w0 w1 : World} {base fb pb B : Nat} {L0 L1 : List Int} {sv vv pv stk0 stk1 : Value} {so vo rest : Nat} {sa pa : Option Addr} {sn vn : Nat} {x : VS} (h : CarIn W w0 w1 base fb pb B L0 L1 sv vv pv stk0 stk1 so vo rest sa pa sn vn x) (p : Nat) (hp : p < x.1.length) (v : Int) (hv : Q32 v) : CarIn W w0 (w1.setCell ⟨B,vo + p,none⟩ (.int .i32 v)) base fb pb B L0 (L1.set (vo + p) v) sv vv pv stk0 stk1 so vo rest sa pa sn vn (x.1.set p v,x.2):=by
 have h1:=h.geo.vl
 have h2:=h.vl
 obtain ⟨d1,d2⟩:=h.dyn.setRow (vo + p) v
 refine h.go ⟨d1,h.geo.setV hp hv,Out.setV v (by omega) (by omega) (by omega),d2.mono (fun k hk => Or.inl ?_),Moved.refl _ _,by rw [List.length_set]; exact h.vl,h.sl⟩
 rw [List.mem_singleton] at hk
 subst hk
 exact List.mem_cons_of_mem _ List.mem_cons_self
theorem CarIn.setS {W w0 w1 : World} {base fb pb B : Nat} {L0 L1 : List Int} {sv vv pv stk0 stk1 : Value} {so vo rest : Nat} {sa pa : Option Addr} {sn vn : Nat} {x : VS} (h : CarIn W w0 w1 base fb pb B L0 L1 sv vv pv stk0 stk1 so vo rest sa pa sn vn x) (p : Nat) (hp : p < x.2.length) (v : Int) (hv : Q32 v) : CarIn W w0 (w1.setCell ⟨B,so + p,none⟩ (.int .i32 v)) base fb pb B L0 (L1.set (so + p) v) sv vv pv stk0 stk1 so vo rest sa pa sn vn (x.1,x.2.set p v):=by
 have h1:=h.geo.vl
 have h3:=h.geo.sl
 have h2:=h.sl
 obtain ⟨d1,d2⟩:=h.dyn.setRow (so + p) v
 refine h.go ⟨d1,h.geo.setS hp hv,Out.setS v (by omega) (by omega) (by omega),d2.mono (fun k hk => Or.inl ?_),Moved.refl _ _,h.vl,by rw [List.length_set]; exact h.sl⟩
 rw [List.mem_singleton] at hk
 subst hk
 exact List.mem_cons_of_mem _ List.mem_cons_self
theorem CarPost.of {W w0 w1 : World} {base fb pb B : Nat} {L0 L1 : List Int} {sv vv pv stk0 stk1 : Value} {so vo rest : Nat} {sa pa : Option Addr} {sn vn : Nat} {x : VS} (h : CarIn W w0 w1 base fb pb B L0 L1 sv vv pv stk0 stk1 so vo rest sa pa sn vn x) {c d : Int} (hc : d = IntKind.i64.wrap c) : CarPost W base fb pb B L0 sv vv pv stk0 so vo rest sa pa sn vn x c w0 (.returned (.int .i64 d)) w1:=⟨by rw [hc],_,_,h⟩
theorem Dyn.swap {W w : World} {base fb2 pb2 B : Nat} {L : List Int} {sv2 vv2 pv2 stk : Value} (h : Dyn W w base fb2 pb2 B L sv2 vv2 pv2 stk) {fb pb : Nat} {sv vv pv old : Value} (hf : BlkAt w fb 105 #[.pointer (some ⟨pb,0,none⟩),sv,vv,pv,old]) (hfb : W.heap.size ≤ fb) (hne : fb ≠ fb2) :
  Dyn W (w.setCell ⟨fb,4,none⟩ stk) base fb pb B L sv vv pv stk ∧ BlkAt (w.setCell ⟨fb,4,none⟩ stk) fb2 105 #[.pointer (some ⟨pb2,0,none⟩),sv2,vv2,pv2,stk] ∧ But [fb] w (w.setCell ⟨fb,4,none⟩ stk):=by
 obtain ⟨xs,hx⟩:=h.stk
 have hnB : B ≠ fb:=fun e => by
  have h8:=h.row
  rw [e] at h8
  have h9:=h8.symm.trans hf
  simp only [Option.some.injEq,Obj.cells.injEq] at h9
  exact absurd h9.2.1 (by decide)
 have hnf:=OwnV.notBlk' hx hf (by decide)
 have hk : But [fb] w (w.setCell ⟨fb,4,none⟩ stk):=But.setCell _ (p:=⟨fb,4,none⟩) (List.mem_singleton.2 rfl) _
 refine ⟨⟨h.old.trans (hk.below _ h.old.size (fun k hk => by rw [List.mem_singleton] at hk; subst hk; exact hfb)),hf.set 4 stk,hk.blk h.row (by simpa using hnB),⟨xs,hx.ofBlock (fun b hb9 => hk.block b (hx.lt b hb9).2 (fun e => by rw [List.mem_singleton] at e; subst e; exact hnf hb9))⟩,hfb,h.b0,h.bb,Nat.le_trans h.bw hk.size⟩,hk.blk h.fr (by simpa using hne.symm),hk⟩
theorem CarIn.setFar {W w0 w1 : World} {base fb pb B : Nat} {L0 L1 : List Int} {sv vv pv stk0 stk1 : Value} {so vo rest : Nat} {sa pa : Option Addr} {sn vn : Nat} {x : VS} (h : CarIn W w0 w1 base fb pb B L0 L1 sv vv pv stk0 stk1 so vo rest sa pa sn vn x) (p : Nat) (h1 : vo + vn ≤ p) (h2 : p < vo + vn + rest) (v : Int) : CarIn W w0 (w1.setCell ⟨B,p,none⟩ (.int .i32 v)) base fb pb B L0 (L1.set p v) sv vv pv stk0 stk1 so vo rest sa pa sn vn x:=by
 have g1:=h.geo.vl
 have g2:=h.geo.sl
 have g3:=h.vl
 obtain ⟨d1,d2⟩:=h.dyn.setRow p v
 refine h.go ⟨d1,h.geo.move List.length_set (fun j hj => ?_) (fun j hj => ?_),Out.setV v (by omega) (by omega) (by omega),d2.mono (fun k hk => Or.inl ?_),Moved.refl _ _,h.vl,h.sl⟩
 ·rw [getD_set _ _ _ _ (by omega),if_neg (by omega)]
 ·rw [getD_set _ _ _ _ (by omega),if_neg (by omega)]
 ·rw [List.mem_singleton] at hk
  subst hk
  exact List.mem_cons_of_mem _ List.mem_cons_self
theorem Dyn.newRow {W w w' : World} {base fb pb B : Nat} {L L' : List Int} {sv vv pv stk : Value} (h : Dyn W w base fb pb B L sv vv pv stk) (hk : But [B] w w') (hr : BlkAt w' B 21 (L'.map (Value.int .i32)).toArray) : Dyn W w' base fb pb B L' sv vv pv stk:=by
 obtain ⟨xs,hx⟩:=h.stk
 obtain ⟨n1,n2,n3⟩:=h.notStk
 exact ⟨h.old.trans (hk.below _ h.old.size (fun k hk => by rw [List.mem_singleton] at hk; subst hk; exact h.b0)),hk.blk h.fr (by rw [List.mem_singleton]; exact fun e => n3 e.symm),hr,⟨xs,hx.ofBlock (fun b hb9 => hk.block b (hx.lt b hb9).2 (fun e => by rw [List.mem_singleton] at e; subst e; exact n1 hb9))⟩,h.fb0,h.b0,h.bb,Nat.le_trans h.bw hk.size⟩
structure Two (W w0 w : World) (base fb pb B : Nat) (L0 L : List Int) (sv vv pv stk0 stk : Value) (so vo rest : Nat) (sa pa : Option Addr) (sn vn : Nat) (x : VS) (fb2 pb2 so2 n2 rest2 : Nat) (sa2 pa2 : Option Addr) (sv2 vv2 pv2 nv : Value) (v2 s2 : List Int) : Prop where
 car : CarIn W w0 w base fb pb B L0 L sv vv pv stk0 stk so vo rest sa pa sn vn x
 fr2 : BlkAt w fb2 105 #[.pointer (some ⟨pb2,0,none⟩),sv2,vv2,pv2,nv]
 geo2 : Geo B L so2 (vo + vn) rest2 sa2 pa2 sv2 vv2 pv2 v2 s2
 fn : w0.heap.size ≤ fb2
 ff : fb < w0.heap.size
 l2 : v2.length = n2
 r2 : n2 + rest2 ≤ rest
theorem Two.val {W w0 w w' : World} {base fb pb B : Nat} {L0 L : List Int} {sv vv pv stk0 stk stk' : Value} {so vo rest : Nat} {sa pa : Option Addr} {sn vn : Nat} {x : VS} {fb2 pb2 so2 n2 rest2 : Nat} {sa2 pa2 : Option Addr} {sv2 vv2 pv2 nv : Value} {v2 s2 : List Int} (h : Two W w0 w base fb pb B L0 L sv vv pv stk0 stk so vo rest sa pa sn vn x fb2 pb2 so2 n2 rest2 sa2 pa2 sv2 vv2 pv2 nv v2 s2) (hD : Dyn W w' base fb pb B L sv vv pv stk') (hb : But (fb :: blkL stk) w w') (hm : Moved w stk stk') : Two W w0 w' base fb pb B L0 L sv vv pv stk0 stk' so vo rest sa pa sn vn x fb2 pb2 so2 n2 rest2 sa2 pa2 sv2 vv2 pv2 nv v2 s2:=by
 obtain ⟨xs,hx⟩:=h.car.dyn.stk
 have h1:=h.fn
 have h2:=h.ff
 refine ⟨h.car.val hD hb hm,hb.blk h.fr2 (fun e => ?_),h.geo2,h.fn,h.ff,h.l2,h.r2⟩
 rcases List.mem_cons.1 e with e | e
 ·omega
 ·exact OwnV.notBlk' hx h.fr2 (by decide) (mem_blkL.1 e)
theorem Two.below {W w0 w w' : World} {base fb pb B : Nat} {L0 L : List Int} {sv vv pv stk0 stk : Value} {so vo rest : Nat} {sa pa : Option Addr} {sn vn : Nat} {x : VS} {fb2 pb2 so2 n2 rest2 : Nat} {sa2 pa2 : Option Addr} {sv2 vv2 pv2 nv : Value} {v2 s2 : List Int} (h : Two W w0 w base fb pb B L0 L sv vv pv stk0 stk so vo rest sa pa sn vn x fb2 pb2 so2 n2 rest2 sa2 pa2 sv2 vv2 pv2 nv v2 s2) (hb : Below w.heap.size w w') : Two W w0 w' base fb pb B L0 L sv vv pv stk0 stk so vo rest sa pa sn vn x fb2 pb2 so2 n2 rest2 sa2 pa2 sv2 vv2 pv2 nv v2 s2 :=
 ⟨h.car.below hb,h.fr2.below hb h.fr2.lt,h.geo2,h.fn,h.ff,h.l2,h.r2⟩
theorem Two.setArg {W w0 w : World} {base fb pb B : Nat} {L0 L : List Int} {sv vv pv stk0 stk : Value} {so vo rest : Nat} {sa pa : Option Addr} {sn vn : Nat} {x : VS} {fb2 pb2 so2 n2 rest2 : Nat} {sa2 pa2 : Option Addr} {sv2 vv2 pv2 nv : Value} {v2 s2 : List Int} (h : Two W w0 w base fb pb B L0 L sv vv pv stk0 stk so vo rest sa pa sn vn x fb2 pb2 so2 n2 rest2 sa2 pa2 sv2 vv2 pv2 nv v2 s2) (j : Nat) (hj : j < n2) (v : Int) (hv : Q32 v) : Two W w0 (w.setCell ⟨B,vo + vn + j,none⟩ (.int .i32 v)) base fb pb B L0 (L.set (vo + vn + j) v) sv vv pv stk0 stk so vo rest sa pa sn vn x fb2 pb2 so2 n2 rest2 sa2 pa2 sv2 vv2 pv2 nv (v2.set j v) s2:=by
 have h1:=h.r2
 have h2:=h.l2
 have hk : But [B] w (w.setCell ⟨B,vo + vn + j,none⟩ (.int .i32 v)):=But.setCell _ (p:=⟨B,vo + vn + j,none⟩) (List.mem_singleton.2 rfl) _
 have hnB : fb2 ≠ B:=fun e => by
  have h8:=h.fr2
  rw [e] at h8
  have h9:=h8.symm.trans h.car.dyn.row
  simp only [Option.some.injEq,Obj.cells.injEq] at h9
  exact absurd h9.2.1 (by decide)
 exact ⟨h.car.setFar (vo + vn + j) (by omega) (by omega) v,hk.blk h.fr2 (by simpa using hnB),h.geo2.setV (by omega) hv,h.fn,h.ff,by rw [List.length_set]; exact h.l2,h.r2⟩
theorem Two.setV {W w0 w : World} {base fb pb B : Nat} {L0 L : List Int} {sv vv pv stk0 stk : Value} {so vo rest : Nat} {sa pa : Option Addr} {sn vn : Nat} {x : VS} {fb2 pb2 so2 n2 rest2 : Nat} {sa2 pa2 : Option Addr} {sv2 vv2 pv2 nv : Value} {v2 s2 : List Int} (h : Two W w0 w base fb pb B L0 L sv vv pv stk0 stk so vo rest sa pa sn vn x fb2 pb2 so2 n2 rest2 sa2 pa2 sv2 vv2 pv2 nv v2 s2) (hs2 : so2 + s2.length ≤ vo) (p : Nat) (hp : p < vn) (v : Int) (hv : Q32 v) : Two W w0 (w.setCell ⟨B,vo + p,none⟩ (.int .i32 v)) base fb pb B L0 (L.set (vo + p) v) sv vv pv stk0 stk so vo rest sa pa sn vn (x.1.set p v,x.2) fb2 pb2 so2 n2 rest2 sa2 pa2 sv2 vv2 pv2 nv v2 s2:=by
 have h1:=h.r2
 have h2:=h.l2
 have h3:=h.car.vl
 have h4:=h.car.geo.vl
 have hk : But [B] w (w.setCell ⟨B,vo + p,none⟩ (.int .i32 v)):=But.setCell _ (p:=⟨B,vo + p,none⟩) (List.mem_singleton.2 rfl) _
 have hnB : fb2 ≠ B:=fun e => by
  have h8:=h.fr2
  rw [e] at h8
  have h9:=h8.symm.trans h.car.dyn.row
  simp only [Option.some.injEq,Obj.cells.injEq] at h9
  exact absurd h9.2.1 (by decide)
 exact ⟨h.car.setV p (by omega) v hv,hk.blk h.fr2 (by simpa using hnB),h.geo2.move List.length_set (fun j hj => by rw [getD_set _ _ _ _ (by omega),if_neg (by omega)]) (fun j hj => by rw [getD_set _ _ _ _ (by omega),if_neg (by omega)]),h.fn,h.ff,h.l2,h.r2⟩
theorem Two.inner {W w0 w : World} {base fb pb B : Nat} {L0 L : List Int} {sv vv pv stk0 stk : Value} {so vo rest : Nat} {sa pa : Option Addr} {sn vn : Nat} {x : VS} {fb2 pb2 so2 n2 rest2 : Nat} {sa2 pa2 : Option Addr} {sv2 vv2 pv2 nv : Value} {v2 s2 : List Int} (h : Two W w0 w base fb pb B L0 L sv vv pv stk0 stk so vo rest sa pa sn vn x fb2 pb2 so2 n2 rest2 sa2 pa2 sv2 vv2 pv2 nv v2 s2) :
  Dyn W (w.setCell ⟨fb2,4,none⟩ stk) base fb2 pb2 B L sv2 vv2 pv2 stk ∧ BlkAt (w.setCell ⟨fb2,4,none⟩ stk) fb 105 #[.pointer (some ⟨pb,0,none⟩),sv,vv,pv,stk] ∧ But [fb2] w (w.setCell ⟨fb2,4,none⟩ stk):=by
 have h1:=h.fn
 have h2:=h.ff
 have h3:=h.car.dyn.fb0
 exact h.car.dyn.swap h.fr2 (by omega) (by omega)
theorem Two.back {W w0 w w1 : World} {base fb pb B : Nat} {L0 L L1 : List Int} {sv vv pv stk0 stk stk1 : Value} {so vo rest : Nat} {sa pa : Option Addr} {sn vn : Nat} {x : VS} {fb2 pb2 so2 n2 rest2 : Nat} {sa2 pa2 : Option Addr} {sv2 vv2 pv2 nv : Value} {v2 s2 : List Int} (h : Two W w0 w base fb pb B L0 L sv vv pv stk0 stk so vo rest sa pa sn vn x fb2 pb2 so2 n2 rest2 sa2 pa2 sv2 vv2 pv2 nv v2 s2) (off nf : Nat) (hso : so2 = so + off) (hof : off + nf ≤ sn) (y : VS)
  (hc : CarIn W (w.setCell ⟨fb2,4,none⟩ stk) w1 base fb2 pb2 B L L1 sv2 vv2 pv2 stk stk1 so2 (vo + vn) rest2 sa2 pa2 nf n2 y) :
  BlkAt w1 fb 105 #[.pointer (some ⟨pb,0,none⟩),sv,vv,pv,stk] ∧ Two W w0 (w1.setCell ⟨fb,4,none⟩ stk1) base fb pb B L0 L1 sv vv pv stk0 stk1 so vo rest sa pa sn vn (x.1,x.2.take off ++ (y.2 ++ x.2.drop (off + nf))) fb2 pb2 so2 n2 rest2 sa2 pa2 sv2 vv2 pv2 stk1 y.1 y.2:=by
 have h1:=h.fn
 have h2:=h.ff
 have h3:=h.r2
 have h4:=h.car.vl
 have h5:=h.car.sl
 obtain ⟨d1,d2,d3⟩:=h.inner
 obtain ⟨xs,hx⟩:=d1.stk
 have hnB : fb ≠ B:=fun e => by
  have h8:=d2
  rw [e] at h8
  have h9:=h8.symm.trans d1.row
  simp only [Option.some.injEq,Obj.cells.injEq] at h9
  exact absurd h9.2.1 (by decide)
 have hf1 : BlkAt w1 fb 105 #[.pointer (some ⟨pb,0,none⟩),sv,vv,pv,stk]:=hc.but.blk d2 (fun e => by
  rcases List.mem_cons.1 e with e | e
  ·omega
  rcases List.mem_cons.1 e with e | e
  ·exact hnB e
  ·exact OwnV.notBlk' hx d2 (by decide) (mem_blkL.1 e))
 refine ⟨hf1,?_⟩
 obtain ⟨s1,s2',s3⟩:=hc.dyn.swap hf1 h.car.dyn.fb0 (by omega)
 subst hso
 have ho:=hc.out
 obtain ⟨g1,g2⟩:=geo_outer (n:=n2) (rest2:=rest2) h.car.geo h3 (by omega) y.2 hc.sl hc.geo.sq (by rw [h4]; exact ho) (fun p hp => hc.geo.ss p (by rw [hc.sl]; exact hp))
 rw [h4] at g2
 rw [h5] at g2
 have hb1 : But (fb :: B :: blkL stk0) w0 (w1.setCell ⟨fb,4,none⟩ stk1):=by
  refine ((h.car.but.then d3 (fun b hb => ?_)).then hc.but (fun b hb => ?_)).then s3 (fun b hb => ?_)
  ·rw [List.mem_singleton] at hb
   exact Or.inr (by omega)
  ·rcases List.mem_cons.1 hb with hb | hb
   ·exact Or.inr (by omega)
   rcases List.mem_cons.1 hb with hb | hb
   ·subst hb; exact Or.inl (List.mem_cons_of_mem _ List.mem_cons_self)
   ·rcases h.car.mov.mem b hb with h9 | h9
    ·exact Or.inl (List.mem_cons_of_mem _ (List.mem_cons_of_mem _ h9))
    ·exact Or.inr h9
  ·rw [List.mem_singleton] at hb
   subst hb
   exact Or.inl List.mem_cons_self
 refine ⟨⟨s1,g1,h.car.out.trans g2,hb1,h.car.mov.trans (Nat.le_trans h.car.but.size d3.size) hc.mov,h4,?_⟩,s2',hc.geo,h.fn,h.ff,hc.vl,h.r2⟩
 simp only [List.length_append,List.length_take,List.length_drop,hc.sl]
 omega
end Go.Proofs.YtjjldnkhadakcaaGreat
