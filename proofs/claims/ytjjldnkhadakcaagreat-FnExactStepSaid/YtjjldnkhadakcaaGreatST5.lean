import Derived.Test.YtjjldnkhadakcaaGreatST3
import Derived.Test.YtjjldnkhadakcaaGreatIS2
import Derived.Test.YtjjldnkhadakcaaGreatMI5
namespace Go.Proofs.YtjjldnkhadakcaaGreat
open Go.RowKit
set_option linter.unusedSimpArgs false
set_option linter.unusedVariables false
theorem flat_oneS (f : Int → Value) (xs : List Int) : xs.flatMap (fun t => [f t]) = xs.map f:=by
 induction xs with
 | nil => rfl
 | cons x xs ih => rw [List.flatMap_cons,ih]; rfl
theorem OwnV.cellI {w : World} {base : Nat} {v : Value} {xs : List Int} (h : OwnV elInt w base v xs) {g c n : Nat} (hv : v = .slice (some ⟨g,0,none⟩) n c) (p : Nat) (hp : p < xs.length) : w.cell? ⟨g,p,none⟩ = some (.int .i64 (xs.getD p 0)):=by
 have h':=World.ownsRow.cells h (g:=g) (by rw [hv]; rfl) p (.int .i64 (xs.getD p 0)) (by
  rw [show xs.flatMap elInt.f = xs.map (Value.int .i64) from by
   show xs.flatMap (fun t => [Value.int .i64 t]) = _
   exact flat_oneS (Value.int .i64) xs]
  rw [List.getElem?_map,List.getD_eq_getElem?_getD,List.getElem?_eq_getElem hp]
  rfl)
 rw [Addr.add_lit,Nat.zero_add] at h'
 exact h'
theorem OwnV.setI {w : World} {base : Nat} {g c : Nat} {xs : List Int} (h : OwnV elInt w base (.slice (some ⟨g,0,none⟩) xs.length c) xs) (p : Nat) (x : Int) : OwnV elInt (w.setCell ⟨g,p,none⟩ (.int .i64 x)) base (.slice (some ⟨g,0,none⟩) (xs.set p x).length c) (xs.set p x) ∧ w.grownBy (w.setCell ⟨g,p,none⟩ (.int .i64 x)) (some g):=by
 have e : ∀ ys : List Int,ys.flatMap elInt.f = ys.map (Value.int .i64):=fun ys => by
  show ys.flatMap (fun t => [Value.int .i64 t]) = _
  exact flat_oneS (Value.int .i64) ys
 have h':=h
 unfold OwnV at h'
 rw [e] at h'
 obtain ⟨h1,h2⟩:=World.ownsRow.stored h' p (.int .i64 x)
 refine ⟨?_,h2⟩
 unfold OwnV
 rw [e,List.length_set,List.map_set]
 exact h1
theorem own_nonempty {w : World} {base : Nat} {v : Value} {xs : List Int} (h : OwnV elInt w base v xs) (p : Nat) (hp : p < xs.length) : ∃ g c,v = .slice (some ⟨g,0,none⟩) xs.length c:=by
 rcases h.shape with ⟨_,h1⟩ | ⟨g,c,h1,_⟩
 ·subst h1; simp at hp
 ·exact ⟨g,c,h1⟩
def RStrs (lo : Nat) (w : World) (cs : List Value) (l : List ByteArray) : Prop:=∃ v,cs = [v] ∧ SlAt 1 16 RStr lo w v l
def RIntR (lo : Nat) (w : World) (cs : List Value) (l : List Int) : Prop:=∃ v,cs = [v] ∧ SlAt 1 8 RInt lo w v l
theorem RStrs_kept : KeptBy RStrs:=fun _ _ _ _ _ hb ⟨v,h1,h2⟩ => ⟨v,h1,h2.kept RStr_kept hb⟩
theorem RIntR_kept : KeptBy RIntR:=fun _ _ _ _ _ hb ⟨v,h1,h2⟩ => ⟨v,h1,h2.kept RInt_kept hb⟩
structure SPlan (w : World) (pb : Nat) (ks : List DClass) (v0 v1 v2 v3 : Value) (ots ens : List (List Int)) : Prop where
 lt : pb < w.heap.size
 c0 : w.cell? ⟨pb,0,none⟩ = some v0
 c1 : w.cell? ⟨pb,1,none⟩ = some v1
 c2 : w.cell? ⟨pb,2,none⟩ = some v2
 c3 : w.cell? ⟨pb,3,none⟩ = some v3
 vars : SlAt 1 24 RStrs 0 w v0 (ks.map varsOf)
 other : SlAt 1 24 RIntR 0 w v1 ots
 ends : SlAt 1 24 RIntR 0 w v2 ens
 cells : SlAt 1 8 RInt 0 w v3 ((List.range ks.length).map (fun c => ((fAt ks c).length : Int)))
 parts : ∀ (c : Nat) (k : DClass),ks[c]? = some k → ∃ ot en,ots[c]? = some ot ∧ ens[c]? = some en ∧ (treeOf ks k).parts 0 ot en
theorem SPlan.stays {w w' : World} {pb : Nat} {ks : List DClass} {v0 v1 v2 v3 : Value} {ots ens : List (List Int)} (h : SPlan w pb ks v0 v1 v2 v3 ots ens) (hb : Below w.heap.size w w') : SPlan w' pb ks v0 v1 v2 v3 ots ens:=by
 have hc : ∀ j,w'.cell? ⟨pb,j,none⟩ = w.cell? ⟨pb,j,none⟩:=fun j => hb.cell (p:=⟨pb,j,none⟩) h.lt
 exact ⟨Nat.lt_of_lt_of_le h.lt hb.size,(hc _).trans h.c0,(hc _).trans h.c1,(hc _).trans h.c2,(hc _).trans h.c3,h.vars.stays RStrs_kept hb,h.other.stays RIntR_kept hb,h.ends.stays RIntR_kept hb,h.cells.stays RInt_kept hb,h.parts⟩
theorem row_at {α : Type} {R : Nat → World → List Value → α → Prop} {w : World} {v : Value} {xs : List α} {byt : Nat} (h : SlAt 1 byt R 0 w v xs) (i : Nat) (hi : i < xs.length) : ∃ b o c u,v = .slice (some ⟨b,o,none⟩) xs.length c ∧ b < w.heap.size ∧ w.cell? ⟨b,o + i,none⟩ = some u ∧ R 0 w [u] xs[i]:=by
 obtain ⟨a,cap,rfl,_,_,hx⟩:=h
 obtain ⟨b,o,cs,rfl,_,hb,hl,hc,hR⟩:=hx i hi
 match cs,hl with
 | [u],_ =>
  have h0:=hc 0 (by simp)
  rw [Nat.mul_one,Nat.add_zero] at h0
  exact ⟨b,o,cap,u,rfl,hb,h0,hR⟩
structure RunOwn (w : World) (base rb pb : Nat) (cls : Nat) (mv : Value) (kc : List Value) (vv sv : Value) (vars state : List Int) (cost : Int) : Prop where
 blk : BlkAt w rb 127 (#[mv,.pointer (some ⟨pb,0,none⟩),.int .i64 (cls : Int)] ++ kc.toArray ++ #[vv,sv,.int .i64 (IntKind.i64.wrap cost)])
 hv : OwnV elInt w base vv vars
 hs : OwnV elInt w base sv state
 ne : ∀ b,vv.ownBlock = some b → sv.ownBlock ≠ some b
 kl : kc.length = 7
 rbase : base ≤ rb
theorem RunOwn.later {w w' : World} {base rb pb cls : Nat} {mv : Value} {kc : List Value} {vv sv : Value} {vars state : List Int} {cost : Int} (h : RunOwn w base rb pb cls mv kc vv sv vars state cost) (hb : Below w.heap.size w w') : RunOwn w' base rb pb cls mv kc vv sv vars state cost :=
 ⟨h.blk.below hb h.blk.lt,h.hv.below hb,h.hs.below hb,h.ne,h.kl,h.rbase⟩
theorem RunOwn.at {w : World} {base rb pb cls : Nat} {mv : Value} {kc : List Value} {vv sv : Value} {vars state : List Int} {cost : Int} (h : RunOwn w base rb pb cls mv kc vv sv vars state cost) {ks : List DClass} {v0 v1 v2 v3 : Value} {ots ens : List (List Int)} (hp : SPlan w pb ks v0 v1 v2 v3 ots ens) {k : DClass} (hk : ks[cls]? = some k) (hv : vars.length ≤ 1000000 ∧ ∀ x,x ∈ vars → Q32 x) (hs : state.length ≤ 1000000 ∧ ∀ x,x ∈ state → Q32 x) : RunAt w rb pb cls mv kc (varsOf k) vars state (IntKind.i64.wrap cost):=by
 obtain ⟨h1,h2,h3,h4,h5,h6⟩:=h
 have q : ∀ x,Q32 x → I64 x:=fun x h => by unfold Q32 at h; unfold I64; omega
 have s2:=h2.at (R:=RInt) (fun x hx => ⟨rfl,q x (hv.2 x hx)⟩) (by show _ * 8 ≤ _; omega)
 have s3:=h3.at (R:=RInt) (fun x hx => ⟨rfl,q x (hs.2 x hx)⟩) (by show _ * 8 ≤ _; omega)
 obtain ⟨va,vc,rfl⟩:=s2.shape
 obtain ⟨sa,sc,rfl⟩:=s3.shape
 refine ⟨⟨va,vc,sa,sc,h1,s2,s3⟩,h5,?_⟩
 obtain ⟨hi,rfl⟩:=List.getElem?_eq_some_iff.1 hk
 obtain ⟨b,o,c,u,e1,_,e2,u',e3,e4⟩:=row_at hp.vars cls (by simpa using hi)
 simp only [List.cons.injEq,and_true] at e3
 subst e3
 have hl:=hp.vars.lenM
 rw [List.getElem_map] at e4
 exact ⟨b,o,(ks.map varsOf).length,c,u,by rw [hp.c0,e1],by simpa using hi,by simpa using hl,e2,e4⟩
theorem grown_keep {w w' : World} {g : Nat} {o : Option Nat} (h : w.grownBy w' o) (hg : g < w.heap.size) (hne : o ≠ some g) : w'.heap[g]? = w.heap[g]?:=h.block g hg (fun e => hne e.symm)
theorem below_grown {w w' : World} {B g : Nat} (h : w.grownBy w' (some g)) (hB : B ≤ w.heap.size) (hg : B ≤ g) : Below B w w':=(Below.refl B w).grown h hB (fun k e => by cases e; exact hg)
set_option maxRecDepth 20000 in
set_option maxHeartbeats 2000000 in
theorem runPut_ok (W w : World) (hBW : Below W.heap.size W w) (rb pb cls : Nat) (mv : Value) (kc : List Value) (vv sv : Value) (vars state : List Int) (cost : Int) (h : RunOwn w W.heap.size rb pb cls mv kc vv sv vars state cost) (ks : List DClass) (v0 v1 v2 v3 : Value) (ots ens : List (List Int)) (hpl : SPlan W pb ks v0 v1 v2 v3 ots ens) (k : DClass) (hk : ks[cls]? = some k) (nm : ByteArray) (p : Nat) (hp : placeI (varsOf k) nm = (p : Int)) (hpv : p < vars.length) (x : Int) (hv : vars.length ≤ 1000000) :
  Calls Tryz.prog 108 #[.pointer (some ⟨rb,0,none⟩),.string nm,.int .i64 x] w fun e w' => e = .returned (.tuple #[]) ∧ RunOwn w' W.heap.size rb pb cls mv kc vv sv (vars.set p x) state cost ∧ But (blkL vv) w w':=by
 obtain ⟨hb,hov,hos,hne,hkl,hrb⟩:=h
 match kc,hkl with
 | [d0,d1,d2,d3,d4,d5,d6],_ =>
 obtain ⟨g,c,rfl⟩:=own_nonempty hov p hpv
 have r1 : w.cell? ⟨rb,1,none⟩ = some (.pointer (some ⟨pb,0,none⟩)):=hb.cell (v:=.pointer (some ⟨pb,0,none⟩)) rfl
 have r2 : w.cell? ⟨rb,2,none⟩ = some (.int .i64 (cls : Int)):=hb.cell (v:=.int .i64 (cls : Int)) rfl
 have r4 : w.cell? ⟨rb,10,none⟩ = some (.slice (some ⟨g,0,none⟩) vars.length c):=hb.cell (v:=.slice (some ⟨g,0,none⟩) vars.length c) rfl
 obtain ⟨hi,rfl⟩:=List.getElem?_eq_some_iff.1 hk
 have hbase:=hBW.size
 obtain ⟨xb,xo,xc,u,e1,hxb,e2,u',e3,hvs⟩:=row_at hpl.vars cls (by simpa using hi)
 replace e2:=(hBW.cell (p:=⟨xb,_,none⟩) hxb).trans e2
 simp only [List.cons.injEq,and_true] at e3
 subst e3
 rw [List.getElem_map] at hvs
 have p0:=(hBW.cell (p:=⟨pb,0,none⟩) hpl.lt).trans hpl.c0
 rw [e1] at p0
 have hln:=hpl.vars.lenM
 rw [List.length_map] at p0 hln
 have HP:=hide (l3Place_ok (varsOf ks[cls]) u nm w.drew (hvs.stays RStr_kept hBW.drew))
 rw [hp] at HP
 obtain ⟨wa,wc,rfl⟩:=hvs.shape
 have hcI : (cls : Int) < (ks.length : Int):=by omega
 have hpI : (p : Int) < (vars.length : Int):=by omega
 have fz : w.frozen? ⟨g,p,none⟩ = false:=World.ownsRow.frozenAt (n:=vars.length) (cap:=c) hov p
 have cz:=hov.cellI rfl p hpv
 have hgb0 : W.heap.size ≤ g:=hov.block g rfl
 have hgr : rb ≠ g:=fun e => by subst e; exact OwnV.notBlk' hov hb (by decide) rfl
 have hgp : pb ≠ g:=by have:=hpl.lt; omega
 have hgx : xb ≠ g:=by omega
 have HPO : Hid (∀ n,RunOwn ((w.drewN n).setCell ⟨g,p,none⟩ (.int .i64 x)) W.heap.size rb pb cls mv [d0,d1,d2,d3,d4,d5,d6] (.slice (some ⟨g,0,none⟩) vars.length c) sv (vars.set p x) state cost ∧ But (blkL (.slice (some ⟨g,0,none⟩) vars.length c)) w ((w.drewN n).setCell ⟨g,p,none⟩ (.int .i64 x))):=by
  refine hide ?_
  intro n
  have hd : Below w.heap.size w (w.drewN n):=below_dN (Below.refl _ _) n
  have hov':=hov.below hd
  have hos':=hos.below hd
  have hb':=hb.below hd hb.lt
  have hd2 : Below W.heap.size w (w.drewN n):=below_dN (Below.refl _ _) n
  have hz : (w.drewN n).heap.size = w.heap.size:=rfl
  generalize w.drewN n = w1 at *
  obtain ⟨s1,s2⟩:=hov'.setI p x
  have hgb : W.heap.size ≤ g:=hov.block g rfl
  have hlg:=(World.ownsRow.lt hov' g rfl).2
  rw [List.length_set] at s1
  refine ⟨⟨?_,s1,hos'.ofBlock (fun b hb2 => grown_keep s2 (World.ownsRow.lt hos' b hb2).2 (fun e => by cases e; exact hne g rfl hb2)),hne,rfl,hrb⟩,?_⟩
  ·refine (grown_keep s2 hb'.lt (fun e => ?_)).trans hb'
   cases e
   exact OwnV.notBlk' hov' hb' (by decide) rfl
  ·have h9 : But (blkL (.slice (some ⟨g,0,none⟩) vars.length c)) w w1:=But.of_below hd
   exact h9.trans ⟨s2.os,s2.tape,s2.output,s2.size,fun k hk hn => s2.block k hk (fun e => hn (mem_blkL.2 e.symm))⟩
 have HLB:=hide (World.ownsRow.lt hov g rfl).2
 have cz' : w.drew.cell? ⟨g,p,none⟩ = some (.int .i64 (vars.getD p 0)):=cz
 have fz' : w.drew.frozen? ⟨g,p,none⟩ = false:=fz
 clear hb hov hos hvs hpl hne hp hpv hk e1 cz fz
 generalize vars.getD p 0 = old at *
 generalize vars.length = vn at *
 generalize (varsOf ks[cls]).length = sn at *
 clear hi
 generalize ks.length = kn at *
 have HS : (w.setCell ⟨g,p,none⟩ (.int .i64 x)).drew.cell? ⟨rb,1,none⟩ = some (.pointer (some ⟨pb,0,none⟩)) ∧ (w.setCell ⟨g,p,none⟩ (.int .i64 x)).drew.cell? ⟨rb,2,none⟩ = some (.int .i64 (cls : Int)) ∧ (w.setCell ⟨g,p,none⟩ (.int .i64 x)).drew.cell? ⟨rb,10,none⟩ = some (.slice (some ⟨g,0,none⟩) vn c) ∧ (w.setCell ⟨g,p,none⟩ (.int .i64 x)).drew.cell? ⟨pb,0,none⟩ = some (.slice (some ⟨xb,xo,none⟩) kn xc) ∧ (w.setCell ⟨g,p,none⟩ (.int .i64 x)).drew.cell? ⟨xb,xo + cls,none⟩ = some (.slice wa sn wc):=by
  have hc : ∀ b o,b ≠ g → (w.setCell ⟨g,p,none⟩ (.int .i64 x)).drew.cell? ⟨b,o,none⟩ = w.cell? ⟨b,o,none⟩:=fun b o hb => World.cell?_of_block (w:=w) (Below.heap_setCell _ _ _ _ hb)
  exact ⟨(hc _ _ hgr).trans r1,(hc _ _ hgr).trans r2,(hc _ _ hgr).trans r4,(hc _ _ hgp).trans p0,(hc _ _ hgx).trans e2⟩
 go_enter Tryz.func108,Tryz.ntmps108
 go_wp2_with fail
 go_region_held3 (fun w' => w'.cell? ⟨rb,1,none⟩ = some (.pointer (some ⟨pb,0,none⟩)) ∧ w'.cell? ⟨rb,2,none⟩ = some (.int .i64 (cls : Int)) ∧ w'.cell? ⟨rb,10,none⟩ = some (.slice (some ⟨g,0,none⟩) vn c) ∧ w'.cell? ⟨pb,0,none⟩ = some (.slice (some ⟨xb,xo,none⟩) kn xc) ∧ w'.cell? ⟨xb,xo + cls,none⟩ = some (.slice wa sn wc)) (first | exact HS | go_keep) (first | (go_at_call 46; refine (uh HP).mono ?_; rintro e w1 ⟨rfl,rfl⟩))
 all_goals
  go_end0
  exact ⟨rfl,uh HPO 1⟩
def WkPost (ks : List DClass) (n c : Nat) (st ar : List Int) (w : World) (e : Ending) (w' : World) : Prop :=
 ∃ rv ov,e = .returned (.tuple #[rv,ov,.int .i64 (IntKind.i64.wrap (walkR ks n c st ar).2.2)]) ∧ SlAt 1 8 RInt w.heap.size w' rv (walkR ks n c st ar).1 ∧ SlAt 1 8 RInt w.heap.size w' ov (walkR ks n c st ar).2.1 ∧ Below w.heap.size w w'
def WalkDoes (ks : List DClass) (mv : Value) (pb n : Nat) (W : World) : Prop:=∀ (c : Nat) (k : DClass),ks[c]? = some k → c < n → ∀ st ar sv av w,Below W.heap.size W w → SlAt 1 8 RInt 0 w sv st → SlAt 1 8 RInt 0 w av ar → st.length = (fAt ks c).length → ar.length = k.ins.length → (∀ y,y ∈ st → Q32 y) → (∀ y,y ∈ ar → Q32 y) → Calls Tryz.prog 60 #[.agg #[mv],.pointer (some ⟨pb,0,none⟩),.int .i64 c,sv,av] w (WkPost ks n c st ar w)
theorem wrap_add (a b : Int) : IntKind.i64.wrap (IntKind.i64.wrap a + b) = IntKind.i64.wrap (a + b):=by
 rw [IntKind.wrap_i64,IntKind.wrap_i64,IntKind.wrap_i64]
 omega
theorem RunOwn.tick {w : World} {base rb pb cls : Nat} {mv : Value} {kc : List Value} {vv sv : Value} {vars state : List Int} {cost : Int} (h : RunOwn w base rb pb cls mv kc vv sv vars state cost) (d : Int) : RunOwn (w.setCell ⟨rb,12,none⟩ (.int .i64 (IntKind.i64.wrap (cost + d)))) base rb pb cls mv kc vv sv vars state (cost + d) ∧ But [rb] w (w.setCell ⟨rb,12,none⟩ (.int .i64 (IntKind.i64.wrap (cost + d)))):=by
 obtain ⟨hb,hv,hs,hne,hkl,hrb⟩:=h
 have n1:=OwnV.notBlk' hv hb (by decide)
 have n2:=OwnV.notBlk' hs hb (by decide)
 match kc,hkl with
 | [d0,d1,d2,d3,d4,d5,d6],_ =>
 have hb' : BlkAt w rb 127 #[mv,.pointer (some ⟨pb,0,none⟩),.int .i64 (cls : Int),d0,d1,d2,d3,d4,d5,d6,vv,sv,.int .i64 (IntKind.i64.wrap cost)]:=hb
 have h9:=hb'.set 12 (.int .i64 (IntKind.i64.wrap (cost + d)))
 generalize hcd : IntKind.i64.wrap (cost + d) = cd at *
 have h8 : BlkAt (w.setCell ⟨rb,12,none⟩ (.int .i64 cd)) rb 127 #[mv,.pointer (some ⟨pb,0,none⟩),.int .i64 (cls : Int),d0,d1,d2,d3,d4,d5,d6,vv,sv,.int .i64 cd]:=h9
 refine ⟨⟨?_,hv.ofBlock (fun b hb2 => Below.heap_setCell _ _ _ _ (fun e => ?_)),hs.ofBlock (fun b hb2 => Below.heap_setCell _ _ _ _ (fun e => ?_)),hne,rfl,hrb⟩,But.setCell _ (p:=⟨rb,12,none⟩) (List.mem_singleton.2 rfl) _⟩
 ·rw [hcd]; exact h8
 ·have e' : b = rb:=e
  subst e'
  exact n1 hb2
 ·have e' : b = rb:=e
  subst e'
  exact n2 hb2
theorem RunOwn.cells {w : World} {base rb pb cls : Nat} {mv : Value} {n0 a1 a2 a3 a4 a5 a6 : Value} {vv sv : Value} {vars state : List Int} {cost : Int} (h : RunOwn w base rb pb cls mv [n0,a1,a2,a3,a4,a5,a6] vv sv vars state cost) :
  (w.cell? ⟨rb,0,none⟩ = some mv ∧ w.cell? ⟨rb,1,none⟩ = some (.pointer (some ⟨pb,0,none⟩)) ∧ w.cell? ⟨rb,2,none⟩ = some (.int .i64 (cls : Int))) ∧ (w.cell? ⟨rb,7,none⟩ = some a4 ∧ w.cell? ⟨rb,8,none⟩ = some a5 ∧ w.cell? ⟨rb,9,none⟩ = some a6) ∧ (w.cell? ⟨rb,10,none⟩ = some vv ∧ w.cell? ⟨rb,11,none⟩ = some sv ∧ w.cell? ⟨rb,12,none⟩ = some (.int .i64 (IntKind.i64.wrap cost))) ∧ w.frozen? ⟨rb,11,none⟩ = false ∧ w.frozen? ⟨rb,12,none⟩ = false:=by
 have hb : BlkAt w rb 127 #[mv,.pointer (some ⟨pb,0,none⟩),.int .i64 (cls : Int),n0,a1,a2,a3,a4,a5,a6,vv,sv,.int .i64 (IntKind.i64.wrap cost)]:=h.blk
 generalize IntKind.i64.wrap cost = c at *
 exact ⟨⟨hb.cell (i:=0) (v:=mv) rfl,hb.cell (i:=1) (v:=.pointer (some ⟨pb,0,none⟩)) rfl,hb.cell (i:=2) (v:=.int .i64 (cls : Int)) rfl⟩,⟨hb.cell (i:=7) (v:=a4) rfl,hb.cell (i:=8) (v:=a5) rfl,hb.cell (i:=9) (v:=a6) rfl⟩,⟨hb.cell (i:=10) (v:=vv) rfl,hb.cell (i:=11) (v:=sv) rfl,hb.cell (i:=12) (v:=.int .i64 c) rfl⟩,hb.free 11,hb.free 12⟩
structure LEnv (ks : List DClass) (n cls : Nat) (k : DClass) (W : World) (mv : Value) (pb : Nat) (kc : List Value) (v0 v1 v2 v3 : Value) (ots ens : List (List Int)) (ot en : List Int) : Prop where
 ok : plansB ks = true
 hk : ks[cls]? = some k
 pl : SPlan W pb ks v0 v1 v2 v3 ots ens
 kc : RClass 0 W kc k
 hot : ots[cls]? = some ot
 hen : ens[cls]? = some en
 wk : WalkDoes ks mv pb n W
 cn : cls ≤ n
def LsPost9 (ks : List DClass) (n cls : Nat) (k : DClass) (W : World) (mv : Value) (pb rb : Nat) (kc : List Value) (vv : Value) (t : PL) (x : VS) (cost : Int) (e : Ending) (w' : World) : Prop :=
 e = .returned (.tuple #[]) ∧ (∃ sv,RunOwn w' W.heap.size rb pb cls mv kc vv sv (runR ks k (walkR ks n) t x).1.1 (runR ks k (walkR ks n) t x).1.2 (cost + (runR ks k (walkR ks n) t x).2)) ∧ Below W.heap.size W w'
structure TreeAt (ks : List DClass) (k : DClass) (ot en : List Int) (t : PL) (i : Nat) (post : List DStm) : Prop where
 wf : t.wf
 le : i ≤ k.body.length
 ok : ∀ s,s ∈ t.flat → stmB ks k s = true
 at_ : k.body.drop i = t.flat ++ post
 parts : t.parts i ot en
theorem TreeAt.leaf {ks : List DClass} {k : DClass} {ot en : List Int} {s : DStm} {r : PL} {i : Nat} {post : List DStm} (h : TreeAt ks k ot en (.leaf s r) i post) : (∃ hi : i < k.body.length,k.body[i] = s) ∧ stmB ks k s = true ∧ (s.kind ≠ 4 ∧ s.kind ≠ 5 ∧ s.kind ≠ 6) ∧ TreeAt ks k ot en r (i + 1) post:=by
 have h1:=h.at_
 simp only [PL.flat,List.cons_append] at h1
 have hi : i < k.body.length:=by
  have h9:=congrArg List.length h1
  rw [List.length_drop,List.length_cons] at h9
  omega
 rw [List.drop_eq_getElem_cons hi,List.cons.injEq] at h1
 exact ⟨⟨hi,h1.1⟩,h.ok s (by simp [PL.flat]),h.wf.1,h.wf.2,hi,fun s' h' => h.ok s' (by simp [PL.flat,h']),h1.2,h.parts⟩
theorem drop_at {α : Type} (l : List α) (i : Nat) (A : List α) (x : α) (R : List α) (h : l.drop i = A ++ x :: R) : l.drop (i + A.length + 1) = R ∧ l.drop (i + A.length) = x :: R:=by
 have e1 : l.drop (i + A.length) = x :: R:=by
  rw [← List.drop_drop,h,List.drop_left]
 refine ⟨?_,e1⟩
 rw [← List.drop_drop,e1]
 rfl
theorem TreeAt.br {ks : List DClass} {k : DClass} {ot en : List Int} {s : DStm} {a : PL} {el : DStm} {b : PL} {e : DStm} {r : PL} {i : Nat} {post : List DStm} (h : TreeAt ks k ot en (.br s a el b e r) i post) : (∃ hi : i < k.body.length,k.body[i] = s) ∧ stmB ks k s = true ∧ s.kind = 4 ∧
  (ot[i]? = some ((i + 1 + a.flat.length : Nat) : Int) ∧ en[i]? = some ((i + 1 + a.flat.length + 1 + b.flat.length : Nat) : Int)) ∧ TreeAt ks k ot en a (i + 1) (el :: (b.flat ++ e :: (r.flat ++ post))) ∧ TreeAt ks k ot en b (i + 1 + a.flat.length + 1) (e :: (r.flat ++ post)) ∧ TreeAt ks k ot en r (i + 1 + a.flat.length + 1 + b.flat.length + 1) post:=by
 have h1:=h.at_
 simp only [PL.flat,List.cons_append,List.append_assoc] at h1
 have hl:=congrArg List.length h1
 rw [List.length_drop,List.length_cons,List.length_append,List.length_cons,List.length_append,List.length_cons] at hl
 have hi : i < k.body.length:=by omega
 rw [List.drop_eq_getElem_cons hi,List.cons.injEq] at h1
 obtain ⟨h2,h3⟩:=h1
 obtain ⟨h4,_⟩:=drop_at _ _ _ _ _ h3
 obtain ⟨h5,_⟩:=drop_at _ _ _ _ _ h4
 obtain ⟨⟨w1,w2,w3⟩,wa,wb,wr⟩:=h.wf
 obtain ⟨p1,p2,p3,p4⟩:=h.parts
 exact ⟨⟨hi,h2⟩,h.ok s (by simp [PL.flat]),w1,p1,⟨wa,by omega,fun s' h' => h.ok s' (by simp [PL.flat,h']),h3,p2⟩,⟨wb,by omega,fun s' h' => h.ok s' (by simp [PL.flat,h']),h4,p3⟩,⟨wr,by omega,fun s' h' => h.ok s' (by simp [PL.flat,h']),h5,p4⟩⟩
end Go.Proofs.YtjjldnkhadakcaaGreat
namespace Go.Proofs.YtjjldnkhadakcaaGreat
open Go.RowKit
theorem size_int (w : World) : (sizeOf (Tryz.prog.elem 35)).run Tryz.prog w = .ok 1 w:=by kernel_rfl
theorem cut_lh (sa : Option Addr) (n sc o h : Nat) (h1 : o ≤ h) (h2 : h ≤ sc) (w : World) : (Instr.slice 35 (.slice sa n sc) (some (.int .i64 (o : Int))) (some (.int .i64 (h : Int))) none).run Tryz.prog w = .ok (.slice (if sc = o then sa else sa.map (·.add (o * 1))) (h - o) (sc - o)) w:=by
 rw [run_slice_lh w 35 sa n sc (by kernel_rfl) .i64 .i64 (o : Int) (h : Int) (by omega) (by omega) (by omega)]
 rw [Int.toNat_natCast,Int.toNat_natCast]
 rw [size_int]
 rfl
theorem cut_h (sa : Option Addr) (n sc h : Nat) (h2 : h ≤ sc) (w : World) : (Instr.slice 35 (.slice sa n sc) none (some (.int .i64 (h : Int))) none).run Tryz.prog w = .ok (.slice (if sc = 0 then sa else sa.map (·.add (0 * 1))) (h - 0) (sc - 0)) w:=by
 rw [run_slice_h w 35 sa n sc (by kernel_rfl) .i64 (h : Int) (by omega) (by omega)]
 rw [Int.toNat_natCast]
 rw [size_int]
 rfl
theorem cut_l (sa : Option Addr) (n sc o : Nat) (h1 : o ≤ n) (w : World) : (Instr.slice 35 (.slice sa n sc) (some (.int .i64 (o : Int))) none none).run Tryz.prog w = .ok (.slice (if sc = o then sa else sa.map (·.add (o * 1))) (n - o) (sc - o)) w:=by
 rw [run_slice_l w 35 sa n sc (by kernel_rfl) .i64 (o : Int) (by omega) (by omega)]
 rw [Int.toNat_natCast]
 rw [size_int]
 rfl
theorem add_one_lit (g o : Nat) : (⟨g,0,none⟩ : Addr).add (o * 1) = ⟨g,o,none⟩:=by
 rw [Addr.add_lit,Nat.mul_one,Nat.zero_add]
theorem OwnV.midI {w : World} {base : Nat} {sa : Option Addr} {sc : Nat} {xs : List Int} (h : OwnV elInt w base (.slice sa xs.length sc) xs) (hq : ∀ x,x ∈ xs → Q32 x) (hl : xs.length ≤ 1000000) (o l : Nat) (ho : o + l ≤ xs.length) : SlAt 1 8 RInt 0 w (.slice (if sc = o then sa else sa.map (·.add (o * 1))) l (sc - o)) ((xs.drop o).take l):=by
 have hs : SlAt 1 8 RInt 0 w (.slice sa xs.length sc) xs:=h.at (R:=RInt) (fun x hx => ⟨rfl,by have:=hq x hx; unfold Q32 at this; unfold I64; omega⟩) (by show _ * 8 ≤ _; omega)
 obtain ⟨a,cap,he,⟨_,h2⟩,_,hx⟩:=hs
 simp only [Value.slice.injEq] at he
 obtain ⟨rfl,_,rfl⟩:=he
 have hlen : ((xs.drop o).take l).length = l:=by rw [List.length_take,List.length_drop]; omega
 refine ⟨_,_,by rw [hlen],⟨by rw [hlen]; unfold Len; omega,by rw [hlen]; omega⟩,by rw [hlen]; unfold Len; omega,fun i hi => ?_⟩
 rw [hlen] at hi
 obtain ⟨b,oo,cs,hb,hlo,hbl,hcs,hc,hR⟩:=hx (o + i) (by omega)
 rcases h.shape with ⟨h9,_⟩ | ⟨g,c,h9,_⟩
 ·simp only [Value.slice.injEq] at h9
  rw [h9.1] at hb
  cases hb
 simp only [Value.slice.injEq] at h9
 obtain ⟨rfl,_,rfl⟩:=h9
 simp only [Option.some.injEq,Addr.mk.injEq,and_true] at hb
 obtain ⟨rfl,rfl⟩:=hb
 refine ⟨g,o,cs,?_,hlo,hbl,hcs,fun j hj => ?_,?_⟩
 ·rw [if_neg (by omega),Option.map_some,add_one_lit]
 ·have:=hc j hj
  rw [← this]
  congr 2
  omega
 ·have e : ((xs.drop o).take l)[i]'(by rw [hlen]; exact hi) = xs[o + i]'(by omega):=by
   rw [List.getElem_take,List.getElem_drop]
  rw [e]
  exact hR
theorem wrap_add2 (a b : Int) : IntKind.i64.wrap (IntKind.i64.wrap a + IntKind.i64.wrap b) = IntKind.i64.wrap (a + b):=by
 rw [IntKind.wrap_i64,IntKind.wrap_i64,IntKind.wrap_i64,IntKind.wrap_i64]
 omega
theorem OwnV.lowB {P : Program} {α : Type} {E : ElF P α} {w : World} {b1 b2 : Nat} {v : Value} {xs : List α} (h : OwnV E w b1 v xs) (hb : b2 ≤ b1) : OwnV E w b2 v xs:=by
 obtain ⟨q1,q2⟩:=h
 refine ⟨q1,?_⟩
 rcases q2 with q2 | ⟨gg,cap,cur,e1,e2,e3⟩
 ·exact Or.inl q2
 ·exact Or.inr ⟨gg,cap,cur,e1,Nat.le_trans hb e2,e3⟩
theorem RunOwn.fresh {w w' : World} {base rb pb cls : Nat} {mv : Value} {kc : List Value} {vv sv sv' : Value} {vars state state' : List Int} {cost : Int} (h : RunOwn w base rb pb cls mv kc vv sv vars state cost) (hb : Below w.heap.size w w') (ho : OwnV elInt w' w.heap.size sv' state') (hbase : base ≤ w.heap.size) :
  RunOwn (w'.setCell ⟨rb,11,none⟩ sv') base rb pb cls mv kc vv sv' vars state' cost ∧ But [rb] w' (w'.setCell ⟨rb,11,none⟩ sv'):=by
 have h':=h.later hb
 have n1:=OwnV.notBlk' h'.hv h'.blk (by decide)
 have n2:=OwnV.notBlk' ho h'.blk (by decide)
 obtain ⟨hb',hv,hs,hne,hkl,hrb⟩:=h'
 have hvo:=h.hv
 match kc,hkl with
 | [d0,d1,d2,d3,d4,d5,d6],_ =>
 have hb9 : BlkAt w' rb 127 #[mv,.pointer (some ⟨pb,0,none⟩),.int .i64 (cls : Int),d0,d1,d2,d3,d4,d5,d6,vv,sv,.int .i64 (IntKind.i64.wrap cost)]:=hb'
 generalize hcd : IntKind.i64.wrap cost = cd at *
 have h9:=hb9.set 11 sv'
 have h8 : BlkAt (w'.setCell ⟨rb,11,none⟩ sv') rb 127 #[mv,.pointer (some ⟨pb,0,none⟩),.int .i64 (cls : Int),d0,d1,d2,d3,d4,d5,d6,vv,sv',.int .i64 cd]:=h9
 refine ⟨⟨?_,hv.ofBlock (fun b hb2 => Below.heap_setCell _ _ _ _ (fun e => ?_)),(ho.ofBlock (fun b hb2 => Below.heap_setCell _ _ _ _ (fun e => ?_))).lowB hbase,fun b hb2 hb3 => ?_,rfl,hrb⟩,But.setCell _ (p:=⟨rb,11,none⟩) (List.mem_singleton.2 rfl) _⟩
 ·rw [hcd]; exact h8
 ·have e' : b = rb:=e
  subst e'
  exact n1 hb2
 ·have e' : b = rb:=e
  subst e'
  exact n2 hb2
 ·have h1:=(hvo.lt b hb2).2
  have h2:=(ho.lt b hb3).1
  omega
end Go.Proofs.YtjjldnkhadakcaaGreat
