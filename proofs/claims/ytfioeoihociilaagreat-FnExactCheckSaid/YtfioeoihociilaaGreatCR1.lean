import Derived.Test.YtfioeoihociilaaGreatOwnF
import Derived.Test.YtfioeoihociilaaGreatC1I
import Derived.Test.YtfioeoihociilaaGreatOwn
namespace Go.Proofs.YtfioeoihociilaaGreat
open Go.RowKit
set_option linter.unusedSimpArgs false
set_option linter.unusedVariables false
def hidTo (code : List DItem) (i : Nat) : Nat → Bool
 | 0 => false
 | d + 1 => hidTo code i d || (match code[i + 1 + d]? with | some t => fbyB t.op && decide (bgI (code.take (i + 1 + d)) ≤ i) | none => false)
def hidB (code : List DItem) (i : Nat) : Bool:=hidTo code i (code.length - (i + 1))
def visOne (code : List DItem) (i : Nat) : List ByteArray:=match code[i]? with | some t => if t.name.size = 0 then [] else if hidB code i then [] else [t.name] | none => []
def visTo (code : List DItem) : Nat → List ByteArray
 | 0 => []
 | k + 1 => visTo code k ++ visOne code k
def visAll (codes : List (List DItem)) : Nat → List ByteArray
 | 0 => []
 | k + 1 => visAll codes k ++ (match codes[k]? with | some c => visTo c c.length | none => [])
def clkTo (vs : List DVar) (lhs : List ByteArray) : Nat → List ByteArray
 | 0 => []
 | k + 1 => clkTo vs lhs k ++ (match lhs[k]? with | some nm => (clkOf vs nm).map (·.name) | none => [])
def readsOf (vs : List DVar) (e : DEq) : List ByteArray:=clkTo vs e.lhs e.lhs.length ++ visAll (codesOf e) (codesOf e).length
theorem visOne_le (code : List DItem) (i : Nat) : (visOne code i).length ≤ 1:=by
 unfold visOne
 cases code[i]? with
 | none => simp
 | some t =>
  simp only
  split
  ·simp
  ·split <;> simp
theorem visTo_le (code : List DItem) (k : Nat) : (visTo code k).length ≤ k:=by
 induction k with
 | zero => exact Nat.le_refl _
 | succ k ih => unfold visTo; rw [List.length_append]; have:=visOne_le code k; omega
theorem visAll_le (codes : List (List DItem)) (B : Nat) (h : ∀ c,c ∈ codes → c.length ≤ B) (k : Nat) : (visAll codes k).length ≤ k * B:=by
 induction k with
 | zero => simp [visAll]
 | succ k ih =>
  unfold visAll
  rw [List.length_append,Nat.add_mul]
  cases hc : codes[k]? with
  | none => simp only [List.length_nil]; omega
  | some c =>
   have h1:=h c (List.mem_of_getElem? hc)
   have h2:=visTo_le c c.length
   simp only
   omega
theorem clkTo_le (vs : List DVar) (lhs : List ByteArray) (B : Nat) (h : ∀ nm,(clkOf vs nm).length ≤ B) (k : Nat) : (clkTo vs lhs k).length ≤ k * B:=by
 induction k with
 | zero => simp [clkTo]
 | succ k ih =>
  unfold clkTo
  rw [List.length_append,Nat.add_mul]
  cases hc : lhs[k]? with
  | none => simp only [List.length_nil]; omega
  | some c =>
   have h1:=h c
   simp only [List.length_map]
   omega
def RItemsIn (w0 : World) : Nat → World → List Value → List DItem → Prop:=fun _ _ cs l => ∃ v,cs = [v] ∧ SlAt 3 32 RItem 0 w0 v l
theorem items_in {w0 w : World} {v : Value} {xs : List (List DItem)} (h : SlAt 1 24 RItems 0 w v xs) (hw : w = w0) : SlAt 1 24 (RItemsIn w0) 0 w v xs:=by
 subst hw
 exact h
set_option maxHeartbeats 400000 in
theorem l2Codes_in (x : DEq) (a1 a2 a3 : Value) (w0 w : World) (hw0 : Below w0.heap.size w0 w) (h2 : SlAt 3 32 RItem 0 w0 a2 x.code) (h3 : SlAt 1 24 RItems 0 w0 a3 x.args) :
  Calls Tryz.prog 47 #[.agg #[a1,a2,.string x.call,a3]] w fun e w' => ∃ v,e = .returned v ∧ SlAt 1 24 (RItemsIn w0) 0 w' v (codesOf x) ∧ (2 ≤ (codesOf x).length → SlAt 1 24 (RItemsIn w0) 0 w0 v (codesOf x)) ∧ Below w.heap.size w w':=by
 obtain ⟨lhs,code,s,args⟩:=x
 simp only [codesOf] at *
 obtain ⟨b2,c2,rfl⟩:=h2.shape
 obtain ⟨b3,c3,rfl⟩:=h3.shape
 have H2:=hide h2
 have H3:=hide h3
 have HW0:=hide hw0
 clear h2 h3 hw0
 have B0:=hide ((Below.refl w.heap.size w).alloc (Nat.le_refl _) (.cells #[a1,.slice b2 code.length c2,.string s,.slice b3 args.length c3] 70))
 by_cases g : s.size = 0
 ·rw [if_pos g]
  have d4:=empty_yes s g
  have d4':=isEmpty_yes s g
  have HO : Hid (SlAt 1 24 (RItemsIn w0) 0 ((w.alloc (.cells #[a1,.slice b2 code.length c2,.string s,.slice b3 args.length c3] 70)).alloc (.cells #[.slice b2 code.length c2] 67)) (.slice (some ⟨w.heap.size + 1,0,none⟩) 1 1) [code]):=by
   refine ⟨_,1,rfl,⟨by simp [Len],by simp⟩,by simp [Len],fun i hi => ?_⟩
   obtain rfl : i = 0:=by simpa using hi
   refine ⟨w.heap.size + 1,0,[.slice b2 code.length c2],rfl,Nat.zero_le _,by simp,rfl,fun j hj => ?_,⟨_,rfl,uh H2⟩⟩
   obtain rfl : j = 0:=by simpa using hj
   rw [World.cell?_alloc_at _ _ _ _ (by simp)]
   rfl
  clear g
  go_enter Tryz.func47,Tryz.ntmps47
  go_wp2
  go_ret
  exact ⟨_,rfl,by simpa using uh HO,fun h => absurd h (by simp),(uh B0).trans ((Below.refl _ _).alloc (uh B0).size _)⟩
 ·rw [if_neg g]
  have d4:=empty_no s g
  have d4':=isEmpty_no s g
  have HI:=hide (items_in (uh H3) rfl)
  have HI2 : Hid (SlAt 1 24 (RItemsIn w0) 0 (w.alloc (.cells #[a1,.slice b2 code.length c2,.string s,.slice b3 args.length c3] 70)) (.slice b3 args.length c3) args):=(uh HI).stays (fun _ _ _ _ _ _ h => h) ((uh HW0).trans ((uh B0).mono (uh HW0).size))
  clear g
  go_enter Tryz.func47,Tryz.ntmps47
  go_wp2
  go_ret
  exact ⟨_,rfl,uh HI2,fun _ => uh HI,uh B0⟩
theorem clk_map (ks : List DCond) (m : Nat) (hm : m < ks.length) : (ks.take (m + 1)).map (·.name) = (ks.take m).map (·.name) ++ [ks[m].name]:=by
 rw [List.take_succ_eq_append_getElem hm,List.map_append]
 rfl
theorem OwnV.atLo {w : World} {base lo : Nat} {v : Value} {xs : List ByteArray} (h : OwnV elStr w base v xs) (hlo : lo ≤ base) (hR : ∀ x,x ∈ xs → [Value.string x] = [.string x] ∧ Len x.size) (hn : xs.length * 16 ≤ 140737488355328) : SlAt 1 16 RStr lo w v xs:=by
 obtain ⟨a,cap,hv,h1,h2,hx⟩:=h.at (R:=RStr) hR hn
 refine ⟨a,cap,hv,h1,h2,fun i hi => ?_⟩
 obtain ⟨b,o,cs,ha,_,r⟩:=hx i hi
 have hb : base ≤ b:=h.block b (by rw [hv,ha]; rfl)
 exact ⟨b,o,cs,ha,by omega,r⟩
set_option maxRecDepth 20000 in
set_option maxHeartbeats 8000000 in
theorem l2Reads_ok (x : DNode) (b1 b2 b3 b4 : Option Addr) (c1 c2 c3 n4 c4 : Nat) (hsum : x.ins.length + x.outs.length + x.vars.length ≤ 1048576) (e : DEq) (v1 v2 v3 : Value) (w : World) (hni : NIn x b1 b2 b3 c1 c2 c3 w)
  (h1 : SlAt 1 16 RStr 0 w v1 e.lhs) (h2 : SlAt 3 32 RItem 0 w v2 e.code) (h3 : SlAt 1 24 RItems 0 w v3 e.args) (hlh : e.lhs.length ≤ 500) (hck : ∀ nm,(clkOf (allV x) nm).length ≤ 8) (hcl : ∀ c,c ∈ codesOf e → c.length ≤ 3000) (hcn : (codesOf e).length ≤ 500)
  (hnl : ∀ nm,nm ∈ readsOf (allV x) e → Len nm.size) :
  Calls Tryz.prog 52 #[.agg #[.string x.name,.slice b1 x.ins.length c1,.slice b2 x.outs.length c2,.slice b3 x.vars.length c3,.slice b4 n4 c4],.agg #[v1,v2,.string e.call,v3]] w fun r w' => ∃ v,r = .returned v ∧ SlAt 1 16 RStr w.heap.size w' v (readsOf (allV x) e) ∧ Below w.heap.size w w':=by
 have HCD:=hide (fun w1 (hb : Below w.heap.size w w1) a => l2Codes_in e a v2 v3 w w1 hb h2 h3)
 have HCK:=hide (fun nm w1 (hb : Below w.heap.size w w1) => l2Clock_in x (.slice b1 x.ins.length c1) (.slice b2 x.outs.length c2) (.slice b3 x.vars.length c3) (.slice b4 n4 c4) nm w w1 hb hni.ins hni.outs hni.vars ⟨b4,n4,c4,rfl⟩ hsum)
 have HNL:=hide hnl
 have HRD : Hid (readsOf (allV x) e = clkTo (allV x) e.lhs e.lhs.length ++ visAll (codesOf e) (codesOf e).length):=rfl
 have HVL:=hide (fun m => visAll_le (codesOf e) 3000 hcl m)
 have HCL:=hide (fun m => clkTo_le (allV x) e.lhs 8 hck m)
 have HC3:=hide hcl
 have HK8:=hide hck
 obtain ⟨lhs,code,cl,args⟩:=e
 simp only at *
 obtain ⟨l1,l1c,rfl⟩:=h1.shape
 obtain ⟨l2,l2c,rfl⟩:=h2.shape
 obtain ⟨l3,l3c,rfl⟩:=h3.shape
 have n1:=h1.len'
 have H1:=hide h1
 clear h1 h2 h3 hni hcl hck hnl hsum
 generalize readsOf (allV x) ⟨lhs,code,cl,args⟩ = res at *
 generalize codesOf ⟨lhs,code,cl,args⟩ = cds at *
 have hA : Below w.heap.size w ((w.alloc (.cells #[.string x.name,.slice b1 x.ins.length c1,.slice b2 x.outs.length c2,.slice b3 x.vars.length c3,.slice b4 n4 c4] 45)).alloc (.cells #[.slice l1 lhs.length l1c,.slice l2 code.length l2c,.string cl,.slice l3 args.length l3c] 70)):=((Below.refl _ _).alloc (Nat.le_refl _) _).alloc (by simp) _
 have hAz : ((w.alloc (.cells #[.string x.name,.slice b1 x.ins.length c1,.slice b2 x.outs.length c2,.slice b3 x.vars.length c3,.slice b4 n4 c4] 45)).alloc (.cells #[.slice l1 lhs.length l1c,.slice l2 code.length l2c,.string cl,.slice l3 args.length l3c] 70)).heap.size = w.heap.size + 2:=by simp
 have hBN : BlkAt ((w.alloc (.cells #[.string x.name,.slice b1 x.ins.length c1,.slice b2 x.outs.length c2,.slice b3 x.vars.length c3,.slice b4 n4 c4] 45)).alloc (.cells #[.slice l1 lhs.length l1c,.slice l2 code.length l2c,.string cl,.slice l3 args.length l3c] 70)) w.heap.size 45 #[.string x.name,.slice b1 x.ins.length c1,.slice b2 x.outs.length c2,.slice b3 x.vars.length c3,.slice b4 n4 c4]:=(blk_box w #[.string x.name,.slice b1 x.ins.length c1,.slice b2 x.outs.length c2,.slice b3 x.vars.length c3,.slice b4 n4 c4] 45).below ((Below.refl _ _).alloc (Nat.le_refl _) _) (by simp)
 have hBI : BlkAt ((w.alloc (.cells #[.string x.name,.slice b1 x.ins.length c1,.slice b2 x.outs.length c2,.slice b3 x.vars.length c3,.slice b4 n4 c4] 45)).alloc (.cells #[.slice l1 lhs.length l1c,.slice l2 code.length l2c,.string cl,.slice l3 args.length l3c] 70)) (w.heap.size + 1) 70 #[.slice l1 lhs.length l1c,.slice l2 code.length l2c,.string cl,.slice l3 args.length l3c]:=by
  have:=blk_box (w.alloc (.cells #[.string x.name,.slice b1 x.ins.length c1,.slice b2 x.outs.length c2,.slice b3 x.vars.length c3,.slice b4 n4 c4] 45)) #[.slice l1 lhs.length l1c,.slice l2 code.length l2c,.string cl,.slice l3 args.length l3c] 70
  rwa [show (w.alloc (.cells #[.string x.name,.slice b1 x.ins.length c1,.slice b2 x.outs.length c2,.slice b3 x.vars.length c3,.slice b4 n4 c4] 45)).heap.size = w.heap.size + 1 from by simp] at this
 obtain ⟨BX,hBX⟩ : ∃ BX : World → Prop,∀ w',BX w' ↔ Below (w.heap.size + 2) ((w.alloc (.cells #[.string x.name,.slice b1 x.ins.length c1,.slice b2 x.outs.length c2,.slice b3 x.vars.length c3,.slice b4 n4 c4] 45)).alloc (.cells #[.slice l1 lhs.length l1c,.slice l2 code.length l2c,.string cl,.slice l3 args.length l3c] 70)) w':=⟨_,fun _ => Iff.rfl⟩
 have HX1 : Hid (∀ w1,BX w1 → Below w.heap.size w w1):=fun w1 h => hA.trans (((hBX w1).1 h).mono (by omega))
 have HX2 : Hid (∀ w1 w2,BX w1 → Below w1.heap.size w1 w2 → BX w2):=fun w1 w2 h h2 => (hBX w2).2 (((hBX w1).1 h).trans (h2.mono (by have:=((hBX w1).1 h).size; omega)))
 have HX3 : Hid (∀ w1 w2 v ys,BX w1 → OwnV elStr w1 (w.heap.size + 2) v ys → w1.grownBy w2 v.ownBlock → BX w2):=fun w1 w2 v ys h ho hg => (hBX w2).2 (ho.grown ((hBX w1).1 h) hg (by have:=((hBX w1).1 h).size; omega) (Nat.le_refl _))
 have HX4 : Hid (∀ w1,BX w1 → w1.cell? ⟨w.heap.size,0,none⟩ = some (.string x.name) ∧ w1.cell? ⟨w.heap.size,1,none⟩ = some (.slice b1 x.ins.length c1) ∧ w1.cell? ⟨w.heap.size,2,none⟩ = some (.slice b2 x.outs.length c2) ∧ w1.cell? ⟨w.heap.size,3,none⟩ = some (.slice b3 x.vars.length c3) ∧ w1.cell? ⟨w.heap.size,4,none⟩ = some (.slice b4 n4 c4) ∧ w1.cell? ⟨w.heap.size + 1,0,none⟩ = some (.slice l1 lhs.length l1c) ∧ w1.cell? ⟨w.heap.size + 1,1,none⟩ = some (.slice l2 code.length l2c) ∧ w1.cell? ⟨w.heap.size + 1,2,none⟩ = some (.string cl) ∧ w1.cell? ⟨w.heap.size + 1,3,none⟩ = some (.slice l3 args.length l3c)):=fun w1 h => ⟨(hBN.below ((hBX w1).1 h) (by omega)).cell (i:=0) (v:=.string x.name) rfl,(hBN.below ((hBX w1).1 h) (by omega)).cell (i:=1) (v:=.slice b1 x.ins.length c1) rfl,(hBN.below ((hBX w1).1 h) (by omega)).cell (i:=2) (v:=.slice b2 x.outs.length c2) rfl,(hBN.below ((hBX w1).1 h) (by omega)).cell (i:=3) (v:=.slice b3 x.vars.length c3) rfl,(hBN.below ((hBX w1).1 h) (by omega)).cell (i:=4) (v:=.slice b4 n4 c4) rfl,(hBI.below ((hBX w1).1 h) (by omega)).cell (i:=0) (v:=.slice l1 lhs.length l1c) rfl,(hBI.below ((hBX w1).1 h) (by omega)).cell (i:=1) (v:=.slice l2 code.length l2c) rfl,(hBI.below ((hBX w1).1 h) (by omega)).cell (i:=2) (v:=.string cl) rfl,(hBI.below ((hBX w1).1 h) (by omega)).cell (i:=3) (v:=.slice l3 args.length l3c) rfl⟩
 have HX5 : Hid (∀ w1,BX w1 → w.heap.size + 2 ≤ w1.heap.size):=fun w1 h => by have:=((hBX w1).1 h).size; omega
 have HX0 : Hid (BX (((w.alloc (.cells #[.string x.name,.slice b1 x.ins.length c1,.slice b2 x.outs.length c2,.slice b3 x.vars.length c3,.slice b4 n4 c4] 45)).alloc (.cells #[.slice l1 lhs.length l1c,.slice l2 code.length l2c,.string cl,.slice l3 args.length l3c] 70)).alloc (.cells #[] 9))):=(hBX _).2 ((Below.refl _ _).alloc (by omega) _)
 have HO0 : Hid (OwnV elStr (((w.alloc (.cells #[.string x.name,.slice b1 x.ins.length c1,.slice b2 x.outs.length c2,.slice b3 x.vars.length c3,.slice b4 n4 c4] 45)).alloc (.cells #[.slice l1 lhs.length l1c,.slice l2 code.length l2c,.string cl,.slice l3 args.length l3c] 70)).alloc (.cells #[] 9)) (w.heap.size + 2) (.slice (some ⟨w.heap.size + 2,0,none⟩) 0 0) []):=by
  have:=OwnV.start (E:=elStr) ((w.alloc (.cells #[.string x.name,.slice b1 x.ins.length c1,.slice b2 x.outs.length c2,.slice b3 x.vars.length c3,.slice b4 n4 c4] 45)).alloc (.cells #[.slice l1 lhs.length l1c,.slice l2 code.length l2c,.string cl,.slice l3 args.length l3c] 70)) (w.heap.size + 2) (by omega)
  rw [hAz] at this
  exact this
 clear hA hAz hBN hBI hBX
 go_enter Tryz.func52,Tryz.ntmps52
 go_wp2
 go_loopg [5,20] lhs.length (fun g nm i wr => ∃ (k : Nat),k ≤ lhs.length ∧ g = lhs.length - k ∧ i = .int .i64 k ∧ OwnV elStr wr (w.heap.size + 2) nm (clkTo (allV x) lhs k) ∧ BX wr)
 case atStart => exact ⟨0,Nat.zero_le _,by omega,rfl,uh HO0,uh HX0⟩
 case round =>
  obtain ⟨k,hk,hg,rfl,hown,hbx⟩:=hrel
  rename World => wN
  have HG:=hide hg
  have HOW:=hide hown
  have HBX:=hide hbx
  obtain ⟨s1,s2,s3,s4,s5,s6,s7,s8,s9⟩:=uh HX4 wN hbx
  clear hg
  by_cases hlt : k < lhs.length
  ·obtain ⟨b,o,cs,hbo,_,hb,hcs,hc0,hR⟩:=(show ∃ b o cs,l1 = some ⟨b,o,none⟩ ∧ 0 ≤ b ∧ b < w.heap.size ∧ cs.length = 1 ∧ (∀ j (hj : j < cs.length),w.cell? ⟨b,o + k * 1 + j,none⟩ = some cs[j]) ∧ RStr 0 w cs lhs[k] from by
    obtain ⟨a,cap,hv,_,_,hx⟩:=uh H1
    simp only [Value.slice.injEq] at hv
    obtain ⟨rfl,_,_⟩:=hv
    exact hx k hlt)
   subst hbo
   obtain ⟨rfl,hsn⟩:=hR
   have r0 : wN.cell? ⟨b,o + k,none⟩ = some (.string lhs[k]):=by
    rw [(uh HX1 wN hbx).cell (p:=⟨b,_,none⟩) hb]
    simpa using hc0 0 (by simp)
   have HC:=hide (uh HCK lhs[k] wN (uh HX1 wN hbx))
   have hk8:=uh HK8 lhs[k]
   have hcl1:=uh HCL k
   have HST : Hid (clkTo (allV x) lhs (k + 1) = clkTo (allV x) lhs k ++ (clkOf (allV x) lhs[k]).map (·.name)):=by
    show clkTo (allV x) lhs (k + 1) = _
    rw [clkTo,List.getElem?_eq_getElem hlt]
   clear hc0 hcs hown hbx
   generalize clkOf (allV x) lhs[k] = ks at *
   generalize lhs[k] = nm at *
   generalize clkTo (allV x) lhs k = ns0 at *
   obtain ⟨aN,cN,rfl⟩:=(uh HOW).slice
   go_wp2_with fail
   refine (uh HC).mono ?_
   rintro e w1 ⟨ckv,rfl,hck,hb1⟩
   have HX1':=hide (uh HX2 _ _ (uh HBX) hb1)
   have HOW1:=hide ((uh HOW).below hb1)
   obtain ⟨ac,cc,rfl⟩:=hck.shape
   obtain ⟨_,_,hkv,_,hkn,hkx⟩:=hck
   simp only [Value.slice.injEq] at hkv
   obtain ⟨rfl,_,rfl⟩:=hkv
   have HKX:=hide hkx
   clear hkx hkn hb1 s1 s2 s3 s4 s5 s6 s7 s8 s9 r0 HC
   go_wp2
   go_loopg [5,28] ks.length (fun g nm2 i wr => ∃ (m : Nat),m ≤ ks.length ∧ g = ks.length - m ∧ i = .int .i64 m ∧ OwnV elStr wr (w.heap.size + 2) nm2 (ns0 ++ (ks.take m).map (·.name)) ∧ BX wr)
   case atStart => exact ⟨0,Nat.zero_le _,by omega,rfl,by simpa using uh HOW1,uh HX1'⟩
   case round =>
    obtain ⟨m,hm,hgm,rfl,hownm,hbxm⟩:=hrel
    rename World => wM
    have HGM:=hide hgm
    have HOM:=hide hownm
    have HBM:=hide hbxm
    clear hgm
    by_cases hltm : m < ks.length
    ·obtain ⟨bq,oq,cq,hbo,_,hbq,hcq,hc1,hRq⟩:=uh HKX m hltm
     subst hbo
     obtain ⟨rfl,hsq⟩:=hRq
     have hc2 : ∀ j (hj : j < 2),wM.cell? ⟨bq,oq + m * 2 + j,none⟩ = some _:=fun j hj => by rw [(uh HX1 wM hbxm).cell (p:=⟨bq,_,none⟩) hbq]; exact hc1 j hj
     have q0:=hc2 0 (by simp)
     have q1:=hc2 1 (by simp)
     simp only [Nat.add_zero,List.getElem_cons_zero,List.getElem_cons_succ] at q0 q1
     have HMP:=hide (clk_map ks m hltm)
     have hlen : (ns0 ++ (ks.take m).map (·.name)).length ≤ 10000:=by rw [List.length_append,List.length_map,List.length_take]; omega
     have hal : Below wM.heap.size wM ((wM.alloc (.cells #[.string ks[m].name,.bool ks[m].on] 65)).alloc (.cells #[.string ks[m].name] 9)):=((Below.refl _ _).alloc (Nat.le_refl _) _).alloc (by simp) _
     have HOA:=hide ((uh HOM).below hal)
     have HXA:=hide (uh HX2 _ _ hbxm hal)
     have HSA:=hide (uh HX5 _ hbxm)
     have HEQ : Hid (ns0 ++ (ks.take (m + 1)).map (·.name) = ns0 ++ (ks.take m).map (·.name) ++ [ks[m].name]):=by
      show _ = _
      rw [uh HMP,List.append_assoc]
     clear hc1 hc2 hcq hownm hbxm hal HMP
     generalize ks[m].name = cn at *
     generalize ks[m].on = con at *
     generalize ns0 ++ (ks.take m).map (·.name) = ys at *
     obtain ⟨aY,cY,rfl⟩:=(uh HOM).slice
     go_wp2_with (at_builtin; go_must (refine wpList_append_oneF elStr _ rfl _ _ rfl (w.heap.size + 2) _ ys rfl (uh HOA) (wM.heap.size + 1) cn rfl (fun j u hu => by rw [World.cell?_alloc_at _ _ _ _ (by simp)]; simpa [elStr] using hu) (by simp [elStr]; omega) (by have:=uh HSA; simp at this ⊢; omega) ?_))
     intro v9 w9 hown9 hgr9
     have HO9:=hide hown9
     have HX9:=hide (uh HX3 _ _ _ _ (uh HXA) (uh HOA) hgr9)
     clear hown9 hgr9
     go_wp2
     go_roundg (ks.length - (m + 1))
     case measure => have:=uh HGM; omega
     case rel => exact ⟨m + 1,by omega,rfl,by go_num,by rw [uh HEQ]; exact uh HO9,uh HX9⟩
    ·have e : m = ks.length:=by omega
     subst e
     have hE:=uh HOM
     rw [List.take_length,← uh HST] at hE
     have HE:=hide hE
     clear hE
     go_wp2
     go_roundg (lhs.length - (k + 1))
     case measure => have:=uh HG; omega
     case rel => exact ⟨k + 1,by omega,rfl,by go_num,uh HE,uh HBM⟩
  ·have e : k = lhs.length:=by omega
   subst e
   have hcl1:=uh HCL lhs.length
   generalize clkTo (allV x) lhs lhs.length = pre at *
   have HC:=hide (uh HCD wN (uh HX1 wN hbx) (.slice l1 lhs.length l1c))
   obtain ⟨aN,cN,rfl⟩:=(uh HOW).slice
   clear hown hbx
   go_wp2_with fail
   refine (uh HC).mono ?_
   rintro e w1 ⟨vc,rfl,hcds,hcd2,hb1⟩
   have HXW:=hide (uh HX2 _ _ (uh HBX) hb1)
   have HOW1:=hide ((uh HOW).below hb1)
   obtain ⟨av,cv,rfl⟩:=hcds.shape
   have HEL : Hid (∀ wr m (hm : m < cds.length),BX wr → (m = 0 → wr = w1) → ∃ ba oa va,av = some ⟨ba,oa,none⟩ ∧ wr.cell? ⟨ba,oa + m,none⟩ = some va ∧ SlAt 3 32 RItem 0 w va cds[m]):=by
    intro wr m hm hbx hm0
    by_cases hz : m = 0
    ·obtain rfl:=(hm0 hz).symm
     obtain ⟨a,cap,hv,_,_,hx⟩:=hcds
     simp only [Value.slice.injEq] at hv
     obtain ⟨rfl,_,_⟩:=hv
     obtain ⟨ba,oa,csa,hbo,_,hba,hcsa,hca,⟨va,rfl,hE⟩⟩:=hx m hm
     exact ⟨ba,oa,va,hbo,by simpa using hca 0 (by simp),hE⟩
    ·obtain ⟨a,cap,hv,_,_,hx⟩:=hcd2 (by omega)
     simp only [Value.slice.injEq] at hv
     obtain ⟨rfl,_,_⟩:=hv
     obtain ⟨ba,oa,csa,hbo,_,hba,hcsa,hca,⟨va,rfl,hE⟩⟩:=hx m hm
     exact ⟨ba,oa,va,hbo,by rw [(uh HX1 wr hbx).cell (p:=⟨ba,_,none⟩) hba]; simpa using hca 0 (by simp),hE⟩
   clear hcds hcd2 hb1 s1 s2 s3 s4 s5 s6 s7 s8 s9 HC HCD HCK
   go_wp2
   go_loopg [5,42] cds.length (fun g nm i wr => ∃ (m : Nat),m ≤ cds.length ∧ g = cds.length - m ∧ i = .int .i64 m ∧ OwnV elStr wr (w.heap.size + 2) nm (pre ++ visAll cds m) ∧ BX wr ∧ (m = 0 → wr = w1))
   case atStart => exact ⟨0,Nat.zero_le _,by omega,rfl,by simpa [visAll] using uh HOW1,uh HXW,fun _ => rfl⟩
   case round =>
    obtain ⟨m,hm,hgm,rfl,hownm,hbxm,hm0⟩:=hrel
    rename World => wM
    have HGM:=hide hgm
    have HOM:=hide hownm
    have HBM:=hide hbxm
    clear hgm
    by_cases hltm : m < cds.length
    ·obtain ⟨ba,oa,va,hbo,r0,hE⟩:=uh HEL wM m hltm hbxm hm0
     subst hbo
     obtain ⟨be,ce,rfl⟩:=hE.shape
     have nE:=hE.len'
     have HE:=hide hE
     have hc3:=uh HC3 cds[m] (List.getElem_mem hltm)
     have hvl:=uh HVL m
     have hvl2 : m * 3000 ≤ 500 * 3000:=Nat.mul_le_mul_right _ (by omega)
     have HVS : Hid (visAll cds (m + 1) = visAll cds m ++ visTo cds[m] cds[m].length):=by
      show visAll cds (m + 1) = _
      rw [visAll,List.getElem?_eq_getElem hltm]
     have hlp : (pre ++ visAll cds m).length ≤ 1600000:=by rw [List.length_append]; omega
     have HPS : Hid (pre ++ visAll cds (m + 1) = pre ++ visAll cds m ++ visTo cds[m] cds[m].length):=by
      show _ = _
      rw [uh HVS,List.append_assoc]
     have HBG:=hide (fun wr (hb : BX wr) j (hj : j ≤ cds[m].length) => l1Begin_at cds[m] j hj _ wr (hE.stays RItem_kept (uh HX1 wr hb)))
     clear hE hownm hbxm hm0 HVS hvl hvl2
     generalize cds[m] = el at *
     generalize pre ++ visAll cds m = ys0 at *
     obtain ⟨aY,cY,rfl⟩:=(uh HOM).slice
     have hltm' : (m : Int) < (cds.length : Int):=by omega
     go_wp2
     go_loopg [5,48] el.length (fun g nm i wr => ∃ (q : Nat),q ≤ el.length ∧ g = el.length - q ∧ i = .int .i64 q ∧ OwnV elStr wr (w.heap.size + 2) nm (ys0 ++ visTo el q) ∧ BX wr)
     case atStart => exact ⟨0,Nat.zero_le _,by omega,rfl,by simpa [visTo] using uh HOM,uh HBM⟩
     case round =>
      obtain ⟨q,hq,hgq,rfl,hownq,hbxq⟩:=hrel
      rename World => wQ
      have HGQ:=hide hgq
      have HOQ:=hide hownq
      have HBQ:=hide hbxq
      clear hgq
      by_cases hltq : q < el.length
      ·obtain ⟨bi,oi,ci,hbo,_,hbi,hci,hc1,hRi⟩:=(show ∃ b' o' cs',be = some ⟨b',o',none⟩ ∧ 0 ≤ b' ∧ b' < w.heap.size ∧ cs'.length = 3 ∧ (∀ j (hj : j < cs'.length),w.cell? ⟨b',o' + q * 3 + j,none⟩ = some cs'[j]) ∧ RItem 0 w cs' el[q] from by
        obtain ⟨a,cap,hv,_,_,hx⟩:=uh HE
        simp only [Value.slice.injEq] at hv
        obtain ⟨rfl,_,_⟩:=hv
        exact hx q hltq)
       subst hbo
       obtain ⟨rfl,hsi,hoi,hvi⟩:=hRi
       have hc2 : ∀ j (hj : j < 3),wQ.cell? ⟨bi,oi + q * 3 + j,none⟩ = some _:=fun j hj => by rw [(uh HX1 wQ hbxq).cell (p:=⟨bi,_,none⟩) hbi]; exact hc1 j hj
       have q0:=hc2 0 (by simp)
       have q1:=hc2 1 (by simp)
       have q2:=hc2 2 (by simp)
       simp only [Nat.add_zero,List.getElem_cons_zero,List.getElem_cons_succ] at q0 q1 q2
       have hvt:=visTo_le el q
       have hlq : (ys0 ++ visTo el q).length ≤ 1700000:=by rw [List.length_append]; omega
       have HVO : Hid (∀ r,visOne el q = r → ys0 ++ visTo el (q + 1) = ys0 ++ visTo el q ++ r):=fun r hr => by rw [visTo,hr,List.append_assoc]
       have hva : visOne el q = if el[q].name.size = 0 then [] else if hidB el q then [] else [el[q].name]:=by
        unfold visOne
        rw [List.getElem?_eq_getElem hltq]
       have HAL : Hid (Below wQ.heap.size wQ (wQ.alloc (.cells #[.int .i64 el[q].op,.int .i64 el[q].val,.string el[q].name] 103))):=(Below.refl _ _).alloc (Nat.le_refl _) _
       have HXQ:=hide (uh HX2 _ _ hbxq (uh HAL))
       have HOQ2:=hide ((uh HOQ).below (uh HAL))
       have hltq' : (q : Int) < (el.length : Int):=by omega
       clear hc1 hc2 hci hownq hbxq
       generalize ys0 ++ visTo el q = ys at *
       obtain ⟨aQ,cQ,rfl⟩:=(uh HOQ).slice
       by_cases hz : el[q].name.size = 0
       ·have HF:=hide (uh HVO [] (by rw [hva,if_pos hz]))
        have d4:=empty_yes _ hz
        have d4':=isEmpty_yes _ hz
        clear hva HVO hz
        generalize el[q].name = iname at *
        generalize el[q].op = iop at *
        generalize el[q].val = ival at *
        go_wp2
        go_roundg (el.length - (q + 1))
        case measure => have:=uh HGQ; omega
        case rel => exact ⟨q + 1,by omega,rfl,by go_num,by rw [uh HF,List.append_nil]; exact uh HOQ2,uh HXQ⟩
       ·rw [if_neg hz] at hva
        have HVA:=hide hva
        have d4:=empty_no _ hz
        have d4':=isEmpty_no _ hz
        have HSN:=hide hsi
        clear hva hz hsi hoi hvi
        have HJ : Hid (∀ d,(hd : q + 1 + d < el.length) → w.cell? ⟨bi,oi + (q + 1 + d) * 3,none⟩ = some (.int .i64 el[q + 1 + d].op)):=fun d hd => by
         obtain ⟨a,cap,hv,_,_,hx⟩:=uh HE
         simp only [Value.slice.injEq] at hv
         obtain ⟨rfl,_,_⟩:=hv
         obtain ⟨b5,o5,c5,hb5,_,hb6,hc5,hc6,⟨rfl,_⟩⟩:=hx (q + 1 + d) hd
         simp only [Option.some.injEq,Addr.mk.injEq] at hb5
         obtain ⟨rfl,rfl,_⟩:=hb5
         simpa using hc6 0 (by simp)
        generalize el[q].name = iname at *
        generalize el[q].op = iop at *
        generalize el[q].val = ival at *
        have HCE : Hid (∀ j,(wQ.alloc (.cells #[.int .i64 iop,.int .i64 ival,.string iname] 103)).cell? ⟨wQ.heap.size,j,none⟩ = #[Value.int .i64 iop,.int .i64 ival,.string iname][j]?):=fun j => World.cell?_alloc_at _ _ _ _ rfl
        go_wp2
        generalize hwA : wQ.alloc (.cells #[.int .i64 iop,.int .i64 ival,.string iname] 103) = wA at *
        clear hwA
        go_loopg [14,15] (el.length - (q + 1)) (fun g hb j wr => ∃ (d : Nat),d ≤ el.length - (q + 1) ∧ g = el.length - (q + 1) - d ∧ j = .int .i64 ((q + 1 + d : Nat) : Int) ∧ hb = .bool (hidTo el q d) ∧ wr = wA)
        case atStart => exact ⟨0,Nat.zero_le _,by omega,by go_num,rfl,rfl⟩
        case round =>
         obtain ⟨d,hd,hgd,rfl,rfl,hw9⟩:=hrel
         obtain rfl:=hw9.symm
         have HGD:=hide hgd
         have HDQ:=hide hd
         have hxa:=uh HXQ
         clear hgd
         by_cases hltd : q + 1 + d < el.length
         ·have p0 : wA.cell? ⟨bi,oi + (q + 1 + d) * 3,none⟩ = some (.int .i64 el[q + 1 + d].op):=by
           rw [(uh HX1 wA hxa).cell (p:=⟨bi,_,none⟩) hbi]
           exact uh HJ d hltd
          have HB1:=hide (uh HBG wA hxa (q + 1 + d) (by omega))
          have HHS : Hid (hidTo el q (d + 1) = (hidTo el q d || (fbyB el[q + 1 + d].op && decide (bgI (el.take (q + 1 + d)) ≤ (q : Int))))):=by
           show hidTo el q (d + 1) = _
           rw [hidTo,List.getElem?_eq_getElem hltd]
          have hltd' : ((q + 1 + d : Nat) : Int) < (el.length : Int):=by omega
          have hj0 : (0 : Int) ≤ ((q + 1 + d : Nat) : Int):=by omega
          generalize el[q + 1 + d].op = jop at *
          generalize bgI (el.take (q + 1 + d)) = bgj at *
          obtain ⟨jj,hjj⟩ : ∃ jj,jj = q + 1 + d:=⟨_,rfl⟩
          rw [← hjj] at p0 HB1 hltd' hj0
          rw [← hjj]
          have HJJ:=hide hjj
          have hjl : jj < el.length:=by omega
          clear hjj hltd hxa
          have HFC:=hide (fby_cases jop wA)
          cases hf : fbyB jop
          ·rw [hf] at HFC HHS
           rw [Bool.false_and,Bool.or_false] at HHS
           go_wp2_with fail
           refine (uh HFC).mono ?_
           rintro e w9 ⟨rfl,h9⟩
           obtain rfl:=h9.symm
           go_wp2
           go_roundg (el.length - (q + 1) - (d + 1))
           case measure => have:=uh HGD; have:=uh HJJ; omega
           case rel => exact ⟨d + 1,by have:=uh HJJ; omega,rfl,int_eq (by have:=uh HJJ; omega),by rw [uh HHS],rfl⟩
          ·rw [hf] at HFC HHS
           rw [Bool.true_and] at HHS
           by_cases hle : bgj ≤ (q : Int)
           ·have dl : decide (bgj ≤ (q : Int)) = true:=decide_eq_true hle
            rw [dl,Bool.or_true] at HHS
            go_wp2_with fail
            refine (uh HFC).mono ?_
            rintro e w9 ⟨rfl,h9⟩
            obtain rfl:=h9.symm
            go_wp2_with fail
            refine (uh HB1).mono ?_
            rintro e w8 ⟨rfl,h8⟩
            obtain rfl:=h8.symm
            go_wp2
            go_roundg (el.length - (q + 1) - (d + 1))
            case measure => have:=uh HGD; have:=uh HJJ; omega
            case rel => exact ⟨d + 1,by have:=uh HJJ; omega,rfl,int_eq (by have:=uh HJJ; omega),by rw [uh HHS],rfl⟩
           ·have dl : decide (bgj ≤ (q : Int)) = false:=decide_eq_false hle
            rw [dl,Bool.or_false] at HHS
            go_wp2_with fail
            refine (uh HFC).mono ?_
            rintro e w9 ⟨rfl,h9⟩
            obtain rfl:=h9.symm
            go_wp2_with fail
            refine (uh HB1).mono ?_
            rintro e w8 ⟨rfl,h8⟩
            obtain rfl:=h8.symm
            go_wp2
            go_roundg (el.length - (q + 1) - (d + 1))
            case measure => have:=uh HGD; have:=uh HJJ; omega
            case rel => exact ⟨d + 1,by have:=uh HJJ; omega,rfl,int_eq (by have:=uh HJJ; omega),by rw [uh HHS],rfl⟩
         ·have hde : d = el.length - (q + 1):=by omega
          have hjd : ¬ ((q + 1 + d : Nat) : Int) < (el.length : Int):=by omega
          have hhb : hidTo el q d = hidB el q:=by rw [hde]; rfl
          rw [hhb]
          obtain ⟨jj,hjj⟩ : ∃ jj,jj = q + 1 + d:=⟨_,rfl⟩
          rw [← hjj] at hjd
          rw [← hjj]
          have n2:=uh HCE 2
          have n2' : wA.cell? ⟨wQ.heap.size,2,none⟩ = some (.string iname):=n2.trans rfl
          have hlA:=uh HX5 _ hxa
          clear hjj hhb hde hltd n2
          cases hh : hidB el q
          ·have hV:=uh HVA
           rw [hh] at hV
           have HF:=hide (uh HVO _ hV)
           have HOA : Hid (OwnV elStr (wA.alloc (.cells #[.string iname] 9)) (w.heap.size + 2) (.slice aQ ys.length cQ) ys):=(uh HOQ2).below ((Below.refl _ _).alloc (Nat.le_refl _) _)
           have HXA:=hide (uh HX2 _ _ hxa ((Below.refl _ wA).alloc (Nat.le_refl _) (.cells #[.string iname] 9)))
           have HSA:=hide hlA
           clear hV HVA HVO hh hlA hxa
           go_wp2_with (at_builtin; go_must (refine wpList_append_oneF elStr _ rfl _ _ rfl (w.heap.size + 2) _ ys rfl (uh HOA) wA.heap.size iname rfl (fun j u hu => by rw [World.cell?_alloc_at _ _ _ _ (by simp)]; simpa [elStr] using hu) (by simp [elStr]; omega) (by have:=uh HSA; simp at this ⊢; omega) ?_))
           intro v9 w9 hown9 hgr9
           have HO9:=hide hown9
           have HX9:=hide (uh HX3 _ _ _ _ (uh HXA) (uh HOA) hgr9)
           clear hown9 hgr9
           go_wp2
           go_roundg (el.length - (q + 1))
           case measure => have:=uh HGQ; omega
           case rel => exact ⟨q + 1,by omega,rfl,by go_num,by rw [uh HF]; exact uh HO9,uh HX9⟩
          ·have hV:=uh HVA
           rw [hh] at hV
           have HF:=hide (uh HVO _ hV)
           clear hV HVA HVO hh hxa hlA
           go_wp2
           go_roundg (el.length - (q + 1))
           case measure => have:=uh HGQ; omega
           case rel => exact ⟨q + 1,by omega,rfl,by go_num,by rw [uh HF]; simpa using uh HOQ2,uh HXQ⟩
      ·have e : q = el.length:=by omega
       subst e
       have hF:=uh HOQ
       rw [← uh HPS] at hF
       have HF:=hide hF
       clear hF hownq hbxq
       go_wp2
       go_roundg (cds.length - (m + 1))
       case measure => have:=uh HGM; omega
       case rel => exact ⟨m + 1,by omega,rfl,by go_num,uh HF,uh HBQ,fun h => by omega⟩
    ·have e : m = cds.length:=by omega
     subst e
     have hvl:=uh HVL cds.length
     have hvl2 : cds.length * 3000 ≤ 500 * 3000:=Nat.mul_le_mul_right _ (by omega)
     have hF:=uh HOM
     rw [← uh HRD] at hF
     have hlr : res.length ≤ 1600000:=by rw [uh HRD,List.length_append]; omega
     have HF:=hide (hF.atLo (lo:=w.heap.size) (by omega) (fun z hz => ⟨rfl,uh HNL z hz⟩) (by omega))
     have HB:=hide (uh HX1 _ hbxm)
     clear hF hownm hbxm hvl hvl2
     go_wp2
     go_ret
     exact ⟨_,rfl,uh HF,uh HB⟩
end Go.Proofs.YtfioeoihociilaaGreat
