import Derived.Test.YtjjldnkhadakcaaGreatST2
import Derived.Test.YtjjldnkhadakcaaGreatMData
import Derived.Test.YtjjldnkhadakcaaGreatData
import Derived.Test.YtjjldnkhadakcaaGreatBegAt
import Derived.Test.YtjjldnkhadakcaaGreatMQ1
import Derived.Test.YtjjldnkhadakcaaGreatMR1
namespace Go.Proofs.YtjjldnkhadakcaaGreat
open Go.RowKit
set_option linter.unusedSimpArgs false
set_option linter.unusedVariables false
structure RunAt (w : World) (rb pb : Nat) (cls : Nat) (mv : Value) (kc : List Value) (vs : List ByteArray) (vars state : List Int) (cost : Int) : Prop where
 blk : ∃ va vc sa sc,BlkAt w rb 127 (#[mv,.pointer (some ⟨pb,0,none⟩),.int .i64 (cls : Int)] ++ kc.toArray ++ #[.slice va vars.length vc,.slice sa state.length sc,.int .i64 cost]) ∧ SlAt 1 8 RInt 0 w (.slice va vars.length vc) vars ∧ SlAt 1 8 RInt 0 w (.slice sa state.length sc) state
 kl : kc.length = 7
 pl : ∃ xb xo xn xc vv,w.cell? ⟨pb,0,none⟩ = some (.slice (some ⟨xb,xo,none⟩) xn xc) ∧ cls < xn ∧ xn ≤ 140737488355328 ∧ w.cell? ⟨xb,xo + cls,none⟩ = some vv ∧ SlAt 1 16 RStr 0 w vv vs
set_option maxRecDepth 20000 in
set_option maxHeartbeats 2000000 in
theorem runGet_ok (w : World) (rb pb cls : Nat) (mv : Value) (kc : List Value) (vs : List ByteArray) (vars state : List Int) (cost : Int) (h : RunAt w rb pb cls mv kc vs vars state cost) (nm : ByteArray) (p : Nat) (hp : placeI vs nm = (p : Int)) (hpl : p < vars.length) :
  Calls Tryz.prog 110 #[.pointer (some ⟨rb,0,none⟩),.string nm] w fun e w' => e = .returned (.int .i64 (vars.getD p 0)) ∧ ∃ n,w' = w.drewN n:=by
 obtain ⟨⟨va,vc,sa,sc,hb,hv,hs⟩,hkl,xb,xo,xn,xc,vv,x0,hx1,hx2,x3,hvs⟩:=h
 match kc,hkl with
 | [c0,c1,c2,c3,c4,c5,c6],_ =>
 have r1 : w.cell? ⟨rb,1,none⟩ = some (.pointer (some ⟨pb,0,none⟩)):=hb.cell (v:=.pointer (some ⟨pb,0,none⟩)) rfl
 have r2 : w.cell? ⟨rb,2,none⟩ = some (.int .i64 (cls : Int)):=hb.cell (v:=.int .i64 (cls : Int)) rfl
 have r4 : w.cell? ⟨rb,10,none⟩ = some (.slice va vars.length vc):=hb.cell (v:=.slice va vars.length vc) rfl
 have hvn : vars.length ≤ 140737488355328:=by
  obtain ⟨_,_,_,_,h,_⟩:=hv
  exact h
 obtain ⟨_,_,hve,_,_,hx⟩:=hv
 simp only [Value.slice.injEq] at hve
 obtain ⟨rfl,_,rfl⟩:=hve
 obtain ⟨b,o,cs,rfl,_,_,hcl1,hc,⟨rfl,hi64⟩⟩:=hx p hpl
 have v0 : w.cell? ⟨b,o + p,none⟩ = some (.int .i64 (vars.getD p 0)):=by
  have h0:=hc 0 (by simp)
  rw [Nat.mul_one,Nat.add_zero] at h0
  rw [h0,List.getD_eq_getElem?_getD,List.getElem?_eq_getElem hpl]
  rfl
 have HP:=hide (l3Place_ok vs vv nm w.drew (hvs.stays RStr_kept (Below.refl _ _).drew))
 rw [hp] at HP
 have hclI : (cls : Int) < (xn : Int):=by omega
 have hpI : (p : Int) < (vars.length : Int):=by omega
 obtain ⟨wa,wc,rfl⟩:=hvs.shape
 clear hb hs hvs hx hc hp hcl1 hi64
 generalize vars.getD p 0 = r at *
 generalize vars.length = vn at *
 generalize vs.length = sn at *
 go_enter Tryz.func110,Tryz.ntmps110
 go_wp2_with fail
 go_region_held3 (fun w' => w'.cell? ⟨rb,1,none⟩ = some (.pointer (some ⟨pb,0,none⟩)) ∧ w'.cell? ⟨rb,2,none⟩ = some (.int .i64 (cls : Int)) ∧ w'.cell? ⟨rb,10,none⟩ = some (.slice (some ⟨b,o,none⟩) vn vc) ∧ w'.cell? ⟨pb,0,none⟩ = some (.slice (some ⟨xb,xo,none⟩) xn xc) ∧ w'.cell? ⟨xb,xo + cls,none⟩ = some (.slice wa sn wc) ∧ w'.cell? ⟨b,o + p,none⟩ = some (.int .i64 r)) (go_keep) (first | (go_at_call 46; refine (uh HP).mono ?_; rintro e w1 ⟨rfl,rfl⟩))
 all_goals
  go_wp2
  go_ret
  exact ⟨rfl,1,rfl⟩
theorem cell_blk {w : World} {p : Addr} {v : Value} (h : w.cell? p = some v) : p.block < w.heap.size:=by
 rcases Nat.lt_or_ge p.block w.heap.size with h' | h'
 ·exact h'
 ·simp [World.cell?,Array.getElem?_eq_none h'] at h
theorem RunAt.later {w w' : World} {rb pb cls : Nat} {mv : Value} {kc : List Value} {vs : List ByteArray} {vars state : List Int} {cost : Int} (h : RunAt w rb pb cls mv kc vs vars state cost) (hb : Below w.heap.size w w') : RunAt w' rb pb cls mv kc vs vars state cost:=by
 obtain ⟨⟨va,vc,sa,sc,h1,h2,h3⟩,hkl,xb,xo,xn,xc,vv,x0,x1,x2,x3,x4⟩:=h
 refine ⟨⟨va,vc,sa,sc,h1.below hb h1.lt,h2.stays RInt_kept hb,h3.stays RInt_kept hb⟩,hkl,xb,xo,xn,xc,vv,?_,x1,x2,?_,x4.stays RStr_kept hb⟩
 ·rw [hb.cell (p:=⟨pb,0,none⟩) (cell_blk x0)]
  exact x0
 ·rw [hb.cell (p:=⟨xb,_,none⟩) (cell_blk x3)]
  exact x3
def Q32 (x : Int) : Prop:=-2147483648 ≤ x ∧ x ≤ 2147483647
def apI (op : Int) : List Int → Int
 | [a] => oneI op a
 | [a,b] => twoI op a b
 | [a,b,d] => if a ≠ 0 then b else d
 | _ => 0
def evF (vs : List ByteArray) (vars state : List Int) (t : DItem) (us : List Int) : Int :=
 if t.op = 1 ∨ t.op = 2 then t.val else if t.op = 3 then vars.getD (placeI vs t.name).toNat 0 else if t.op = 25 then state.getD t.val.toNat 0 else apI t.op us
structure EvOK (vs : List ByteArray) (vars state : List Int) (t : DItem) : Prop where
 op : (1 ≤ t.op ∧ t.op ≤ 20) ∨ t.op = 25
 num : t.op = 1 ∨ t.op = 2 → Q32 t.val
 var : t.op = 3 → 0 ≤ placeI vs t.name ∧ placeI vs t.name < (vars.length : Int)
 mem : t.op = 25 → 0 ≤ t.val ∧ t.val < (state.length : Int)
theorem wrap_32 (x : Int) : Q32 (wrap32 x):=by unfold Q32 wrap32; omega
theorem bit_32 (b : Bool) : Q32 (bitI b):=by unfold bitI Q32; split <;> omega
theorem two_32 (op a b : Int) (ha : Q32 a) : Q32 (twoI op a b):=by
 unfold twoI
 repeat' split
 ·exact wrap_32 _
 ·exact wrap_32 _
 ·exact wrap_32 _
 ·unfold Q32; omega
 ·exact wrap_32 _
 ·unfold Q32; omega
 ·have h:=Int.natAbs_tmod a b
  have h2 : (a.tmod b).natAbs ≤ a.natAbs:=by rw [h]; exact Nat.mod_le _ _
  unfold Q32 at *
  by_cases h0 : 0 ≤ a
  ·have h3:=Int.tmod_nonneg b h0
   omega
  ·have h3:=Int.tmod_nonneg b (show 0 ≤ -a by omega)
   rw [Int.neg_tmod] at h3
   omega
 ·exact bit_32 _
theorem one_32 (op a : Int) : Q32 (oneI op a):=by
 unfold oneI
 split
 ·exact wrap_32 _
 ·exact bit_32 _
theorem getD_32 (l : List Int) (h : ∀ x,x ∈ l → Q32 x) (i : Nat) : Q32 (l.getD i 0):=by
 rw [List.getD_eq_getElem?_getD]
 cases hh : l[i]? with
 | none => unfold Q32; simp
 | some x => exact h x (List.mem_of_getElem? hh)
theorem ev_32 (vs : List ByteArray) (vars state : List Int) (hv : ∀ x,x ∈ vars → Q32 x) (hs : ∀ x,x ∈ state → Q32 x) (t : DItem) (us : List Int) (ht : EvOK vs vars state t) (hu : ∀ u,u ∈ us → Q32 u) : Q32 (evF vs vars state t us):=by
 unfold evF
 split
 ·rename_i h; exact ht.num h
 split
 ·exact getD_32 _ hv _
 split
 ·exact getD_32 _ hs _
 ·unfold apI
  split
  ·exact one_32 _ _
  ·exact two_32 _ _ _ (hu _ (by simp))
  ·split
   ·exact hu _ (by simp)
   ·exact hu _ (by simp)
  ·unfold Q32; omega
theorem fd_32 {vs : List ByteArray} {vars state : List Int} (hv : ∀ x,x ∈ vars → Q32 x) (hs : ∀ x,x ∈ state → Q32 x) {code : List DItem} (hc : ∀ t,t ∈ code → EvOK vs vars state t) {b e : Nat} {us : List Int} (h : Fd (evF vs vars state) code b e us) : ∀ u,u ∈ us → Q32 u:=by
 induction h using Fd.ind with
 | nil => intro u hu; cases hu
 | snoc h h1 h2 h3 i1 i2 =>
  intro u hu
  rcases List.mem_append.1 hu with hu | hu
  ·exact i1 u hu
  ·simp only [List.mem_singleton] at hu
   subst hu
   exact ev_32 _ _ _ hv hs _ _ (hc _ (List.getElem_mem _)) i2
theorem below_dN {B : Nat} {a w : World} (h : Below B a w) (n : Nat) : Below B a (w.drewN n):=⟨h.os,h.tape,h.output,h.size,h.block⟩
theorem l2Apply_all (op : Int) (us : List Int) (hop : 4 ≤ op ∧ op ≤ 20) (hul : us.length = arF op) (hq : ∀ u,u ∈ us → Q32 u) (g c : Nat) (w : World) (hcell : ∀ i (hi : i < us.length),w.cell? ⟨g,i,none⟩ = some (.int .i64 us[i])) :
  Calls Tryz.prog 130 #[.int .i64 op,.slice (some ⟨g,0,none⟩) us.length c] w fun e w' => e = .returned (.int .i64 (apI op us)) ∧ ∃ n,w' = w.drewN n:=by
 by_cases h1 : op = 4 ∨ op = 5
 ·have hl : us.length = 1:=by rw [hul]; rcases h1 with rfl | rfl <;> rfl
  match us,hl with
  | [a],_ =>
   have k0:=hcell 0 (by simp)
   simp only [List.getElem_cons_zero] at k0
   rcases h1 with rfl | rfl
   ·exact (l2Apply_4 a g 0 c w (hq a (by simp)) k0).mono (fun e w' ⟨he,hw⟩ => ⟨he,0,hw⟩)
   ·exact (l2Apply_5 a g 0 c w k0).mono (fun e w' ⟨he,hw⟩ => ⟨he,0,hw⟩)
 by_cases h2 : op = 20
 ·subst h2
  have hl : us.length = 3:=by rw [hul]; rfl
  match us,hl with
  | [a,b,d],_ =>
   have k0:=hcell 0 (by simp)
   have k1:=hcell 1 (by simp)
   have k2:=hcell 2 (by simp)
   simp only [List.getElem_cons_zero,List.getElem_cons_succ] at k0 k1 k2
   exact (l2Apply_20 a b d g 0 c w k0 (by simpa using k1) (by simpa using k2)).mono (fun e w' ⟨he,hw⟩ => ⟨he,0,hw⟩)
 ·have hl : us.length = 2:=by
   rw [hul]
   unfold arF ocI
   rw [if_neg (by omega),if_neg (by omega),if_neg h2]
   rfl
  match us,hl with
  | [a,b],_ =>
   have k0:=hcell 0 (by simp)
   have k1:=hcell 1 (by simp)
   simp only [List.getElem_cons_zero,List.getElem_cons_succ] at k0 k1
   have k1 : w.cell? ⟨g,0 + 1,none⟩ = some (.int .i64 b):=by simpa using k1
   have ha : Q32 a:=hq a (by simp)
   have hb : Q32 b:=hq b (by simp)
   have h : op = 6 ∨ op = 7 ∨ op = 8 ∨ op = 9 ∨ op = 10 ∨ op = 11 ∨ op = 12 ∨ op = 13 ∨ op = 14 ∨ op = 15 ∨ op = 16 ∨ op = 17 ∨ op = 18 ∨ op = 19:=by omega
   rcases h with rfl | rfl | rfl | rfl | rfl | rfl | rfl | rfl | rfl | rfl | rfl | rfl | rfl | rfl
   ·exact l2Apply_6 a b g 0 c w ha hb k0 k1
   ·exact l2Apply_7 a b g 0 c w ha hb k0 k1
   ·exact l2Apply_8 a b g 0 c w ha hb k0 k1
   ·exact l2Apply_9 a b g 0 c w ha hb k0 k1
   ·exact l2Apply_10 a b g 0 c w ha hb k0 k1
   ·exact l2Apply_11 a b g 0 c w ha hb k0 k1
   ·exact l2Apply_12 a b g 0 c w ha hb k0 k1
   ·exact l2Apply_13 a b g 0 c w ha hb k0 k1
   ·exact l2Apply_14 a b g 0 c w ha hb k0 k1
   ·exact l2Apply_15 a b g 0 c w ha hb k0 k1
   ·exact l2Apply_16 a b g 0 c w ha hb k0 k1
   ·exact l2Apply_17 a b g 0 c w ha hb k0 k1
   ·exact l2Apply_18 a b g 0 c w ha hb k0 k1
   ·exact l2Apply_19 a b g 0 c w ha hb k0 k1
theorem ownI_one (w : World) (base : Nat) (hb : base ≤ w.heap.size) (x : Int) : OwnV elInt (w.alloc (.cells #[.int .i64 x] 3)) base (.slice (some ⟨w.heap.size,0,none⟩) 1 1) [x]:=by
 refine ⟨rfl,Or.inr ⟨_,_,_,rfl,hb,Deep.blk_alloc_new _ _,Nat.le_refl _,by unfold maxLen; omega,rfl,rfl⟩⟩
theorem RInt_f9 : ∀ (w : World) (cs : List Value) (x : Int),(fun (_ : Nat) (_ : World) (cs : List Value) (x : Int) => cs = elInt.f x) 0 w cs x → cs = elInt.f x:=fun _ _ _ h => h
set_option maxRecDepth 20000 in
set_option maxHeartbeats 8000000 in
theorem runExp_ok (code : List DItem) (cv : Value) (W : World) (rb pb cls : Nat) (mv : Value) (kc : List Value) (vs : List ByteArray) (vars state : List Int) (cost : Int) (hr : RunAt W rb pb cls mv kc vs vars state cost) (hcv : SlAt 3 32 RItem 0 W cv code)
  (hc : ∀ t,t ∈ code → EvOK vs vars state t) (hv : ∀ x,x ∈ vars → Q32 x) (hs : ∀ x,x ∈ state → Q32 x) (hl : code.length ≤ 6000) (e : Nat) :
  ∀ b v,Fd (evF vs vars state) code b e [v] → e ≤ code.length → ∀ w,Below W.heap.size W w → Calls Tryz.prog 109 #[.pointer (some ⟨rb,0,none⟩),cv,.int .i64 (e : Int)] w (Ans (.int .i64 v) w):=by
 induction e using Nat.strongRecOn with
 | ind e ih =>
 intro b v hfd hel w hbw
 cases e with
 | zero =>
  obtain ⟨_,_,_,_,_,h9,_⟩:=hfd.snoc_inv (n:=0) rfl
  cases h9
 | succ l =>
 obtain ⟨hlt,us,hus,hul,hve⟩:=hfd.last
 have har : ∀ t,t ∈ code → 0 ≤ arI t.op:=fun t ht => by
  have:=(hc t ht).op
  unfold arI
  repeat' split
  all_goals omega
 have HIH:=hide ih
 have HR:=hide (hr.later hbw)
 have HCV:=hide (hcv.stays RItem_kept hbw)
 have HBW:=hide hbw
 have HUS:=hide hus
 have HU32:=hide (fd_32 hv hs hc hus)
 have hck:=hc _ (List.getElem_mem hlt)
 obtain ⟨ca,cc,rfl⟩:=hcv.shape
 have hsl:=hcv.stays RItem_kept hbw
 obtain ⟨_,_,hve2,_,_,hx⟩:=hsl
 simp only [Value.slice.injEq] at hve2
 obtain ⟨rfl,_,rfl⟩:=hve2
 obtain ⟨cb,co,cs,rfl,_,hcb,hcs,hcc,hR⟩:=hx l hlt
 obtain ⟨rfl,hsn,ho,hvl⟩:=hR
 have c0:=hcc 0 (by simp)
 have c1:=hcc 1 (by simp)
 have c2:=hcc 2 (by simp)
 simp only [Nat.mul_one,Nat.add_zero,List.getElem_cons_zero,List.getElem_cons_succ] at c0 c1 c2
 have hlI : (l : Int) < (code.length : Int):=by omega
 have hw1 : IntKind.i64.wrap ((l : Int) + 1 - 1) = (l : Int):=by rw [IntKind.wrap_i64]; omega
 have HA:=hide ((Below.refl w.heap.size w).alloc (Nat.le_refl _) (.cells #[.int .i64 code[l].op,.int .i64 code[l].val,.string code[l].name] 160))
 clear hx hcc hcs hsn ho hvl ih hus hcv hfd
 have HCC:=hide (fun t ht => hc t ht)
 generalize hT : code[l] = t at *
 clear hT
 by_cases h12 : t.op = 1 ∨ t.op = 2
 ·have hvv : v = t.val:=by rw [hve]; unfold evF; rw [if_pos h12]
  clear hve HIH HR HCV HUS HU32 HCC
  obtain ⟨op,val,name⟩:=t
  simp only at *
  rw [hvv]
  rcases h12 with rfl | rfl
  all_goals
   go_enter Tryz.func109,Tryz.ntmps109
   go_wp2
   go_ret
   exact ⟨rfl,uh HA⟩
 by_cases h3 : t.op = 3
 ·obtain ⟨p0,p1⟩:=hck.var h3
  obtain ⟨p,hp⟩:=Int.eq_ofNat_of_zero_le p0
  have hvv : v = vars.getD p 0:=by
   rw [hve]
   unfold evF
   rw [if_neg h12,if_pos h3,hp]
   rfl
  have HG:=hide (runGet_ok _ rb pb cls mv kc vs vars state cost ((uh HR).later (uh HA)) t.name p hp (by omega))
  rw [← hvv] at HG
  clear hve HIH HR HCV HUS HU32 HCC hvv hp p0 p1
  obtain ⟨op,val,name⟩:=t
  simp only at *
  subst h3
  go_enter Tryz.func109,Tryz.ntmps109
  go_wp2_with fail
  refine (uh HG).mono ?_
  rintro e w1 ⟨rfl,n,rfl⟩
  go_wp2
  go_ret
  exact ⟨rfl,below_dN (uh HA) n⟩
 by_cases h25 : t.op = 25
 ·obtain ⟨p0,p1⟩:=hck.mem h25
  obtain ⟨p,hp⟩:=Int.eq_ofNat_of_zero_le p0
  have hpl : p < state.length:=by omega
  have hvv : v = state.getD p 0:=by
   rw [hve]
   unfold evF
   rw [if_neg h12,if_neg h3,if_pos h25,hp]
   rfl
  have hr2:=(uh HR).later (uh HA)
  obtain ⟨⟨va,vc,sa,sc,hbk,_,hst⟩,hkl,_⟩:=hr2
  match kc,hkl with
  | [d0,d1,d2,d3,d4,d5,d6],_ =>
  have r5:=hbk.cell (i:=11) (v:=.slice sa state.length sc) rfl
  have hsn : state.length ≤ 140737488355328:=by
   obtain ⟨_,_,_,_,h,_⟩:=hst
   exact h
  obtain ⟨_,_,hve3,_,_,hsx⟩:=hst
  simp only [Value.slice.injEq] at hve3
  obtain ⟨rfl,_,rfl⟩:=hve3
  obtain ⟨sb,so,cs9,rfl,_,_,hcl1,hsc,⟨rfl,hi64⟩⟩:=hsx p hpl
  have s0:=hsc 0 (by simp)
  rw [Nat.mul_one,Nat.add_zero] at s0
  have s0' : (w.alloc (.cells #[.int .i64 t.op,.int .i64 t.val,.string t.name] 160)).cell? ⟨sb,so + p,none⟩ = some (.int .i64 v):=by
   rw [s0,hvv,List.getD_eq_getElem?_getD,List.getElem?_eq_getElem hpl]
   rfl
  have hpI : (p : Int) < (state.length : Int):=by omega
  clear hve HIH HR HCV HUS HU32 HCC hvv p0 p1 s0 hsc hsx hbk hcl1 hi64
  obtain ⟨op,val,name⟩:=t
  simp only at *
  subst h25
  subst hp
  have R5:=hide r5
  have S0:=hide s0'
  clear r5 s0'
  obtain ⟨wA,hwA⟩ : ∃ wA,wA = w.alloc (.cells #[.int .i64 25,.int .i64 (p : Int),.string name] 160):=⟨_,rfl⟩
  have i0 : wA.cell? ⟨w.heap.size,0,none⟩ = some (.int .i64 25):=by rw [hwA,World.cell?_alloc_at _ _ _ _ rfl]; rfl
  have i1 : wA.cell? ⟨w.heap.size,1,none⟩ = some (.int .i64 (p : Int)):=by rw [hwA,World.cell?_alloc_at _ _ _ _ rfl]; rfl
  have r5:=uh R5
  have s0:=uh S0
  rw [← hwA] at r5 s0 HA
  have HWA:=hide hwA
  go_enter Tryz.func109,Tryz.ntmps109
  go_wp2_with fail
  rw [← hwA]
  clear hwA R5 S0
  go_quiet ((fail))
  go_wp2
  go_ret
  exact ⟨rfl,below_dN (uh HA) _⟩
 have hop : 4 ≤ t.op ∧ t.op ≤ 20:=by have:=hck.op; omega
 have hvv : v = apI t.op us:=by
  rw [hve]
  unfold evF
  rw [if_neg h12,if_neg h3,if_neg h25]
 have hai : arI t.op = (us.length : Int):=by
  rw [hul]
  unfold arF ocI arI
  repeat' split
  all_goals omega
 have hu3 : us.length ≤ 3:=by
  rw [hul]
  unfold arF ocI
  repeat' split
  all_goals omega
 have HAR:=hide (fun w' => l1Arity_ok t.op w' (by unfold I64; omega))
 rw [hai] at HAR
 have HAP:=hide (l2Apply_all t.op us hop hul (uh HU32))
 rw [← hvv] at HAP
 have HI:=hide (fun (m m1 : Nat) (k0 : Int) (hm : m ≤ l) (hf : Fd (evF vs vars state) code m1 m [k0]) (w' : World) (hb : Below W.heap.size W w') => uh HIH m (by omega) m1 k0 hf (by omega) w' hb)
 have HBG:=hide (fun (m m1 : Nat) (k0 : Int) (hm : m ≤ l) (hf : Fd (evF vs vars state) code m1 m [k0]) (w' : World) (hb : Below w.heap.size w w') => (fd_bg har hf (by omega)) ▸ l1Begin_at code m (by omega) (.slice (some ⟨cb,co,none⟩) code.length cc) w' ((uh HCV).stays RItem_kept hb))
 clear hve HIH HR HCV HU32 hck hvv hai hc hv hs hr har hul h12 h3 h25
 obtain ⟨op,val,name⟩:=t
 simp only at *
 have HB0 : Hid (Below (w.heap.size + 1) (w.alloc (.cells #[.int .i64 op,.int .i64 val,.string name] 160)) ((w.alloc (.cells #[.int .i64 op,.int .i64 val,.string name] 160)).alloc (.cells #[] 3))):=(Below.refl _ _).alloc (by simp) _
 have HO0 : Hid (OwnV elInt ((w.alloc (.cells #[.int .i64 op,.int .i64 val,.string name] 160)).alloc (.cells #[] 3)) (w.heap.size + 1) (.slice (some ⟨w.heap.size + 1,0,none⟩) 0 0) []):=by
  have h9:=OwnV.start (E:=elInt) (w.alloc (.cells #[.int .i64 op,.int .i64 val,.string name] 160)) (w.heap.size + 1) (by simp)
  rw [World.size_alloc] at h9
  exact hide h9
 have HOUT : Hid (∀ w1,Below (w.heap.size + 1) (w.alloc (.cells #[.int .i64 op,.int .i64 val,.string name] 160)) w1 → Below w.heap.size w w1):=fun w1 h => (uh HA).trans (h.mono (Nat.le_succ _))
 have b1 : (op == 1) = false:=by rw [beq_eq_false_iff_ne]; omega
 have b2 : (op == 2) = false:=by rw [beq_eq_false_iff_ne]; omega
 have b3 : (op == 3) = false:=by rw [beq_eq_false_iff_ne]; omega
 have b25 : (op == 25) = false:=by rw [beq_eq_false_iff_ne]; omega
 have HOPS:=hide hop
 clear hop
 rw [show ((l + 1 : Nat) : Int) = (l : Int) + 1 from by omega]
 go_enter Tryz.func109,Tryz.ntmps109
 go_wp2
 go_loopg [8,9,10] us.length (fun gh la kv kk wr => ∃ (j m g cap2 : Nat) (u1 u2 : List Int),j ≤ us.length ∧ gh = us.length - j ∧ kk = .int .i64 j ∧ la = .int .i64 m ∧ kv = .slice (some ⟨g,0,none⟩) u2.length cap2 ∧ Hid (us = u1 ++ u2) ∧ Hid (u2.length = j) ∧ Hid (Fd (evF vs vars state) code b m u1) ∧ m ≤ l ∧ Hid (OwnV elInt wr (w.heap.size + 1) (.slice (some ⟨g,0,none⟩) u2.length cap2) u2) ∧ Hid (Below (w.heap.size + 1) (w.alloc (.cells #[.int .i64 op,.int .i64 val,.string name] 160)) wr))
 case atStart => exact ⟨0,l,_,0,us,[],Nat.zero_le _,by omega,rfl,rfl,rfl,(by refine hide ?_; simp),rfl,HUS,Nat.le_refl _,HO0,HB0⟩
 case round =>
  obtain ⟨j,m,g,cap2,u1,u2,hj,hgj,rfl,rfl,rfl,HSP,HU2,HFU,hml,HOW,HBL⟩:=hrel
  have HGJ:=hide hgj
  have hNs : w.heap.size + 1 ≤ wr.heap.size:=by have:=(uh HBL).size; simpa using this
  have hul1 : u1.length + j = us.length:=by rw [uh HSP,List.length_append,uh HU2]
  have hu3' : u2.length ≤ 3:=by rw [uh HU2]; omega
  have r0 : wr.cell? ⟨w.heap.size,0,none⟩ = some (.int .i64 op):=(box_cell (B:=0) (uh HBL) 0).trans rfl
  have HUL:=hide hul1
  clear hgj hul1
  by_cases hjn : j < us.length
  ·obtain ⟨m1,v1,v2,e1,hv2,d1,d2⟩:=(uh HFU).split 1 (by have:=uh HUL; omega)
   match v2,hv2 with
   | [k0],_ =>
    have HC1:=hide (uh HI m m1 k0 hml d2 wr ((uh HBW).trans ((uh HOUT _ (uh HBL)).mono (uh HBW).size)))
    have HC2:=hide (uh HBG m m1 k0 hml d2)
    have HD1:=hide d1
    have hm1:=d2.le
    have HE1 : Hid (us = v1 ++ (k0 :: u2)):=by
     refine hide ?_
     rw [uh HSP,e1,List.append_assoc]
     rfl
    have hjI : (j : Int) < (us.length : Int):=by omega
    clear e1 d1 d2
    go_wp2_with fail
    refine (uh HAR _).mono ?_
    rintro e w9 ⟨rfl,h9⟩
    obtain rfl:=h9.symm
    go_wp2_with fail
    refine (uh HC1).mono ?_
    rintro e w3 ⟨rfl,hb3⟩
    have HB3:=hide ((uh HBL).trans (hb3.mono hNs))
    have h3s : wr.heap.size ≤ w3.heap.size:=hb3.size
    have hal : Below w3.heap.size w3 (w3.alloc (.cells #[.int .i64 k0] 3)):=(Below.refl _ _).alloc (Nat.le_refl _) _
    have HB4:=hide ((uh HB3).trans (hal.mono (by omega)))
    have HSL:=hide ((((uh HOW).below hb3).below hal).at (R:=fun _ _ cs x => cs = elInt.f x) (fun x _ => rfl) (by show _ * 8 ≤ _; omega))
    have HO3:=hide (ownI_one w3 (w.heap.size + 1) (by omega) k0)
    clear hb3 hal HC1
    go_wp2_with (at_builtin; go_must (refine wpList_append_allF elInt RInt_f9 _ rfl _ _ rfl (w.heap.size + 1) w3.heap.size 1 [k0] rfl (uh HO3) _ rfl u2 (uh HSL) (by show (1 + _) * 8 ≤ _; omega) (by simp; omega) ?_))
    intro g5 cap5 w5 hown5 hgr5
    have hlk : 1 + u2.length = (k0 :: u2).length:=by simp [Nat.add_comm]
    have hlk2 : [k0].length + u2.length = (k0 :: u2).length:=by simp [Nat.add_comm]
    first | rw [hlk] at hown5 | rw [hlk2] at hown5 | skip
    first | rw [hlk] | rw [hlk2] | skip
    clear hlk hlk2
    have hb5:=(uh HO3).grown (uh HB4) hgr5 (by simp; omega) (Nat.le_refl _)
    have HB5:=hide hb5
    have HO5:=hide hown5
    have HC3:=hide (uh HC2 w5 (uh HOUT _ hb5))
    clear hown5 hgr5 hb5 HC2
    go_wp2_with fail
    refine (uh HC3).mono ?_
    rintro e w6 ⟨rfl,h9⟩
    obtain rfl:=h9.symm
    go_wp2
    go_roundg (us.length - (j + 1))
    case measure => have:=uh HGJ; omega
    case rel => exact ⟨j + 1,m1,g5,cap5,v1,k0 :: u2,by omega,rfl,by go_num,rfl,rfl,HE1,(by refine hide ?_; rw [List.length_cons,uh HU2]),HD1,by omega,HO5,HB5⟩
  ·have e0 : u1 = []:=List.eq_nil_of_length_eq_zero (by have:=uh HUL; omega)
   have eus : us = u2:=by
    have h9:=uh HSP
    rw [e0,List.nil_append] at h9
    exact h9
   have hle : u2.length = us.length:=by rw [eus]
   have hcl : ∀ i (hi : i < us.length),wr.cell? ⟨g,i,none⟩ = some (.int .i64 us[i]):=by
    subst eus
    intro i hi
    obtain ⟨_,_,hv9,_,_,hx9⟩:=(uh HOW).at (R:=fun _ _ cs x => cs = elInt.f x) (fun x _ => rfl) (by show _ * 8 ≤ _; omega)
    simp only [Value.slice.injEq] at hv9
    obtain ⟨hv9,_⟩:=hv9
    obtain ⟨bb,oo,cs9,hbo,_,_,_,hcc9,rfl⟩:=hx9 i hi
    rw [← hv9] at hbo
    simp only [Option.some.injEq,Addr.mk.injEq] at hbo
    obtain ⟨rfl,rfl,_⟩:=hbo
    have h0:=hcc9 0 (by simp [elInt])
    have e1 : elInt.sz = 1:=rfl
    rw [e1,Nat.mul_one,Nat.zero_add,Nat.add_zero] at h0
    exact h0
   have HC:=hide (uh HAP g cap2 wr hcl)
   have HFB:=hide (uh HOUT _ (uh HBL))
   rw [hle]
   have hjn2 : ¬ (j : Int) < (us.length : Int):=by omega
   clear hcl hle eus e0 HOW HSP HU2 HFU HUL hu3'
   go_wp2_with fail
   refine (uh HAR _).mono ?_
   rintro e w9 ⟨rfl,h9⟩
   obtain rfl:=h9.symm
   go_wp2_with fail
   refine (uh HC).mono ?_
   rintro e w3 ⟨rfl,n,rfl⟩
   go_wp2
   go_ret
   exact ⟨rfl,below_dN (uh HFB) n⟩
def PL.parts : PL → Nat → List Int → List Int → Prop
 | ⟨none⟩,_,_,_ => True
 | ⟨some (_, r, none)⟩,j,ot,en => r.parts (j + 1) ot en
 | ⟨some (_, r, some (_, a, _, b))⟩,j,ot,en => (ot[j]? = some ((j + 1 + a.flat.length : Nat) : Int) ∧ en[j]? = some ((j + 1 + a.flat.length + 1 + b.flat.length : Nat) : Int)) ∧ a.parts (j + 1) ot en ∧ b.parts (j + 1 + a.flat.length + 1) ot en ∧ r.parts (j + 1 + a.flat.length + 1 + b.flat.length + 1) ot en
theorem parts_congr (t : PL) : ∀ (j : Nat) (ot en ot' en' : List Int),(∀ q,j ≤ q → q < j + t.flat.length → ot'[q]? = ot[q]? ∧ en'[q]? = en[q]?) → t.parts j ot en → t.parts j ot' en':=by
 induction t using PL.ind with
 | nil => intro j ot en ot' en' _ _; trivial
 | leaf s r ih =>
  intro j ot en ot' en' h hp
  simp only [PL.flat,List.length_cons] at h
  exact ih (j + 1) ot en ot' en' (fun q h1 h2 => h q (by omega) (by omega)) hp
 | br s a el b e r iha ihb ihr =>
  intro j ot en ot' en' h hp
  simp only [PL.flat,List.length_cons,List.length_append] at h
  obtain ⟨⟨h1,h2⟩,h3,h4,h5⟩:=hp
  obtain ⟨g1,g2⟩:=h j (by omega) (by omega)
  exact ⟨⟨g1.trans h1,g2.trans h2⟩,iha _ ot en ot' en' (fun q k1 k2 => h q (by omega) (by omega)) h3,ihb _ ot en ot' en' (fun q k1 k2 => h q (by omega) (by omega)) h4,ihr _ ot en ot' en' (fun q k1 k2 => h q (by omega) (by omega)) h5⟩
abbrev PX:=List Int × List Int × List Int
def plS (j : Nat) (kd : Int) (x : PX) : PX :=
 if kd = 4 then (x.1 ++ [(j : Int)],x.2.1,x.2.2) else if kd = 5 then (x.1,x.2.1.set (x.1.getLastD 0).toNat j,x.2.2) else if kd = 6 then (x.1.dropLast,x.2.1,x.2.2.set (x.1.getLastD 0).toNat j) else x
def plR : List Int → Nat → PX → PX
 | [],_,x => x
 | kd :: r,j,x => plR r (j + 1) (plS j kd x)
def plOK : List Int → Nat → PX → Prop
 | [],_,_ => True
 | kd :: r,j,x => (kd = 5 ∨ kd = 6 → x.1 ≠ []) ∧ plOK r (j + 1) (plS j kd x)
theorem plR_app (l m : List Int) : ∀ (j : Nat) (x : PX),plR (l ++ m) j x = plR m (j + l.length) (plR l j x):=by
 induction l with
 | nil => intro j x; rfl
 | cons kd r ih =>
  intro j x
  simp only [List.cons_append,plR,List.length_cons]
  rw [ih,show j + 1 + r.length = j + (r.length + 1) by omega]
theorem plOK_app (l m : List Int) : ∀ (j : Nat) (x : PX),plOK (l ++ m) j x ↔ plOK l j x ∧ plOK m (j + l.length) (plR l j x):=by
 induction l with
 | nil => intro j x; simp [plOK,plR]
 | cons kd r ih =>
  intro j x
  simp only [List.cons_append,plR,plOK,List.length_cons]
  rw [ih,show j + 1 + r.length = j + (r.length + 1) by omega,and_assoc]
def TreeRuns (t : PL) (j : Nat) (op ot en ot' en' : List Int) : Prop :=
 plR (kindsOf t.flat) j (op,ot,en) = (op,ot',en') ∧ plOK (kindsOf t.flat) j (op,ot,en) ∧ (ot'.length = ot.length ∧ en'.length = en.length) ∧ (∀ q,q < j ∨ j + t.flat.length ≤ q → ot'[q]? = ot[q]? ∧ en'[q]? = en[q]?) ∧ (j + t.flat.length ≤ ot.length → j + t.flat.length ≤ en.length → t.parts j ot' en')
theorem tree_runs (t : PL) : t.wf → ∀ (j : Nat) (op ot en : List Int),∃ ot' en',TreeRuns t j op ot en ot' en':=by
 induction t using PL.ind with
 | nil => intro _ j op ot en; exact ⟨ot,en,rfl,trivial,⟨rfl,rfl⟩,fun q _ => ⟨rfl,rfl⟩,fun _ _ => trivial⟩
 | leaf s r ih =>
  intro h j op ot en
  obtain ⟨⟨h4,h5,h6⟩,hr⟩:=h
  obtain ⟨ot',en',g1,g2,g3,g4,g5⟩:=ih hr (j + 1) op ot en
  have e : plS j s.kind (op,ot,en) = (op,ot,en):=by unfold plS; rw [if_neg h4,if_neg h5,if_neg h6]
  refine ⟨ot',en',?_,?_,g3,fun q hq => ?_,fun k1 k2 => ?_⟩
  ·simp only [PL.flat,kinds_cons,plR,e]; exact g1
  ·simp only [PL.flat,kinds_cons,plOK,e]
   exact ⟨fun h9 => by omega,g2⟩
  ·simp only [PL.flat,List.length_cons] at hq
   exact g4 q (by omega)
  ·simp only [PL.flat,List.length_cons] at k1 k2
   exact g5 (by omega) (by omega)
 | br s a el b e r iha ihb ihr =>
  intro h j op ot en
  obtain ⟨⟨h4,h5,h6⟩,ha,hb,hr⟩:=h
  obtain ⟨ot1,en1,a1,a2,⟨a3,a3'⟩,a4,a5⟩:=iha ha (j + 1) (op ++ [(j : Int)]) ot en
  obtain ⟨ot3,en3,b1,b2,⟨b3,b3'⟩,b4,b5⟩:=ihb hb (j + 1 + a.flat.length + 1) (op ++ [(j : Int)]) (ot1.set j ((j + 1 + a.flat.length : Nat) : Int)) en1
  obtain ⟨ot5,en5,r1,r2,⟨r3,r3'⟩,r4,r5⟩:=ihr hr (j + 1 + a.flat.length + 1 + b.flat.length + 1) op ot3 (en3.set j ((j + 1 + a.flat.length + 1 + b.flat.length : Nat) : Int))
  have s4 : plS j 4 (op,ot,en) = (op ++ [(j : Int)],ot,en):=rfl
  have s5 : plS (j + 1 + a.flat.length) 5 (op ++ [(j : Int)],ot1,en1) = (op ++ [(j : Int)],ot1.set j ((j + 1 + a.flat.length : Nat) : Int),en1):=by
   unfold plS
   rw [if_neg (by omega),if_pos rfl]
   simp
  have s6 : plS (j + 1 + a.flat.length + 1 + b.flat.length) 6 (op ++ [(j : Int)],ot3,en3) = (op,ot3,en3.set j ((j + 1 + a.flat.length + 1 + b.flat.length : Nat) : Int)):=by
   unfold plS
   rw [if_neg (by omega),if_neg (by omega),if_pos rfl]
   simp
  have ek : kindsOf (PL.br s a el b e r).flat = 4 :: (kindsOf a.flat ++ 5 :: (kindsOf b.flat ++ 6 :: kindsOf r.flat)):=by
   simp [PL.flat,kinds_cons,kinds_app,h4,h5,h6]
  have hl : (PL.br s a el b e r).flat.length = 1 + a.flat.length + 1 + b.flat.length + 1 + r.flat.length:=by
   simp [PL.flat]; omega
  refine ⟨ot5,en5,?_,?_,⟨by rw [r3,b3,List.length_set,a3],by rw [r3',List.length_set,b3',a3']⟩,?_,?_⟩
  ·rw [ek,plR,s4,plR_app,a1,kinds_len,plR,s5,plR_app,b1,kinds_len,plR,s6]
   exact r1
  ·rw [ek,plOK,s4,plOK_app,a1,kinds_len,plOK,s5,plOK_app,b1,kinds_len,plOK,s6]
   exact ⟨fun h9 => by omega,a2,fun _ => by simp,b2,fun _ => by simp,r2⟩
  ·intro q hq
   rw [hl] at hq
   obtain ⟨x1,x2⟩:=r4 q (by omega)
   obtain ⟨x3,x4⟩:=b4 q (by omega)
   obtain ⟨x5,x6⟩:=a4 q (by omega)
   constructor
   ·rw [x1,x3,List.getElem?_set_ne (by omega),x5]
   ·rw [x2,List.getElem?_set_ne (by omega),x4,x6]
  ·intro k1 k2
   rw [hl] at k1 k2
   have z1 : ot5[j]? = some ((j + 1 + a.flat.length : Nat) : Int):=by
    rw [(r4 j (by omega)).1,(b4 j (by omega)).1,List.getElem?_set_self (by rw [a3]; omega)]
   have z2 : en5[j]? = some ((j + 1 + a.flat.length + 1 + b.flat.length : Nat) : Int):=by
    rw [(r4 j (by omega)).2,List.getElem?_set_self (by rw [b3',a3']; omega)]
   refine ⟨⟨z1,z2⟩,?_,?_,r5 (by rw [b3,List.length_set,a3]; omega) (by rw [List.length_set,b3',a3']; omega)⟩
   ·refine parts_congr a _ ot1 en1 _ _ (fun q g1 g2 => ?_) (a5 (by omega) (by omega))
    obtain ⟨x1,x2⟩:=r4 q (by omega)
    obtain ⟨x3,x4⟩:=b4 q (by omega)
    constructor
    ·rw [x1,x3,List.getElem?_set_ne (by omega)]
    ·rw [x2,List.getElem?_set_ne (by omega),x4]
   ·refine parts_congr b _ ot3 en3 _ _ (fun q g1 g2 => ?_) (b5 (by rw [List.length_set,a3]; omega) (by rw [a3']; omega))
    obtain ⟨x1,x2⟩:=r4 q (by omega)
    constructor
    ·rw [x1]
    ·rw [x2,List.getElem?_set_ne (by omega)]
def plTo (ks : List Int) (n : Nat) (i : Nat) : PX:=plR (ks.take i) 0 ([],List.replicate n 0,List.replicate n 0)
theorem plTo_succ (ks : List Int) (n i : Nat) (h : i < ks.length) : plTo ks n (i + 1) = plS i ks[i] (plTo ks n i):=by
 unfold plTo
 rw [List.take_succ_eq_append_getElem h,plR_app,List.length_take,Nat.min_eq_left (by omega),Nat.zero_add]
 rfl
theorem plOK_at (ks : List Int) (x : PX) (h : plOK ks 0 x) (i : Nat) (hi : i < ks.length) : (ks[i] = 5 ∨ ks[i] = 6) → (plR (ks.take i) 0 x).1 ≠ []:=by
 have e : ks = ks.take i ++ ks.drop i:=(List.take_append_drop i ks).symm
 rw [e,plOK_app,List.drop_eq_getElem_cons hi] at h
 exact h.2.1
structure PlanRun (ks : List Int) : Prop where
 len : ∀ i,i ≤ ks.length → (plTo ks ks.length i).2.1.length = ks.length ∧ (plTo ks ks.length i).2.2.length = ks.length
 opn : ∀ i,i ≤ ks.length → ∀ y,y ∈ (plTo ks ks.length i).1 → 0 ≤ y ∧ y < (i : Int)
 many : ∀ i,i ≤ ks.length → (plTo ks ks.length i).1.length ≤ i
 ne : ∀ i (hi : i < ks.length),ks[i] = 5 ∨ ks[i] = 6 → (plTo ks ks.length i).1 ≠ []
theorem plan_run (t : PL) (h : t.wf) : PlanRun (kindsOf t.flat) ∧ t.parts 0 (plTo (kindsOf t.flat) (kindsOf t.flat).length (kindsOf t.flat).length).2.1 (plTo (kindsOf t.flat) (kindsOf t.flat).length (kindsOf t.flat).length).2.2:=by
 obtain ⟨ot',en',g1,g2,g3,g4,g5⟩:=tree_runs t h 0 [] (List.replicate t.flat.length 0) (List.replicate t.flat.length 0)
 have hl:=kinds_len t.flat
 constructor
 ·have hlen : ∀ i,i ≤ (kindsOf t.flat).length → (plTo (kindsOf t.flat) (kindsOf t.flat).length i).2.1.length = (kindsOf t.flat).length ∧ (plTo (kindsOf t.flat) (kindsOf t.flat).length i).2.2.length = (kindsOf t.flat).length:=by
   intro i
   induction i with
   | zero => intro _; simp [plTo,plR]
   | succ i ih =>
    intro hi
    rw [plTo_succ _ _ _ (by omega)]
    have h9:=ih (by omega)
    unfold plS
    repeat' split
    all_goals try simp only [List.length_set]
    all_goals exact h9
  have hop : ∀ i,i ≤ (kindsOf t.flat).length → (∀ y,y ∈ (plTo (kindsOf t.flat) (kindsOf t.flat).length i).1 → 0 ≤ y ∧ y < (i : Int)) ∧ (plTo (kindsOf t.flat) (kindsOf t.flat).length i).1.length ≤ i:=by
   intro i
   induction i with
   | zero => intro _; simp [plTo,plR]
   | succ i ih =>
    intro hi
    rw [plTo_succ _ _ _ (by omega)]
    have h9:=ih (by omega)
    generalize plTo (kindsOf t.flat) (kindsOf t.flat).length i = x at *
    unfold plS
    repeat' split
    ·constructor
     ·intro y hy
      rcases List.mem_append.1 hy with hy | hy
      ·have:=h9.1 y hy; omega
      ·rw [List.mem_singleton] at hy; omega
     ·have:=h9.2; simp; omega
    ·exact ⟨fun y hy => by have:=h9.1 y hy; omega,by have:=h9.2; simp only; omega⟩
    ·exact ⟨fun y hy => by have:=h9.1 y (List.dropLast_subset _ hy); omega,by have:=h9.2; simp only [List.length_dropLast]; omega⟩
    ·exact ⟨fun y hy => by have:=h9.1 y hy; omega,by have:=h9.2; omega⟩
  refine ⟨hlen,fun i hi => (hop i hi).1,fun i hi => (hop i hi).2,fun i hi hk => ?_⟩
  have:=plOK_at _ _ g2 i hi hk
  unfold plTo
  rw [hl]
  exact this
 ·have e : plTo (kindsOf t.flat) (kindsOf t.flat).length (kindsOf t.flat).length = ([],ot',en'):=by
   unfold plTo
   rw [List.take_length,hl]
   exact g1
  rw [e]
  exact g5 (by simp) (by simp)
def valF (vs : List ByteArray) (vars state : List Int) (code : List DItem) : Int:=fdV (evF vs vars state) code code.length
def putN (vs outs : List ByteArray) (vals : List Int) : Nat → List Int → List Int
 | 0,vars => vars
 | j + 1,vars => (putN vs outs vals j vars).set (placeI vs (outs.getD j ByteArray.empty)).toNat (vals.getD j 0)
def offF (ks : List DClass) (k : DClass) (q : Nat) : Nat:=(sTo (fAt ks) k.mems k.insts q).length
abbrev VS:=List Int × List Int
abbrev CF:=Nat → List Int → List Int → List Int × List Int × Int
def leafR (ks : List DClass) (k : DClass) (C : CF) (s : DStm) (x : VS) : VS × Int :=
 if s.kind = 1 then ((x.1.set (placeI (varsOf k) s.name).toNat (valF (varsOf k) x.1 x.2 s.code),x.2),1)
 else if s.kind = 2 then ((x.1,x.2.set s.at_.toNat (valF (varsOf k) x.1 x.2 s.code)),1)
 else
  let g:=(k.insts.getD s.at_.toNat 0).toNat
  let o:=offF ks k s.at_.toNat
  let r:=C g ((x.2.drop o).take (fAt ks g).length) (s.args.map (valF (varsOf k) x.1 x.2))
  ((putN (varsOf k) s.outs r.2.1 s.outs.length x.1,x.2.take o ++ (r.1 ++ x.2.drop (o + (fAt ks g).length))),1 + r.2.2)
def runR (ks : List DClass) (k : DClass) (C : CF) : PL → VS → VS × Int
 | ⟨none⟩,x => (x,0)
 | ⟨some (s, r, none)⟩,x => ((runR ks k C r (leafR ks k C s x).1).1,(leafR ks k C s x).2 + (runR ks k C r (leafR ks k C s x).1).2)
 | ⟨some (s, r, some (_, a, _, b))⟩,x =>
  let y:=if x.1.getD (placeI (varsOf k) s.name).toNat 0 ≠ 0 then runR ks k C a x else runR ks k C b x
  ((runR ks k C r y.1).1,1 + y.2 + (runR ks k C r y.1).2)
def treeOf (ks : List DClass) (k : DClass) : PL:=match listF ks k (k.body.length + 1) k.body [] 0 with
 | some (t,_) => t
 | none => .nil
def startV (k : DClass) (ins : List Int) : List Int:=ins ++ List.replicate ((varsOf k).length - ins.length) 0
def walkR (ks : List DClass) : Nat → CF
 | 0,_,_,_ => ([],[],0)
 | n + 1,c,state,ins => match ks[c]? with
  | some k => ((runR ks k (walkR ks n) (treeOf ks k) (startV k ins,state)).1.2,(((runR ks k (walkR ks n) (treeOf ks k) (startV k ins,state)).1.1.drop k.ins.length).take k.outs.length),(runR ks k (walkR ks n) (treeOf ks k) (startV k ins,state)).2)
  | none => ([],[],0)
theorem mc_parts (k : DClass) (code : List DItem) (h : mcB k code = true) : code.length ≤ 6000 ∧ wk code 0 = true ∧ ∀ t,t ∈ code → itFB k t = true:=by
 rw [← cf_same] at h
 unfold cfB at h
 simp only [Bool.and_eq_true] at h
 exact ⟨of_decide_eq_true h.1.1,h.2,List.all_eq_true.1 h.1.2⟩
theorem it_ev (k : DClass) (t : DItem) (vars state : List Int) (hv : vars.length = (varsOf k).length) (hs : k.mems.length ≤ state.length) (h : itFB k t = true) : EvOK (varsOf k) vars state t:=by
 obtain ⟨h1,h2,h3⟩:=(itF_iff k t).1 h
 unfold itFB at h
 unfold sItB rgB at h2
 rw [Bool.and_eq_true] at h2
 have hbd:=place_bd (varsOf k) t.name
 by_cases h25 : t.op = 25
 ·rw [if_pos h25] at h
  simp only [Bool.and_eq_true,decide_eq_true_eq] at h
  exact ⟨Or.inr h25,fun h9 => by omega,fun h9 => by omega,fun _ => by omega⟩
 rw [if_neg h25] at h
 by_cases h20 : 20 < t.op
 ·rw [if_pos h20] at h
  cases h
 rw [if_neg h20] at h
 have h4:=h2.2
 rw [decide_eq_false h25,Bool.false_or] at h4
 have h5:=of_decide_eq_true h4
 split at h
 ·cases h
 refine ⟨Or.inl (by omega),fun h9 => ?_,fun h9 => ?_,fun h9 => absurd h9 h25⟩
 ·unfold Q32
  unfold loI hiI at h5
  rcases h9 with h9 | h9
  ·rw [h9] at h5
   simp at h5
   omega
  ·rw [h9] at h5
   simp at h5
   omega
 ·rw [if_pos h9] at h
  have:=of_decide_eq_true h
  omega
structure SOK (n m : Nat) (x : VS) : Prop where
 vl : x.1.length = n
 sl : x.2.length = m
 v32 : ∀ y,y ∈ x.1 → Q32 y
 s32 : ∀ y,y ∈ x.2 → Q32 y
theorem val_of {k : DClass} {m : Nat} {x : VS} (hx : SOK (varsOf k).length m x) (hm : k.mems.length ≤ m) (code : List DItem) (h : mcB k code = true) :
  Fd (evF (varsOf k) x.1 x.2) code 0 code.length [valF (varsOf k) x.1 x.2 code] ∧ Q32 (valF (varsOf k) x.1 x.2 code) ∧ ∀ t,t ∈ code → EvOK (varsOf k) x.1 x.2 t:=by
 obtain ⟨_,h2,h3⟩:=mc_parts k code h
 have hev : ∀ t,t ∈ code → EvOK (varsOf k) x.1 x.2 t:=fun t ht => it_ev k t x.1 x.2 hx.vl (by rw [hx.sl]; exact hm) (h3 t ht)
 obtain ⟨s,hs⟩:=fd_all (evF (varsOf k) x.1 x.2) h2
 have e : valF (varsOf k) x.1 x.2 code = s:=fdV_of hs
 rw [e]
 exact ⟨hs,fd_32 hx.v32 hx.s32 hev hs s (by simp),hev⟩
theorem set_32 {l : List Int} {i : Nat} {v : Int} (h : ∀ y,y ∈ l → Q32 y) (hv : Q32 v) : ∀ y,y ∈ l.set i v → Q32 y:=fun y hy => by
 rcases List.mem_or_eq_of_mem_set hy with h1 | h1
 ·exact h y h1
 ·rw [h1]; exact hv
theorem putN_len (vs outs : List ByteArray) (vals : List Int) (j : Nat) (vars : List Int) : (putN vs outs vals j vars).length = vars.length:=by
 induction j with
 | zero => rfl
 | succ j ih => rw [putN,List.length_set,ih]
theorem putN_32 (vs outs : List ByteArray) (vals : List Int) (hv : ∀ y,y ∈ vals → Q32 y) (j : Nat) (vars : List Int) (h : ∀ y,y ∈ vars → Q32 y) : ∀ y,y ∈ putN vs outs vals j vars → Q32 y:=by
 induction j with
 | zero => exact h
 | succ j ih => exact set_32 ih (getD_32 vals hv j)
structure CallG (ks : List DClass) (k : DClass) (i : Nat) (s : DStm) (q g : Nat) (gc : DClass) : Prop where
 at_ : s.at_ = (q : Int)
 ql : q < k.insts.length
 gq : k.insts.getD q 0 = (g : Int)
 gi : g < i
 gk : ks[g]? = some gc
 outs : s.outs.length = gc.outs.length
 args : s.args.length = gc.ins.length
 codes : ∀ a,a ∈ s.args → mcB k a = true
 puts : ∀ j (hj : j < s.outs.length),(k.ins.length : Int) ≤ placeI (varsOf k) s.outs[j]
theorem call_g (ks : List DClass) (i : Nat) (k : DClass) (hk : ks[i]? = some k) (hp : plansB ks = true) (s : DStm) (h : callB ks k s = true) : ∃ q g gc,CallG ks k i s q g gc:=by
 obtain ⟨hi,rfl⟩:=List.getElem?_eq_some_iff.1 hk
 have hins:=((fok_of ks hp).ins i hi).2
 unfold callB at h
 split at h
 ·cases h
 rename_i h1
 obtain ⟨q,hq⟩:=Int.eq_ofNat_of_zero_le (show 0 ≤ s.at_ by omega)
 have hql : q < ks[i].insts.length:=by omega
 have hgd : ks[i].insts.getD q 0 = ks[i].insts[q]:=by rw [List.getD_eq_getElem?_getD,List.getElem?_eq_getElem hql,Option.getD_some]
 obtain ⟨h2,h3⟩:=hins q hql
 obtain ⟨g,hg⟩:=Int.eq_ofNat_of_zero_le h2
 rw [hq,Int.toNat_natCast,hgd,hg,Int.toNat_natCast] at h
 split at h
 ·cases h
 rename_i gc hgc
 simp only [Bool.and_eq_true] at h
 obtain ⟨⟨h4,h5⟩,h6⟩:=h
 have h4:=of_decide_eq_true h4
 refine ⟨q,g,gc,hq,hql,hgd.trans hg,by omega,hgc,h4.1,h4.2,List.all_eq_true.1 h6,fun j hj => ?_⟩
 have h7:=List.all_eq_true.1 h5 j (List.mem_range.2 hj)
 unfold outBad at h7
 rw [List.getElem?_eq_getElem hj] at h7
 simp only [Bool.not_or,Bool.not_not,Bool.and_eq_true] at h7
 have h8:=h7.1
 unfold setB at h8
 exact of_decide_eq_true h8
theorem off_facts (ks : List DClass) (i : Nat) (k : DClass) (hk : ks[i]? = some k) (hp : plansB ks = true) : k.mems.length ≤ (fAt ks i).length ∧ offF ks k 0 = k.mems.length ∧ ∀ q g : Nat,q < k.insts.length → k.insts.getD q 0 = (g : Int) → offF ks k (q + 1) = offF ks k q + (fAt ks g).length ∧ offF ks k q + (fAt ks g).length ≤ (fAt ks i).length:=by
 obtain ⟨hi,rfl⟩:=List.getElem?_eq_some_iff.1 hk
 have hr:=rs_of ks hp
 have he:=hr.eq i hi
 refine ⟨?_,?_,fun q g hq hg => ?_⟩
 ·rw [he]
  have:=sTo_len (fAt ks) ks[i].mems ks[i].insts 0 (Nat.zero_le _)
  rwa [sTo_zero] at this
 ·unfold offF
  rw [sTo_zero]
 ·have hgd : ks[i].insts[q] = (g : Int):=by
   rw [← hg,List.getD_eq_getElem?_getD,List.getElem?_eq_getElem hq,Option.getD_some]
  have h1 : offF ks ks[i] (q + 1) = offF ks ks[i] q + (fAt ks g).length:=by
   unfold offF
   rw [sTo_succ _ _ _ _ hq,List.length_append,hgd,Int.toNat_natCast]
  refine ⟨h1,?_⟩
  rw [← h1,he]
  exact sTo_len _ _ _ _ (by omega)
def WOK9 (ks : List DClass) (i : Nat) (C : CF) : Prop:=∀ g gc,ks[g]? = some gc → g < i → ∀ st ar : List Int,st.length = (fAt ks g).length → ar.length = gc.ins.length → (∀ y,y ∈ st → Q32 y) → (∀ y,y ∈ ar → Q32 y) →
 ((C g st ar).1.length = (fAt ks g).length ∧ (C g st ar).2.1.length = gc.outs.length) ∧ (∀ y,y ∈ (C g st ar).1 → Q32 y) ∧ ∀ y,y ∈ (C g st ar).2.1 → Q32 y
theorem WOK9.mono {ks : List DClass} {i j : Nat} {C : CF} (h : WOK9 ks i C) (hj : j ≤ i) : WOK9 ks j C:=fun g gc hg hgj => h g gc hg (by omega)
structure CallR (ks : List DClass) (k : DClass) (C : CF) (s : DStm) (x : VS) (q g : Nat) (gc : DClass) (st ar : List Int) : Prop where
 hst : st = (x.2.drop (offF ks k q)).take (fAt ks g).length
 har : ar = s.args.map (valF (varsOf k) x.1 x.2)
 stl : st.length = (fAt ks g).length
 arl : ar.length = gc.ins.length
 s32 : ∀ y,y ∈ st → Q32 y
 a32 : ∀ y,y ∈ ar → Q32 y
 res : leafR ks k C s x = ((putN (varsOf k) s.outs (C g st ar).2.1 s.outs.length x.1,x.2.take (offF ks k q) ++ ((C g st ar).1 ++ x.2.drop (offF ks k q + (fAt ks g).length))),1 + (C g st ar).2.2)
theorem call_r (ks : List DClass) (i : Nat) (k : DClass) (hk : ks[i]? = some k) (hp : plansB ks = true) (C : CF) (s : DStm) (hs : s.kind = 3) (q g : Nat) (gc : DClass) (h : CallG ks k i s q g gc) (x : VS) (hx : SOK (varsOf k).length (fAt ks i).length x) : ∃ st ar,CallR ks k C s x q g gc st ar:=by
 obtain ⟨o1,_,o3⟩:=off_facts ks i k hk hp
 obtain ⟨o4,o5⟩:=o3 q g h.ql h.gq
 refine ⟨_,_,rfl,rfl,?_,?_,?_,?_,?_⟩
 ·rw [List.length_take,List.length_drop,hx.sl]
  omega
 ·rw [List.length_map,h.args]
 ·exact fun y hy => hx.s32 y (List.mem_of_mem_drop (List.mem_of_mem_take hy))
 ·intro y hy
  obtain ⟨a,ha,rfl⟩:=List.mem_map.1 hy
  exact (val_of hx o1 a (h.codes a ha)).2.1
 ·unfold leafR
  rw [if_neg (by omega),if_neg (by omega)]
  simp only [h.at_,Int.toNat_natCast,h.gq]
theorem leaf_sok (ks : List DClass) (i : Nat) (k : DClass) (hk : ks[i]? = some k) (hp : plansB ks = true) (C : CF) (hC : WOK9 ks i C) (s : DStm) (hs : stmB ks k s = true) (h4 : s.kind ≠ 4 ∧ s.kind ≠ 5 ∧ s.kind ≠ 6) (x : VS) (hx : SOK (varsOf k).length (fAt ks i).length x) : SOK (varsOf k).length (fAt ks i).length (leafR ks k C s x).1:=by
 obtain ⟨o1,_,o3⟩:=off_facts ks i k hk hp
 rw [stm_un,Bool.and_eq_true] at hs
 have ht:=hs.2
 unfold stmTail at ht
 by_cases h1 : s.kind = 1
 ·rw [if_pos h1,Bool.and_eq_true] at ht
  unfold leafR
  rw [if_pos h1]
  exact ⟨by rw [List.length_set]; exact hx.vl,hx.sl,set_32 hx.v32 (val_of hx o1 _ ht.2).2.1,hx.s32⟩
 rw [if_neg h1] at ht
 by_cases h2 : s.kind = 2
 ·rw [if_pos h2,Bool.and_eq_true] at ht
  unfold leafR
  rw [if_neg h1,if_pos h2]
  exact ⟨hx.vl,by rw [List.length_set]; exact hx.sl,hx.v32,set_32 hx.s32 (val_of hx o1 _ ht.2).2.1⟩
 rw [if_neg h2,if_neg h4.1,if_neg (by omega)] at ht
 split at ht
 case isFalse => cases ht
 rename_i h3
 obtain ⟨q,g,gc,hg⟩:=call_g ks i k hk hp s ht
 obtain ⟨st,ar,hr⟩:=call_r ks i k hk hp C s h3 q g gc hg x hx
 obtain ⟨o4,o5⟩:=o3 q g hg.ql hg.gq
 obtain ⟨⟨c1,c2⟩,c3,c4⟩:=hC g gc hg.gk hg.gi st ar hr.stl hr.arl hr.s32 hr.a32
 rw [hr.res]
 refine ⟨by rw [putN_len]; exact hx.vl,?_,putN_32 _ _ _ c4 _ _ hx.v32,?_⟩
 ·have hsl:=hx.sl
  simp only [List.length_append,List.length_take,List.length_drop,c1]
  omega
 ·intro y hy
  rcases List.mem_append.1 hy with hy | hy
  ·exact hx.s32 y (List.mem_of_mem_take hy)
  ·rcases List.mem_append.1 hy with hy | hy
   ·exact c3 y hy
   ·exact hx.s32 y (List.mem_of_mem_drop hy)
theorem run_sok (ks : List DClass) (i : Nat) (k : DClass) (hk : ks[i]? = some k) (hp : plansB ks = true) (C : CF) (hC : WOK9 ks i C) (t : PL) : (∀ s,s ∈ t.flat → stmB ks k s = true) → t.wf → ∀ x : VS,SOK (varsOf k).length (fAt ks i).length x → SOK (varsOf k).length (fAt ks i).length (runR ks k C t x).1:=by
 induction t using PL.ind with
 | nil => intro _ _ x hx; exact hx
 | leaf s r ih =>
  intro hs hw x hx
  exact ih (fun s' h' => hs s' (List.mem_cons_of_mem _ h')) hw.2 _ (leaf_sok ks i k hk hp C hC s (hs s (by simp [PL.flat])) hw.1 x hx)
 | br s a el b en r iha ihb ihr =>
  intro hs hw x hx
  simp only [PL.flat,List.mem_cons,List.mem_append] at hs
  simp only [runR]
  refine ihr (fun s' h' => hs s' (by simp [h'])) hw.2.2.2 _ ?_
  split
  ·exact iha (fun s' h' => hs s' (by simp [h'])) hw.2.1 x hx
  ·exact ihb (fun s' h' => hs s' (by simp [h'])) hw.2.2.1 x hx
theorem tree_of (ks : List DClass) (i : Nat) (k : DClass) (hk : ks[i]? = some k) (hp : plansB ks = true) : listF ks k (k.body.length + 1) k.body [] 0 = some (treeOf ks k,[]) ∧ (treeOf ks k).flat = k.body ∧ (treeOf ks k).wf ∧ (∀ s,s ∈ (treeOf ks k).flat → stmB ks k s = true) ∧ declB k = true ∧ k.body.length ≤ 30000:=by
 obtain ⟨hi,rfl⟩:=List.getElem?_eq_some_iff.1 hk
 unfold plansB at hp
 rw [Bool.and_eq_true,List.all_eq_true] at hp
 have h1:=hp.2 i (List.mem_range.2 hi)
 unfold okAt at h1
 rw [List.getElem?_eq_getElem hi] at h1
 simp only [Bool.and_eq_true] at h1
 obtain ⟨⟨h2,_,h4,h5⟩,_⟩:=planB_gives _ _ _ _ h1.1
 obtain ⟨t,ht⟩:=(body_tree ks ks[i]).1 ((build_iff _ _ _).1 h5).1
 have e : treeOf ks ks[i] = t:=by
  unfold treeOf
  rw [ht]
 obtain ⟨s1,s2,_,_,s5,_⟩:=listF_sound ks ks[i] _ _ _ _ _ _ ht
 rw [List.append_nil] at s1
 rw [e]
 exact ⟨ht,s1.symm,s2,s5,h2,h4⟩
theorem vars_len (k : DClass) : (varsOf k).length = k.ins.length + k.outs.length + k.locs.length:=by
 unfold varsOf
 simp
 omega
theorem start_sok (k : DClass) (m : Nat) (ins st : List Int) (h1 : ins.length = k.ins.length) (h2 : st.length = m) (h3 : ∀ y,y ∈ ins → Q32 y) (h4 : ∀ y,y ∈ st → Q32 y) : SOK (varsOf k).length m (startV k ins,st):=by
 have:=vars_len k
 refine ⟨?_,h2,fun y hy => ?_,h4⟩
 ·simp only [startV,List.length_append,List.length_replicate]
  omega
 ·rcases List.mem_append.1 hy with hy | hy
  ·exact h3 y hy
  ·have:=List.eq_of_mem_replicate hy
   unfold Q32
   omega
theorem walk_wok (ks : List DClass) (hp : plansB ks = true) (n : Nat) : WOK9 ks n (walkR ks n):=by
 induction n with
 | zero => intro g gc hg h; omega
 | succ n ih =>
  intro g gc hg hgn st ar h1 h2 h3 h4
  obtain ⟨_,_,t3,t4,_⟩:=tree_of ks g gc hg hp
  have hr:=run_sok ks g gc hg hp (walkR ks n) (ih.mono (by omega)) (treeOf ks gc) t4 t3 (startV gc ar,st) (start_sok gc _ ar st h2 h1 h4 h3)
  simp only [walkR,hg]
  have hv:=vars_len gc
  refine ⟨⟨hr.sl,?_⟩,hr.s32,fun y hy => hr.v32 y (List.mem_of_mem_drop (List.mem_of_mem_take hy))⟩
  rw [List.length_take,List.length_drop,hr.vl]
  omega
end Go.Proofs.YtjjldnkhadakcaaGreat
