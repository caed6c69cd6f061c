import Derived.Test.YtjjldnkhadakcaaGreatMSz
import Derived.Test.YtjjldnkhadakcaaGreatMToB
import Derived.Test.YtjjldnkhadakcaaGreatMk
import Derived.Test.YtjjldnkhadakcaaGreatData
import Derived.Deep.RegionHeld3
namespace Go.Proofs.YtjjldnkhadakcaaGreat
open Go.RowKit
set_option linter.unusedSimpArgs false
set_option linter.unusedVariables false
def SPost (r : List Int × List Int × Int) (w : World) (e : Ending) (w' : World) : Prop :=
 ∃ rv ov,e = .returned (.tuple #[rv,ov,.int .i64 r.2.2]) ∧ SlAt 1 8 RInt 0 w' rv r.1 ∧ SlAt 1 8 RInt 0 w' ov r.2.1 ∧ Below w.heap.size w w'
structure OwnI (w w' : World) (v : Value) (xs : List Int) : Prop where
 sl : SlAt 1 8 RInt w.heap.size w' v xs
 row : RowI w' v xs.length
 own : ∀ b,v.ownBlock = some b → w.heap.size ≤ b
def IPost (r : List Int × List Int × Int) (w : World) (e : Ending) (w' : World) : Prop :=
 ∃ rv ov,e = .returned (.tuple #[rv,ov,.int .i64 r.2.2]) ∧ OwnI w w' rv r.1 ∧ OwnI w w' ov r.2.1 ∧ (∀ b,rv.ownBlock = some b → ov.ownBlock ≠ some b) ∧ Below w.heap.size w w'
def StepBoth (ks : List DClass) (nd : Int) (sl al : List Int) (r : List Int × List Int × Int) : Prop :=
 wSum wClass ks ≤ 1048576 → (r.1.length ≤ 1000000 ∧ r.2.1.length ≤ 1000000) ∧ (∀ v sv av w,SlAt 7 160 RClass 0 w v ks → SlAt 1 8 RInt 0 w sv sl → SlAt 1 8 RInt 0 w av al → Calls Tryz.prog 23 #[.agg #[v],.int .i64 nd,sv,av] w (SPost r w)) ∧ ∀ v sv av w,SlAt 7 160 RClass 0 w v ks → SlAt 1 8 RInt 0 w sv sl → SlAt 1 8 RInt 0 w av al → Calls Tryz.prog 25 #[.agg #[v],.int .i64 nd,sv,av] w (IPost r w)
theorem markMachine_bd (ks : List DClass) (v : Value) (lo hi : Nat) (w : World) (hv : MAt 7 KClass lo hi w v ks) (hhi : hi ≤ w.heap.size) (hb : wTo mClass ks ks.length ≤ 100000000) :
  Calls Tryz.prog 20 #[.agg #[v],.int .i64 1] w (fun e w' => ∃ r : Nat,e = .returned (.int .i64 (r : Int)) ∧ Hid (r ≤ 100000001) ∧ Mk lo hi w w'):=by
 obtain ⟨a,cap,rfl⟩:=hv.shape
 have hA : Below w.heap.size w (w.alloc (.cells #[.slice a ks.length cap] 29)):=(Below.refl _ _).alloc (Nat.le_refl _) _
 have hM : Mk lo hi w (w.alloc (.cells #[.slice a ks.length cap] 29)):=Mk.of_below hA hhi
 have HC:=hide (markClassS_ok ks _ 1 1 _ lo hi _ rfl rfl (by omega) (hv.stays KClass_kept hM) (Nat.le_trans hhi hM.size))
 have HM:=hide hM
 have HR : Hid (1 + wTo mClass ks ks.length ≤ 100000001):=by
  refine hide ?_
  omega
 clear hv hhi hb hA hM
 generalize 1 + wTo mClass ks ks.length = r at *
 go_enter Tryz.func20,Tryz.ntmps20
 go_wp2_with fail
 refine (uh HC).mono ?_
 rintro e w1 ⟨rfl,hm⟩
 have H1:=hide ((uh HM).trans hm)
 clear hm
 go_wp2
 go_ret
 exact ⟨r,rfl,HR,uh H1⟩
theorem sum_geC (f : DClass → Nat) (ns : List DClass) (n : DClass) (h : n ∈ ns) : f n ≤ (ns.map f).sum:=by
 induction ns with
 | nil => cases h
 | cons x xs ih =>
  simp only [List.map_cons,List.sum_cons]
  rcases List.mem_cons.1 h with rfl | h
  ·omega
  ·have:=ih h
   omega
theorem OneTurned.below {v : Value} {w w' : World} {B : Nat} (h : OneTurned v w w') (hb : ∀ b,v.ownBlock = some b → B ≤ b) (hB : B ≤ w.heap.size) : Below B w w':=by
 obtain ⟨h1,h2,h3,h4,h5⟩:=h
 exact ⟨h1,h2,h3,h4,fun k hk => h5 k (by omega) (fun e => by have:=hb k e; omega)⟩
theorem RowI.same {w w' : World} {v : Value} {n : Nat} (h : RowI w v n) (hs : ∀ g,v.ownBlock = some g → g < w.heap.size → w'.heap[g]? = w.heap[g]?) : RowI w' v n:=by
 obtain ⟨a,cap,rfl,hn,hr⟩:=h
 refine ⟨a,cap,rfl,hn,fun h0 => ?_⟩
 obtain ⟨g,rfl,hrow⟩:=hr h0
 have hlt:=hrow.lt
 obtain ⟨c,t,h1,h2⟩:=hrow
 exact ⟨g,rfl,c,t,(hs g rfl hlt).trans h1,h2⟩
theorem Mk.kept {lo hi B : Nat} {w w' : World} (h : Mk lo hi w w') (hB : hi ≤ B) : Kept B w.heap.size w w':=⟨h.size,fun k h1 h2 => h.out k h2 (Or.inr (by omega))⟩
theorem Marked.same {w w' : World} {v : Value} {n k : Nat} (h : Marked w v n k) (hs : ∀ g,v.ownBlock = some g → g < w.heap.size → w'.heap[g]? = w.heap[g]?) : Marked w' v n k:=by
 obtain ⟨a,cap,rfl,hn,hr⟩:=h
 refine ⟨a,cap,rfl,hn,fun i hi => ?_⟩
 obtain ⟨g,rfl,hc⟩:=hr i hi
 refine ⟨g,rfl,?_⟩
 rw [World.cell?_of_block (w:=w) (hs g rfl (World.block_lt_of_cell? w _ hc))]
 exact hc
theorem MAtI.same {lo hi : Nat} {w w' : World} {v : Value} {xs : List Int} (h : MAt 1 KInt lo hi w v xs) (hk : ∀ b,lo ≤ b → b < hi → w'.heap[b]? = w.heap[b]?) : MAt 1 KInt lo hi w' v xs:=by
 obtain ⟨a,cap,rfl,hl,hx⟩:=h
 refine ⟨a,cap,rfl,hl,fun i hi => ?_⟩
 obtain ⟨b,o,rfl,h1,h2,cs,h3,h4,h5⟩:=hx i hi
 have e:=hk b h1 h2
 refine ⟨b,o,rfl,h1,h2,cs,h3,fun j hj => ⟨?_,?_⟩,h5⟩
 ·rw [World.cell?_of_block (w:=w) (a:=⟨b,_,none⟩) e]
  exact (h4 j hj).1
 ·have h6:=(h4 j hj).2
  unfold World.frozen? at h6 ⊢
  simp only [e]
  exact h6
theorem OneTurned.kept {v : Value} {w w' : World} (h : OneTurned v w w') {u : Value} (hne : ∀ b,v.ownBlock = some b → u.ownBlock ≠ some b) : ∀ g,u.ownBlock = some g → g < w.heap.size → w'.heap[g]? = w.heap[g]?:=fun g hg hlt => h.2.2.2.2 g hlt (fun e => hne g e hg)
set_option maxRecDepth 20000 in
set_option maxHeartbeats 8000000 in
theorem lawStep_of (ks : List DClass) (nd : Int) (sl al : List Int) (r : List Int × List Int × Int) (v sv av : Value) (w : World) (h1 : SlAt 7 160 RClass 0 w v ks) (h2 : SlAt 1 8 RInt 0 w sv sl) (h3 : SlAt 1 8 RInt 0 w av al)
  (hr : StepBoth ks nd sl al r) :
  Calls Tryz.prog 7 #[.agg #[v],.int .i64 nd,sv,av] w (Ans (.bool true) w):=by
 obtain ⟨b0,c0,rfl⟩:=h1.shape
 obtain ⟨b2,c2,rfl⟩:=h2.shape
 obtain ⟨b3,c3,rfl⟩:=h3.shape
 have H1:=hide h1
 have H2:=hide h2
 have H3:=hide h3
 have HR:=hide hr
 clear h1 h2 h3 hr
 have B0:=hide ((Below.refl w.heap.size w).alloc (Nat.le_refl _) (.cells #[.slice b0 ks.length c0] 24))
 by_cases g2 : (1048576 : Int) < (sl.length : Int)
 ·go_enter Tryz.func7,Tryz.ntmps7
  go_wp2
  go_ret
  exact ⟨rfl,uh B0⟩
 by_cases g3 : (1048576 : Int) < (al.length : Int)
 ·go_enter Tryz.func7,Tryz.ntmps7
  go_wp2
  go_ret
  exact ⟨rfl,uh B0⟩
 go_enter Tryz.func7,Tryz.ntmps7
 go_wp2_with fail
 refine (szMachine_ok ks _ _ _ ?_ ?_ ?_).mono ?_
 ·exact (uh H1).stays RClass_kept (uh B0)
 ·omega
 ·omega
 rintro e w1 ⟨r1,rfl,hr | ⟨p1,q1⟩,hb1⟩
 ·subst hr
  go_wp2
  go_ret
  exact ⟨rfl,(uh B0).trans (hb1.mono (uh B0).size)⟩
 have HMC : Hid (wTo mClass ks ks.length ≤ 100000000):=by
  have:=mClass_le ks
  refine hide ?_
  omega
 obtain ⟨⟨hst1,hst2⟩,hsp,him⟩:=uh HR (by omega)
 have HL1:=hide hst1
 have HL2:=hide hst2
 have HSPE:=hide hsp
 have HIMP:=hide him
 obtain ⟨ra,rb,rc⟩:=r
 simp only at HL1 HL2
 clear hst1 hst2 hsp him HR q1
 have HBX1:=hide (box_of hb1)
 have B1 : Hid (Below w.heap.size w w1):=(uh B0).trans (hb1.mono (uh B0).size)
 have k1 : w1.cell? ⟨w.heap.size,0,none⟩ = some (.slice b0 ks.length c0):=by rw [box_cell (B:=0) (uh HBX1) 0]; rfl
 clear hb1
 go_wp2_with fail
 refine (toMachine_ok ks _ _ ((uh H1).stays RClass_kept (uh B1))).mono ?_
 rintro e w2 ⟨cs2,rfl,⟨vx,rfl,hS2⟩,hb2⟩
 have HS2:=hide (hS2.lower RClass_lowers (Nat.zero_le _))
 have B2 : Hid (Below w.heap.size w w2):=(uh B1).trans (hb2.mono (uh B1).size)
 have HBX2 : Hid (Below (w.heap.size + 1) _ w2):=(uh HBX1).trans (hb2.mono (by have:=(uh HBX1).size; simp at this; omega))
 clear hS2 hb2 k1
 go_wp2_with fail
 refine (toIntS_ok sl _ _ ((uh H2).stays RInt_kept (uh B2))).mono ?_
 rintro e w2a ⟨va,rfl,hSa,hba⟩
 have HSa:=hide (hSa.lower RInt_lowers (Nat.zero_le _))
 have HS2a:=hide ((uh HS2).stays RClass_kept hba.below)
 have B2a : Hid (Below w.heap.size w w2a):=(uh B2).trans (hba.below.mono (uh B2).size)
 have HBX2a : Hid (Below (w.heap.size + 1) _ w2a):=(uh HBX2).trans (hba.below.mono (by have:=(uh HBX2).size; simp at this; omega))
 clear hSa hba
 go_wp2_with fail
 refine (toIntS_ok al _ _ ((uh H3).stays RInt_kept (uh B2a))).mono ?_
 rintro e w2b ⟨vb,rfl,hSb,hbb⟩
 have HSb:=hide (hSb.lower RInt_lowers (Nat.zero_le _))
 have HSab:=hide ((uh HSa).stays RInt_kept hbb.below)
 have HS2b:=hide ((uh HS2a).stays RClass_kept hbb.below)
 have B2b : Hid (Below w.heap.size w w2b):=(uh B2a).trans (hbb.below.mono (uh B2a).size)
 have HBX2b : Hid (Below (w.heap.size + 1) _ w2b):=(uh HBX2a).trans (hbb.below.mono (by have:=(uh HBX2a).size; simp at this; omega))
 clear hSb hbb
 go_wp2_with fail
 refine (uh HSPE _ _ _ _ (uh HS2b) (uh HSab) (uh HSb)).mono ?_
 rintro e w3 ⟨rv,ov,rfl,hRV,hOV,hb3⟩
 obtain ⟨xa,xc,rfl⟩:=hRV.shape
 obtain ⟨ya,yc,rfl⟩:=hOV.shape
 have HRV:=hide hRV
 have HOV:=hide hOV
 have B3 : Hid (Below w.heap.size w w3):=(uh B2b).trans (hb3.mono (uh B2b).size)
 have HBX3 : Hid (Below (w.heap.size + 1) _ w3):=(uh HBX2b).trans (hb3.mono (by have:=(uh HBX2b).size; simp at this; omega))
 have k3 : w3.cell? ⟨w.heap.size,0,none⟩ = some (.slice b0 ks.length c0):=by rw [box_cell (B:=0) (uh HBX3) 0]; rfl
 have hz3 : w.heap.size < w3.heap.size:=by have:=(uh HBX3).size; simp at this; omega
 have HC3 : Hid (∀ w',Below w3.heap.size w3 w' → Below w.heap.size w w' ∧ w'.cell? ⟨w.heap.size,0,none⟩ = some (.slice b0 ks.length c0)):=fun w' h => ⟨(uh B3).trans (h.mono (Nat.le_of_lt hz3)),(h.cell (p:=⟨w.heap.size,0,none⟩) hz3).trans k3⟩
 have HR3 : Hid (∀ w',Below w3.heap.size w3 w' → SlAt 1 8 RInt 0 w' (.slice xa ra.length xc) ra ∧ SlAt 1 8 RInt 0 w' (.slice ya rb.length yc) rb):=fun w' h => ⟨(uh HRV).stays RInt_kept h,(uh HOV).stays RInt_kept h⟩
 clear hb3 hRV hOV HRV HOV HS2 HS2a HS2b HSa HSab HSb B2 B2a B2b HBX1 HBX2 HBX2a HBX2b HBX3 HSPE B0 B1
 go_wp2_with fail
 refine (toMachineF_ok ks _ _ ((uh H1).stays RClass_kept (uh B3))).mono ?_
 rintro e w4 ⟨cs4,rfl,⟨vy,rfl,hS4⟩,hb4⟩
 obtain ⟨by4,cy4,rfl⟩:=hS4.shape
 have HMA:=hide (MAt.of hb4.freeIn (KClass_of hb4.freeIn) hS4)
 have HS4:=hide (hS4.lower RClass_lowers (Nat.zero_le _))
 have H34:=hide hb4.below
 have BY:=hide ((Below.refl w4.heap.size w4).alloc (Nat.le_refl _) (.cells #[.slice by4 ks.length cy4] 29))
 have hz4 : w3.heap.size ≤ w4.heap.size:=hb4.below.size
 have B4 : Hid (Below w.heap.size w (w4.alloc (.cells #[.slice by4 ks.length cy4] 29))):=((uh HC3 _ (uh H34)).1).trans ((uh BY).mono (by omega))
 clear hS4 hb4 k3
 go_wp2_with fail
 refine (toIntS_ok sl _ _ ((uh H2).stays RInt_kept (uh B4))).mono ?_
 rintro e w5 ⟨v5,rfl,hS5,hb5⟩
 obtain ⟨a5,c5,rfl⟩:=hS5.shape
 have HM5:=hide (MAt.of (K:=KInt) hb5.freeIn (KInt_of) hS5)
 have HS5:=hide (hS5.lower RInt_lowers (Nat.zero_le _))
 have HBY5:=hide (box_of hb5.below)
 have H45 : Hid (Below w4.heap.size w4 w5):=(uh BY).trans (hb5.below.mono (uh BY).size)
 have hz5 : w4.heap.size + 1 ≤ w5.heap.size:=by have:=hb5.below.size; simp at this; omega
 have B5 : Hid (Below w.heap.size w w5):=(uh B4).trans (hb5.below.mono (by simp; omega))
 clear hS5 hb5
 go_wp2_with fail
 refine (toIntS_ok al _ _ ((uh H3).stays RInt_kept (uh B5))).mono ?_
 rintro e w6 ⟨v6,rfl,hS6,hb6⟩
 obtain ⟨a6,c6,rfl⟩:=hS6.shape
 have HM6:=hide (MAt.of (K:=KInt) hb6.freeIn (KInt_of) hS6)
 have HS6:=hide (hS6.lower RInt_lowers (Nat.zero_le _))
 have HBY6 : Hid (Below (w4.heap.size + 1) _ w6):=(uh HBY5).trans (hb6.below.mono hz5)
 have H56:=hide hb6.below
 have H46 : Hid (Below w4.heap.size w4 w6):=(uh H45).trans (hb6.below.mono (uh H45).size)
 have hz6 : w5.heap.size ≤ w6.heap.size:=hb6.below.size
 have j6 : w6.cell? ⟨w4.heap.size,0,none⟩ = some (.slice by4 ks.length cy4):=by rw [box_cell (B:=0) (uh HBY6) 0]; rfl
 have HJ6:=hide j6
 have HX6:=hide ((uh HS4).stays RClass_kept (uh H46))
 have HX5:=hide ((uh HS5).stays RInt_kept (uh H56))
 clear hS6 hb6
 go_wp2_with fail
 refine (uh HIMP _ _ _ _ (uh HX6) (uh HX5) (uh HS6)).mono ?_
 rintro e w7 ⟨g0,g1,rfl,hG0,hG1,hne,hb7⟩
 obtain ⟨ga,gac,rfl⟩:=hG0.sl.shape
 obtain ⟨gb,gbc,rfl⟩:=hG1.sl.shape
 have HG0:=hide hG0
 have HG1:=hide hG1
 have HNE:=hide hne
 have H67:=hide hb7
 have hz7 : w6.heap.size ≤ w7.heap.size:=hb7.size
 have H37 : Hid (Below w3.heap.size w3 w7):=(uh H34).trans (((uh H46).trans ((uh H67).mono (by omega))).mono hz4)
 have HU : Hid (∀ w',Below w7.heap.size w7 w' → Below w3.heap.size w3 w'):=fun w' h => (uh H37).trans (h.mono (uh H37).size)
 have HX7 : Hid (∀ w',Below w7.heap.size w7 w' → w'.cell? ⟨w4.heap.size,0,none⟩ = some (.slice by4 ks.length cy4) ∧ SlAt 7 160 RClass 0 w' (.slice by4 ks.length cy4) ks ∧ SlAt 1 8 RInt 0 w' (.slice a5 sl.length c5) sl ∧ SlAt 1 8 RInt 0 w' (.slice a6 al.length c6) al):=fun w' h => by
  have h6 : Below w6.heap.size w6 w':=(uh H67).trans (h.mono hz7)
  exact ⟨(h6.cell (p:=⟨w4.heap.size,0,none⟩) (show w4.heap.size < w6.heap.size by omega)).trans (uh HJ6),(uh HX6).stays RClass_kept h6,(uh HX5).stays RInt_kept h6,(uh HS6).stays RInt_kept h6⟩
 have HGG : Hid (∀ w',Below w7.heap.size w7 w' → SlAt 1 8 RInt 0 w' (.slice ga ra.length gac) ra ∧ SlAt 1 8 RInt 0 w' (.slice gb rb.length gbc) rb):=fun w' h => ⟨(hG0.sl.lower RInt_lowers (Nat.zero_le _)).stays RInt_kept h,(hG1.sl.lower RInt_lowers (Nat.zero_le _)).stays RInt_kept h⟩
 clear hb7 hG0 hG1 hne j6
 have H77 : Hid (Below w7.heap.size w7 w7):=Below.refl _ _
 go_wp2_with fail
 refine (eqIntS_ok ra _ _ w7 (uh HGG w7 (uh H77)).1 (uh HR3 w7 (uh H37)).1).mono ?_
 rintro e w8 ⟨rfl,hb8⟩
 have H78:=hide hb8
 clear hb8
 go_wp2_with fail
 refine (eqIntS_ok rb _ _ w8 (uh HGG w8 (uh H78)).2 (uh HR3 w8 (uh HU _ (uh H78))).2).mono ?_
 rintro e w9 ⟨rfl,hb9⟩
 have H79 : Hid (Below w7.heap.size w7 w9):=(uh H78).trans (hb9.mono (uh H78).size)
 obtain ⟨j9,HX9⟩:=uh HX7 w9 (uh H79)
 obtain ⟨HB9,k9⟩:=uh HC3 w9 (uh HU _ (uh H79))
 have HB9:=hide HB9
 have HX9:=hide HX9
 have m2 : (rc != rc) = false:=by simp
 clear hb9
 go_wp2_with fail
 have HTP : Hid (Calls Tryz.prog 10 #[.agg #[.slice b0 ks.length c0]] w9.drew fun e w' => ∃ vz,e = .returned (.agg #[vz]) ∧ Hid (Below w7.heap.size w7 w' ∧ Calls Tryz.prog 12 #[.agg #[.slice by4 ks.length cy4],.agg #[vz]] w' fun e w'' => e = .returned (.bool true) ∧ Hid (Below w7.heap.size w7 w'') ∧ w''.cell? ⟨w.heap.size,0,none⟩ = some (.slice b0 ks.length c0) ∧ w''.cell? ⟨w4.heap.size,0,none⟩ = some (.slice by4 ks.length cy4)) ∧ w'.cell? ⟨w.heap.size,0,none⟩ = some (.slice b0 ks.length c0) ∧ w'.cell? ⟨w4.heap.size,0,none⟩ = some (.slice by4 ks.length cy4)):=by
  refine hide ((toMachine_ok ks _ w9.drew ((uh H1).stays RClass_kept (uh HB9).drew)).mono ?_)
  rintro e w' ⟨csx,rfl,⟨vz,rfl,hSx⟩,hbx⟩
  have h7 : Below w7.heap.size w7 w':=(uh H79).trans (((Below.refl _ w9).drew.trans hbx).mono (uh H79).size)
  refine ⟨vz,rfl,hide ⟨h7,?_⟩,(uh HC3 _ (uh HU _ h7)).2,(uh HX7 _ h7).1⟩
  refine (eqMachine_ok ks _ _ w' (uh HX7 _ h7).2.1 (hSx.lower RClass_lowers (Nat.zero_le _))).mono ?_
  rintro e w'' ⟨rfl,hby⟩
  have h8 : Below w7.heap.size w7 w'':=h7.trans (hby.mono h7.size)
  exact ⟨rfl,h8,(uh HC3 _ (uh HU _ h8)).2,(uh HX7 _ h8).1⟩
 clear HX9 HB9
 go_region_held3 (fun w' => w'.cell? ⟨w.heap.size,0,none⟩ = some (.slice b0 ks.length c0) ∧ w'.cell? ⟨w4.heap.size,0,none⟩ = some (.slice by4 ks.length cy4)) (go_keep) (first | (go_at_call 10; refine (uh HTP).mono ?_; rintro e wA ⟨vz,rfl,HQA,kA,jA⟩; have HQA2:=hide (uh HQA).2) | (go_at_call 12; refine (uh HQA2).mono ?_; rintro e wB ⟨rfl,HB7,kB,jB⟩))
 clear HQA HQA2 HTP
 go_wp2_with fail
 refine (toIntS_ok sl _ _ ((uh H2).stays RInt_kept (uh HC3 _ (uh HU _ (uh HB7))).1)).mono ?_
 rintro e wC ⟨vC,rfl,hSC,hbC⟩
 have H7C : Hid (Below w7.heap.size w7 wC):=(uh HB7).trans (hbC.below.mono (uh HB7).size)
 have HEC:=hide (eqIntS_ok sl _ _ wC (uh HX7 _ (uh H7C)).2.2.1 (hSC.lower RInt_lowers (Nat.zero_le _)))
 obtain ⟨aC,cC,rfl⟩:=hSC.shape
 clear hSC hbC kB jB
 go_wp2_with fail
 refine (uh HEC).mono ?_
 rintro e wD ⟨rfl,hbD⟩
 have H7D : Hid (Below w7.heap.size w7 wD):=(uh H7C).trans (hbD.mono (uh H7C).size)
 clear hbD HEC
 go_wp2_with fail
 refine (toIntS_ok al _ _ ((uh H3).stays RInt_kept (uh HC3 _ (uh HU _ (uh H7D))).1)).mono ?_
 rintro e wE ⟨vE,rfl,hSE,hbE⟩
 have H7E : Hid (Below w7.heap.size w7 wE):=(uh H7D).trans (hbE.below.mono (uh H7D).size)
 have HEE:=hide (eqIntS_ok al _ _ wE (uh HX7 _ (uh H7E)).2.2.2 (hSE.lower RInt_lowers (Nat.zero_le _)))
 obtain ⟨aE,cE,rfl⟩:=hSE.shape
 clear hSE hbE
 go_wp2_with fail
 refine (uh HEE).mono ?_
 rintro e wF ⟨rfl,hbF⟩
 have H7F : Hid (Below w7.heap.size w7 wF):=(uh H7E).trans (hbF.mono (uh H7E).size)
 have H6F : Hid (Below w6.heap.size w6 wF):=(uh H67).trans ((uh H7F).mono hz7)
 have H4F : Hid (Below w4.heap.size w4 wF):=(uh H46).trans ((uh H6F).mono (by omega))
 have H5F : Hid (Below w5.heap.size w5 wF):=(uh H56).trans ((uh H6F).mono hz6)
 have jF:=(uh HX7 _ (uh H7F)).1
 have HM:=hide (markMachine_bd ks _ w3.heap.size w4.heap.size wF ((uh HMA).stays KClass_kept (Mk.of_below (uh H4F) (Nat.le_refl _))) (uh H4F).size (uh HMC))
 clear hbF HEE
 go_wp2_with fail
 refine (uh HM).mono ?_
 rintro e wG ⟨mk,rfl,hmk,hmG⟩
 have HMG:=hide hmG
 have HKG : Hid (Kept w6.heap.size w7.heap.size w7 wG):=(Kept.of_below (uh H7F)).trans (hmG.kept (by omega)) (uh H7F).size
 have H3G : Hid (Below w3.heap.size w3 wG):=(uh HU _ (uh H7F)).trans (hmG.below (uh HU _ (uh H7F)).size)
 have hzG : w6.heap.size ≤ wG.heap.size:=Nat.le_trans (uh H6F).size hmG.size
 have HM2 : Hid (∃ r2 : Nat,r2 ≤ 102000000 ∧ Calls Tryz.prog 21 #[.slice a5 sl.length c5,.int .i64 (mk : Int)] wG (MkPost (w4.alloc (.cells #[.slice by4 ks.length cy4] 29)).heap.size w5.heap.size wG r2)):=by
  have h1:=mInt_le sl
  have h2:=uh hmk
  refine hide ⟨_,?_,markIntS_ok sl _ _ mk _ _ w5.heap.size wG rfl rfl ?_ (MAtI.same ((uh HM5).stays KInt_kept (Mk.of_below (uh H5F) (Nat.le_refl _))) ?_) (Nat.le_trans hz6 hzG)⟩
  ·omega
  ·omega
  ·intro b hb1 hb2
   simp at hb1
   exact (uh HMG).out b (Nat.lt_of_lt_of_le hb2 (uh H5F).size) (Or.inr (by omega))
 have HMH0:=hide ((uh HM6).stays KInt_kept (Mk.of_below (uh H6F) (Nat.le_refl _)))
 have HMH1 : Hid (MAt 1 KInt w5.heap.size w6.heap.size wG (.slice a6 al.length c6) al):=MAtI.same (uh HMH0) (fun b hb1 hb2 => (uh HMG).out b (Nat.lt_of_lt_of_le hb2 (uh H6F).size) (Or.inr (by omega)))
 obtain ⟨r2,hr2,hc2⟩:=uh HM2
 have HR2:=hide hr2
 have HC2:=hide hc2
 clear hr2 hc2 HM2 hmk hmG HM jF HMH0
 go_wp2_with fail
 refine (uh HC2).mono ?_
 rintro e wH ⟨rfl,hmH⟩
 have hzH : w6.heap.size ≤ wH.heap.size:=Nat.le_trans hzG hmH.size
 have H3H : Hid (Below w3.heap.size w3 wH):=(uh H3G).trans (Below.mono (hmH.below (by simp; omega)) (by simp; omega))
 have HKH : Hid (Kept w6.heap.size w7.heap.size w7 wH):=(uh HKG).trans (hmH.kept hz6) (uh HKG).1
 have HMH2 : Hid (MAt 1 KInt w5.heap.size w6.heap.size wH (.slice a6 al.length c6) al):=MAtI.same (uh HMH1) (fun b hb1 hb2 => hmH.out b (by omega) (Or.inr hb1))
 have HM3 : Hid (∃ r3 : Nat,Calls Tryz.prog 21 #[.slice a6 al.length c6,.int .i64 (r2 : Int)] wH (MkPost w5.heap.size w6.heap.size wH r3)):=by
  have h1:=mInt_le al
  have h2:=uh HR2
  exact hide ⟨_,markIntS_ok al _ _ r2 _ _ w6.heap.size wH rfl rfl (by omega) (uh HMH2) hzH⟩
 obtain ⟨r3,hc3⟩:=uh HM3
 have HC3b:=hide hc3
 clear hc3 HM3 hmH HMH1 HMH2 HC2 HR2
 go_wp2_with fail
 refine (uh HC3b).mono ?_
 rintro e wJ ⟨rfl,hmJ⟩
 have H3J : Hid (Below w3.heap.size w3 wJ):=(uh H3H).trans (Below.mono (hmJ.below (by omega)) (by omega))
 have HKJ : Hid (Kept w6.heap.size w7.heap.size w7 wJ):=(uh HKH).trans (hmJ.kept (Nat.le_refl _)) (uh HKH).1
 have HGJ0:=hide ((uh HG0).sl.kept RInt_kept (uh HKJ))
 have HGJ1:=hide ((uh HG1).sl.kept RInt_kept (uh HKJ))
 have HIJ0:=hide ((uh HG0).row.same (w':=wJ) (fun g hg hlt => (uh HKJ).2 g ((uh HG0).own g hg) hlt))
 have HIJ1:=hide ((uh HG1).row.same (w':=wJ) (fun g hg hlt => (uh HKJ).2 g ((uh HG1).own g hg) hlt))
 have m3 : decide ((r3 : Int) < 0) = false:=decide_eq_false (by omega)
 clear hmJ HC3b
 go_wp2_with fail
 refine (eqIntS_ok ra _ _ wJ ((uh HGJ0).lower RInt_lowers (Nat.zero_le _)) (uh HR3 _ (uh H3J)).1).mono ?_
 rintro e wK ⟨rfl,hbK⟩
 have H3K : Hid (Below w3.heap.size w3 wK):=(uh H3J).trans (hbK.mono (uh H3J).size)
 have HGK1:=hide ((uh HGJ1).stays RInt_kept hbK)
 have HIK0:=hide ((uh HIJ0).same (w':=wK) (fun g hg hlt => hbK.block g hlt))
 have HIK1:=hide ((uh HIJ1).same (w':=wK) (fun g hg hlt => hbK.block g hlt))
 clear hbK
 go_wp2_with fail
 refine (eqIntS_ok rb _ _ wK ((uh HGK1).lower RInt_lowers (Nat.zero_le _)) (uh HR3 _ (uh H3K)).2).mono ?_
 rintro e wL ⟨rfl,hbL⟩
 have H3L : Hid (Below w3.heap.size w3 wL):=(uh H3K).trans (hbL.mono (uh H3K).size)
 have HIL0:=hide ((uh HIK0).same (w':=wL) (fun g hg hlt => hbL.block g hlt))
 have HIL1:=hide ((uh HIK1).same (w':=wL) (fun g hg hlt => hbL.block g hlt))
 obtain ⟨q1,hq1⟩ : ∃ r,1 + ra.length = r:=⟨_,rfl⟩
 obtain ⟨q2,hq2⟩ : ∃ r,q1 + rb.length = r:=⟨_,rfl⟩
 have HQ1:=hide hq1
 have HQ2:=hide hq2
 have HQ3 : Hid (q1 ≤ 1000000000):=by
  have:=uh HL1
  refine hide ?_
  omega
 have HMX:=hide (markInts_one _ ra.length q1 wL (uh HIL0) hq1)
 clear hbL hq1 hq2
 go_wp2_with fail
 refine (uh HMX).mono ?_
 rintro e wM ⟨rfl,hMK,hOT⟩
 have H3M : Hid (Below w3.heap.size w3 wM):=(uh H3L).trans (hOT.below (fun b hb => by have:=(uh HG0).own b hb; omega) (uh H3L).size)
 have HIM1:=hide ((uh HIL1).same (w':=wM) (hOT.kept (uh HNE)))
 have HMK0:=hide hMK
 have HMX1:=hide (markInts_exact _ rb.length q1 q2 wM (uh HIM1) (uh HQ3) (uh HQ2))
 clear hMK hOT HMX
 go_wp2_with fail
 refine (uh HMX1).mono ?_
 rintro e wN ⟨rfl,hMK,hOT⟩
 have H3N : Hid (Below w3.heap.size w3 wN):=(uh H3M).trans (hOT.below (fun b hb => by have:=(uh HG1).own b hb; omega) (uh H3M).size)
 have HMK1:=hide hMK
 have HMK2:=hide ((uh HMK0).same (w':=wN) (hOT.kept (fun b hb e => uh HNE b e hb)))
 have HHX:=hide (heldInts_one _ ra.length q1 wN (uh HMK2) (uh HQ1))
 clear hMK hOT HMX1
 go_wp2_with fail
 refine (uh HHX).mono ?_
 rintro e wO ⟨rfl,hbO⟩
 have H3O : Hid (Below w3.heap.size w3 wO):=(uh H3N).trans (hbO.mono (uh H3N).size)
 have HMKO:=hide ((uh HMK1).same (w':=wO) (fun g hg hlt => hbO.block g hlt))
 have HHX1:=hide (heldInts_exact _ rb.length q1 q2 wO (uh HMKO) (uh HQ3) (uh HQ2))
 have m4 : decide ((q1 : Int) < 0) = false:=decide_eq_false (by omega)
 clear hbO HHX
 go_wp2_with fail
 refine (uh HHX1).mono ?_
 rintro e wP ⟨rfl,hbP⟩
 have H3P : Hid (Below w3.heap.size w3 wP):=(uh H3O).trans (hbP.mono (uh H3O).size)
 have m5 : decide ((q2 : Int) < 0) = false:=decide_eq_false (by omega)
 have m6 : ((q2 : Int) != (q2 : Int)) = false:=by simp
 obtain ⟨HBP,kP⟩:=uh HC3 _ (uh H3P)
 have HBP:=hide HBP
 have HTP2:=hide (toMachine_ok ks _ wP ((uh H1).stays RClass_kept (uh HBP)))
 clear hbP HHX1
 go_wp2_with fail
 refine (uh HTP2).mono ?_
 rintro e wQ ⟨csD,rfl,⟨vh,rfl,hSQ⟩,hbQ⟩
 have H3Q : Hid (Below w3.heap.size w3 wQ):=(uh H3P).trans (hbQ.mono (uh H3P).size)
 have HSQ:=hide (hSQ.lower RClass_lowers (Nat.zero_le _))
 clear hSQ hbQ kP
 go_wp2_with fail
 refine (toIntS_ok sl _ _ ((uh H2).stays RInt_kept (uh HC3 _ (uh H3Q)).1)).mono ?_
 rintro e wR ⟨vR,rfl,hSR,hbR⟩
 have H3R : Hid (Below w3.heap.size w3 wR):=(uh H3Q).trans (hbR.below.mono (uh H3Q).size)
 have HSR:=hide (hSR.lower RInt_lowers (Nat.zero_le _))
 have HSQ2:=hide ((uh HSQ).stays RClass_kept hbR.below)
 clear hSR hbR
 go_wp2_with fail
 refine (toIntS_ok al _ _ ((uh H3).stays RInt_kept (uh HC3 _ (uh H3R)).1)).mono ?_
 rintro e wS ⟨vS,rfl,hSS,hbS⟩
 have H3S : Hid (Below w3.heap.size w3 wS):=(uh H3R).trans (hbS.below.mono (uh H3R).size)
 have HSS:=hide (hSS.lower RInt_lowers (Nat.zero_le _))
 have HSR2:=hide ((uh HSR).stays RInt_kept hbS.below)
 have HSQ3:=hide ((uh HSQ2).stays RClass_kept hbS.below)
 clear hSS hbS
 go_wp2_with fail
 refine (uh HIMP _ _ _ _ (uh HSQ3) (uh HSR2) (uh HSS)).mono ?_
 rintro e wT ⟨h0,h1,rfl,hH0,hH1,_,hbT⟩
 obtain ⟨ha,hac,rfl⟩:=hH0.sl.shape
 obtain ⟨hb,hbc,rfl⟩:=hH1.sl.shape
 have H3T : Hid (Below w3.heap.size w3 wT):=(uh H3S).trans (hbT.mono (uh H3S).size)
 have HH0:=hide (hH0.sl.lower RInt_lowers (Nat.zero_le _))
 have HH1:=hide (hH1.sl.lower RInt_lowers (Nat.zero_le _))
 clear hH0 hH1 hbT
 go_wp2_with fail
 refine (eqIntS_ok ra _ _ wT (uh HH0) (uh HR3 _ (uh H3T)).1).mono ?_
 rintro e wU ⟨rfl,hbU⟩
 have H3U : Hid (Below w3.heap.size w3 wU):=(uh H3T).trans (hbU.mono (uh H3T).size)
 have HH1U:=hide ((uh HH1).stays RInt_kept hbU)
 clear hbU
 go_wp2_with fail
 refine (eqIntS_ok rb _ _ wU (uh HH1U) (uh HR3 _ (uh H3U)).2).mono ?_
 rintro e wV ⟨rfl,hbV⟩
 have H3V : Hid (Below w3.heap.size w3 wV):=(uh H3U).trans (hbV.mono (uh H3U).size)
 clear hbV
 go_wp2
 go_ret
 exact ⟨rfl,(uh HC3 _ (uh H3V)).1⟩
end Go.Proofs.YtjjldnkhadakcaaGreat
