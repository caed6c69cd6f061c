import Derived.Test.YtajabbnlbopcbaaGreatDoorV3
import Derived.Deep.RegionHeld3
namespace Go.Proofs.YtajabbnlbopcbaaGreatDoor
open Go.RowKit
set_option linter.unusedSimpArgs false
set_option linter.unusedVariables false
section
variable {code : List Int} {W0 : World} {cb : Nat} {cv : Value} {w : World} {c c' : Cur} {vs : List DVar} {sv kv : Value} {k : List DCond} {b7 rank : Nat} {X Y : World}
theorem plain_len {s : ByteArray} (h : plainB s = true) : Len s.size:=by
 have h1:=(plain_parts h).1
 unfold Len
 omega
theorem longer_first {f : Nat} (hf : f ≤ 5) {d : Int} (hC : ExC code W0 cb cv vs rank f d) {c0 : Cur} {kv0 : Value} {k0 : List DCond} (hin : ExIn code W0 cb cv vs w c0 sv kv0 k0) (hx : Xs code W0 cb cv w b7 sv rank X c) (hkl : SlAt 2 24 RCond (cb + 1) X kv k) (hkk : kOK k) (hk4 : k.length < 4) (hok : okB (kE f) c) (kind : Int) (late : Bool) {nm : ByteArray} (hnm : plainB nm = true) (on : Bool) :
  Calls Tryz.prog 49 #[kv,.string nm,.bool on] X (fun e Y => ∃ va vn vc,e = .returned (.slice va vn vc) ∧ Y.cell? ⟨b7,0,none⟩ = some sv ∧ Y.cell? ⟨b7,1,none⟩ = some (.int .i64 rank) ∧ Hid (Calls Tryz.prog 32 #[.pointer (some ⟨cb,0,none⟩),.agg #[sv,.int .i64 rank],.int .i64 kind,.slice va vn vc,.bool late,.int .i64 d] Y (fun e Z => ∃ a n cap,e = .returned (.slice a n cap) ∧ Z.cell? ⟨b7,0,none⟩ = some sv ∧ Z.cell? ⟨b7,1,none⟩ = some (.int .i64 rank) ∧ Hid (Wk code W0 cb cv w b7 sv rank Z (exF code vs rank f c kind (k ++ [⟨nm,on⟩]) late).2 a n cap (exF code vs rank f c kind (k ++ [⟨nm,on⟩]) late).1)))):=by
 refine (l1Longer_lo k kv nm on X (hkl.lower RCond_lowers (Nat.zero_le _)) (plain_len hnm) (by omega)).mono ?_
 rintro e Y ⟨v,rfl,hs,hb⟩
 obtain ⟨va,vc,rfl⟩:=hs.shape
 have hxY:=hx.below hb
 refine ⟨va,_,vc,rfl,hxY.box.cell (i:=0) rfl,hxY.box.cell (i:=1) rfl,?_⟩
 refine (exp_first hf hC hin hxY (hs.lower RCond_lowers hx.cu.blk.lt) (kOK_snoc hkk hnm on) (by rw [List.length_append,List.length_singleton]; omega) hok kind late).mono ?_
 rintro e Z ⟨a,n,cap,rfl,hw,ht⟩
 exact ⟨a,n,cap,rfl,(uh hw).1.box.cell (i:=0) rfl,(uh hw).1.box.cell (i:=1) rfl,hw⟩
theorem longer_next {f : Nat} (hf : f ≤ 5) {d : Int} (hC : ExC code W0 cb cv vs rank f d) {c0 : Cur} {kv0 : Value} {k0 : List DCond} (hin : ExIn code W0 cb cv vs w c0 sv kv0 k0) {a : Option Addr} {n cap : Nat} {xs : List DItem} (hw : Wk code W0 cb cv w b7 sv rank X c a n cap xs) (hxs : xs.length ≤ 2500) (hkl : SlAt 2 24 RCond (cb + 1) X kv k) (hkk : kOK k) (hk4 : k.length < 4) (hok : okB (kE f) c) (kind : Int) (late : Bool) {nm : ByteArray} (hnm : plainB nm = true) (on : Bool) :
  Calls Tryz.prog 49 #[kv,.string nm,.bool on] X (fun e Y => ∃ va vn vc,e = .returned (.slice va vn vc) ∧ Y.cell? ⟨b7,0,none⟩ = some sv ∧ Y.cell? ⟨b7,1,none⟩ = some (.int .i64 rank) ∧ Hid (Calls Tryz.prog 32 #[.pointer (some ⟨cb,0,none⟩),.agg #[sv,.int .i64 rank],.int .i64 kind,.slice va vn vc,.bool late,.int .i64 d] Y (fun e Z => ∃ a2 n2 cap2 a3 n3 cap3 Z2,e = .returned (.slice a2 n2 cap2) ∧ Z.cell? ⟨b7,0,none⟩ = some sv ∧ Z.cell? ⟨b7,1,none⟩ = some (.int .i64 rank) ∧ Hid (Z2.cell? ⟨b7,0,none⟩ = some sv ∧ Z2.cell? ⟨b7,1,none⟩ = some (.int .i64 rank)) ∧ Hid (AppRun Z a n cap a2 n2 cap2 a3 n3 cap3 Z2) ∧ Hid (Wk code W0 cb cv w b7 sv rank Z2 (exF code vs rank f c kind (k ++ [⟨nm,on⟩]) late).2 a3 n3 cap3 (xs ++ (exF code vs rank f c kind (k ++ [⟨nm,on⟩]) late).1))))):=by
 refine (l1Longer_lo k kv nm on X (hkl.lower RCond_lowers (Nat.zero_le _)) (plain_len hnm) (by omega)).mono ?_
 rintro e Y ⟨v,rfl,hs,hb⟩
 obtain ⟨va,vc,rfl⟩:=hs.shape
 have hxY:=hw.1.below hb
 refine ⟨va,_,vc,rfl,hxY.box.cell (i:=0) rfl,hxY.box.cell (i:=1) rfl,?_⟩
 have hkk2:=kOK_snoc hkk hnm on
 refine (exp_first hf hC hin hxY (hs.lower RCond_lowers hw.1.cu.blk.lt) hkk2 (by rw [List.length_append,List.length_singleton]; omega) hok kind late).mono ?_
 rintro e Z ⟨a2,n2,cap2,rfl,h2,ht⟩
 have hd:=exF_dr (code:=code) (rank:=rank) hin.vk f c kind _ late hkk2
 have hs2:=szE_le (f:=f) (by omega)
 obtain ⟨a3,n3,cap3,Z2,hr,hz⟩:=((hw.go hxY (Tr.of_below hb)).go (uh h2).1 (uh ht)).app (uh h2).2.1 (by have:=hd.2.1; omega)
 exact ⟨a2,n2,cap2,a3,n3,cap3,Z2,rfl,(uh h2).1.box.cell (i:=0) rfl,(uh h2).1.box.cell (i:=1) rfl,⟨hz.1.box.cell (i:=0) rfl,hz.1.box.cell (i:=1) rfl⟩,hr,hz⟩
set_option maxRecDepth 4000 in
set_option maxHeartbeats 8000000 in
theorem exp_merge {f : Nat} (hf : f ≤ 5) {d : Int} (hd0 : 0 ≤ d) (hd5 : d ≤ 5) (hC : ExC code W0 cb cv vs rank f (d + 1)) {kind : Int} {late : Bool} (hin : ExIn code W0 cb cv vs w c sv kv k) (hok : okB (kE (f + 1)) c) {how : Nat} {c3 : Cur} (hP12 : pkF code 12 (dcR c) = (how,c3)) (hroom : 0 < c3.room) (hw : how = 8 ∨ how = 9) (hn0 : 0 < (fnF vs rank 2 k late).length) (hk4 : k.length < 4) :
  Calls Tryz.prog 32 #[.pointer (some ⟨cb,0,none⟩),.agg #[sv,.int .i64 rank],.int .i64 kind,kv,.bool late,.int .i64 d] w (ExAns code W0 cb cv w (mgF code (exF code vs rank f) c3 kind k late (fnF vs rank 2 k late))):=by
 have hkE : 3 ≤ kE (f + 1):=by generalize f + 1 = F9; cases F9 <;> simp [kE]
 obtain ⟨sa,sc,rfl⟩:=hin.sl.shape
 obtain ⟨ka,kc,rfl⟩:=hin.kl.shape
 have hcu:=hin.cu
 have hblk:=hcu.blk
 have hcl:=hblk.lt
 obtain ⟨A,hAA⟩ : ∃ A,A = w.setCell ⟨cb,2,none⟩ (.int .i64 (c.room - 1)):=⟨_,rfl⟩
 have hTA : Tr cb w A:=hAA ▸ Tr.setCell _ _ _ _
 have hcA : CuAt code W0 cb cv A (dcR c):=hcu.go hTA (by rw [hAA]; exact hblk.set 2 _)
 have hAz : A.heap.size = w.heap.size:=by rw [hAA]; simp
 obtain ⟨B,hBB⟩ : ∃ B,B = A.alloc (.cells #[.slice sa vs.length sc,.int .i64 rank] 91):=⟨_,rfl⟩
 have hB : Below A.heap.size A B:=hBB ▸ (Below.refl _ _).alloc (Nat.le_refl _) _
 have hbs : BlkAt B w.heap.size 91 #[.slice sa vs.length sc,.int .i64 rank]:=by rw [hBB,← hAz]; exact blk_box A _ _
 have hcB:=hcA.below hB
 have hxB : Xs code W0 cb cv w w.heap.size (.slice sa vs.length sc) rank B (dcR c):=⟨hcB,hbs,hTA.trans (Tr.of_below hB),hcl,Nat.le_refl _⟩
 have hinB:=hin.at hxB
 have HFD:=hide (find_ok (hinB.sl.lower RVar_lowers (Nat.zero_le _)) (hinB.kl.lower RCond_lowers (Nat.zero_le _)) (Nat.le_trans hin.few (by omega)) rank kind late)
 have hok1 : okB (kE (f + 1) - 1) (dcR c):=by
  obtain ⟨g1,g2,g3,g4⟩:=hok
  exact ⟨by simp only [dcR]; omega,by simp only [dcR]; omega,by simp only [dcR]; omega,g4⟩
 have hokp : okB (kE (f + 1) - 2) (pkF code 12 (dcR c)).2:=pkF_ok (by rw [show kE (f + 1) - 2 + 1 = kE (f + 1) - 1 by omega]; exact hok1)
 have hrm:=pkF_room code 12 (dcR c)
 have hhow:=pkF_lt code (m:=12) (dcR c) (by omega)
 have HPK : Hid (∀ X,Below B.heap.size B X → Calls Tryz.prog 9 #[.pointer (some ⟨cb,0,none⟩),.int .i64 12] X (CuAns code W0 cb cv X (.int .i64 (pkF code 12 (dcR c)).1) (pkF code 12 (dcR c)).2)):=hide (fun X hX => pick_ok (hcB.below hX) 12 (by omega) (hok1.less (by omega)))
 have c2:=hblk.cell (i:=2) (v:=.int .i64 c.room) rfl
 have f2:=hblk.free 2
 have s0:=hxB.box.cell (i:=0) (v:=.slice sa vs.length sc) rfl
 have s1:=hxB.box.cell (i:=1) (v:=.int .i64 rank) rfl
 obtain ⟨PO,hPO⟩ : ∃ PO : Ending → World → Prop,PO = ExAns code W0 cb cv w (mgF code (exF code vs rank f) c3 kind k late (fnF vs rank 2 k late)):=⟨_,rfl⟩
 rw [← hPO]
 have HPO:=hide hPO
 have HIN:=hide hin
 have HXB:=hide hxB
 have HAB:=hide (And.intro hAA hBB)
 have hbd:=hok
 obtain ⟨r1,r2,r3,r4⟩:=hbd
 have hrm2 : (pkF code 12 (dcR c)).2.room = c.room - 1:=hrm
 rw [hBB,hAA] at s0 s1
 clear hcu hblk hTA hcA hAz hB hbs hcB hxB hinB hok1 hPO hin hAA hBB hrm
 rw [hP12] at hokp hhow hrm2 HPK
 replace hokp : okB (kE (f + 1) - 2) c3:=hokp
 replace hhow : how < 12:=hhow
 replace hrm2 : c3.room = c.room - 1:=hrm2
 replace HPK : Hid (∀ X,Below B.heap.size B X → Calls Tryz.prog 9 #[.pointer (some ⟨cb,0,none⟩),.int .i64 12] X (CuAns code W0 cb cv X (.int .i64 how) c3)):=HPK
 clear hP12
 go_enter Tryz.func32,Tryz.ntmps32
 go_wp2_with fail
 rw [← (uh HAB).1,← (uh HAB).2]
 refine (uh HFD).mono ?_
 rintro e w2 ⟨na,ncap,rfl,hno,hb2⟩
 have HP3:=hide (uh HPK _ hb2)
 have HX2:=hide ((uh HXB).below hb2)
 have HNO:=hide hno
 clear hno HFD HPK s0 s1 c2 f2
 go_wp2_with fail
 refine (uh HP3).mono ?_
 rintro e w3 ⟨rfl,hc3,ht3⟩
 have HX3:=hide ((uh HX2).go hc3 ht3)
 have hnb : ∀ b,(Value.slice na (fnF vs rank kind k late).length ncap).ownBlock = some b → b ≠ cb:=fun b hb => by have:=(World.ownsRow.lt (uh HNO) b hb).1; have:=(uh HXB).tr.size; omega
 have HN3:=hide ((uh HNO).ofBlock (fun b hb => ht3.block b (World.ownsRow.lt (uh HNO) b hb).2 (hnb b hb)))
 have y2:=(uh HX3).cu.blk.cell (i:=2) (v:=.int .i64 c3.room) rfl
 have t0:=(uh HX3).box.cell (i:=0) (v:=.slice sa vs.length sc) rfl
 have t1:=(uh HX3).box.cell (i:=1) (v:=.int .i64 rank) rfl
 have hBz:=(uh HXB).tr.size
 have hfl:=fnTo_len vs rank kind k late vs.length
 clear hc3 ht3 hnb HP3 HX2 HNO hb2 hrm2
 have HC:=hide hC
 have hok3 : okB (3 * kE f + 4) c3:=by have h9:=hokp; simp only [kE] at h9; exact h9.less (by omega)
 have HOK3:=hide hok3
 have HDR:=hide (exF_dr (code:=code) (rank:=rank) (uh HIN).vk f)
 have HLN : Hid (∀ c kind k late,kOK k → (exF code vs rank f c kind k late).1.length ≤ 1093):=hide (fun c kind k late hk => Nat.le_trans (exF_dr (code:=code) (rank:=rank) (uh HIN).vk f c kind k late hk).2.1 (szE_le (by omega)))
 have q1 : decide (c3.room ≤ 0) = false:=by simp; omega
 have q2 : decide (5 < d) = false:=by simp; omega
 have q3 : decide ((how : Int) ≤ 1) = false:=by simp; omega
 have q4 : decide (how ≤ 1) = false:=by simp; omega
 have HHW:=hide hhow
 clear hC hok3 hokp hok hkE r1 r2 r3 r4 hfl hroom hhow
 have hfw:=(uh HIN).few
 have hfl2 : (fnF vs rank 2 k late).length ≤ 100:=Nat.le_trans (fnTo_len vs rank 2 k late vs.length) hfw
 have HFD:=hide (find_ok ((((uh HIN).at (uh HX3)).sl).lower RVar_lowers (Nat.zero_le _)) ((((uh HIN).at (uh HX3)).kl).lower RCond_lowers (Nat.zero_le _)) (Nat.le_trans hfw (by omega)) rank 2 late)
 have dk4 : decide ((k.length : Int) < 4) = true:=by simp; omega
 have dn0 : decide (0 < ((fnF vs rank 2 k late).length : Int)) = true:=by simp; omega
 rcases hw with hw | hw
 ·have b2 : ((how : Int) == 2) = false:=by rw [beq_eq_false_iff_ne]; omega
  have b3 : ((how : Int) == 3) = false:=by rw [beq_eq_false_iff_ne]; omega
  have b4 : ((how : Int) == 4) = false:=by rw [beq_eq_false_iff_ne]; omega
  have b5 : ((how : Int) == 5) = false:=by rw [beq_eq_false_iff_ne]; omega
  have b6 : ((how : Int) == 6) = false:=by rw [beq_eq_false_iff_ne]; omega
  have b7 : ((how : Int) == 7) = false:=by rw [beq_eq_false_iff_ne]; omega
  have b8 : ((how : Int) == 8) = true:=by rw [beq_iff_eq]; omega
  clear hw
  go_wp2_with fail
  refine (uh HFD).mono ?_
  rintro e w4 ⟨xa,xcap,rfl,ho4,hb4⟩
  have HX4:=hide ((uh HX3).below hb4)
  have HO4:=hide ho4
  have hw34:=hb4.size
  clear ho4 hb4 HFD t0 t1 y2
  generalize hNM : fnF vs rank 2 k late = NM at *
  have HPK:=hide (pick_ok (uh HX4).cu NM.length (by omega) ((uh HOK3).less (by omega)))
  have hlt:=pkF_lt code (m:=NM.length) c3 (by omega)
  have hok5 : okB (3 * kE f + 3) (pkF code NM.length c3).2:=pkF_ok (uh HOK3)
  have e9 : mgF code (exF code vs rank f) c3 kind k late NM = ((exF code vs rank f (pkF code NM.length c3).2 kind (k ++ [⟨NM.getD (pkF code NM.length c3).1 noN,true⟩]) late).1 ++ (exF code vs rank f (exF code vs rank f (pkF code NM.length c3).2 kind (k ++ [⟨NM.getD (pkF code NM.length c3).1 noN,true⟩]) late).2 kind (k ++ [⟨NM.getD (pkF code NM.length c3).1 noN,false⟩]) late).1 ++ [⟨24,0,NM.getD (pkF code NM.length c3).1 noN⟩],(exF code vs rank f (exF code vs rank f (pkF code NM.length c3).2 kind (k ++ [⟨NM.getD (pkF code NM.length c3).1 noN,true⟩]) late).2 kind (k ++ [⟨NM.getD (pkF code NM.length c3).1 noN,false⟩]) late).2):=rfl
  rw [e9] at HPO
  clear e9
  generalize pkF code NM.length c3 = P at *
  obtain ⟨j,c5⟩:=P
  have HPK2 : Hid (Calls Tryz.prog 9 #[.pointer (some ⟨cb,0,none⟩),.int .i64 NM.length] w4 (CuAns code W0 cb cv w4 (.int .i64 j) c5)):=HPK
  have hj : j < NM.length:=hlt
  have HOK5 : Hid (okB (3 * kE f + 3) c5):=hok5
  have hjI : (j : Int) < (NM.length : Int):=by omega
  obtain ⟨g,cap,hv,_⟩:=(uh HO4).scell hj (by omega)
  rw [hv]
  rw [hv] at HO4
  have HPL : Hid (plainB (NM.getD j noN) = true):=by
   show _ = _
   rw [← hNM] at hj ⊢
   exact fnTo_ok (uh HIN).vk rank 2 k late vs.length _ (getD_mem hj)
  have hcw : cb < w3.heap.size:=(uh HX3).cu.blk.lt
  clear hv HPK hlt hok5
  replace HPO : Hid (PO = ExAns code W0 cb cv w ((exF code vs rank f c5 kind (k ++ [⟨NM.getD j noN,true⟩]) late).1 ++ (exF code vs rank f (exF code vs rank f c5 kind (k ++ [⟨NM.getD j noN,true⟩]) late).2 kind (k ++ [⟨NM.getD j noN,false⟩]) late).1 ++ [⟨24,0,NM.getD j noN⟩],(exF code vs rank f (exF code vs rank f c5 kind (k ++ [⟨NM.getD j noN,true⟩]) late).2 kind (k ++ [⟨NM.getD j noN,false⟩]) late).2)):=HPO
  go_wp2_with fail
  refine (uh HPK2).mono ?_
  rintro e w5 ⟨rfl,hc5,ht5⟩
  obtain ⟨g2,cap2,hv2,g0⟩:=((uh HO4).trk ht5 hcw).scell hj (by omega)
  simp only [Value.slice.injEq,Option.some.injEq,Addr.mk.injEq] at hv2
  obtain ⟨⟨rfl,_,_⟩,_,rfl⟩:=hv2
  have HX5:=hide ((uh HX4).go hc5 ht5)
  clear HPK2 hc5 ht5 hNM
  generalize NM.getD j noN = nm at *
  generalize NM.length = NL at *
  have hdr : Below w5.heap.size w5 w5.drew:=(Below.refl _ _).drew
  have hx6:=(uh HX5).below hdr
  have HL1 : Hid (∀ Y,Y = w5.drew → Calls Tryz.prog 49 #[.slice ka k.length kc,.string nm,.bool true] Y _):=hide (fun Y hY => by subst hY; exact longer_first hf (uh HC) (uh HIN) hx6 ((uh HIN).at hx6).kl (uh HIN).kk hk4 ((uh HOK5).less (by omega)) kind late (uh HPL) true)
  have s0:=(uh HX5).box.cell (i:=0) (v:=.slice sa vs.length sc) rfl
  have s1:=(uh HX5).box.cell (i:=1) (v:=.int .i64 rank) rfl
  have hwd : IntKind.i64.wrap (d + 1) = d + 1:=by rw [IntKind.wrap_i64]; omega
  clear hdr hx6
  go_wp2_with fail
  clear g0
  go_region_held3 (fun w' => w'.cell? ⟨w.heap.size,0,none⟩ = some (.slice sa vs.length sc) ∧ w'.cell? ⟨w.heap.size,1,none⟩ = some (.int .i64 rank)) (go_keep) (first | (go_at_call 49; refine (uh HL1 _ rfl).mono ?_; rintro e w6 ⟨va,vn,vc,rfl,o0,o1,HE1⟩) | (go_at_call 32; (try rw [hwd]); refine (uh HE1).mono ?_; rintro e w7 ⟨a7,n7,p7,rfl,r0,r1,HW7⟩))
  have hdr : Below w7.heap.size w7 w7.drew:=(Below.refl _ _).drew
  have hw8:=(uh HW7).go ((uh HW7).1.below hdr) (Tr.of_below hdr)
  have HOK7 : Hid (okB (2 * kE f + 3) (exF code vs rank f c5 kind (k ++ [⟨nm,true⟩]) late).2):=hide ((uh HDR c5 kind (k ++ [⟨nm,true⟩]) late (kOK_snoc (uh HIN).kk (uh HPL) true)).2.2 _ ((uh HOK5).less (by omega)))
  have hl7:=uh HLN c5 kind (k ++ [⟨nm,true⟩]) late (kOK_snoc (uh HIN).kk (uh HPL) true)
  have hl8:=uh HLN (exF code vs rank f c5 kind (k ++ [⟨nm,true⟩]) late).2 kind (k ++ [⟨nm,false⟩]) late (kOK_snoc (uh HIN).kk (uh HPL) false)
  have HL2 : Hid (∀ Y,Y = w7.drew → Calls Tryz.prog 49 #[.slice ka k.length kc,.string nm,.bool false] Y _):=hide (fun Y hY => by subst hY; exact longer_next hf (uh HC) (uh HIN) hw8 (by omega) ((uh HIN).at hw8.1).kl (uh HIN).kk hk4 ((uh HOK7).less (by omega)) kind late (uh HPL) false)
  have HL78:=hide (And.intro hl7 hl8)
  clear hdr hw8 hl7 hl8 HL1 HE1 s0 s1 o0 o1
  go_wp2_with fail
  go_region_held3 (fun w' => w'.cell? ⟨w.heap.size,0,none⟩ = some (.slice sa vs.length sc) ∧ w'.cell? ⟨w.heap.size,1,none⟩ = some (.int .i64 rank)) (first | exact uh HZ2 | go_keep) (first | (go_at_call 49; refine (uh HL2 _ rfl).mono ?_; rintro e w8 ⟨va8,vn8,vc8,rfl,o0,o1,HE2⟩) | (go_at_call 32; (try rw [hwd]); refine (uh HE2).mono ?_; rintro e w9 ⟨a9,n9,p9,a10,n10,p10,w10,rfl,u0,u1,HZ2,HR,HW10⟩) | (refine step_append_run rfl _ _ 55 55 rfl rfl _ _ _ rfl rfl (uh HR) ?_))
  obtain ⟨a11,n11,p11,w11,HR2,HW11⟩:=(uh HW10).snoc 24 0 nm (by have:=uh HL78; rw [List.length_append]; omega)
  have H5:=hide ((uh HW11).end)
  clear HL2 HE2 HW7 HW10 HW11 r0 r1 o0 o1 u0 u1 HZ2 HR
  go_wp2_with (at_builtin; go_must (refine wpList_append_run rfl _ _ 55 55 rfl rfl _ _ _ rfl rfl (uh HR2) ?_))
  first | go_ret | skip
  rw [uh HPO]
  exact uh H5
 ·have b2 : ((how : Int) == 2) = false:=by rw [beq_eq_false_iff_ne]; omega
  have b3 : ((how : Int) == 3) = false:=by rw [beq_eq_false_iff_ne]; omega
  have b4 : ((how : Int) == 4) = false:=by rw [beq_eq_false_iff_ne]; omega
  have b5 : ((how : Int) == 5) = false:=by rw [beq_eq_false_iff_ne]; omega
  have b6 : ((how : Int) == 6) = false:=by rw [beq_eq_false_iff_ne]; omega
  have b7 : ((how : Int) == 7) = false:=by rw [beq_eq_false_iff_ne]; omega
  have b8 : ((how : Int) == 8) = false:=by rw [beq_eq_false_iff_ne]; omega
  have b9 : ((how : Int) == 9) = true:=by rw [beq_iff_eq]; omega
  clear hw
  go_wp2_with fail
  refine (uh HFD).mono ?_
  rintro e w4 ⟨xa,xcap,rfl,ho4,hb4⟩
  have HX4:=hide ((uh HX3).below hb4)
  have HO4:=hide ho4
  have hw34:=hb4.size
  clear ho4 hb4 HFD t0 t1 y2
  generalize hNM : fnF vs rank 2 k late = NM at *
  have HPK:=hide (pick_ok (uh HX4).cu NM.length (by omega) ((uh HOK3).less (by omega)))
  have hlt:=pkF_lt code (m:=NM.length) c3 (by omega)
  have hok5 : okB (3 * kE f + 3) (pkF code NM.length c3).2:=pkF_ok (uh HOK3)
  have e9 : mgF code (exF code vs rank f) c3 kind k late NM = ((exF code vs rank f (pkF code NM.length c3).2 kind (k ++ [⟨NM.getD (pkF code NM.length c3).1 noN,true⟩]) late).1 ++ (exF code vs rank f (exF code vs rank f (pkF code NM.length c3).2 kind (k ++ [⟨NM.getD (pkF code NM.length c3).1 noN,true⟩]) late).2 kind (k ++ [⟨NM.getD (pkF code NM.length c3).1 noN,false⟩]) late).1 ++ [⟨24,0,NM.getD (pkF code NM.length c3).1 noN⟩],(exF code vs rank f (exF code vs rank f (pkF code NM.length c3).2 kind (k ++ [⟨NM.getD (pkF code NM.length c3).1 noN,true⟩]) late).2 kind (k ++ [⟨NM.getD (pkF code NM.length c3).1 noN,false⟩]) late).2):=rfl
  rw [e9] at HPO
  clear e9
  generalize pkF code NM.length c3 = P at *
  obtain ⟨j,c5⟩:=P
  have HPK2 : Hid (Calls Tryz.prog 9 #[.pointer (some ⟨cb,0,none⟩),.int .i64 NM.length] w4 (CuAns code W0 cb cv w4 (.int .i64 j) c5)):=HPK
  have hj : j < NM.length:=hlt
  have HOK5 : Hid (okB (3 * kE f + 3) c5):=hok5
  have hjI : (j : Int) < (NM.length : Int):=by omega
  obtain ⟨g,cap,hv,_⟩:=(uh HO4).scell hj (by omega)
  rw [hv]
  rw [hv] at HO4
  have HPL : Hid (plainB (NM.getD j noN) = true):=by
   show _ = _
   rw [← hNM] at hj ⊢
   exact fnTo_ok (uh HIN).vk rank 2 k late vs.length _ (getD_mem hj)
  have hcw : cb < w3.heap.size:=(uh HX3).cu.blk.lt
  clear hv HPK hlt hok5
  replace HPO : Hid (PO = ExAns code W0 cb cv w ((exF code vs rank f c5 kind (k ++ [⟨NM.getD j noN,true⟩]) late).1 ++ (exF code vs rank f (exF code vs rank f c5 kind (k ++ [⟨NM.getD j noN,true⟩]) late).2 kind (k ++ [⟨NM.getD j noN,false⟩]) late).1 ++ [⟨24,0,NM.getD j noN⟩],(exF code vs rank f (exF code vs rank f c5 kind (k ++ [⟨NM.getD j noN,true⟩]) late).2 kind (k ++ [⟨NM.getD j noN,false⟩]) late).2)):=HPO
  go_wp2_with fail
  refine (uh HPK2).mono ?_
  rintro e w5 ⟨rfl,hc5,ht5⟩
  obtain ⟨g2,cap2,hv2,g0⟩:=((uh HO4).trk ht5 hcw).scell hj (by omega)
  simp only [Value.slice.injEq,Option.some.injEq,Addr.mk.injEq] at hv2
  obtain ⟨⟨rfl,_,_⟩,_,rfl⟩:=hv2
  have HX5:=hide ((uh HX4).go hc5 ht5)
  clear HPK2 hc5 ht5 hNM
  generalize NM.getD j noN = nm at *
  generalize NM.length = NL at *
  have hdr : Below w5.heap.size w5 w5.drew:=(Below.refl _ _).drew
  have hx6:=(uh HX5).below hdr
  have HL1 : Hid (∀ Y,Y = w5.drew → Calls Tryz.prog 49 #[.slice ka k.length kc,.string nm,.bool true] Y _):=hide (fun Y hY => by subst hY; exact longer_first hf (uh HC) (uh HIN) hx6 ((uh HIN).at hx6).kl (uh HIN).kk hk4 ((uh HOK5).less (by omega)) kind late (uh HPL) true)
  have s0:=(uh HX5).box.cell (i:=0) (v:=.slice sa vs.length sc) rfl
  have s1:=(uh HX5).box.cell (i:=1) (v:=.int .i64 rank) rfl
  have hwd : IntKind.i64.wrap (d + 1) = d + 1:=by rw [IntKind.wrap_i64]; omega
  clear hdr hx6
  go_wp2_with fail
  clear g0
  go_region_held3 (fun w' => w'.cell? ⟨w.heap.size,0,none⟩ = some (.slice sa vs.length sc) ∧ w'.cell? ⟨w.heap.size,1,none⟩ = some (.int .i64 rank)) (go_keep) (first | (go_at_call 49; refine (uh HL1 _ rfl).mono ?_; rintro e w6 ⟨va,vn,vc,rfl,o0,o1,HE1⟩) | (go_at_call 32; (try rw [hwd]); refine (uh HE1).mono ?_; rintro e w7 ⟨a7,n7,p7,rfl,r0,r1,HW7⟩))
  have hdr : Below w7.heap.size w7 w7.drew:=(Below.refl _ _).drew
  have hw8:=(uh HW7).go ((uh HW7).1.below hdr) (Tr.of_below hdr)
  have HOK7 : Hid (okB (2 * kE f + 3) (exF code vs rank f c5 kind (k ++ [⟨nm,true⟩]) late).2):=hide ((uh HDR c5 kind (k ++ [⟨nm,true⟩]) late (kOK_snoc (uh HIN).kk (uh HPL) true)).2.2 _ ((uh HOK5).less (by omega)))
  have hl7:=uh HLN c5 kind (k ++ [⟨nm,true⟩]) late (kOK_snoc (uh HIN).kk (uh HPL) true)
  have hl8:=uh HLN (exF code vs rank f c5 kind (k ++ [⟨nm,true⟩]) late).2 kind (k ++ [⟨nm,false⟩]) late (kOK_snoc (uh HIN).kk (uh HPL) false)
  have HL2 : Hid (∀ Y,Y = w7.drew → Calls Tryz.prog 49 #[.slice ka k.length kc,.string nm,.bool false] Y _):=hide (fun Y hY => by subst hY; exact longer_next hf (uh HC) (uh HIN) hw8 (by omega) ((uh HIN).at hw8.1).kl (uh HIN).kk hk4 ((uh HOK7).less (by omega)) kind late (uh HPL) false)
  have HL78:=hide (And.intro hl7 hl8)
  clear hdr hw8 hl7 hl8 HL1 HE1 s0 s1 o0 o1
  go_wp2_with fail
  go_region_held3 (fun w' => w'.cell? ⟨w.heap.size,0,none⟩ = some (.slice sa vs.length sc) ∧ w'.cell? ⟨w.heap.size,1,none⟩ = some (.int .i64 rank)) (first | exact uh HZ2 | go_keep) (first | (go_at_call 49; refine (uh HL2 _ rfl).mono ?_; rintro e w8 ⟨va8,vn8,vc8,rfl,o0,o1,HE2⟩) | (go_at_call 32; (try rw [hwd]); refine (uh HE2).mono ?_; rintro e w9 ⟨a9,n9,p9,a10,n10,p10,w10,rfl,u0,u1,HZ2,HR,HW10⟩) | (refine step_append_run rfl _ _ 55 55 rfl rfl _ _ _ rfl rfl (uh HR) ?_))
  obtain ⟨a11,n11,p11,w11,HR2,HW11⟩:=(uh HW10).snoc 24 0 nm (by have:=uh HL78; rw [List.length_append]; omega)
  have H5:=hide ((uh HW11).end)
  clear HL2 HE2 HW7 HW10 HW11 r0 r1 o0 o1 u0 u1 HZ2 HR
  go_wp2_with (at_builtin; go_must (refine wpList_append_run rfl _ _ 55 55 rfl rfl _ _ _ rfl rfl (uh HR2) ?_))
  first | go_ret | skip
  rw [uh HPO]
  exact uh H5
end
end Go.Proofs.YtajabbnlbopcbaaGreatDoor
