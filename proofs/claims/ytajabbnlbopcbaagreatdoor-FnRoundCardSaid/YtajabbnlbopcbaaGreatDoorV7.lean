import Derived.Test.YtajabbnlbopcbaaGreatDoorV6
import Derived.Deep.RegionHeld3
namespace Go.Proofs.YtajabbnlbopcbaaGreatDoor
open Go.RowKit
set_option linter.unusedSimpArgs false
set_option linter.unusedVariables false
section
variable {code : List Int} {W0 : World} {cb : Nat} {cv : Value} {w : World} {c c' : Cur} {vs : List DVar} {sv kv : Value} {k : List DCond} {b7 rank : Nat} {X Y : World}
theorem Xs.aside (h : Xs code W0 cb cv w b7 sv rank X c) {b : Nat} (ht : Tr b X Y) (hb : b7 < b) : Xs code W0 cb cv w b7 sv rank Y c:=by
 have hlc:=h.lc
 have hlb:=h.lb
 have hlo:=h.cu.low
 exact ⟨⟨h.cu.cod,h.cu.few,h.cu.low,h.cu.old.trans (ht.below h.cu.old.size (by omega)),ht.blk h.cu.blk (by omega)⟩,ht.blk h.box (by omega),h.tr.new ht (by omega),h.lc,h.lb⟩
set_option maxRecDepth 4000 in
set_option maxHeartbeats 8000000 in
theorem exp_fbyB {f : Nat} (hf : f ≤ 5) {d : Int} (hd0 : 0 ≤ d) (hd5 : d ≤ 5) (hC : ExC code W0 cb cv vs rank f (d + 1)) {late : Bool} (hin : ExIn code W0 cb cv vs w c sv kv k) (hok : okB (kE (f + 1)) c) {how : Nat} {c3 : Cur} (hP12 : pkF code 12 (dcR c) = (how,c3)) (hroom : 0 < c3.room) (hw : how = 3 ∨ how = 4) :
  Calls Tryz.prog 32 #[.pointer (some ⟨cb,0,none⟩),.agg #[sv,.int .i64 rank],.int .i64 2,kv,.bool late,.int .i64 d] w (ExAns code W0 cb cv w (fbF code (exF code vs rank f) c3 2 k)):=by
 have hkE : 3 ≤ kE (f + 1):=by generalize f + 1 = F9; cases F9 <;> simp [kE]
 obtain ⟨sa,sc,rfl⟩:=hin.sl.shape
 obtain ⟨ka,kc,rfl⟩:=hin.kl.shape
 have hcu:=hin.cu
 have hblk:=hcu.blk
 have hcl:=hblk.lt
 obtain ⟨A,hAA⟩ : ∃ A,A = w.setCell ⟨cb,2,none⟩ (.int .i64 (c.room - 1)):=⟨_,rfl⟩
 have hTA : Tr cb w A:=hAA ▸ Tr.setCell _ _ _ _
 have hcA : CuAt code W0 cb cv A (dcR c):=hcu.go hTA (by rw [hAA]; exact hblk.set 2 _)
 have hAz : A.heap.size = w.heap.size:=by rw [hAA]; simp
 obtain ⟨B,hBB⟩ : ∃ B,B = A.alloc (.cells #[.slice sa vs.length sc,.int .i64 rank] 91):=⟨_,rfl⟩
 have hB : Below A.heap.size A B:=hBB ▸ (Below.refl _ _).alloc (Nat.le_refl _) _
 have hbs : BlkAt B w.heap.size 91 #[.slice sa vs.length sc,.int .i64 rank]:=by rw [hBB,← hAz]; exact blk_box A _ _
 have hcB:=hcA.below hB
 have hxB : Xs code W0 cb cv w w.heap.size (.slice sa vs.length sc) rank B (dcR c):=⟨hcB,hbs,hTA.trans (Tr.of_below hB),hcl,Nat.le_refl _⟩
 have hinB:=hin.at hxB
 have HFD:=hide (find_ok (hinB.sl.lower RVar_lowers (Nat.zero_le _)) (hinB.kl.lower RCond_lowers (Nat.zero_le _)) (Nat.le_trans hin.few (by omega)) rank 2 late)
 have hok1 : okB (kE (f + 1) - 1) (dcR c):=by
  obtain ⟨g1,g2,g3,g4⟩:=hok
  exact ⟨by simp only [dcR]; omega,by simp only [dcR]; omega,by simp only [dcR]; omega,g4⟩
 have hokp : okB (kE (f + 1) - 2) (pkF code 12 (dcR c)).2:=pkF_ok (by rw [show kE (f + 1) - 2 + 1 = kE (f + 1) - 1 by omega]; exact hok1)
 have hrm:=pkF_room code 12 (dcR c)
 have hhow:=pkF_lt code (m:=12) (dcR c) (by omega)
 have HPK : Hid (∀ X,Below B.heap.size B X → Calls Tryz.prog 9 #[.pointer (some ⟨cb,0,none⟩),.int .i64 12] X (CuAns code W0 cb cv X (.int .i64 (pkF code 12 (dcR c)).1) (pkF code 12 (dcR c)).2)):=hide (fun X hX => pick_ok (hcB.below hX) 12 (by omega) (hok1.less (by omega)))
 have c2:=hblk.cell (i:=2) (v:=.int .i64 c.room) rfl
 have f2:=hblk.free 2
 have s0:=hxB.box.cell (i:=0) (v:=.slice sa vs.length sc) rfl
 have s1:=hxB.box.cell (i:=1) (v:=.int .i64 rank) rfl
 obtain ⟨PO,hPO⟩ : ∃ PO : Ending → World → Prop,PO = ExAns code W0 cb cv w (fbF code (exF code vs rank f) c3 2 k):=⟨_,rfl⟩
 rw [← hPO]
 have HPO:=hide hPO
 have HIN:=hide hin
 have HXB:=hide hxB
 have HAB:=hide (And.intro hAA hBB)
 have hbd:=hok
 obtain ⟨r1,r2,r3,r4⟩:=hbd
 have hrm2 : (pkF code 12 (dcR c)).2.room = c.room - 1:=hrm
 rw [hBB,hAA] at s0 s1
 clear hcu hblk hTA hcA hAz hB hbs hcB hxB hinB hok1 hPO hin hAA hBB hrm
 rw [hP12] at hokp hhow hrm2 HPK
 replace hokp : okB (kE (f + 1) - 2) c3:=hokp
 replace hhow : how < 12:=hhow
 replace hrm2 : c3.room = c.room - 1:=hrm2
 replace HPK : Hid (∀ X,Below B.heap.size B X → Calls Tryz.prog 9 #[.pointer (some ⟨cb,0,none⟩),.int .i64 12] X (CuAns code W0 cb cv X (.int .i64 how) c3)):=HPK
 clear hP12
 go_enter Tryz.func32,Tryz.ntmps32
 go_wp2_with fail
 rw [← (uh HAB).1,← (uh HAB).2]
 refine (uh HFD).mono ?_
 rintro e w2 ⟨na,ncap,rfl,hno,hb2⟩
 have HP3:=hide (uh HPK _ hb2)
 have HX2:=hide ((uh HXB).below hb2)
 have HNO:=hide hno
 clear hno HFD HPK s0 s1 c2 f2
 go_wp2_with fail
 refine (uh HP3).mono ?_
 rintro e w3 ⟨rfl,hc3,ht3⟩
 have HX3:=hide ((uh HX2).go hc3 ht3)
 have hnb : ∀ b,(Value.slice na (fnF vs rank 2 k late).length ncap).ownBlock = some b → b ≠ cb:=fun b hb => by have:=(World.ownsRow.lt (uh HNO) b hb).1; have:=(uh HXB).tr.size; omega
 have HN3:=hide ((uh HNO).ofBlock (fun b hb => ht3.block b (World.ownsRow.lt (uh HNO) b hb).2 (hnb b hb)))
 have y2:=(uh HX3).cu.blk.cell (i:=2) (v:=.int .i64 c3.room) rfl
 have t0:=(uh HX3).box.cell (i:=0) (v:=.slice sa vs.length sc) rfl
 have t1:=(uh HX3).box.cell (i:=1) (v:=.int .i64 rank) rfl
 have hBz:=(uh HXB).tr.size
 have hfl:=fnTo_len vs rank 2 k late vs.length
 clear hc3 ht3 hnb HP3 HX2 HNO hb2 hrm2
 have HC:=hide hC
 have hok3 : okB (3 * kE f + 4) c3:=by have h9:=hokp; simp only [kE] at h9; exact h9.less (by omega)
 have HOK3:=hide hok3
 have HDR:=hide (exF_dr (code:=code) (rank:=rank) (uh HIN).vk f)
 have HLN : Hid (∀ c kind k late,kOK k → (exF code vs rank f c kind k late).1.length ≤ 1093):=hide (fun c kind k late hk => Nat.le_trans (exF_dr (code:=code) (rank:=rank) (uh HIN).vk f c kind k late hk).2.1 (szE_le (by omega)))
 have q1 : decide (c3.room ≤ 0) = false:=by simp; omega
 have q2 : decide (5 < d) = false:=by simp; omega
 have q3 : decide ((how : Int) ≤ 1) = false:=by simp; omega
 have q4 : decide (how ≤ 1) = false:=by simp; omega
 have HHW:=hide hhow
 clear hC hok3 hokp hok hkE r1 r2 r3 r4 hfl hroom hhow
 have e9 : fbF code (exF code vs rank f) c3 2 k = ((exF code vs rank f (pkF code 2 (pkF code 9 c3).2).2 2 k true).1 ++ [⟨22,(pkF code 2 (pkF code 9 c3).2).1,noN⟩],(exF code vs rank f (pkF code 2 (pkF code 9 c3).2).2 2 k true).2):=by unfold fbF; rw [if_pos rfl]
 rw [e9] at HPO
 have HP9:=hide (pick_ok (uh HX3).cu 9 (by omega) ((uh HOK3).less (by omega)))
 have hlt:=pkF_lt code (m:=9) c3 (by omega)
 have hok4 : okB (3 * kE f + 3) (pkF code 9 c3).2:=pkF_ok (uh HOK3)
 clear e9
 generalize pkF code 9 c3 = P at *
 obtain ⟨v4,c4⟩:=P
 replace HP9 : Hid (Calls Tryz.prog 9 #[.pointer (some ⟨cb,0,none⟩),.int .i64 9] w3 (CuAns code W0 cb cv w3 (.int .i64 v4) c4)):=HP9
 replace hlt : v4 < 9:=hlt
 have HOK4 : Hid (okB (3 * kE f + 3) c4):=hok4
 replace HPO : Hid (PO = ExAns code W0 cb cv w ((exF code vs rank f (pkF code 2 c4).2 2 k true).1 ++ [⟨22,(pkF code 2 c4).1,noN⟩],(exF code vs rank f (pkF code 2 c4).2 2 k true).2)):=HPO
 clear hok4
 rcases hw with hw | hw
 ·have b2 : ((how : Int) == 2) = false:=by rw [beq_eq_false_iff_ne]; omega
  have b3 : ((how : Int) == 3) = true:=by rw [beq_iff_eq]; omega
  clear hw
  go_wp2_with fail
  refine (uh HP9).mono ?_
  rintro e w4 ⟨rfl,hc4,ht4⟩
  obtain ⟨XW,hXW⟩ : ∃ XW,XW = w4.alloc (.cells #[.int .i64 21,.int .i64 ((v4 : Int) - 4),Value.string ⟨#[]⟩] 88):=⟨_,rfl⟩
  have HXW:=hide hXW
  have hxa : Below w4.heap.size w4 XW:=hXW ▸ (Below.refl _ _).alloc (Nat.le_refl _) _
  have HX4:=hide ((uh HX3).go hc4 ht4)
  have HXL:=hide ((uh HX4).below hxa)
  have HIB : Hid (BlkAt XW w4.heap.size 88 #[.int .i64 21,.int .i64 ((v4 : Int) - 4),Value.string ⟨#[]⟩]):=hXW ▸ blk_box w4 _ _
  have HNE : Hid (w4.heap.size ≠ cb):=hide (by have:=(uh HX4).cu.blk.lt; omega)
  clear HP9 hc4 ht4 hXW hxa t0 t1 y2
  have HP2:=hide (pick_ok (uh HXL).cu 2 (by omega) ((uh HOK4).less (by omega)))
  have hlt2:=pkF_lt code (m:=2) c4 (by omega)
  have hok5 : okB (3 * kE f + 2) (pkF code 2 c4).2:=pkF_ok (uh HOK4)
  generalize pkF code 2 c4 = P at *
  obtain ⟨v5,c5⟩:=P
  replace HP2 : Hid (Calls Tryz.prog 9 #[.pointer (some ⟨cb,0,none⟩),.int .i64 2] XW (CuAns code W0 cb cv XW (.int .i64 v5) c5)):=HP2
  replace hlt2 : v5 < 2:=hlt2
  have HOK5 : Hid (okB (3 * kE f + 2) c5):=hok5
  replace HPO : Hid (PO = ExAns code W0 cb cv w ((exF code vs rank f c5 2 k true).1 ++ [⟨22,(v5 : Int),noN⟩],(exF code vs rank f c5 2 k true).2)):=HPO
  clear hok5
  go_wp2_with fail
  rw [← uh HXW]
  refine (uh HP2).mono ?_
  rintro e w5 ⟨rfl,hc5,ht5⟩
  have hib5:=ht5.blk (uh HIB) (uh HNE)
  have h0:=hib5.cell (i:=0) (v:=.int .i64 21) rfl
  have h1:=hib5.cell (i:=1) (v:=.int .i64 ((v4 : Int) - 4)) rfl
  have h2:=hib5.cell (i:=2) (v:=Value.string ⟨#[]⟩) rfl
  have g0:=hib5.free 0
  have g1:=hib5.free 1
  have g2:=hib5.free 2
  have HX5:=hide ((uh HXL).go hc5 ht5)
  have HIB5:=hide hib5
  clear hc5 ht5 hib5 HP2 HIB HXL
  go_wp2_with fail
  obtain ⟨ZW,hZW⟩ : ∃ ZW,ZW = ((w5.setCell ⟨w4.heap.size,0,none⟩ (.int .i64 22)).setCell ⟨w4.heap.size,1,none⟩ (.int .i64 v5)).setCell ⟨w4.heap.size,2,none⟩ (Value.string ⟨#[]⟩):=⟨_,rfl⟩
  rw [← hZW]
  have htZ : Tr w4.heap.size w5 ZW:=hZW ▸ Tr.set3 _ _ _ _ _
  have hlt7 : w.heap.size < w4.heap.size:=(uh HX4).box.lt
  have HXL:=hide ((uh HX5).aside htZ hlt7)
  have HIB : Hid (BlkAt ZW w4.heap.size 88 #[.int .i64 22,.int .i64 v5,Value.string ⟨#[]⟩]):=by
   show BlkAt _ _ _ _
   rw [hZW]
   exact (((uh HIB5).set 0 _).set 1 _).set 2 _
  clear XW HXW HIB5 HX5 h0 h1 h2 g0 g1 g2 hZW htZ hlt7 HX4
  have HOKL:=HOK5
  have hdr : Below ZW.heap.size ZW ZW.drew:=(Below.refl _ _).drew
  have hda : Below ZW.drew.heap.size ZW.drew (ZW.drew.alloc (.cells #[.int .i64 22,.int .i64 (v5 : Int),Value.string ⟨#[]⟩] 88)):=(Below.refl _ _).alloc (Nat.le_refl _) _
  have hx1:=(uh HXL).below hdr
  have hx2:=hx1.below hda
  have hkk:=(uh HIN).kk
  have hk4:=(uh HIN).k4
  have HI1 : Hid (∀ Y,Y = ZW.drew → Calls Tryz.prog 32 #[.pointer (some ⟨cb,0,none⟩),.agg #[.slice sa vs.length sc,.int .i64 rank],.int .i64 2,.slice ka k.length kc,.bool true,.int .i64 (d + 1)] Y _):=hide (fun Y hY => by subst hY; exact exp_push hf (uh HC) (uh HIN) hx1 ((uh HIN).at hx1).kl hkk hk4 ((uh HOKL).less (by omega)) 2 true ((uh HIB).below hdr (uh HIB).lt) (uh HNE))
  have HI2 : Hid (∀ Y,Y = ZW.drew.alloc (.cells #[.int .i64 22,.int .i64 (v5 : Int),Value.string ⟨#[]⟩] 88) → Calls Tryz.prog 32 #[.pointer (some ⟨cb,0,none⟩),.agg #[.slice sa vs.length sc,.int .i64 rank],.int .i64 2,.slice ka k.length kc,.bool true,.int .i64 (d + 1)] Y _):=hide (fun Y hY => by exact exp_push2 hf (uh HC) (uh HIN) (hY ▸ hx2) (hY ▸ ((uh HIN).at hx2).kl) hkk hk4 ((uh HOKL).less (by omega)) 2 true (hY ▸ (((uh HIB).below hdr (uh HIB).lt).below hda (Nat.lt_of_lt_of_le (uh HIB).lt hdr.size))) (uh HNE) hY hx1.cu.blk.lt)
  have i0:=(uh HIB).cell (i:=0) (v:=.int .i64 22) rfl
  have i1:=(uh HIB).cell (i:=1) (v:=.int .i64 (v5 : Int)) rfl
  have i2:=(uh HIB).cell (i:=2) (v:=Value.string ⟨#[]⟩) rfl
  have s0:=(uh HXL).box.cell (i:=0) (v:=.slice sa vs.length sc) rfl
  have s1:=(uh HXL).box.cell (i:=1) (v:=.int .i64 rank) rfl
  clear hdr hda hx1 hx2 hkk hk4
  have hwd : IntKind.i64.wrap (d + 1) = d + 1:=by rw [IntKind.wrap_i64]; omega
  have n1:=World.new_ne ZW ⟨w.heap.size,0,none⟩ s0
  have n2:=World.new_ne ZW ⟨w.heap.size,1,none⟩ s1
  have n3:=World.new_ne ZW ⟨w4.heap.size,0,none⟩ i0
  have n4:=World.new_ne ZW ⟨w4.heap.size,1,none⟩ i1
  have n5:=World.new_ne ZW ⟨w4.heap.size,2,none⟩ i2
  go_region_held3 (fun w' => w'.cell? ⟨w.heap.size,0,none⟩ = some (.slice sa vs.length sc) ∧ w'.cell? ⟨w.heap.size,1,none⟩ = some (.int .i64 rank) ∧ w'.cell? ⟨w4.heap.size,0,none⟩ = some (.int .i64 22) ∧ w'.cell? ⟨w4.heap.size,1,none⟩ = some (.int .i64 (v5 : Int)) ∧ w'.cell? ⟨w4.heap.size,2,none⟩ = some (Value.string ⟨#[]⟩)) (first | exact uh HFV | go_keep) (first | (go_at_call 32; (try rw [hwd]); with_reducible refine (uh HI1 _ rfl).mono ?_; rintro e w9 ⟨a9,n9,p9,va,vn,vc,w5,rfl,o0,o1,o2,o3,o4,l1,l2,HFV,HRUN,HWK⟩; have m1:=World.new_ne w9 ⟨w.heap.size,0,none⟩ o0; have m2:=World.new_ne w9 ⟨w.heap.size,1,none⟩ o1; have m3:=World.new_ne w9 ⟨w4.heap.size,0,none⟩ o2; have m4:=World.new_ne w9 ⟨w4.heap.size,1,none⟩ o3; have m5:=World.new_ne w9 ⟨w4.heap.size,2,none⟩ o4) | (go_at_call 32; (try rw [hwd]); refine (uh HI2 _ rfl).mono ?_; rintro e w9 ⟨a9,n9,p9,va,vn,vc,w5,rfl,o0,o1,o2,o3,o4,HFV,HRUN,HWK⟩) | (refine step_append_run rfl _ _ 55 55 rfl rfl _ _ _ rfl rfl (uh HRUN) ?_))
  all_goals
   have H5:=hide ((uh HWK).end)
   clear HRUN HWK HI1 HI2 HC HFV
   go_wp2
   first | go_ret | skip
   rw [uh HPO]
   exact uh H5
 ·have b2 : ((how : Int) == 2) = false:=by rw [beq_eq_false_iff_ne]; omega
  have b3 : ((how : Int) == 3) = false:=by rw [beq_eq_false_iff_ne]; omega
  have b4 : ((how : Int) == 4) = true:=by rw [beq_iff_eq]; omega
  clear hw
  go_wp2_with fail
  refine (uh HP9).mono ?_
  rintro e w4 ⟨rfl,hc4,ht4⟩
  obtain ⟨XW,hXW⟩ : ∃ XW,XW = w4.alloc (.cells #[.int .i64 21,.int .i64 ((v4 : Int) - 4),Value.string ⟨#[]⟩] 88):=⟨_,rfl⟩
  have HXW:=hide hXW
  have hxa : Below w4.heap.size w4 XW:=hXW ▸ (Below.refl _ _).alloc (Nat.le_refl _) _
  have HX4:=hide ((uh HX3).go hc4 ht4)
  have HXL:=hide ((uh HX4).below hxa)
  have HIB : Hid (BlkAt XW w4.heap.size 88 #[.int .i64 21,.int .i64 ((v4 : Int) - 4),Value.string ⟨#[]⟩]):=hXW ▸ blk_box w4 _ _
  have HNE : Hid (w4.heap.size ≠ cb):=hide (by have:=(uh HX4).cu.blk.lt; omega)
  clear HP9 hc4 ht4 hXW hxa t0 t1 y2
  have HP2:=hide (pick_ok (uh HXL).cu 2 (by omega) ((uh HOK4).less (by omega)))
  have hlt2:=pkF_lt code (m:=2) c4 (by omega)
  have hok5 : okB (3 * kE f + 2) (pkF code 2 c4).2:=pkF_ok (uh HOK4)
  generalize pkF code 2 c4 = P at *
  obtain ⟨v5,c5⟩:=P
  replace HP2 : Hid (Calls Tryz.prog 9 #[.pointer (some ⟨cb,0,none⟩),.int .i64 2] XW (CuAns code W0 cb cv XW (.int .i64 v5) c5)):=HP2
  replace hlt2 : v5 < 2:=hlt2
  have HOK5 : Hid (okB (3 * kE f + 2) c5):=hok5
  replace HPO : Hid (PO = ExAns code W0 cb cv w ((exF code vs rank f c5 2 k true).1 ++ [⟨22,(v5 : Int),noN⟩],(exF code vs rank f c5 2 k true).2)):=HPO
  clear hok5
  go_wp2_with fail
  rw [← uh HXW]
  refine (uh HP2).mono ?_
  rintro e w5 ⟨rfl,hc5,ht5⟩
  have hib5:=ht5.blk (uh HIB) (uh HNE)
  have h0:=hib5.cell (i:=0) (v:=.int .i64 21) rfl
  have h1:=hib5.cell (i:=1) (v:=.int .i64 ((v4 : Int) - 4)) rfl
  have h2:=hib5.cell (i:=2) (v:=Value.string ⟨#[]⟩) rfl
  have g0:=hib5.free 0
  have g1:=hib5.free 1
  have g2:=hib5.free 2
  have HX5:=hide ((uh HXL).go hc5 ht5)
  have HIB5:=hide hib5
  clear hc5 ht5 hib5 HP2 HIB HXL
  go_wp2_with fail
  obtain ⟨ZW,hZW⟩ : ∃ ZW,ZW = ((w5.setCell ⟨w4.heap.size,0,none⟩ (.int .i64 22)).setCell ⟨w4.heap.size,1,none⟩ (.int .i64 v5)).setCell ⟨w4.heap.size,2,none⟩ (Value.string ⟨#[]⟩):=⟨_,rfl⟩
  rw [← hZW]
  have htZ : Tr w4.heap.size w5 ZW:=hZW ▸ Tr.set3 _ _ _ _ _
  have hlt7 : w.heap.size < w4.heap.size:=(uh HX4).box.lt
  have HXL:=hide ((uh HX5).aside htZ hlt7)
  have HIB : Hid (BlkAt ZW w4.heap.size 88 #[.int .i64 22,.int .i64 v5,Value.string ⟨#[]⟩]):=by
   show BlkAt _ _ _ _
   rw [hZW]
   exact (((uh HIB5).set 0 _).set 1 _).set 2 _
  clear XW HXW HIB5 HX5 h0 h1 h2 g0 g1 g2 hZW htZ hlt7 HX4
  have HOKL:=HOK5
  have hdr : Below ZW.heap.size ZW ZW.drew:=(Below.refl _ _).drew
  have hda : Below ZW.drew.heap.size ZW.drew (ZW.drew.alloc (.cells #[.int .i64 22,.int .i64 (v5 : Int),Value.string ⟨#[]⟩] 88)):=(Below.refl _ _).alloc (Nat.le_refl _) _
  have hx1:=(uh HXL).below hdr
  have hx2:=hx1.below hda
  have hkk:=(uh HIN).kk
  have hk4:=(uh HIN).k4
  have HI1 : Hid (∀ Y,Y = ZW.drew → Calls Tryz.prog 32 #[.pointer (some ⟨cb,0,none⟩),.agg #[.slice sa vs.length sc,.int .i64 rank],.int .i64 2,.slice ka k.length kc,.bool true,.int .i64 (d + 1)] Y _):=hide (fun Y hY => by subst hY; exact exp_push hf (uh HC) (uh HIN) hx1 ((uh HIN).at hx1).kl hkk hk4 ((uh HOKL).less (by omega)) 2 true ((uh HIB).below hdr (uh HIB).lt) (uh HNE))
  have HI2 : Hid (∀ Y,Y = ZW.drew.alloc (.cells #[.int .i64 22,.int .i64 (v5 : Int),Value.string ⟨#[]⟩] 88) → Calls Tryz.prog 32 #[.pointer (some ⟨cb,0,none⟩),.agg #[.slice sa vs.length sc,.int .i64 rank],.int .i64 2,.slice ka k.length kc,.bool true,.int .i64 (d + 1)] Y _):=hide (fun Y hY => by exact exp_push2 hf (uh HC) (uh HIN) (hY ▸ hx2) (hY ▸ ((uh HIN).at hx2).kl) hkk hk4 ((uh HOKL).less (by omega)) 2 true (hY ▸ (((uh HIB).below hdr (uh HIB).lt).below hda (Nat.lt_of_lt_of_le (uh HIB).lt hdr.size))) (uh HNE) hY hx1.cu.blk.lt)
  have i0:=(uh HIB).cell (i:=0) (v:=.int .i64 22) rfl
  have i1:=(uh HIB).cell (i:=1) (v:=.int .i64 (v5 : Int)) rfl
  have i2:=(uh HIB).cell (i:=2) (v:=Value.string ⟨#[]⟩) rfl
  have s0:=(uh HXL).box.cell (i:=0) (v:=.slice sa vs.length sc) rfl
  have s1:=(uh HXL).box.cell (i:=1) (v:=.int .i64 rank) rfl
  clear hdr hda hx1 hx2 hkk hk4
  have hwd : IntKind.i64.wrap (d + 1) = d + 1:=by rw [IntKind.wrap_i64]; omega
  have n1:=World.new_ne ZW ⟨w.heap.size,0,none⟩ s0
  have n2:=World.new_ne ZW ⟨w.heap.size,1,none⟩ s1
  have n3:=World.new_ne ZW ⟨w4.heap.size,0,none⟩ i0
  have n4:=World.new_ne ZW ⟨w4.heap.size,1,none⟩ i1
  have n5:=World.new_ne ZW ⟨w4.heap.size,2,none⟩ i2
  go_region_held3 (fun w' => w'.cell? ⟨w.heap.size,0,none⟩ = some (.slice sa vs.length sc) ∧ w'.cell? ⟨w.heap.size,1,none⟩ = some (.int .i64 rank) ∧ w'.cell? ⟨w4.heap.size,0,none⟩ = some (.int .i64 22) ∧ w'.cell? ⟨w4.heap.size,1,none⟩ = some (.int .i64 (v5 : Int)) ∧ w'.cell? ⟨w4.heap.size,2,none⟩ = some (Value.string ⟨#[]⟩)) (first | exact uh HFV | go_keep) (first | (go_at_call 32; (try rw [hwd]); with_reducible refine (uh HI1 _ rfl).mono ?_; rintro e w9 ⟨a9,n9,p9,va,vn,vc,w5,rfl,o0,o1,o2,o3,o4,l1,l2,HFV,HRUN,HWK⟩; have m1:=World.new_ne w9 ⟨w.heap.size,0,none⟩ o0; have m2:=World.new_ne w9 ⟨w.heap.size,1,none⟩ o1; have m3:=World.new_ne w9 ⟨w4.heap.size,0,none⟩ o2; have m4:=World.new_ne w9 ⟨w4.heap.size,1,none⟩ o3; have m5:=World.new_ne w9 ⟨w4.heap.size,2,none⟩ o4) | (go_at_call 32; (try rw [hwd]); refine (uh HI2 _ rfl).mono ?_; rintro e w9 ⟨a9,n9,p9,va,vn,vc,w5,rfl,o0,o1,o2,o3,o4,HFV,HRUN,HWK⟩) | (refine step_append_run rfl _ _ 55 55 rfl rfl _ _ _ rfl rfl (uh HRUN) ?_))
  all_goals
   have H5:=hide ((uh HWK).end)
   clear HRUN HWK HI1 HI2 HC HFV
   go_wp2
   first | go_ret | skip
   rw [uh HPO]
   exact uh H5
end
end Go.Proofs.YtajabbnlbopcbaaGreatDoor
