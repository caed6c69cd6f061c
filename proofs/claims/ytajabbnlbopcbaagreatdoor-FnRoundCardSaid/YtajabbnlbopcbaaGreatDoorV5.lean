import Derived.Test.YtajabbnlbopcbaaGreatDoorV3
namespace Go.Proofs.YtajabbnlbopcbaaGreatDoor
open Go.RowKit
set_option linter.unusedSimpArgs false
set_option linter.unusedVariables false
section
variable {code : List Int} {W0 : World} {cb : Nat} {cv : Value} {w : World} {c c' : Cur} {vs : List DVar} {sv kv : Value} {k : List DCond} {b7 rank : Nat} {X Y : World}
set_option maxRecDepth 4000 in
set_option maxHeartbeats 8000000 in
theorem exp_const {f : Nat} (hf : f ≤ 5) {d : Int} (hd0 : 0 ≤ d) (hd5 : d ≤ 5) (hC : ExC code W0 cb cv vs rank f (d + 1)) {kind : Int} {late : Bool} (hin : ExIn code W0 cb cv vs w c sv kv k) (hok : okB (kE (f + 1)) c) {how : Nat} {c3 : Cur} (hP12 : pkF code 12 (dcR c) = (how,c3)) (hroom : 0 < c3.room) (hw : how = 2) :
  Calls Tryz.prog 32 #[.pointer (some ⟨cb,0,none⟩),.agg #[sv,.int .i64 rank],.int .i64 kind,kv,.bool late,.int .i64 d] w (ExAns code W0 cb cv w (cnF code kind c3)):=by
 have hkE : 3 ≤ kE (f + 1):=by generalize f + 1 = F9; cases F9 <;> simp [kE]
 obtain ⟨sa,sc,rfl⟩:=hin.sl.shape
 obtain ⟨ka,kc,rfl⟩:=hin.kl.shape
 have hcu:=hin.cu
 have hblk:=hcu.blk
 have hcl:=hblk.lt
 obtain ⟨A,hAA⟩ : ∃ A,A = w.setCell ⟨cb,2,none⟩ (.int .i64 (c.room - 1)):=⟨_,rfl⟩
 have hTA : Tr cb w A:=hAA ▸ Tr.setCell _ _ _ _
 have hcA : CuAt code W0 cb cv A (dcR c):=hcu.go hTA (by rw [hAA]; exact hblk.set 2 _)
 have hAz : A.heap.size = w.heap.size:=by rw [hAA]; simp
 obtain ⟨B,hBB⟩ : ∃ B,B = A.alloc (.cells #[.slice sa vs.length sc,.int .i64 rank] 91):=⟨_,rfl⟩
 have hB : Below A.heap.size A B:=hBB ▸ (Below.refl _ _).alloc (Nat.le_refl _) _
 have hbs : BlkAt B w.heap.size 91 #[.slice sa vs.length sc,.int .i64 rank]:=by rw [hBB,← hAz]; exact blk_box A _ _
 have hcB:=hcA.below hB
 have hxB : Xs code W0 cb cv w w.heap.size (.slice sa vs.length sc) rank B (dcR c):=⟨hcB,hbs,hTA.trans (Tr.of_below hB),hcl,Nat.le_refl _⟩
 have hinB:=hin.at hxB
 have HFD:=hide (find_ok (hinB.sl.lower RVar_lowers (Nat.zero_le _)) (hinB.kl.lower RCond_lowers (Nat.zero_le _)) (Nat.le_trans hin.few (by omega)) rank kind late)
 have hok1 : okB (kE (f + 1) - 1) (dcR c):=by
  obtain ⟨g1,g2,g3,g4⟩:=hok
  exact ⟨by simp only [dcR]; omega,by simp only [dcR]; omega,by simp only [dcR]; omega,g4⟩
 have hokp : okB (kE (f + 1) - 2) (pkF code 12 (dcR c)).2:=pkF_ok (by rw [show kE (f + 1) - 2 + 1 = kE (f + 1) - 1 by omega]; exact hok1)
 have hrm:=pkF_room code 12 (dcR c)
 have hhow:=pkF_lt code (m:=12) (dcR c) (by omega)
 have HPK : Hid (∀ X,Below B.heap.size B X → Calls Tryz.prog 9 #[.pointer (some ⟨cb,0,none⟩),.int .i64 12] X (CuAns code W0 cb cv X (.int .i64 (pkF code 12 (dcR c)).1) (pkF code 12 (dcR c)).2)):=hide (fun X hX => pick_ok (hcB.below hX) 12 (by omega) (hok1.less (by omega)))
 have c2:=hblk.cell (i:=2) (v:=.int .i64 c.room) rfl
 have f2:=hblk.free 2
 have s0:=hxB.box.cell (i:=0) (v:=.slice sa vs.length sc) rfl
 have s1:=hxB.box.cell (i:=1) (v:=.int .i64 rank) rfl
 obtain ⟨PO,hPO⟩ : ∃ PO : Ending → World → Prop,PO = ExAns code W0 cb cv w (cnF code kind c3):=⟨_,rfl⟩
 rw [← hPO]
 have HPO:=hide hPO
 have HIN:=hide hin
 have HXB:=hide hxB
 have HAB:=hide (And.intro hAA hBB)
 have hbd:=hok
 obtain ⟨r1,r2,r3,r4⟩:=hbd
 have hrm2 : (pkF code 12 (dcR c)).2.room = c.room - 1:=hrm
 rw [hBB,hAA] at s0 s1
 clear hcu hblk hTA hcA hAz hB hbs hcB hxB hinB hok1 hPO hin hAA hBB hrm
 rw [hP12] at hokp hhow hrm2 HPK
 replace hokp : okB (kE (f + 1) - 2) c3:=hokp
 replace hhow : how < 12:=hhow
 replace hrm2 : c3.room = c.room - 1:=hrm2
 replace HPK : Hid (∀ X,Below B.heap.size B X → Calls Tryz.prog 9 #[.pointer (some ⟨cb,0,none⟩),.int .i64 12] X (CuAns code W0 cb cv X (.int .i64 how) c3)):=HPK
 clear hP12
 go_enter Tryz.func32,Tryz.ntmps32
 go_wp2_with fail
 rw [← (uh HAB).1,← (uh HAB).2]
 refine (uh HFD).mono ?_
 rintro e w2 ⟨na,ncap,rfl,hno,hb2⟩
 have HP3:=hide (uh HPK _ hb2)
 have HX2:=hide ((uh HXB).below hb2)
 have HNO:=hide hno
 clear hno HFD HPK s0 s1 c2 f2
 go_wp2_with fail
 refine (uh HP3).mono ?_
 rintro e w3 ⟨rfl,hc3,ht3⟩
 have HX3:=hide ((uh HX2).go hc3 ht3)
 have hnb : ∀ b,(Value.slice na (fnF vs rank kind k late).length ncap).ownBlock = some b → b ≠ cb:=fun b hb => by have:=(World.ownsRow.lt (uh HNO) b hb).1; have:=(uh HXB).tr.size; omega
 have HN3:=hide ((uh HNO).ofBlock (fun b hb => ht3.block b (World.ownsRow.lt (uh HNO) b hb).2 (hnb b hb)))
 have y2:=(uh HX3).cu.blk.cell (i:=2) (v:=.int .i64 c3.room) rfl
 have t0:=(uh HX3).box.cell (i:=0) (v:=.slice sa vs.length sc) rfl
 have t1:=(uh HX3).box.cell (i:=1) (v:=.int .i64 rank) rfl
 have hBz:=(uh HXB).tr.size
 have hfl:=fnTo_len vs rank kind k late vs.length
 clear hc3 ht3 hnb HP3 HX2 HNO hb2 hrm2
 have HC:=hide hC
 have hok3 : okB (3 * kE f + 4) c3:=by have h9:=hokp; simp only [kE] at h9; exact h9.less (by omega)
 have HOK3:=hide hok3
 have HDR:=hide (exF_dr (code:=code) (rank:=rank) (uh HIN).vk f)
 have HLN : Hid (∀ c kind k late,kOK k → (exF code vs rank f c kind k late).1.length ≤ 1093):=hide (fun c kind k late hk => Nat.le_trans (exF_dr (code:=code) (rank:=rank) (uh HIN).vk f c kind k late hk).2.1 (szE_le (by omega)))
 have q1 : decide (c3.room ≤ 0) = false:=by simp; omega
 have q2 : decide (5 < d) = false:=by simp; omega
 have q3 : decide ((how : Int) ≤ 1) = false:=by simp; omega
 have q4 : decide (how ≤ 1) = false:=by simp; omega
 have HHW:=hide hhow
 clear hC hok3 hokp hok hkE r1 r2 r3 r4 hfl hroom hhow
 have b2 : ((how : Int) == 2) = true:=by rw [beq_iff_eq]; omega
 clear hw
 have HCN:=hide (const_ok (uh HX3).cu kind ((uh HOK3).less (by omega)))
 go_wp2_with fail
 refine (uh HCN).mono ?_
 rintro e w4 h4
 have HF4:=hide (h4.up (uh HX3).tr)
 obtain ⟨a4,cap4,rfl,_⟩:=h4
 clear HCN
 go_wp2
 first | go_ret | skip
 rw [uh HPO]
 exact uh HF4
set_option maxRecDepth 4000 in
set_option maxHeartbeats 8000000 in
theorem exp_if {f : Nat} (hf : f ≤ 5) {d : Int} (hd0 : 0 ≤ d) (hd5 : d ≤ 5) (hC : ExC code W0 cb cv vs rank f (d + 1)) {kind : Int} {late : Bool} (hin : ExIn code W0 cb cv vs w c sv kv k) (hok : okB (kE (f + 1)) c) {how : Nat} {c3 : Cur} (hP12 : pkF code 12 (dcR c) = (how,c3)) (hroom : 0 < c3.room) (hw : how = 5) :
  Calls Tryz.prog 32 #[.pointer (some ⟨cb,0,none⟩),.agg #[sv,.int .i64 rank],.int .i64 kind,kv,.bool late,.int .i64 d] w (ExAns code W0 cb cv w (ifF (exF code vs rank f) c3 kind k late)):=by
 have hkE : 3 ≤ kE (f + 1):=by generalize f + 1 = F9; cases F9 <;> simp [kE]
 obtain ⟨sa,sc,rfl⟩:=hin.sl.shape
 obtain ⟨ka,kc,rfl⟩:=hin.kl.shape
 have hcu:=hin.cu
 have hblk:=hcu.blk
 have hcl:=hblk.lt
 obtain ⟨A,hAA⟩ : ∃ A,A = w.setCell ⟨cb,2,none⟩ (.int .i64 (c.room - 1)):=⟨_,rfl⟩
 have hTA : Tr cb w A:=hAA ▸ Tr.setCell _ _ _ _
 have hcA : CuAt code W0 cb cv A (dcR c):=hcu.go hTA (by rw [hAA]; exact hblk.set 2 _)
 have hAz : A.heap.size = w.heap.size:=by rw [hAA]; simp
 obtain ⟨B,hBB⟩ : ∃ B,B = A.alloc (.cells #[.slice sa vs.length sc,.int .i64 rank] 91):=⟨_,rfl⟩
 have hB : Below A.heap.size A B:=hBB ▸ (Below.refl _ _).alloc (Nat.le_refl _) _
 have hbs : BlkAt B w.heap.size 91 #[.slice sa vs.length sc,.int .i64 rank]:=by rw [hBB,← hAz]; exact blk_box A _ _
 have hcB:=hcA.below hB
 have hxB : Xs code W0 cb cv w w.heap.size (.slice sa vs.length sc) rank B (dcR c):=⟨hcB,hbs,hTA.trans (Tr.of_below hB),hcl,Nat.le_refl _⟩
 have hinB:=hin.at hxB
 have HFD:=hide (find_ok (hinB.sl.lower RVar_lowers (Nat.zero_le _)) (hinB.kl.lower RCond_lowers (Nat.zero_le _)) (Nat.le_trans hin.few (by omega)) rank kind late)
 have hok1 : okB (kE (f + 1) - 1) (dcR c):=by
  obtain ⟨g1,g2,g3,g4⟩:=hok
  exact ⟨by simp only [dcR]; omega,by simp only [dcR]; omega,by simp only [dcR]; omega,g4⟩
 have hokp : okB (kE (f + 1) - 2) (pkF code 12 (dcR c)).2:=pkF_ok (by rw [show kE (f + 1) - 2 + 1 = kE (f + 1) - 1 by omega]; exact hok1)
 have hrm:=pkF_room code 12 (dcR c)
 have hhow:=pkF_lt code (m:=12) (dcR c) (by omega)
 have HPK : Hid (∀ X,Below B.heap.size B X → Calls Tryz.prog 9 #[.pointer (some ⟨cb,0,none⟩),.int .i64 12] X (CuAns code W0 cb cv X (.int .i64 (pkF code 12 (dcR c)).1) (pkF code 12 (dcR c)).2)):=hide (fun X hX => pick_ok (hcB.below hX) 12 (by omega) (hok1.less (by omega)))
 have c2:=hblk.cell (i:=2) (v:=.int .i64 c.room) rfl
 have f2:=hblk.free 2
 have s0:=hxB.box.cell (i:=0) (v:=.slice sa vs.length sc) rfl
 have s1:=hxB.box.cell (i:=1) (v:=.int .i64 rank) rfl
 obtain ⟨PO,hPO⟩ : ∃ PO : Ending → World → Prop,PO = ExAns code W0 cb cv w (ifF (exF code vs rank f) c3 kind k late):=⟨_,rfl⟩
 rw [← hPO]
 have HPO:=hide hPO
 have HIN:=hide hin
 have HXB:=hide hxB
 have HAB:=hide (And.intro hAA hBB)
 have hbd:=hok
 obtain ⟨r1,r2,r3,r4⟩:=hbd
 have hrm2 : (pkF code 12 (dcR c)).2.room = c.room - 1:=hrm
 rw [hBB,hAA] at s0 s1
 clear hcu hblk hTA hcA hAz hB hbs hcB hxB hinB hok1 hPO hin hAA hBB hrm
 rw [hP12] at hokp hhow hrm2 HPK
 replace hokp : okB (kE (f + 1) - 2) c3:=hokp
 replace hhow : how < 12:=hhow
 replace hrm2 : c3.room = c.room - 1:=hrm2
 replace HPK : Hid (∀ X,Below B.heap.size B X → Calls Tryz.prog 9 #[.pointer (some ⟨cb,0,none⟩),.int .i64 12] X (CuAns code W0 cb cv X (.int .i64 how) c3)):=HPK
 clear hP12
 go_enter Tryz.func32,Tryz.ntmps32
 go_wp2_with fail
 rw [← (uh HAB).1,← (uh HAB).2]
 refine (uh HFD).mono ?_
 rintro e w2 ⟨na,ncap,rfl,hno,hb2⟩
 have HP3:=hide (uh HPK _ hb2)
 have HX2:=hide ((uh HXB).below hb2)
 have HNO:=hide hno
 clear hno HFD HPK s0 s1 c2 f2
 go_wp2_with fail
 refine (uh HP3).mono ?_
 rintro e w3 ⟨rfl,hc3,ht3⟩
 have HX3:=hide ((uh HX2).go hc3 ht3)
 have hnb : ∀ b,(Value.slice na (fnF vs rank kind k late).length ncap).ownBlock = some b → b ≠ cb:=fun b hb => by have:=(World.ownsRow.lt (uh HNO) b hb).1; have:=(uh HXB).tr.size; omega
 have HN3:=hide ((uh HNO).ofBlock (fun b hb => ht3.block b (World.ownsRow.lt (uh HNO) b hb).2 (hnb b hb)))
 have y2:=(uh HX3).cu.blk.cell (i:=2) (v:=.int .i64 c3.room) rfl
 have t0:=(uh HX3).box.cell (i:=0) (v:=.slice sa vs.length sc) rfl
 have t1:=(uh HX3).box.cell (i:=1) (v:=.int .i64 rank) rfl
 have hBz:=(uh HXB).tr.size
 have hfl:=fnTo_len vs rank kind k late vs.length
 clear hc3 ht3 hnb HP3 HX2 HNO hb2 hrm2
 have HC:=hide hC
 have hok3 : okB (3 * kE f + 4) c3:=by have h9:=hokp; simp only [kE] at h9; exact h9.less (by omega)
 have HOK3:=hide hok3
 have HDR:=hide (exF_dr (code:=code) (rank:=rank) (uh HIN).vk f)
 have HLN : Hid (∀ c kind k late,kOK k → (exF code vs rank f c kind k late).1.length ≤ 1093):=hide (fun c kind k late hk => Nat.le_trans (exF_dr (code:=code) (rank:=rank) (uh HIN).vk f c kind k late hk).2.1 (szE_le (by omega)))
 have q1 : decide (c3.room ≤ 0) = false:=by simp; omega
 have q2 : decide (5 < d) = false:=by simp; omega
 have q3 : decide ((how : Int) ≤ 1) = false:=by simp; omega
 have q4 : decide (how ≤ 1) = false:=by simp; omega
 have HHW:=hide hhow
 clear hC hok3 hokp hok hkE r1 r2 r3 r4 hfl hroom hhow
 have b2 : ((how : Int) == 2) = false:=by rw [beq_eq_false_iff_ne]; omega
 have b3 : ((how : Int) == 3) = false:=by rw [beq_eq_false_iff_ne]; omega
 have b4 : ((how : Int) == 4) = false:=by rw [beq_eq_false_iff_ne]; omega
 have b5 : ((how : Int) == 5) = true:=by rw [beq_iff_eq]; omega
 clear hw
 have s0:=t0
 have s1:=t1
 clear t0 t1
 have HE:=hide (exp_first hf (uh HC) (uh HIN) (uh HX3) ((uh HIN).at (uh HX3)).kl (uh HIN).kk (uh HIN).k4 ((uh HOK3).less (by omega)) 2 late)
 go_wp2_with fail
 refine (uh HE).mono ?_
 rintro e w4 ⟨a4,n4,p4,rfl,HW4,HT4⟩
 clear HE s0 s1
 have s0:=(uh HW4).1.box.cell (i:=0) (v:=.slice sa vs.length sc) rfl
 have s1:=(uh HW4).1.box.cell (i:=1) (v:=.int .i64 rank) rfl
 have HOK4 : Hid (okB (2 * kE f + 4) ((exF code vs rank f) c3 2 k late).2):=hide ((uh HDR c3 2 k late (uh HIN).kk).2.2 _ ((uh HOK3).less (by omega)))
 have HE:=hide (exp_next hf (uh HC) (uh HIN) (uh HW4) (by have:=uh HLN c3 2 k late (uh HIN).kk; omega) ((uh HIN).at (uh HW4).1).kl (uh HIN).kk (uh HIN).k4 ((uh HOK4).less (by omega)) kind late)
 go_wp2_with fail
 refine (uh HE).mono ?_
 rintro e v6 ⟨aa6,nn6,pp6,a6,n6,p6,w6,rfl,HR,HW6,HT6⟩
 clear HE s0 s1
 have s0:=(uh HW6).1.box.cell (i:=0) (v:=.slice sa vs.length sc) rfl
 have s1:=(uh HW6).1.box.cell (i:=1) (v:=.int .i64 rank) rfl
 have HOK6 : Hid (okB (kE f + 4) ((exF code vs rank f) ((exF code vs rank f) c3 2 k late).2 kind k late).2):=hide ((uh HDR ((exF code vs rank f) c3 2 k late).2 kind k late (uh HIN).kk).2.2 _ ((uh HOK4).less (by omega)))
 go_wp2_with (at_builtin; go_must (refine wpList_append_run rfl _ _ 55 55 rfl rfl _ _ _ rfl rfl (uh HR) ?_))
 clear HR
 have HE:=hide (exp_next hf (uh HC) (uh HIN) (uh HW6) (by have:=uh HLN c3 2 k late (uh HIN).kk; have:=uh HLN ((exF code vs rank f) c3 2 k late).2 kind k late (uh HIN).kk; simp only [List.length_append]; omega) ((uh HIN).at (uh HW6).1).kl (uh HIN).kk (uh HIN).k4 ((uh HOK6).less (by omega)) kind late)
 go_wp2_with fail
 refine (uh HE).mono ?_
 rintro e v8 ⟨aa8,nn8,pp8,a8,n8,p8,w8,rfl,HR,HW8,HT8⟩
 clear HE s0 s1
 have s0:=(uh HW8).1.box.cell (i:=0) (v:=.slice sa vs.length sc) rfl
 have s1:=(uh HW8).1.box.cell (i:=1) (v:=.int .i64 rank) rfl
 have hl9:=uh HLN c3 2 k late (uh HIN).kk
 have hl8:=uh HLN ((exF code vs rank f) c3 2 k late).2 kind k late (uh HIN).kk
 have hl7:=uh HLN ((exF code vs rank f) ((exF code vs rank f) c3 2 k late).2 kind k late).2 kind k late (uh HIN).kk
 obtain ⟨a10,n10,p10,w10,HRb,HW10⟩:=(uh HW8).snoc (20) (0) (noN) (by simp only [List.length_append]; omega)
 clear hl7 hl8 hl9
 go_wp2_with (at_builtin; go_must (first | refine wpList_append_run rfl _ _ 55 55 rfl rfl _ _ _ rfl rfl (uh HR) ?_ | refine wpList_append_run rfl _ _ 55 55 rfl rfl _ _ _ rfl rfl (uh HRb) ?_))
 first | go_ret | skip
 rw [uh HPO]
 exact (uh HW10).end.of_eq (by simp only [ifF,bin2,List.append_assoc])
end
end Go.Proofs.YtajabbnlbopcbaaGreatDoor
