import Derived.Test.YtajabbnlbopcbaaGreatDoorV3
import Derived.Deep.RegionHeld3
namespace Go.Proofs.YtajabbnlbopcbaaGreatDoor
open Go.RowKit
set_option linter.unusedSimpArgs false
set_option linter.unusedVariables false
section
variable {code : List Int} {W0 : World} {cb : Nat} {cv : Value} {w : World} {c c' : Cur} {vs : List DVar} {sv kv : Value} {k : List DCond} {b7 rank : Nat} {X Y : World}
theorem SlAt.cut {lo : Nat} {a : Option Addr} {cap m : Nat} (h : SlAt 2 24 RCond lo X (.slice a k.length cap) k) (hm : m ≤ k.length) : SlAt 2 24 RCond lo X (.slice a m cap) (k.take m):=by
 obtain ⟨a9,c9,he,h1,h2,h3⟩:=h
 simp only [Value.slice.injEq] at he
 obtain ⟨rfl,_,rfl⟩:=he
 have hl : (k.take m).length = m:=by rw [List.length_take,Nat.min_eq_left hm]
 refine ⟨a,cap,by rw [hl],⟨?_,?_⟩,?_,fun i hi => ?_⟩
 ·have h9:=h1.1; unfold Len at h9 ⊢; omega
 ·rw [hl]; exact Nat.le_trans hm h1.2
 ·unfold Len at h2 ⊢; omega
 ·have hi2 : i < k.length:=by rw [hl] at hi; omega
  have h9:=h3 i hi2
  rw [List.getElem_take]
  exact h9
theorem exp_name {f : Nat} (hf : f ≤ 5) {d : Int} (hC : ExC code W0 cb cv vs rank f d) {c0 : Cur} {kv0 : Value} {k0 : List DCond} (hin : ExIn code W0 cb cv vs w c0 sv kv0 k0) (hx : Xs code W0 cb cv w b7 sv rank X c) (hkl : SlAt 2 24 RCond (cb + 1) X kv k) (hkk : kOK k) (hk4 : k.length ≤ 4) (hok : okB (kE f) c) (kind : Int) (late : Bool) {cn : ByteArray} {on : Value} {ib : Nat} (hib : BlkAt X ib 86 #[.string cn,on]) (hne : ib ≠ cb) (op val : Int) :
  Calls Tryz.prog 32 #[.pointer (some ⟨cb,0,none⟩),.agg #[sv,.int .i64 rank],.int .i64 kind,kv,.bool late,.int .i64 d] X (fun e Y => ∃ a n cap a3 n3 cap3 Z,e = .returned (.slice a n cap) ∧ Y.cell? ⟨b7,0,none⟩ = some sv ∧ Y.cell? ⟨b7,1,none⟩ = some (.int .i64 rank) ∧ Y.cell? ⟨ib,0,none⟩ = some (.string cn) ∧ Hid (AppRun (Y.alloc (.cells #[.int .i64 op,.int .i64 val,.string cn] 88)) a n cap (some ⟨Y.heap.size,0,none⟩) 1 1 a3 n3 cap3 Z) ∧ Hid (Wk code W0 cb cv w b7 sv rank Z (exF code vs rank f c kind k late).2 a3 n3 cap3 ((exF code vs rank f c kind k late).1 ++ [⟨op,val,cn⟩]))):=by
 refine (exp_first hf hC hin hx hkl hkk hk4 hok kind late).mono ?_
 rintro e Y ⟨a,n,cap,rfl,hw,ht⟩
 have hd:=exF_dr (code:=code) (rank:=rank) hin.vk f c kind k late hkk
 have hs:=szE_le (f:=f) (by omega)
 obtain ⟨a3,n3,cap3,Z,hr,hz⟩:=(uh hw).snoc op val cn (by have:=hd.2.1; omega)
 have hb:=(uh ht).blk hib hne
 exact ⟨a,n,cap,a3,n3,cap3,Z,rfl,(uh hw).1.box.cell (i:=0) rfl,(uh hw).1.box.cell (i:=1) rfl,hb.cell (i:=0) rfl,hr,hz⟩
set_option maxRecDepth 4000 in
set_option maxHeartbeats 8000000 in
theorem exp_when {f : Nat} (hf : f ≤ 5) {d : Int} (hd0 : 0 ≤ d) (hd5 : d ≤ 5) (hC : ExC code W0 cb cv vs rank f (d + 1)) {kind : Int} {late : Bool} (hin : ExIn code W0 cb cv vs w c sv kv k) (hok : okB (kE (f + 1)) c) {how : Nat} {c3 : Cur} (hP12 : pkF code 12 (dcR c) = (how,c3)) (hroom : 0 < c3.room) (hw : how = 6 ∨ how = 7) (hk0 : 0 < k.length) :
  Calls Tryz.prog 32 #[.pointer (some ⟨cb,0,none⟩),.agg #[sv,.int .i64 rank],.int .i64 kind,kv,.bool late,.int .i64 d] w (ExAns code W0 cb cv w (whF (exF code vs rank f) c3 kind k late hk0)):=by
 have hkE : 3 ≤ kE (f + 1):=by generalize f + 1 = F9; cases F9 <;> simp [kE]
 obtain ⟨sa,sc,rfl⟩:=hin.sl.shape
 obtain ⟨ka,kc,rfl⟩:=hin.kl.shape
 have hcu:=hin.cu
 have hblk:=hcu.blk
 have hcl:=hblk.lt
 obtain ⟨A,hAA⟩ : ∃ A,A = w.setCell ⟨cb,2,none⟩ (.int .i64 (c.room - 1)):=⟨_,rfl⟩
 have hTA : Tr cb w A:=hAA ▸ Tr.setCell _ _ _ _
 have hcA : CuAt code W0 cb cv A (dcR c):=hcu.go hTA (by rw [hAA]; exact hblk.set 2 _)
 have hAz : A.heap.size = w.heap.size:=by rw [hAA]; simp
 obtain ⟨B,hBB⟩ : ∃ B,B = A.alloc (.cells #[.slice sa vs.length sc,.int .i64 rank] 91):=⟨_,rfl⟩
 have hB : Below A.heap.size A B:=hBB ▸ (Below.refl _ _).alloc (Nat.le_refl _) _
 have hbs : BlkAt B w.heap.size 91 #[.slice sa vs.length sc,.int .i64 rank]:=by rw [hBB,← hAz]; exact blk_box A _ _
 have hcB:=hcA.below hB
 have hxB : Xs code W0 cb cv w w.heap.size (.slice sa vs.length sc) rank B (dcR c):=⟨hcB,hbs,hTA.trans (Tr.of_below hB),hcl,Nat.le_refl _⟩
 have hinB:=hin.at hxB
 have HFD:=hide (find_ok (hinB.sl.lower RVar_lowers (Nat.zero_le _)) (hinB.kl.lower RCond_lowers (Nat.zero_le _)) (Nat.le_trans hin.few (by omega)) rank kind late)
 have hok1 : okB (kE (f + 1) - 1) (dcR c):=by
  obtain ⟨g1,g2,g3,g4⟩:=hok
  exact ⟨by simp only [dcR]; omega,by simp only [dcR]; omega,by simp only [dcR]; omega,g4⟩
 have hokp : okB (kE (f + 1) - 2) (pkF code 12 (dcR c)).2:=pkF_ok (by rw [show kE (f + 1) - 2 + 1 = kE (f + 1) - 1 by omega]; exact hok1)
 have hrm:=pkF_room code 12 (dcR c)
 have hhow:=pkF_lt code (m:=12) (dcR c) (by omega)
 have HPK : Hid (∀ X,Below B.heap.size B X → Calls Tryz.prog 9 #[.pointer (some ⟨cb,0,none⟩),.int .i64 12] X (CuAns code W0 cb cv X (.int .i64 (pkF code 12 (dcR c)).1) (pkF code 12 (dcR c)).2)):=hide (fun X hX => pick_ok (hcB.below hX) 12 (by omega) (hok1.less (by omega)))
 have c2:=hblk.cell (i:=2) (v:=.int .i64 c.room) rfl
 have f2:=hblk.free 2
 have s0:=hxB.box.cell (i:=0) (v:=.slice sa vs.length sc) rfl
 have s1:=hxB.box.cell (i:=1) (v:=.int .i64 rank) rfl
 obtain ⟨PO,hPO⟩ : ∃ PO : Ending → World → Prop,PO = ExAns code W0 cb cv w (whF (exF code vs rank f) c3 kind k late hk0):=⟨_,rfl⟩
 rw [← hPO]
 have HPO:=hide hPO
 have HIN:=hide hin
 have HXB:=hide hxB
 have HAB:=hide (And.intro hAA hBB)
 have hbd:=hok
 obtain ⟨r1,r2,r3,r4⟩:=hbd
 have hrm2 : (pkF code 12 (dcR c)).2.room = c.room - 1:=hrm
 rw [hBB,hAA] at s0 s1
 clear hcu hblk hTA hcA hAz hB hbs hcB hxB hinB hok1 hPO hin hAA hBB hrm
 rw [hP12] at hokp hhow hrm2 HPK
 replace hokp : okB (kE (f + 1) - 2) c3:=hokp
 replace hhow : how < 12:=hhow
 replace hrm2 : c3.room = c.room - 1:=hrm2
 replace HPK : Hid (∀ X,Below B.heap.size B X → Calls Tryz.prog 9 #[.pointer (some ⟨cb,0,none⟩),.int .i64 12] X (CuAns code W0 cb cv X (.int .i64 how) c3)):=HPK
 clear hP12
 go_enter Tryz.func32,Tryz.ntmps32
 go_wp2_with fail
 rw [← (uh HAB).1,← (uh HAB).2]
 refine (uh HFD).mono ?_
 rintro e w2 ⟨na,ncap,rfl,hno,hb2⟩
 have HP3:=hide (uh HPK _ hb2)
 have HX2:=hide ((uh HXB).below hb2)
 have HNO:=hide hno
 clear hno HFD HPK s0 s1 c2 f2
 go_wp2_with fail
 refine (uh HP3).mono ?_
 rintro e w3 ⟨rfl,hc3,ht3⟩
 have HX3:=hide ((uh HX2).go hc3 ht3)
 have hnb : ∀ b,(Value.slice na (fnF vs rank kind k late).length ncap).ownBlock = some b → b ≠ cb:=fun b hb => by have:=(World.ownsRow.lt (uh HNO) b hb).1; have:=(uh HXB).tr.size; omega
 have HN3:=hide ((uh HNO).ofBlock (fun b hb => ht3.block b (World.ownsRow.lt (uh HNO) b hb).2 (hnb b hb)))
 have y2:=(uh HX3).cu.blk.cell (i:=2) (v:=.int .i64 c3.room) rfl
 have t0:=(uh HX3).box.cell (i:=0) (v:=.slice sa vs.length sc) rfl
 have t1:=(uh HX3).box.cell (i:=1) (v:=.int .i64 rank) rfl
 have hBz:=(uh HXB).tr.size
 have hfl:=fnTo_len vs rank kind k late vs.length
 clear hc3 ht3 hnb HP3 HX2 HNO hb2 hrm2
 have HC:=hide hC
 have hok3 : okB (3 * kE f + 4) c3:=by have h9:=hokp; simp only [kE] at h9; exact h9.less (by omega)
 have HOK3:=hide hok3
 have HDR:=hide (exF_dr (code:=code) (rank:=rank) (uh HIN).vk f)
 have HLN : Hid (∀ c kind k late,kOK k → (exF code vs rank f c kind k late).1.length ≤ 1093):=hide (fun c kind k late hk => Nat.le_trans (exF_dr (code:=code) (rank:=rank) (uh HIN).vk f c kind k late hk).2.1 (szE_le (by omega)))
 have q1 : decide (c3.room ≤ 0) = false:=by simp; omega
 have q2 : decide (5 < d) = false:=by simp; omega
 have q3 : decide ((how : Int) ≤ 1) = false:=by simp; omega
 have q4 : decide (how ≤ 1) = false:=by simp; omega
 have HHW:=hide hhow
 clear hC hok3 hokp hok hkE r1 r2 r3 r4 hfl hroom hhow
 obtain ⟨a9,c9,he9,hkc0,_,hx⟩:=((uh HIN).at (uh HX3)).kl
 simp only [Value.slice.injEq] at he9
 obtain ⟨rfl,_,rfl⟩:=he9
 obtain ⟨b,o,cs,rfl,_,hb,hcs,hc,hR⟩:=hx (k.length - 1) (by omega)
 obtain ⟨rfl,hR1⟩:=hR
 have c0:=hc 0 (by simp)
 have c1:=hc 1 (by simp)
 simp only [Nat.add_zero,List.getElem_cons_zero,List.getElem_cons_succ] at c0 c1
 have e9 : whF (exF code vs rank f) c3 kind k late hk0 = ((exF code vs rank f c3 kind (k.take (k.length - 1)) late).1 ++ [⟨23,if k[k.length - 1].on = true then 1 else 0,k[k.length - 1].name⟩],(exF code vs rank f c3 kind (k.take (k.length - 1)) late).2):=rfl
 rw [e9] at HPO
 clear e9 hx hc hcs
 have HKT : Hid (kOK (k.take (k.length - 1))):=kOK_take (uh HIN).kk _
 have hkl : k.length ≤ 4:=(uh HIN).k4
 generalize k[k.length - 1] = lc at *
 obtain ⟨cn,on⟩:=lc
 replace c0 : w3.cell? ⟨b,o + (k.length - 1) * 2,none⟩ = some (.string cn):=c0
 replace c1 : w3.cell? ⟨b,o + (k.length - 1) * 2 + 1,none⟩ = some (.bool on):=c1
 obtain ⟨m,hm⟩ : ∃ m,k.length = m + 1:=⟨k.length - 1,by omega⟩
 have hkc : k.length ≤ kc:=hkc0.2
 rw [hm,Nat.add_sub_cancel] at c0 c1
 have hm2 : k.length - 1 = m:=by omega
 rw [hm2] at HPO HKT
 rcases hw with hw | hw
 ·have b2 : ((how : Int) == 2) = false:=by rw [beq_eq_false_iff_ne]; omega
  have b3 : ((how : Int) == 3) = false:=by rw [beq_eq_false_iff_ne]; omega
  have b4 : ((how : Int) == 4) = false:=by rw [beq_eq_false_iff_ne]; omega
  have b5 : ((how : Int) == 5) = false:=by rw [beq_eq_false_iff_ne]; omega
  have b6 : ((how : Int) == 6) = true:=by rw [beq_iff_eq]; omega
  clear hw
  cases on
  ·obtain ⟨XW,hXW⟩ : ∃ XW,XW = w3.alloc (.cells #[.string cn,.bool false] 86):=⟨_,rfl⟩
   have HXW:=hide hXW
   have hxa : Below w3.heap.size w3 XW:=hXW ▸ (Below.refl _ _).alloc (Nat.le_refl _) _
   have HX4:=hide ((uh HX3).below hxa)
   have hcb : BlkAt XW w3.heap.size 86 #[.string cn,.bool false]:=hXW ▸ blk_box w3 _ _
   have hdr : Below XW.heap.size XW XW.drew:=(Below.refl _ _).drew
   have hx5:=(uh HX4).below hdr
   have hlw : w3.heap.size ≠ cb:=by have:=(uh HX3).cu.blk.lt; omega
   have HE : Hid (∀ Y,Y = XW.drew → Calls Tryz.prog 32 #[.pointer (some ⟨cb,0,none⟩),.agg #[.slice sa vs.length sc,.int .i64 rank],.int .i64 kind,.slice (some ⟨b,o,none⟩) m kc,.bool late,.int .i64 (d + 1)] Y _):=hide (fun Y hY => by subst hY; exact exp_name hf (uh HC) (uh HIN) hx5 (((uh HIN).at hx5).kl.cut (m:=m) (by omega)) (uh HKT) (by rw [List.length_take]; omega) ((uh HOK3).less (by omega)) kind late (hcb.below hdr hcb.lt) hlw 23 0)
   have s0:=(uh HX4).box.cell (i:=0) (v:=.slice sa vs.length sc) rfl
   have s1:=(uh HX4).box.cell (i:=1) (v:=.int .i64 rank) rfl
   have i0:=hcb.cell (i:=0) (v:=.string cn) rfl
   have i1:=hcb.cell (i:=1) (v:=.bool false) rfl
   rw [hXW] at i0 i1
   have hwd : IntKind.i64.wrap (d + 1) = d + 1:=by rw [IntKind.wrap_i64]; omega
   have hwm : IntKind.i64.wrap (((m + 1 : Nat) : Int) - 1) = (m : Int):=by rw [IntKind.wrap_i64]; omega
   have hwm2 : IntKind.i64.wrap ((m : Int) + 1 - 1) = (m : Int):=by rw [IntKind.wrap_i64]; omega
   have hwm3 : IntKind.i64.wrap (m : Int) = (m : Int):=by rw [IntKind.wrap_i64]; omega
   have hmI : (m : Int) ≤ (kc : Int):=by omega
   have g1 : (0 : Int) ≤ (m : Int):=by omega
   have g3 : ¬ kc = 0:=by omega
   have g4 : m ≤ kc:=by omega
   have g5 : ¬ kc < m:=by omega
   have g6 : 0 < kc:=by omega
   clear hcb hdr hx5 hxa hXW t0 t1
   go_wp2_with fail
   rw [← uh HXW]
   clear i0 i1 y2
   go_region_held3 (fun w' => w'.cell? ⟨w.heap.size,0,none⟩ = some (.slice sa vs.length sc) ∧ w'.cell? ⟨w.heap.size,1,none⟩ = some (.int .i64 rank)) (go_keep) (first | (go_at_call 32; (try rw [hwd]); refine (uh HE _ rfl).mono ?_; rintro e w9 ⟨a9,n9,p9,va,vn,vc,w5,rfl,o0,o1,j0,HR,HWK⟩))
   have H5:=hide ((uh HWK).end)
   clear HE HWK
   go_wp2_with (at_builtin; go_must (refine wpList_append_run rfl _ _ 55 55 rfl rfl _ _ _ rfl rfl (uh HR) ?_))
   first | go_ret | skip
   rw [uh HPO]
   exact uh H5
  ·obtain ⟨XW,hXW⟩ : ∃ XW,XW = w3.alloc (.cells #[.string cn,.bool true] 86):=⟨_,rfl⟩
   have HXW:=hide hXW
   have hxa : Below w3.heap.size w3 XW:=hXW ▸ (Below.refl _ _).alloc (Nat.le_refl _) _
   have HX4:=hide ((uh HX3).below hxa)
   have hcb : BlkAt XW w3.heap.size 86 #[.string cn,.bool true]:=hXW ▸ blk_box w3 _ _
   have hdr : Below XW.heap.size XW XW.drew:=(Below.refl _ _).drew
   have hx5:=(uh HX4).below hdr
   have hlw : w3.heap.size ≠ cb:=by have:=(uh HX3).cu.blk.lt; omega
   have HE : Hid (∀ Y,Y = XW.drew → Calls Tryz.prog 32 #[.pointer (some ⟨cb,0,none⟩),.agg #[.slice sa vs.length sc,.int .i64 rank],.int .i64 kind,.slice (some ⟨b,o,none⟩) m kc,.bool late,.int .i64 (d + 1)] Y _):=hide (fun Y hY => by subst hY; exact exp_name hf (uh HC) (uh HIN) hx5 (((uh HIN).at hx5).kl.cut (m:=m) (by omega)) (uh HKT) (by rw [List.length_take]; omega) ((uh HOK3).less (by omega)) kind late (hcb.below hdr hcb.lt) hlw 23 1)
   have s0:=(uh HX4).box.cell (i:=0) (v:=.slice sa vs.length sc) rfl
   have s1:=(uh HX4).box.cell (i:=1) (v:=.int .i64 rank) rfl
   have i0:=hcb.cell (i:=0) (v:=.string cn) rfl
   have i1:=hcb.cell (i:=1) (v:=.bool true) rfl
   rw [hXW] at i0 i1
   have hwd : IntKind.i64.wrap (d + 1) = d + 1:=by rw [IntKind.wrap_i64]; omega
   have hwm : IntKind.i64.wrap (((m + 1 : Nat) : Int) - 1) = (m : Int):=by rw [IntKind.wrap_i64]; omega
   have hwm2 : IntKind.i64.wrap ((m : Int) + 1 - 1) = (m : Int):=by rw [IntKind.wrap_i64]; omega
   have hwm3 : IntKind.i64.wrap (m : Int) = (m : Int):=by rw [IntKind.wrap_i64]; omega
   have hmI : (m : Int) ≤ (kc : Int):=by omega
   have g1 : (0 : Int) ≤ (m : Int):=by omega
   have g3 : ¬ kc = 0:=by omega
   have g4 : m ≤ kc:=by omega
   have g5 : ¬ kc < m:=by omega
   have g6 : 0 < kc:=by omega
   clear hcb hdr hx5 hxa hXW t0 t1
   go_wp2_with fail
   rw [← uh HXW]
   clear i0 i1 y2
   go_region_held3 (fun w' => w'.cell? ⟨w.heap.size,0,none⟩ = some (.slice sa vs.length sc) ∧ w'.cell? ⟨w.heap.size,1,none⟩ = some (.int .i64 rank)) (go_keep) (first | (go_at_call 32; (try rw [hwd]); refine (uh HE _ rfl).mono ?_; rintro e w9 ⟨a9,n9,p9,va,vn,vc,w5,rfl,o0,o1,j0,HR,HWK⟩))
   have H5:=hide ((uh HWK).end)
   clear HE HWK
   go_wp2_with (at_builtin; go_must (refine wpList_append_run rfl _ _ 55 55 rfl rfl _ _ _ rfl rfl (uh HR) ?_))
   first | go_ret | skip
   rw [uh HPO]
   exact uh H5
 ·have b2 : ((how : Int) == 2) = false:=by rw [beq_eq_false_iff_ne]; omega
  have b3 : ((how : Int) == 3) = false:=by rw [beq_eq_false_iff_ne]; omega
  have b4 : ((how : Int) == 4) = false:=by rw [beq_eq_false_iff_ne]; omega
  have b5 : ((how : Int) == 5) = false:=by rw [beq_eq_false_iff_ne]; omega
  have b6 : ((how : Int) == 6) = false:=by rw [beq_eq_false_iff_ne]; omega
  have b7 : ((how : Int) == 7) = true:=by rw [beq_iff_eq]; omega
  clear hw
  cases on
  ·obtain ⟨XW,hXW⟩ : ∃ XW,XW = w3.alloc (.cells #[.string cn,.bool false] 86):=⟨_,rfl⟩
   have HXW:=hide hXW
   have hxa : Below w3.heap.size w3 XW:=hXW ▸ (Below.refl _ _).alloc (Nat.le_refl _) _
   have HX4:=hide ((uh HX3).below hxa)
   have hcb : BlkAt XW w3.heap.size 86 #[.string cn,.bool false]:=hXW ▸ blk_box w3 _ _
   have hdr : Below XW.heap.size XW XW.drew:=(Below.refl _ _).drew
   have hx5:=(uh HX4).below hdr
   have hlw : w3.heap.size ≠ cb:=by have:=(uh HX3).cu.blk.lt; omega
   have HE : Hid (∀ Y,Y = XW.drew → Calls Tryz.prog 32 #[.pointer (some ⟨cb,0,none⟩),.agg #[.slice sa vs.length sc,.int .i64 rank],.int .i64 kind,.slice (some ⟨b,o,none⟩) m kc,.bool late,.int .i64 (d + 1)] Y _):=hide (fun Y hY => by subst hY; exact exp_name hf (uh HC) (uh HIN) hx5 (((uh HIN).at hx5).kl.cut (m:=m) (by omega)) (uh HKT) (by rw [List.length_take]; omega) ((uh HOK3).less (by omega)) kind late (hcb.below hdr hcb.lt) hlw 23 0)
   have s0:=(uh HX4).box.cell (i:=0) (v:=.slice sa vs.length sc) rfl
   have s1:=(uh HX4).box.cell (i:=1) (v:=.int .i64 rank) rfl
   have i0:=hcb.cell (i:=0) (v:=.string cn) rfl
   have i1:=hcb.cell (i:=1) (v:=.bool false) rfl
   rw [hXW] at i0 i1
   have hwd : IntKind.i64.wrap (d + 1) = d + 1:=by rw [IntKind.wrap_i64]; omega
   have hwm : IntKind.i64.wrap (((m + 1 : Nat) : Int) - 1) = (m : Int):=by rw [IntKind.wrap_i64]; omega
   have hwm2 : IntKind.i64.wrap ((m : Int) + 1 - 1) = (m : Int):=by rw [IntKind.wrap_i64]; omega
   have hwm3 : IntKind.i64.wrap (m : Int) = (m : Int):=by rw [IntKind.wrap_i64]; omega
   have hmI : (m : Int) ≤ (kc : Int):=by omega
   have g1 : (0 : Int) ≤ (m : Int):=by omega
   have g3 : ¬ kc = 0:=by omega
   have g4 : m ≤ kc:=by omega
   have g5 : ¬ kc < m:=by omega
   have g6 : 0 < kc:=by omega
   clear hcb hdr hx5 hxa hXW t0 t1
   go_wp2_with fail
   rw [← uh HXW]
   clear i0 i1 y2
   go_region_held3 (fun w' => w'.cell? ⟨w.heap.size,0,none⟩ = some (.slice sa vs.length sc) ∧ w'.cell? ⟨w.heap.size,1,none⟩ = some (.int .i64 rank)) (go_keep) (first | (go_at_call 32; (try rw [hwd]); refine (uh HE _ rfl).mono ?_; rintro e w9 ⟨a9,n9,p9,va,vn,vc,w5,rfl,o0,o1,j0,HR,HWK⟩))
   have H5:=hide ((uh HWK).end)
   clear HE HWK
   go_wp2_with (at_builtin; go_must (refine wpList_append_run rfl _ _ 55 55 rfl rfl _ _ _ rfl rfl (uh HR) ?_))
   first | go_ret | skip
   rw [uh HPO]
   exact uh H5
  ·obtain ⟨XW,hXW⟩ : ∃ XW,XW = w3.alloc (.cells #[.string cn,.bool true] 86):=⟨_,rfl⟩
   have HXW:=hide hXW
   have hxa : Below w3.heap.size w3 XW:=hXW ▸ (Below.refl _ _).alloc (Nat.le_refl _) _
   have HX4:=hide ((uh HX3).below hxa)
   have hcb : BlkAt XW w3.heap.size 86 #[.string cn,.bool true]:=hXW ▸ blk_box w3 _ _
   have hdr : Below XW.heap.size XW XW.drew:=(Below.refl _ _).drew
   have hx5:=(uh HX4).below hdr
   have hlw : w3.heap.size ≠ cb:=by have:=(uh HX3).cu.blk.lt; omega
   have HE : Hid (∀ Y,Y = XW.drew → Calls Tryz.prog 32 #[.pointer (some ⟨cb,0,none⟩),.agg #[.slice sa vs.length sc,.int .i64 rank],.int .i64 kind,.slice (some ⟨b,o,none⟩) m kc,.bool late,.int .i64 (d + 1)] Y _):=hide (fun Y hY => by subst hY; exact exp_name hf (uh HC) (uh HIN) hx5 (((uh HIN).at hx5).kl.cut (m:=m) (by omega)) (uh HKT) (by rw [List.length_take]; omega) ((uh HOK3).less (by omega)) kind late (hcb.below hdr hcb.lt) hlw 23 1)
   have s0:=(uh HX4).box.cell (i:=0) (v:=.slice sa vs.length sc) rfl
   have s1:=(uh HX4).box.cell (i:=1) (v:=.int .i64 rank) rfl
   have i0:=hcb.cell (i:=0) (v:=.string cn) rfl
   have i1:=hcb.cell (i:=1) (v:=.bool true) rfl
   rw [hXW] at i0 i1
   have hwd : IntKind.i64.wrap (d + 1) = d + 1:=by rw [IntKind.wrap_i64]; omega
   have hwm : IntKind.i64.wrap (((m + 1 : Nat) : Int) - 1) = (m : Int):=by rw [IntKind.wrap_i64]; omega
   have hwm2 : IntKind.i64.wrap ((m : Int) + 1 - 1) = (m : Int):=by rw [IntKind.wrap_i64]; omega
   have hwm3 : IntKind.i64.wrap (m : Int) = (m : Int):=by rw [IntKind.wrap_i64]; omega
   have hmI : (m : Int) ≤ (kc : Int):=by omega
   have g1 : (0 : Int) ≤ (m : Int):=by omega
   have g3 : ¬ kc = 0:=by omega
   have g4 : m ≤ kc:=by omega
   have g5 : ¬ kc < m:=by omega
   have g6 : 0 < kc:=by omega
   clear hcb hdr hx5 hxa hXW t0 t1
   go_wp2_with fail
   rw [← uh HXW]
   clear i0 i1 y2
   go_region_held3 (fun w' => w'.cell? ⟨w.heap.size,0,none⟩ = some (.slice sa vs.length sc) ∧ w'.cell? ⟨w.heap.size,1,none⟩ = some (.int .i64 rank)) (go_keep) (first | (go_at_call 32; (try rw [hwd]); refine (uh HE _ rfl).mono ?_; rintro e w9 ⟨a9,n9,p9,va,vn,vc,w5,rfl,o0,o1,j0,HR,HWK⟩))
   have H5:=hide ((uh HWK).end)
   clear HE HWK
   go_wp2_with (at_builtin; go_must (refine wpList_append_run rfl _ _ 55 55 rfl rfl _ _ _ rfl rfl (uh HR) ?_))
   first | go_ret | skip
   rw [uh HPO]
   exact uh H5
end
end Go.Proofs.YtajabbnlbopcbaaGreatDoor
