import Derived.Test.YtajabbnlbopcbaaGreatDoorV3
import Derived.Deep.RegionHeld3
import Derived.Test.YtajabbnlbopcbaaGreatDoorPGA
namespace Go.Proofs.YtajabbnlbopcbaaGreatDoor
open Go.RowKit
set_option linter.unusedSimpArgs false
set_option linter.unusedVariables false
section
variable {code : List Int} {W0 : World} {cb : Nat} {cv : Value} {w : World} {c c' : Cur} {vs : List DVar} {sv kv : Value} {k : List DCond} {b7 rank : Nat} {X Y : World}
def Fives (Y : World) (b7 : Nat) (sv : Value) (rank ib : Nat) (op val : Int) (nm : ByteArray) : Prop :=
 Y.cell? ⟨b7,0,none⟩ = some sv ∧ Y.cell? ⟨b7,1,none⟩ = some (.int .i64 rank) ∧ Y.cell? ⟨ib,0,none⟩ = some (.int .i64 op) ∧ Y.cell? ⟨ib,1,none⟩ = some (.int .i64 val) ∧ Y.cell? ⟨ib,2,none⟩ = some (.string nm)
theorem Xs.fives (h : Xs code W0 cb cv w b7 sv rank X c) {ib : Nat} {op val : Int} {nm : ByteArray} (hib : BlkAt X ib 88 #[.int .i64 op,.int .i64 val,.string nm]) : Fives X b7 sv rank ib op val nm :=
 ⟨h.box.cell (i:=0) rfl,h.box.cell (i:=1) rfl,hib.cell (i:=0) rfl,hib.cell (i:=1) rfl,hib.cell (i:=2) rfl⟩
theorem own_app (hx : Xs code W0 cb cv w b7 sv rank Y c') {a a2 : Option Addr} {n cap n2 cap2 : Nat} {xs ys : List DItem} {B : Nat} (hB : b7 + 1 ≤ B) (hBY : B ≤ Y.heap.size) (ho : OwnV elItem Y B (.slice a n cap) xs) (hp : 0 < xs.length) {B2 : Nat} (h2 : OwnV elItem Y B2 (.slice a2 n2 cap2) ys) (hl : xs.length + ys.length ≤ 4000) :
  ∃ a3 n3 cap3 Z,AppRun Y a n cap a2 n2 cap2 a3 n3 cap3 Z ∧ Wk code W0 cb cv w b7 sv rank Z c' a3 n3 cap3 (xs ++ ys) ∧ ∀ b,b < B → Z.heap[b]? = Y.heap[b]?:=by
 rcases ho.shape with ⟨_,h0⟩ | ⟨g,cap1,hv,hg,_,hc⟩
 ·rw [h0] at hp
  exact absurd hp (by simp)
 simp only [Value.slice.injEq] at hv
 obtain ⟨rfl,rfl,rfl⟩:=hv
 obtain ⟨g',cap',Z,hrun,ho',hgr⟩:=run_append_all elItem (R:=RFlat elItem) (fun _ _ _ h => h) Y 55 B g cap xs ho (.slice a2 n2 cap2) ys (h2.at (fun _ _ => rfl) (by simp [elItem]; omega)) (by simp [elItem]; omega) hBY
 exact ⟨_,_,_,_,hrun,⟨hx.grown hgr (B:=b7 + 1) (fun b hb => by simp only [Option.some.injEq] at hb; omega) (by omega),ho'.low hB,by simp,by simp; omega,by simp; omega⟩,fun b hb => hgr.block b (by omega) (fun e => by simp only [Option.some.injEq] at e; omega)⟩
theorem exp_push {f : Nat} (hf : f ≤ 5) {d : Int} (hC : ExC code W0 cb cv vs rank f d) {c0 : Cur} {kv0 : Value} {k0 : List DCond} (hin : ExIn code W0 cb cv vs w c0 sv kv0 k0) (hx : Xs code W0 cb cv w b7 sv rank X c) (hkl : SlAt 2 24 RCond (cb + 1) X kv k) (hkk : kOK k) (hk4 : k.length ≤ 4) (hok : okB (kE f) c) (kind : Int) (late : Bool) {op val : Int} {nm : ByteArray} {ib : Nat} (hib : BlkAt X ib 88 #[.int .i64 op,.int .i64 val,.string nm]) (hne : ib ≠ cb) :
  Calls Tryz.prog 32 #[.pointer (some ⟨cb,0,none⟩),.agg #[sv,.int .i64 rank],.int .i64 kind,kv,.bool late,.int .i64 d] X (fun e Y => ∃ a n cap a3 n3 cap3 Z,e = .returned (.slice a n cap) ∧ Y.cell? ⟨b7,0,none⟩ = some sv ∧ Y.cell? ⟨b7,1,none⟩ = some (.int .i64 rank) ∧ Y.cell? ⟨ib,0,none⟩ = some (.int .i64 op) ∧ Y.cell? ⟨ib,1,none⟩ = some (.int .i64 val) ∧ Y.cell? ⟨ib,2,none⟩ = some (.string nm) ∧ b7 < Y.heap.size ∧ ib < Y.heap.size ∧ Hid (Fives Z b7 sv rank ib op val nm) ∧ Hid (AppRun (Y.alloc (.cells #[.int .i64 op,.int .i64 val,.string nm] 88)) a n cap (some ⟨Y.heap.size,0,none⟩) 1 1 a3 n3 cap3 Z) ∧ Hid (Wk code W0 cb cv w b7 sv rank Z (exF code vs rank f c kind k late).2 a3 n3 cap3 ((exF code vs rank f c kind k late).1 ++ [⟨op,val,nm⟩]))):=by
 refine (hC X c sv kv kind k late ⟨hx.cu,(hin.at hx).sl,hkl,hkk,hk4,hin.few,hin.vk⟩ hok).mono ?_
 rintro e Y ⟨a,cap,rfl,ho,hc,ht⟩
 have hd:=exF_dr (code:=code) (rank:=rank) hin.vk f c kind k late hkk
 have hs:=szE_le (f:=f) (by omega)
 have hxY:=hx.go hc ht
 have hbY:=ht.blk hib hne
 have hA : Below Y.heap.size Y (Y.alloc (.cells #[.int .i64 op,.int .i64 val,.string nm] 88)):=(Below.refl _ _).alloc (Nat.le_refl _) _
 have hpos : 0 < (exF code vs rank f c kind k late).1.length:=by
  obtain ⟨ps,hp⟩:=hd.1
  exact hp.pos
 obtain ⟨a3,n3,cap3,Z,hr,hz,hk⟩:=own_app (hxY.below hA) (B:=X.heap.size) hx.box.lt (Nat.le_trans ht.size hA.size) (ho.below hA) hpos (own_item (w:=Y) (op:=op) (val:=val) (nm:=nm) (Nat.le_refl Y.heap.size)) (by have:=hd.2.1; simp; omega)
 obtain ⟨f0,f1,f2,f3,f4⟩:=hxY.fives hbY
 exact ⟨a,_,cap,a3,n3,cap3,Z,rfl,f0,f1,f2,f3,f4,hxY.box.lt,hbY.lt,hz.1.fives ((hk ib hib.lt).trans (hbY.below hA hbY.lt)),hr,hz⟩
theorem exp_push2 {f : Nat} (hf : f ≤ 5) {d : Int} (hC : ExC code W0 cb cv vs rank f d) {c0 : Cur} {kv0 : Value} {k0 : List DCond} (hin : ExIn code W0 cb cv vs w c0 sv kv0 k0) (hx : Xs code W0 cb cv w b7 sv rank X c) (hkl : SlAt 2 24 RCond (cb + 1) X kv k) (hkk : kOK k) (hk4 : k.length ≤ 4) (hok : okB (kE f) c) (kind : Int) (late : Bool) {op val : Int} {nm : ByteArray} {ib : Nat} (hib : BlkAt X ib 88 #[.int .i64 op,.int .i64 val,.string nm]) (hne : ib ≠ cb) {X0 : World} (hX : X = X0.alloc (.cells #[.int .i64 op,.int .i64 val,.string nm] 88)) (hcb : cb < X0.heap.size) :
  Calls Tryz.prog 32 #[.pointer (some ⟨cb,0,none⟩),.agg #[sv,.int .i64 rank],.int .i64 kind,kv,.bool late,.int .i64 d] X (fun e Y => ∃ a n cap a3 n3 cap3 Z,e = .returned (.slice a n cap) ∧ Y.cell? ⟨b7,0,none⟩ = some sv ∧ Y.cell? ⟨b7,1,none⟩ = some (.int .i64 rank) ∧ Y.cell? ⟨ib,0,none⟩ = some (.int .i64 op) ∧ Y.cell? ⟨ib,1,none⟩ = some (.int .i64 val) ∧ Y.cell? ⟨ib,2,none⟩ = some (.string nm) ∧ Hid (Fives Z b7 sv rank ib op val nm) ∧ Hid (AppRun Y a n cap (some ⟨X0.heap.size,0,none⟩) 1 1 a3 n3 cap3 Z) ∧ Hid (Wk code W0 cb cv w b7 sv rank Z (exF code vs rank f c kind k late).2 a3 n3 cap3 ((exF code vs rank f c kind k late).1 ++ [⟨op,val,nm⟩]))):=by
 refine (hC X c sv kv kind k late ⟨hx.cu,(hin.at hx).sl,hkl,hkk,hk4,hin.few,hin.vk⟩ hok).mono ?_
 rintro e Y ⟨a,cap,rfl,ho,hc,ht⟩
 have hd:=exF_dr (code:=code) (rank:=rank) hin.vk f c kind k late hkk
 have hs:=szE_le (f:=f) (by omega)
 have hxY:=hx.go hc ht
 have hbY:=ht.blk hib hne
 have hpos : 0 < (exF code vs rank f c kind k late).1.length:=by
  obtain ⟨ps,hp⟩:=hd.1
  exact hp.pos
 have hoI : OwnV elItem X X0.heap.size (.slice (some ⟨X0.heap.size,0,none⟩) 1 1) [⟨op,val,nm⟩]:=by rw [hX]; exact own_item (w:=X0) (Nat.le_refl _)
 obtain ⟨a3,n3,cap3,Z,hr,hz,hk⟩:=own_app hxY (B:=X.heap.size) hx.box.lt ht.size ho hpos (hoI.trk ht hcb) (by have:=hd.2.1; simp; omega)
 obtain ⟨f0,f1,f2,f3,f4⟩:=hxY.fives hbY
 exact ⟨a,_,cap,a3,n3,cap3,Z,rfl,f0,f1,f2,f3,f4,hz.1.fives ((hk ib hib.lt).trans hbY),hr,hz⟩
set_option maxRecDepth 4000 in
set_option maxHeartbeats 8000000 in
theorem exp_fbyI {f : Nat} (hf : f ≤ 5) {d : Int} (hd0 : 0 ≤ d) (hd5 : d ≤ 5) (hC : ExC code W0 cb cv vs rank f (d + 1)) {kind : Int} {late : Bool} (hin : ExIn code W0 cb cv vs w c sv kv k) (hok : okB (kE (f + 1)) c) {how : Nat} {c3 : Cur} (hP12 : pkF code 12 (dcR c) = (how,c3)) (hroom : 0 < c3.room) (hw : how = 3 ∨ how = 4) (hk : ¬ kind = 2) :
  Calls Tryz.prog 32 #[.pointer (some ⟨cb,0,none⟩),.agg #[sv,.int .i64 rank],.int .i64 kind,kv,.bool late,.int .i64 d] w (ExAns code W0 cb cv w (fbF code (exF code vs rank f) c3 kind k)):=by
 have hkE : 3 ≤ kE (f + 1):=by generalize f + 1 = F9; cases F9 <;> simp [kE]
 obtain ⟨sa,sc,rfl⟩:=hin.sl.shape
 obtain ⟨ka,kc,rfl⟩:=hin.kl.shape
 have hcu:=hin.cu
 have hblk:=hcu.blk
 have hcl:=hblk.lt
 obtain ⟨A,hAA⟩ : ∃ A,A = w.setCell ⟨cb,2,none⟩ (.int .i64 (c.room - 1)):=⟨_,rfl⟩
 have hTA : Tr cb w A:=hAA ▸ Tr.setCell _ _ _ _
 have hcA : CuAt code W0 cb cv A (dcR c):=hcu.go hTA (by rw [hAA]; exact hblk.set 2 _)
 have hAz : A.heap.size = w.heap.size:=by rw [hAA]; simp
 obtain ⟨B,hBB⟩ : ∃ B,B = A.alloc (.cells #[.slice sa vs.length sc,.int .i64 rank] 91):=⟨_,rfl⟩
 have hB : Below A.heap.size A B:=hBB ▸ (Below.refl _ _).alloc (Nat.le_refl _) _
 have hbs : BlkAt B w.heap.size 91 #[.slice sa vs.length sc,.int .i64 rank]:=by rw [hBB,← hAz]; exact blk_box A _ _
 have hcB:=hcA.below hB
 have hxB : Xs code W0 cb cv w w.heap.size (.slice sa vs.length sc) rank B (dcR c):=⟨hcB,hbs,hTA.trans (Tr.of_below hB),hcl,Nat.le_refl _⟩
 have hinB:=hin.at hxB
 have HFD:=hide (find_ok (hinB.sl.lower RVar_lowers (Nat.zero_le _)) (hinB.kl.lower RCond_lowers (Nat.zero_le _)) (Nat.le_trans hin.few (by omega)) rank kind late)
 have hok1 : okB (kE (f + 1) - 1) (dcR c):=by
  obtain ⟨g1,g2,g3,g4⟩:=hok
  exact ⟨by simp only [dcR]; omega,by simp only [dcR]; omega,by simp only [dcR]; omega,g4⟩
 have hokp : okB (kE (f + 1) - 2) (pkF code 12 (dcR c)).2:=pkF_ok (by rw [show kE (f + 1) - 2 + 1 = kE (f + 1) - 1 by omega]; exact hok1)
 have hrm:=pkF_room code 12 (dcR c)
 have hhow:=pkF_lt code (m:=12) (dcR c) (by omega)
 have HPK : Hid (∀ X,Below B.heap.size B X → Calls Tryz.prog 9 #[.pointer (some ⟨cb,0,none⟩),.int .i64 12] X (CuAns code W0 cb cv X (.int .i64 (pkF code 12 (dcR c)).1) (pkF code 12 (dcR c)).2)):=hide (fun X hX => pick_ok (hcB.below hX) 12 (by omega) (hok1.less (by omega)))
 have c2:=hblk.cell (i:=2) (v:=.int .i64 c.room) rfl
 have f2:=hblk.free 2
 have s0:=hxB.box.cell (i:=0) (v:=.slice sa vs.length sc) rfl
 have s1:=hxB.box.cell (i:=1) (v:=.int .i64 rank) rfl
 obtain ⟨PO,hPO⟩ : ∃ PO : Ending → World → Prop,PO = ExAns code W0 cb cv w (fbF code (exF code vs rank f) c3 kind k):=⟨_,rfl⟩
 rw [← hPO]
 have HPO:=hide hPO
 have HIN:=hide hin
 have HXB:=hide hxB
 have HAB:=hide (And.intro hAA hBB)
 have hbd:=hok
 obtain ⟨r1,r2,r3,r4⟩:=hbd
 have hrm2 : (pkF code 12 (dcR c)).2.room = c.room - 1:=hrm
 rw [hBB,hAA] at s0 s1
 clear hcu hblk hTA hcA hAz hB hbs hcB hxB hinB hok1 hPO hin hAA hBB hrm
 rw [hP12] at hokp hhow hrm2 HPK
 replace hokp : okB (kE (f + 1) - 2) c3:=hokp
 replace hhow : how < 12:=hhow
 replace hrm2 : c3.room = c.room - 1:=hrm2
 replace HPK : Hid (∀ X,Below B.heap.size B X → Calls Tryz.prog 9 #[.pointer (some ⟨cb,0,none⟩),.int .i64 12] X (CuAns code W0 cb cv X (.int .i64 how) c3)):=HPK
 clear hP12
 go_enter Tryz.func32,Tryz.ntmps32
 go_wp2_with fail
 rw [← (uh HAB).1,← (uh HAB).2]
 refine (uh HFD).mono ?_
 rintro e w2 ⟨na,ncap,rfl,hno,hb2⟩
 have HP3:=hide (uh HPK _ hb2)
 have HX2:=hide ((uh HXB).below hb2)
 have HNO:=hide hno
 clear hno HFD HPK s0 s1 c2 f2
 go_wp2_with fail
 refine (uh HP3).mono ?_
 rintro e w3 ⟨rfl,hc3,ht3⟩
 have HX3:=hide ((uh HX2).go hc3 ht3)
 have hnb : ∀ b,(Value.slice na (fnF vs rank kind k late).length ncap).ownBlock = some b → b ≠ cb:=fun b hb => by have:=(World.ownsRow.lt (uh HNO) b hb).1; have:=(uh HXB).tr.size; omega
 have HN3:=hide ((uh HNO).ofBlock (fun b hb => ht3.block b (World.ownsRow.lt (uh HNO) b hb).2 (hnb b hb)))
 have y2:=(uh HX3).cu.blk.cell (i:=2) (v:=.int .i64 c3.room) rfl
 have t0:=(uh HX3).box.cell (i:=0) (v:=.slice sa vs.length sc) rfl
 have t1:=(uh HX3).box.cell (i:=1) (v:=.int .i64 rank) rfl
 have hBz:=(uh HXB).tr.size
 have hfl:=fnTo_len vs rank kind k late vs.length
 clear hc3 ht3 hnb HP3 HX2 HNO hb2 hrm2
 have HC:=hide hC
 have hok3 : okB (3 * kE f + 4) c3:=by have h9:=hokp; simp only [kE] at h9; exact h9.less (by omega)
 have HOK3:=hide hok3
 have HDR:=hide (exF_dr (code:=code) (rank:=rank) (uh HIN).vk f)
 have HLN : Hid (∀ c kind k late,kOK k → (exF code vs rank f c kind k late).1.length ≤ 1093):=hide (fun c kind k late hk => Nat.le_trans (exF_dr (code:=code) (rank:=rank) (uh HIN).vk f c kind k late hk).2.1 (szE_le (by omega)))
 have q1 : decide (c3.room ≤ 0) = false:=by simp; omega
 have q2 : decide (5 < d) = false:=by simp; omega
 have q3 : decide ((how : Int) ≤ 1) = false:=by simp; omega
 have q4 : decide (how ≤ 1) = false:=by simp; omega
 have HHW:=hide hhow
 clear hC hok3 hokp hok hkE r1 r2 r3 r4 hfl hroom hhow
 have hkb : (kind == 2) = false:=by rw [beq_eq_false_iff_ne]; exact hk
 have e9 : fbF code (exF code vs rank f) c3 kind k = ((exF code vs rank f (pkF code 9 c3).2 kind k true).1 ++ [⟨21,((pkF code 9 c3).1 : Int) - 4,noN⟩],(exF code vs rank f (pkF code 9 c3).2 kind k true).2):=by unfold fbF; rw [if_neg hk]
 rw [e9] at HPO
 have HP9:=hide (pick_ok (uh HX3).cu 9 (by omega) ((uh HOK3).less (by omega)))
 have hlt:=pkF_lt code (m:=9) c3 (by omega)
 have hok4 : okB (3 * kE f + 3) (pkF code 9 c3).2:=pkF_ok (uh HOK3)
 clear e9 hk
 generalize pkF code 9 c3 = P at *
 obtain ⟨v4,c4⟩:=P
 replace HP9 : Hid (Calls Tryz.prog 9 #[.pointer (some ⟨cb,0,none⟩),.int .i64 9] w3 (CuAns code W0 cb cv w3 (.int .i64 v4) c4)):=HP9
 replace hlt : v4 < 9:=hlt
 have HOK4 : Hid (okB (3 * kE f + 3) c4):=hok4
 replace HPO : Hid (PO = ExAns code W0 cb cv w ((exF code vs rank f c4 kind k true).1 ++ [⟨21,(v4 : Int) - 4,noN⟩],(exF code vs rank f c4 kind k true).2)):=HPO
 clear hok4
 have hf5:=hf
 rcases hw with hw | hw
 ·have b2 : ((how : Int) == 2) = false:=by rw [beq_eq_false_iff_ne]; omega
  have b3 : ((how : Int) == 3) = true:=by rw [beq_iff_eq]; omega
  clear hw
  go_wp2_with fail
  refine (uh HP9).mono ?_
  rintro e w4 ⟨rfl,hc4,ht4⟩
  obtain ⟨XW,hXW⟩ : ∃ XW,XW = w4.alloc (.cells #[.int .i64 21,.int .i64 ((v4 : Int) - 4),Value.string ⟨#[]⟩] 88):=⟨_,rfl⟩
  have HXW:=hide hXW
  have hxa : Below w4.heap.size w4 XW:=hXW ▸ (Below.refl _ _).alloc (Nat.le_refl _) _
  have HX4:=hide ((uh HX3).go hc4 ht4)
  have HXL:=hide ((uh HX4).below hxa)
  have HIB : Hid (BlkAt XW w4.heap.size 88 #[.int .i64 21,.int .i64 ((v4 : Int) - 4),Value.string ⟨#[]⟩]):=hXW ▸ blk_box w4 _ _
  have HNE : Hid (w4.heap.size ≠ cb):=hide (by have:=(uh HX4).cu.blk.lt; omega)
  clear HP9 hc4 ht4 hXW hxa t0 t1 y2
  have HOKL:=HOK4
  go_wp2_with fail
  rw [← uh HXW]
  have hdr : Below XW.heap.size XW XW.drew:=(Below.refl _ _).drew
  have hda : Below XW.drew.heap.size XW.drew (XW.drew.alloc (.cells #[.int .i64 21,.int .i64 ((v4 : Int) - 4),Value.string ⟨#[]⟩] 88)):=(Below.refl _ _).alloc (Nat.le_refl _) _
  have hx1:=(uh HXL).below hdr
  have hx2:=hx1.below hda
  have hkk:=(uh HIN).kk
  have hk4:=(uh HIN).k4
  have HI1 : Hid (∀ Y,Y = XW.drew → Calls Tryz.prog 32 #[.pointer (some ⟨cb,0,none⟩),.agg #[.slice sa vs.length sc,.int .i64 rank],.int .i64 kind,.slice ka k.length kc,.bool true,.int .i64 (d + 1)] Y _):=hide (fun Y hY => by subst hY; exact exp_push hf (uh HC) (uh HIN) hx1 ((uh HIN).at hx1).kl hkk hk4 ((uh HOKL).less (by omega)) kind true ((uh HIB).below hdr (uh HIB).lt) (uh HNE))
  have HI2 : Hid (∀ Y,Y = XW.drew.alloc (.cells #[.int .i64 21,.int .i64 ((v4 : Int) - 4),Value.string ⟨#[]⟩] 88) → Calls Tryz.prog 32 #[.pointer (some ⟨cb,0,none⟩),.agg #[.slice sa vs.length sc,.int .i64 rank],.int .i64 kind,.slice ka k.length kc,.bool true,.int .i64 (d + 1)] Y _):=hide (fun Y hY => by exact exp_push2 hf (uh HC) (uh HIN) (hY ▸ hx2) (hY ▸ ((uh HIN).at hx2).kl) hkk hk4 ((uh HOKL).less (by omega)) kind true (hY ▸ (((uh HIB).below hdr (uh HIB).lt).below hda (Nat.lt_of_lt_of_le (uh HIB).lt hdr.size))) (uh HNE) hY hx1.cu.blk.lt)
  have i0:=(uh HIB).cell (i:=0) (v:=.int .i64 21) rfl
  have i1:=(uh HIB).cell (i:=1) (v:=.int .i64 ((v4 : Int) - 4)) rfl
  have i2:=(uh HIB).cell (i:=2) (v:=Value.string ⟨#[]⟩) rfl
  have s0:=(uh HXL).box.cell (i:=0) (v:=.slice sa vs.length sc) rfl
  have s1:=(uh HXL).box.cell (i:=1) (v:=.int .i64 rank) rfl
  clear hdr hda hx1 hx2 hkk hk4
  have hwd : IntKind.i64.wrap (d + 1) = d + 1:=by rw [IntKind.wrap_i64]; omega
  have n1:=World.new_ne XW ⟨w.heap.size,0,none⟩ s0
  have n2:=World.new_ne XW ⟨w.heap.size,1,none⟩ s1
  have n3:=World.new_ne XW ⟨w4.heap.size,0,none⟩ i0
  have n4:=World.new_ne XW ⟨w4.heap.size,1,none⟩ i1
  have n5:=World.new_ne XW ⟨w4.heap.size,2,none⟩ i2
  go_region_held3 (fun w' => w'.cell? ⟨w.heap.size,0,none⟩ = some (.slice sa vs.length sc) ∧ w'.cell? ⟨w.heap.size,1,none⟩ = some (.int .i64 rank) ∧ w'.cell? ⟨w4.heap.size,0,none⟩ = some (.int .i64 21) ∧ w'.cell? ⟨w4.heap.size,1,none⟩ = some (.int .i64 ((v4 : Int) - 4)) ∧ w'.cell? ⟨w4.heap.size,2,none⟩ = some (Value.string ⟨#[]⟩)) (first | exact uh HFV | go_keep) (first | (go_at_call 32; (try rw [hwd]); with_reducible refine (uh HI1 _ rfl).mono ?_; rintro e w9 ⟨a9,n9,p9,va,vn,vc,w5,rfl,o0,o1,o2,o3,o4,l1,l2,HFV,HRUN,HWK⟩; have m1:=World.new_ne w9 ⟨w.heap.size,0,none⟩ o0; have m2:=World.new_ne w9 ⟨w.heap.size,1,none⟩ o1; have m3:=World.new_ne w9 ⟨w4.heap.size,0,none⟩ o2; have m4:=World.new_ne w9 ⟨w4.heap.size,1,none⟩ o3; have m5:=World.new_ne w9 ⟨w4.heap.size,2,none⟩ o4) | (go_at_call 32; (try rw [hwd]); refine (uh HI2 _ rfl).mono ?_; rintro e w9 ⟨a9,n9,p9,va,vn,vc,w5,rfl,o0,o1,o2,o3,o4,HFV,HRUN,HWK⟩) | (refine step_append_run rfl _ _ 55 55 rfl rfl _ _ _ rfl rfl (uh HRUN) ?_))
  all_goals
   have H5:=hide ((uh HWK).end)
   clear HRUN HWK HI1 HI2 HC HFV
   go_wp2
   first | go_ret | skip
   rw [uh HPO]
   exact uh H5
 ·have b2 : ((how : Int) == 2) = false:=by rw [beq_eq_false_iff_ne]; omega
  have b3 : ((how : Int) == 3) = false:=by rw [beq_eq_false_iff_ne]; omega
  have b4 : ((how : Int) == 4) = true:=by rw [beq_iff_eq]; omega
  clear hw
  go_wp2_with fail
  refine (uh HP9).mono ?_
  rintro e w4 ⟨rfl,hc4,ht4⟩
  obtain ⟨XW,hXW⟩ : ∃ XW,XW = w4.alloc (.cells #[.int .i64 21,.int .i64 ((v4 : Int) - 4),Value.string ⟨#[]⟩] 88):=⟨_,rfl⟩
  have HXW:=hide hXW
  have hxa : Below w4.heap.size w4 XW:=hXW ▸ (Below.refl _ _).alloc (Nat.le_refl _) _
  have HX4:=hide ((uh HX3).go hc4 ht4)
  have HXL:=hide ((uh HX4).below hxa)
  have HIB : Hid (BlkAt XW w4.heap.size 88 #[.int .i64 21,.int .i64 ((v4 : Int) - 4),Value.string ⟨#[]⟩]):=hXW ▸ blk_box w4 _ _
  have HNE : Hid (w4.heap.size ≠ cb):=hide (by have:=(uh HX4).cu.blk.lt; omega)
  clear HP9 hc4 ht4 hXW hxa t0 t1 y2
  have HOKL:=HOK4
  go_wp2_with fail
  rw [← uh HXW]
  have hdr : Below XW.heap.size XW XW.drew:=(Below.refl _ _).drew
  have hda : Below XW.drew.heap.size XW.drew (XW.drew.alloc (.cells #[.int .i64 21,.int .i64 ((v4 : Int) - 4),Value.string ⟨#[]⟩] 88)):=(Below.refl _ _).alloc (Nat.le_refl _) _
  have hx1:=(uh HXL).below hdr
  have hx2:=hx1.below hda
  have hkk:=(uh HIN).kk
  have hk4:=(uh HIN).k4
  have HI1 : Hid (∀ Y,Y = XW.drew → Calls Tryz.prog 32 #[.pointer (some ⟨cb,0,none⟩),.agg #[.slice sa vs.length sc,.int .i64 rank],.int .i64 kind,.slice ka k.length kc,.bool true,.int .i64 (d + 1)] Y _):=hide (fun Y hY => by subst hY; exact exp_push hf (uh HC) (uh HIN) hx1 ((uh HIN).at hx1).kl hkk hk4 ((uh HOKL).less (by omega)) kind true ((uh HIB).below hdr (uh HIB).lt) (uh HNE))
  have HI2 : Hid (∀ Y,Y = XW.drew.alloc (.cells #[.int .i64 21,.int .i64 ((v4 : Int) - 4),Value.string ⟨#[]⟩] 88) → Calls Tryz.prog 32 #[.pointer (some ⟨cb,0,none⟩),.agg #[.slice sa vs.length sc,.int .i64 rank],.int .i64 kind,.slice ka k.length kc,.bool true,.int .i64 (d + 1)] Y _):=hide (fun Y hY => by exact exp_push2 hf (uh HC) (uh HIN) (hY ▸ hx2) (hY ▸ ((uh HIN).at hx2).kl) hkk hk4 ((uh HOKL).less (by omega)) kind true (hY ▸ (((uh HIB).below hdr (uh HIB).lt).below hda (Nat.lt_of_lt_of_le (uh HIB).lt hdr.size))) (uh HNE) hY hx1.cu.blk.lt)
  have i0:=(uh HIB).cell (i:=0) (v:=.int .i64 21) rfl
  have i1:=(uh HIB).cell (i:=1) (v:=.int .i64 ((v4 : Int) - 4)) rfl
  have i2:=(uh HIB).cell (i:=2) (v:=Value.string ⟨#[]⟩) rfl
  have s0:=(uh HXL).box.cell (i:=0) (v:=.slice sa vs.length sc) rfl
  have s1:=(uh HXL).box.cell (i:=1) (v:=.int .i64 rank) rfl
  clear hdr hda hx1 hx2 hkk hk4
  have hwd : IntKind.i64.wrap (d + 1) = d + 1:=by rw [IntKind.wrap_i64]; omega
  have n1:=World.new_ne XW ⟨w.heap.size,0,none⟩ s0
  have n2:=World.new_ne XW ⟨w.heap.size,1,none⟩ s1
  have n3:=World.new_ne XW ⟨w4.heap.size,0,none⟩ i0
  have n4:=World.new_ne XW ⟨w4.heap.size,1,none⟩ i1
  have n5:=World.new_ne XW ⟨w4.heap.size,2,none⟩ i2
  go_region_held3 (fun w' => w'.cell? ⟨w.heap.size,0,none⟩ = some (.slice sa vs.length sc) ∧ w'.cell? ⟨w.heap.size,1,none⟩ = some (.int .i64 rank) ∧ w'.cell? ⟨w4.heap.size,0,none⟩ = some (.int .i64 21) ∧ w'.cell? ⟨w4.heap.size,1,none⟩ = some (.int .i64 ((v4 : Int) - 4)) ∧ w'.cell? ⟨w4.heap.size,2,none⟩ = some (Value.string ⟨#[]⟩)) (first | exact uh HFV | go_keep) (first | (go_at_call 32; (try rw [hwd]); with_reducible refine (uh HI1 _ rfl).mono ?_; rintro e w9 ⟨a9,n9,p9,va,vn,vc,w5,rfl,o0,o1,o2,o3,o4,l1,l2,HFV,HRUN,HWK⟩; have m1:=World.new_ne w9 ⟨w.heap.size,0,none⟩ o0; have m2:=World.new_ne w9 ⟨w.heap.size,1,none⟩ o1; have m3:=World.new_ne w9 ⟨w4.heap.size,0,none⟩ o2; have m4:=World.new_ne w9 ⟨w4.heap.size,1,none⟩ o3; have m5:=World.new_ne w9 ⟨w4.heap.size,2,none⟩ o4) | (go_at_call 32; (try rw [hwd]); refine (uh HI2 _ rfl).mono ?_; rintro e w9 ⟨a9,n9,p9,va,vn,vc,w5,rfl,o0,o1,o2,o3,o4,HFV,HRUN,HWK⟩) | (refine step_append_run rfl _ _ 55 55 rfl rfl _ _ _ rfl rfl (uh HRUN) ?_))
  all_goals
   have H5:=hide ((uh HWK).end)
   clear HRUN HWK HI1 HI2 HC HFV
   go_wp2
   first | go_ret | skip
   rw [uh HPO]
   exact uh H5
end
end Go.Proofs.YtajabbnlbopcbaaGreatDoor
namespace Go.Proofs.YtajabbnlbopcbaaGreatDoor
open Go.RowKit
set_option linter.unusedSimpArgs false
set_option linter.unusedVariables false
section
variable {ts : List TK} {W0 : World} {q : Nat} {tv iv iv' : Value} {W1 w : World} {L : List Pc} {xs : List DItem}
theorem Pz.box (h : Pz ts W0 q tv w L) {b : Nat} {X : World} (ht : Tr b w X) (hb : q < b) : Pz ts W0 q tv X L:=by
 obtain ⟨iv9,hp9⟩:=h
 obtain ⟨i9,g1,g2,g3⟩:=hp9.at_
 exact ⟨iv9,hp9.toks,hp9.low,hp9.few,hp9.good,hp9.old.trans (ht.below hp9.old.size (by have:=hp9.low; omega)),i9,ht.blk g1 (by omega),g2,g3⟩
theorem Tr.new {r b : Nat} {w0 w X : World} (h : Tr r w0 w) (ht : Tr b w X) (hb : w0.heap.size ≤ b) : Tr r w0 X :=
 ⟨ht.os.trans h.os,ht.tape.trans h.tape,ht.output.trans h.output,Nat.le_trans h.size ht.size,fun k hk hn => (ht.block k (by have:=h.size; omega) (by omega)).trans (h.block k hk hn)⟩
set_option maxHeartbeats 2000000 in
theorem local_ok {v : DVar} (hv : okW v) {t : Pc} (ht1 : ¬ t.text = Kwhen) (ht2 : ¬ t.text = Kwhenot) (h : Pz ts W0 q tv w (dlK v ++ t :: L)) :
  Calls Tryz.prog 79 #[.pointer (some ⟨q,0,none⟩)] w (VPost ts W0 q tv w (t :: L) v):=by
 obtain ⟨nm,ty,cl⟩:=v
 obtain ⟨h1,h2,h3,h4⟩:=hv
 simp only at h1 h2 h3 h4
 have hnm:=(plain_parts h1).1.2
 have hA : Below w.heap.size w (w.alloc (.cells #[.string ⟨#[]⟩,.int .i64 0,.slice none 0 0] 67)):=(Below.refl _ _).alloc (Nat.le_refl _) _
 have hbx:=blk_box w #[.string ⟨#[]⟩,.int .i64 0,.slice none 0 0] 67
 have hql:=h.lt
 have HP:=hide (port_ok (v:=⟨nm,ty,[]⟩) hnm h2 rfl (L:=cl.flatMap cdK ++ t :: L) (h.below hA))
 have HT0:=hide (Tr.of_below (r:=q) hA)
 have HBX:=hide hbx
 have hne : w.heap.size ≠ q:=by omega
 have HH:=hide (And.intro ht1 ht2)
 have H4 : Hid (∀ c ∈ cl,c.name.size ≤ 40):=hide (fun c hc => (plain_parts (h4 c hc)).1.2)
 obtain ⟨PO,hPO⟩ : ∃ PO : Ending → World → Prop,PO = VPost ts W0 q tv w (t :: L) ⟨nm,ty,cl⟩:=⟨_,rfl⟩
 rw [← hPO]
 have HPO:=hide hPO
 have HTY : Hid (I64 ty):=by show I64 ty; unfold I64; omega
 clear h hA hbx hPO ht1 ht2 h1 h4 h2
 go_enter Tryz.func79,Tryz.ntmps79
 go_wp2_with fail
 refine (uh HP).mono ?_
 rintro e w1 ⟨a1,n1,c1,rfl,hF1,hp1,ht1⟩
 have hz1:=ht1.size
 have hz0:=(uh HT0).size
 obtain ⟨A,hAA⟩ : ∃ A,A = w1.alloc (.cells #[.string nm,.int .i64 ty,.slice a1 n1 c1] 67):=⟨_,rfl⟩
 have hA : Below w1.heap.size w1 A:=hAA ▸ (Below.refl _ _).alloc (Nat.le_refl _) _
 have hbv : BlkAt A w1.heap.size 67 #[.string nm,.int .i64 ty,.slice a1 n1 c1]:=hAA ▸ blk_box w1 _ _
 have hrt:=(ht1.blk (uh HBX) hne).below hA (by have:=(uh HBX).lt; omega)
 obtain ⟨iv1,hps1⟩:=hp1.below hA
 have HC:=hide (conditions_ok cl hps1 (uh H4) (by omega) (uh HH).1 (uh HH).2)
 have HT1:=hide (((uh HT0).trans ht1).trans (Tr.of_below hA))
 have HB1:=hide (And.intro hbv hrt)
 have HAA:=hide hAA
 have hl1 : w.heap.size < w1.heap.size:=by have:=(uh HBX).lt; omega
 have hl2 : A.heap.size = w1.heap.size + 1:=by rw [hAA]; simp
 have HL2:=hide hl2
 clear hF1 hp1 ht1 hA hbv hrt hps1 HP HT0 HBX hAA hl2 hz1 hz0
 go_wp2_with fail
 rw [← uh HAA]
 refine (uh HC).mono ?_
 rintro e w2 ⟨a2,c2,rfl,hown,hps,htr⟩
 have hA2:=htr.size
 have hbv:=htr.blk (uh HB1).1 (by have:=uh HL2; omega)
 have hrt:=htr.blk (uh HB1).2 hne
 obtain ⟨B,hBB⟩ : ∃ B,B = w2.setCell ⟨w1.heap.size,2,none⟩ (.slice a2 cl.length c2):=⟨_,rfl⟩
 have hTB : Tr w1.heap.size w2 B:=hBB ▸ Tr.setCell _ _ _ _
 have hbvB : BlkAt B w1.heap.size 67 #[.string nm,.int .i64 ty,.slice a2 cl.length c2]:=by rw [hBB]; exact hbv.set 2 _
 have hrtB:=hTB.blk hrt (by omega)
 have hT3:=Tr.set3 w.heap.size B (.string nm) (.int .i64 ty) (.slice a2 cl.length c2)
 have hr:=hrtB.set3 (x:=.string nm) (y:=.int .i64 ty) (z:=.slice a2 cl.length c2)
 have hownB : OwnV elCond (((B.setCell ⟨w.heap.size,0,none⟩ (.string nm)).setCell ⟨w.heap.size,1,none⟩ (.int .i64 ty)).setCell ⟨w.heap.size,2,none⟩ (.slice a2 cl.length c2)) A.heap.size (.slice a2 cl.length c2) cl:=by
  have h9 : OwnV elCond B A.heap.size (.slice a2 cl.length c2) cl:=hown.ofBlock (fun b hb => hTB.block b (World.ownsRow.lt hown b hb).2 (by have:=(World.ownsRow.lt hown b hb).1; have:=uh HL2; omega))
  exact h9.ofBlock (fun b hb => hT3.block b (World.ownsRow.lt h9 b hb).2 (by have:=(World.ownsRow.lt h9 b hb).1; have:=uh HL2; omega))
 have HF : Hid (PO (.returned (.agg #[.string nm,.int .i64 ty,.slice a2 cl.length c2])) (((B.setCell ⟨w.heap.size,0,none⟩ (.string nm)).setCell ⟨w.heap.size,1,none⟩ (.int .i64 ty)).setCell ⟨w.heap.size,2,none⟩ (.slice a2 cl.length c2))):=by
  show PO _ _
  rw [uh HPO]
  refine ⟨a2,cl.length,c2,rfl,?_,?_,?_⟩
  ·obtain ⟨bs,q1,q2,q3⟩:=(hownB.low (b2:=w.heap.size) (by have:=uh HL2; omega)).fin (ok:=okC) (fun x hx => by have:=uh H4 x hx; unfold okC Len; omega) (by simp [elCond]; omega)
   exact ⟨bs,⟨_,rfl,by unfold Len; simp only; omega,uh HTY,q1⟩,q2,q3⟩
  ·exact ((Pz.box (⟨iv1,hps⟩ : Pz ts W0 q tv w2 (t :: L)) hTB (by omega)).box hT3 (by omega))
  ·exact (((uh HT1).trans htr).new hTB (by omega)).new hT3 (Nat.le_refl _)
 have b0:=hbv.cell (i:=0) (v:=.string nm) rfl
 have b1:=hbv.cell (i:=1) (v:=.int .i64 ty) rfl
 have b2:=hbv.cell (i:=2) (v:=.slice a1 n1 c1) rfl
 have bf:=hbv.free 2
 have bl:=hbv.lt
 have v0:=hbvB.cell (i:=0) (v:=.string nm) rfl
 have v1:=hbvB.cell (i:=1) (v:=.int .i64 ty) rfl
 have v2:=hbvB.cell (i:=2) (v:=.slice a2 cl.length c2) rfl
 have y0:=hrtB.cell (i:=0) (v:=.string ⟨#[]⟩) rfl
 have y1:=hrtB.cell (i:=1) (v:=.int .i64 0) rfl
 have y2:=hrtB.cell (i:=2) (v:=.slice none 0 0) rfl
 have g0:=hrtB.free 0
 have g1:=hrtB.free 1
 have g2:=hrtB.free 2
 have l4:=hrtB.lt
 have r0:=hr.cell (i:=0) (v:=.string nm) rfl
 have r1:=hr.cell (i:=1) (v:=.int .i64 ty) rfl
 have r2:=hr.cell (i:=2) (v:=.slice a2 cl.length c2) rfl
 have HBB:=hide hBB
 rw [hBB] at v0 v1 v2 y0 y1 y2 g0 g1 g2 l4 r0 r1 r2 HF
 clear hown hps htr hA2 hbv hrt hTB hbvB hrtB hT3 hr hownB hBB HC HT1 HB1
 go_wp2
 refine bodyPost_ret ?_ rfl (uh HF)
 simp [results,Tryz.results79,go_sem,r0,r1,r2]
end
end Go.Proofs.YtajabbnlbopcbaaGreatDoor
