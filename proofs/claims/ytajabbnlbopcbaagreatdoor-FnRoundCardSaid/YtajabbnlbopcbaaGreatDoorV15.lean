import Derived.Test.YtajabbnlbopcbaaGreatDoorV5
import Derived.Test.YtajabbnlbopcbaaGreatDoorV6
import Derived.Test.YtajabbnlbopcbaaGreatDoorV7
import Derived.Test.YtajabbnlbopcbaaGreatDoorV8
import Derived.Test.YtajabbnlbopcbaaGreatDoorV9
import Derived.Test.YtajabbnlbopcbaaGreatDoorVT0
import Derived.Deep.Cut
import Derived.Test.YtajabbnlbopcbaaGreatDoorVQ1
import Derived.Test.YtajabbnlbopcbaaGreatDoorPF3
namespace Go.Proofs.YtajabbnlbopcbaaGreatDoor
open Go.RowKit
set_option linter.unusedSimpArgs false
set_option linter.unusedVariables false
section
variable {code : List Int} {W0 : World} {cb : Nat} {cv : Value} {w : World} {c c' : Cur} {vs : List DVar} {sv kv : Value} {k : List DCond} {b7 rank : Nat} {X Y : World}
theorem pair_ex {α β : Type} (p : α × β) : ∃ a b,p = (a,b):=⟨p.1,p.2,rfl⟩
theorem tail_rest {f : Nat} (hf : f ≤ 5) {d : Int} (hd0 : 0 ≤ d) (hd5 : d ≤ 5) (hC : ExC code W0 cb cv vs rank f (d + 1)) {kind : Int} {late : Bool} {sa ka : Option Addr} {sc kc : Nat} (hin : ExIn code W0 cb cv vs w c (.slice sa vs.length sc) (.slice ka k.length kc) k) {c3 : Cur} {w3 : World} (hx : Xs code W0 cb cv w w.heap.size (.slice sa vs.length sc) rank w3 c3) (hok3 : okB (3 * kE f + 4) c3) {u : Nat → Value} (h0 : u 0 = .pointer (some ⟨cb,0,none⟩)) (h2 : u 2 = .int .i64 kind) (h3 : u 3 = .slice ka k.length kc) (h4 : u 4 = .bool late) (h5 : u 5 = .int .i64 d) (h7 : u 7 = .pointer (some ⟨w.heap.size,0,none⟩)) (h213 : u 213 = .bool (kind == 1)) {K : Act → World → Prop} {PO : Ending → World → Prop} (HK : ∀ a w,Code.wp Tryz.prog (rtC 1 (rtC 6 (Tryz.f32.body.getD .skip))) (bodyPost Tryz.prog Tryz.f32 PO) a w → K a w) (hPO : PO = ExAns code W0 cb cv w (rsF code (exF code vs rank f) c3 kind k late)) :
  Code.wp Tryz.prog (rtC 1 (lfC (rtC 6 (Tryz.f32.body.getD .skip)))) (Exit.then K (bodyPost Tryz.prog Tryz.f32 PO)) (FrE u) w3:=by
 by_cases hk : kind = 1
 ·obtain ⟨v4,c4,hP⟩:=pair_ex (pkF code 6 c3)
  by_cases hv : v4 = 5
  ·exact exp_neg hf hd0 hd5 hC hin hx hok3 h0 h2 h3 h4 h5 h7 h213 HK hPO hk hP hv
  ·exact exp_bin hf hd0 hd5 hC hin hx hok3 h0 h2 h3 h4 h5 h7 h213 HK hPO hk hP hv
 ·obtain ⟨v4,c4,hP⟩:=pair_ex (pkF code 4 c3)
  by_cases hv : v4 = 0
  ·exact exp_not hf hd0 hd5 hC hin hx hok3 h0 h2 h3 h4 h5 h7 h213 HK hPO hk hP hv
  ·by_cases hv1 : v4 = 1
   ·exact exp_and hf hd0 hd5 hC hin hx hok3 h0 h2 h3 h4 h5 h7 h213 HK hPO hk hP hv1
   ·exact exp_cmp hf hd0 hd5 hC hin hx hok3 h0 h2 h3 h4 h5 h7 h213 HK hPO hk hP (by omega)
set_option maxRecDepth 1000000 in
set_option maxHeartbeats 8000000 in
theorem exp_rest {f : Nat} (hf : f ≤ 5) {d : Int} (hd0 : 0 ≤ d) (hd5 : d ≤ 5) (hC : ExC code W0 cb cv vs rank f (d + 1)) {kind : Int} {late : Bool} (hin : ExIn code W0 cb cv vs w c sv kv k) (hok : okB (kE (f + 1)) c) {how : Nat} {c3 : Cur} (hP12 : pkF code 12 (dcR c) = (how,c3)) (hroom : 0 < c3.room) (hr : 10 ≤ how ∨ ((how = 6 ∨ how = 7) ∧ k.length = 0) ∨ ((how = 8 ∨ how = 9) ∧ ¬ (0 < (fnF vs rank 2 k late).length ∧ k.length < 4))) :
  Calls Tryz.prog 32 #[.pointer (some ⟨cb,0,none⟩),.agg #[sv,.int .i64 rank],.int .i64 kind,kv,.bool late,.int .i64 d] w (ExAns code W0 cb cv w (rsF code (exF code vs rank f) c3 kind k late)):=by
 have hkE : 3 ≤ kE (f + 1):=by generalize f + 1 = F9; cases F9 <;> simp [kE]
 obtain ⟨sa,sc,rfl⟩:=hin.sl.shape
 obtain ⟨ka,kc,rfl⟩:=hin.kl.shape
 have hcu:=hin.cu
 have hblk:=hcu.blk
 have hcl:=hblk.lt
 obtain ⟨A,hAA⟩ : ∃ A,A = w.setCell ⟨cb,2,none⟩ (.int .i64 (c.room - 1)):=⟨_,rfl⟩
 have hTA : Tr cb w A:=hAA ▸ Tr.setCell _ _ _ _
 have hcA : CuAt code W0 cb cv A (dcR c):=hcu.go hTA (by rw [hAA]; exact hblk.set 2 _)
 have hAz : A.heap.size = w.heap.size:=by rw [hAA]; simp
 obtain ⟨B,hBB⟩ : ∃ B,B = A.alloc (.cells #[.slice sa vs.length sc,.int .i64 rank] 91):=⟨_,rfl⟩
 have hB : Below A.heap.size A B:=hBB ▸ (Below.refl _ _).alloc (Nat.le_refl _) _
 have hbs : BlkAt B w.heap.size 91 #[.slice sa vs.length sc,.int .i64 rank]:=by rw [hBB,← hAz]; exact blk_box A _ _
 have hcB:=hcA.below hB
 have hxB : Xs code W0 cb cv w w.heap.size (.slice sa vs.length sc) rank B (dcR c):=⟨hcB,hbs,hTA.trans (Tr.of_below hB),hcl,Nat.le_refl _⟩
 have hinB:=hin.at hxB
 have HFD:=hide (find_ok (hinB.sl.lower RVar_lowers (Nat.zero_le _)) (hinB.kl.lower RCond_lowers (Nat.zero_le _)) (Nat.le_trans hin.few (by omega)) rank kind late)
 have hok1 : okB (kE (f + 1) - 1) (dcR c):=by
  obtain ⟨g1,g2,g3,g4⟩:=hok
  exact ⟨by simp only [dcR]; omega,by simp only [dcR]; omega,by simp only [dcR]; omega,g4⟩
 have hokp : okB (kE (f + 1) - 2) (pkF code 12 (dcR c)).2:=pkF_ok (by rw [show kE (f + 1) - 2 + 1 = kE (f + 1) - 1 by omega]; exact hok1)
 have hrm:=pkF_room code 12 (dcR c)
 have hhow:=pkF_lt code (m:=12) (dcR c) (by omega)
 have HPK : Hid (∀ X,Below B.heap.size B X → Calls Tryz.prog 9 #[.pointer (some ⟨cb,0,none⟩),.int .i64 12] X (CuAns code W0 cb cv X (.int .i64 (pkF code 12 (dcR c)).1) (pkF code 12 (dcR c)).2)):=hide (fun X hX => pick_ok (hcB.below hX) 12 (by omega) (hok1.less (by omega)))
 have c2:=hblk.cell (i:=2) (v:=.int .i64 c.room) rfl
 have f2:=hblk.free 2
 have s0:=hxB.box.cell (i:=0) (v:=.slice sa vs.length sc) rfl
 have s1:=hxB.box.cell (i:=1) (v:=.int .i64 rank) rfl
 obtain ⟨PO,hPO⟩ : ∃ PO : Ending → World → Prop,PO = ExAns code W0 cb cv w (rsF code (exF code vs rank f) c3 kind k late):=⟨_,rfl⟩
 rw [← hPO]
 have HPO:=hide hPO
 have HIN:=hide hin
 have HXB:=hide hxB
 have HAB:=hide (And.intro hAA hBB)
 have hbd:=hok
 obtain ⟨r1,r2,r3,r4⟩:=hbd
 have hrm2 : (pkF code 12 (dcR c)).2.room = c.room - 1:=hrm
 rw [hBB,hAA] at s0 s1
 clear hcu hblk hTA hcA hAz hB hbs hcB hxB hinB hok1 hPO hin hAA hBB hrm
 rw [hP12] at hokp hhow hrm2 HPK
 replace hokp : okB (kE (f + 1) - 2) c3:=hokp
 replace hhow : how < 12:=hhow
 replace hrm2 : c3.room = c.room - 1:=hrm2
 replace HPK : Hid (∀ X,Below B.heap.size B X → Calls Tryz.prog 9 #[.pointer (some ⟨cb,0,none⟩),.int .i64 12] X (CuAns code W0 cb cv X (.int .i64 how) c3)):=HPK
 clear hP12
 go_enter Tryz.func32,Tryz.ntmps32
 go_wp2_with fail
 rw [← (uh HAB).1,← (uh HAB).2]
 refine (uh HFD).mono ?_
 rintro e w2 ⟨na,ncap,rfl,hno,hb2⟩
 have HP3:=hide (uh HPK _ hb2)
 have HX2:=hide ((uh HXB).below hb2)
 have HNO:=hide hno
 clear hno HFD HPK s0 s1 c2 f2
 go_wp2_with fail
 refine (uh HP3).mono ?_
 rintro e w3 ⟨rfl,hc3,ht3⟩
 have HX3:=hide ((uh HX2).go hc3 ht3)
 have hnb : ∀ b,(Value.slice na (fnF vs rank kind k late).length ncap).ownBlock = some b → b ≠ cb:=fun b hb => by have:=(World.ownsRow.lt (uh HNO) b hb).1; have:=(uh HXB).tr.size; omega
 have HN3:=hide ((uh HNO).ofBlock (fun b hb => ht3.block b (World.ownsRow.lt (uh HNO) b hb).2 (hnb b hb)))
 have y2:=(uh HX3).cu.blk.cell (i:=2) (v:=.int .i64 c3.room) rfl
 have t0:=(uh HX3).box.cell (i:=0) (v:=.slice sa vs.length sc) rfl
 have t1:=(uh HX3).box.cell (i:=1) (v:=.int .i64 rank) rfl
 have hBz:=(uh HXB).tr.size
 have hfl:=fnTo_len vs rank kind k late vs.length
 clear hc3 ht3 hnb HP3 HX2 HNO hb2 hrm2
 have HC:=hide hC
 have hok3 : okB (3 * kE f + 4) c3:=by have h9:=hokp; simp only [kE] at h9; exact h9.less (by omega)
 have HOK3:=hide hok3
 have HDR:=hide (exF_dr (code:=code) (rank:=rank) (uh HIN).vk f)
 have HLN : Hid (∀ c kind k late,kOK k → (exF code vs rank f c kind k late).1.length ≤ 1093):=hide (fun c kind k late hk => Nat.le_trans (exF_dr (code:=code) (rank:=rank) (uh HIN).vk f c kind k late hk).2.1 (szE_le (by omega)))
 have q1 : decide (c3.room ≤ 0) = false:=by simp; omega
 have q2 : decide (5 < d) = false:=by simp; omega
 have q3 : decide ((how : Int) ≤ 1) = false:=by simp; omega
 have q4 : decide (how ≤ 1) = false:=by simp; omega
 have HHW:=hide hhow
 clear hC hok3 hokp hok hkE r1 r2 r3 r4 hfl hroom hhow
 rcases hr with hw | ⟨hw,hk0⟩ | ⟨hw,hn⟩
 ·have b2 : ((how : Int) == 2) = false:=by rw [beq_eq_false_iff_ne]; omega
  have b3 : ((how : Int) == 3) = false:=by rw [beq_eq_false_iff_ne]; omega
  have b4 : ((how : Int) == 4) = false:=by rw [beq_eq_false_iff_ne]; omega
  have b5 : ((how : Int) == 5) = false:=by rw [beq_eq_false_iff_ne]; omega
  have b6 : ((how : Int) == 6) = false:=by rw [beq_eq_false_iff_ne]; omega
  have b7 : ((how : Int) == 7) = false:=by rw [beq_eq_false_iff_ne]; omega
  have b8 : ((how : Int) == 8) = false:=by rw [beq_eq_false_iff_ne]; omega
  have b9 : ((how : Int) == 9) = false:=by rw [beq_eq_false_iff_ne]; omega
  clear hw
  go_upto_if 213 with (fail)
  rw [frE_mk _ rfl]
  exact tail_rest hf hd0 hd5 (uh HC) (uh HIN) (uh HX3) (uh HOK3) rfl rfl rfl rfl rfl rfl rfl ‹_› (uh HPO)
 ·have hkn : k = []:=List.eq_nil_of_length_eq_zero hk0
  clear hk0
  subst hkn
  rcases hw with hw | hw
  ·have b2 : ((how : Int) == 2) = false:=by rw [beq_eq_false_iff_ne]; omega
   have b3 : ((how : Int) == 3) = false:=by rw [beq_eq_false_iff_ne]; omega
   have b4 : ((how : Int) == 4) = false:=by rw [beq_eq_false_iff_ne]; omega
   have b5 : ((how : Int) == 5) = false:=by rw [beq_eq_false_iff_ne]; omega
   have b6 : ((how : Int) == 6) = true:=by rw [beq_iff_eq]; omega
   clear hw
   go_upto_if 213 with (fail)
   rw [frE_mk _ rfl]
   exact tail_rest hf hd0 hd5 (uh HC) (uh HIN) (uh HX3) (uh HOK3) rfl rfl rfl rfl rfl rfl rfl ‹_› (uh HPO)
  ·have b2 : ((how : Int) == 2) = false:=by rw [beq_eq_false_iff_ne]; omega
   have b3 : ((how : Int) == 3) = false:=by rw [beq_eq_false_iff_ne]; omega
   have b4 : ((how : Int) == 4) = false:=by rw [beq_eq_false_iff_ne]; omega
   have b5 : ((how : Int) == 5) = false:=by rw [beq_eq_false_iff_ne]; omega
   have b6 : ((how : Int) == 6) = false:=by rw [beq_eq_false_iff_ne]; omega
   have b7 : ((how : Int) == 7) = true:=by rw [beq_iff_eq]; omega
   clear hw
   go_upto_if 213 with (fail)
   rw [frE_mk _ rfl]
   exact tail_rest hf hd0 hd5 (uh HC) (uh HIN) (uh HX3) (uh HOK3) rfl rfl rfl rfl rfl rfl rfl ‹_› (uh HPO)
 ·have hfw:=(uh HIN).few
  have HFD:=hide (find_ok ((((uh HIN).at (uh HX3)).sl).lower RVar_lowers (Nat.zero_le _)) ((((uh HIN).at (uh HX3)).kl).lower RCond_lowers (Nat.zero_le _)) (Nat.le_trans hfw (by omega)) rank 2 late)
  have hcs : (decide (0 < ((fnF vs rank 2 k late).length : Int)) = false) ∨ (decide (0 < ((fnF vs rank 2 k late).length : Int)) = true ∧ decide ((k.length : Int) < 4) = false):=by
   simp only [decide_eq_true_eq,decide_eq_false_iff_not]
   omega
  clear hn
  rcases hw with hw | hw
  ·have b2 : ((how : Int) == 2) = false:=by rw [beq_eq_false_iff_ne]; omega
   have b3 : ((how : Int) == 3) = false:=by rw [beq_eq_false_iff_ne]; omega
   have b4 : ((how : Int) == 4) = false:=by rw [beq_eq_false_iff_ne]; omega
   have b5 : ((how : Int) == 5) = false:=by rw [beq_eq_false_iff_ne]; omega
   have b6 : ((how : Int) == 6) = false:=by rw [beq_eq_false_iff_ne]; omega
   have b7 : ((how : Int) == 7) = false:=by rw [beq_eq_false_iff_ne]; omega
   have b8 : ((how : Int) == 8) = true:=by rw [beq_iff_eq]; omega
   clear hw
   go_wp2_with fail
   refine (uh HFD).mono ?_
   rintro e w4 ⟨xa,xcap,rfl,ho4,hb4⟩
   have HX4:=hide ((uh HX3).below hb4)
   clear ho4 hb4 HFD t0 t1 y2
   generalize (fnF vs rank 2 k late).length = NL at *
   rcases hcs with d0 | ⟨d0,d1⟩
   ·have e0 : NL = 0:=by simpa using d0
    clear d0
    subst e0
    go_upto_if 213 with (fail)
    rw [frE_mk _ rfl]
    exact tail_rest hf hd0 hd5 (uh HC) (uh HIN) (uh HX4) (uh HOK3) rfl rfl rfl rfl rfl rfl rfl ‹_› (uh HPO)
   ·have d2 : 0 < NL:=by simpa using d0
    have d3 : ¬ k.length < 4:=by have h9:=of_decide_eq_false d1; omega
    go_upto_if 213 with (fail)
    rw [frE_mk _ rfl]
    exact tail_rest hf hd0 hd5 (uh HC) (uh HIN) (uh HX4) (uh HOK3) rfl rfl rfl rfl rfl rfl rfl ‹_› (uh HPO)
  ·have b2 : ((how : Int) == 2) = false:=by rw [beq_eq_false_iff_ne]; omega
   have b3 : ((how : Int) == 3) = false:=by rw [beq_eq_false_iff_ne]; omega
   have b4 : ((how : Int) == 4) = false:=by rw [beq_eq_false_iff_ne]; omega
   have b5 : ((how : Int) == 5) = false:=by rw [beq_eq_false_iff_ne]; omega
   have b6 : ((how : Int) == 6) = false:=by rw [beq_eq_false_iff_ne]; omega
   have b7 : ((how : Int) == 7) = false:=by rw [beq_eq_false_iff_ne]; omega
   have b8 : ((how : Int) == 8) = false:=by rw [beq_eq_false_iff_ne]; omega
   have b9 : ((how : Int) == 9) = true:=by rw [beq_iff_eq]; omega
   clear hw
   go_wp2_with fail
   refine (uh HFD).mono ?_
   rintro e w4 ⟨xa,xcap,rfl,ho4,hb4⟩
   have HX4:=hide ((uh HX3).below hb4)
   clear ho4 hb4 HFD t0 t1 y2
   generalize (fnF vs rank 2 k late).length = NL at *
   rcases hcs with d0 | ⟨d0,d1⟩
   ·have e0 : NL = 0:=by simpa using d0
    clear d0
    subst e0
    go_upto_if 213 with (fail)
    rw [frE_mk _ rfl]
    exact tail_rest hf hd0 hd5 (uh HC) (uh HIN) (uh HX4) (uh HOK3) rfl rfl rfl rfl rfl rfl rfl ‹_› (uh HPO)
   ·have d2 : 0 < NL:=by simpa using d0
    have d3 : ¬ k.length < 4:=by have h9:=of_decide_eq_false d1; omega
    go_upto_if 213 with (fail)
    rw [frE_mk _ rfl]
    exact tail_rest hf hd0 hd5 (uh HC) (uh HIN) (uh HX4) (uh HOK3) rfl rfl rfl rfl rfl rfl rfl ‹_› (uh HPO)
theorem exp_ok : ∀ (f : Nat) (d : Int),(f : Int) + d = 6 → 0 ≤ d → ExC code W0 cb cv vs rank f d
 | 0,d,hd,_ => fun w c sv kv kind k late hin hok => by
  obtain ⟨how,c3,hP⟩:=pair_ex (pkF code 12 (dcR c))
  have h9:=exp_leaf (rank:=rank) (f:=0) (kind:=kind) (late:=late) (d:=d) (by omega) (by omega) hin hok hP (Or.inr (Or.inl (by omega)))
  rw [exF,hP]
  exact h9
 | f + 1,d,hd,hd0 => fun w c sv kv kind k late hin hok => by
  have hC:=exp_ok f (d + 1) (by omega) (by omega)
  obtain ⟨how,c3,hP⟩:=pair_ex (pkF code 12 (dcR c))
  have hhow : how < 12:=by
   have h9:=pkF_lt code (m:=12) (dcR c) (by omega)
   rw [hP] at h9
   exact h9
  have hf : f ≤ 5:=by omega
  have hd5 : d ≤ 5:=by omega
  rw [exF,hP]
  show Calls _ _ _ _ (ExAns code W0 cb cv w (if c3.room ≤ 0 ∨ how ≤ 1 then lfF code (fnF vs rank kind k late) kind c3 else exA code vs rank (exF code vs rank f) how c3 kind k late))
  by_cases hlf : c3.room ≤ 0 ∨ how ≤ 1
  ·rw [if_pos hlf]
   exact exp_leaf (rank:=rank) hd0 (by omega) hin hok hP (by omega)
  rw [if_neg hlf]
  have hroom : 0 < c3.room:=by omega
  unfold exA
  by_cases h2 : how = 2
  ·rw [if_pos h2]
   exact exp_const hf hd0 hd5 hC hin hok hP hroom h2
  rw [if_neg h2]
  by_cases h3 : how = 3 ∨ how = 4
  ·rw [if_pos h3]
   by_cases hk : kind = 2
   ·subst hk
    exact exp_fbyB hf hd0 hd5 hC hin hok hP hroom h3
   ·exact exp_fbyI hf hd0 hd5 hC hin hok hP hroom h3 hk
  rw [if_neg h3]
  by_cases h5 : how = 5
  ·rw [if_pos h5]
   exact exp_if hf hd0 hd5 hC hin hok hP hroom h5
  rw [if_neg h5]
  by_cases h6 : how = 6 ∨ how = 7
  ·rw [if_pos h6]
   by_cases hk : 0 < k.length
   ·rw [dif_pos hk]
    exact exp_when hf hd0 hd5 hC hin hok hP hroom h6 hk
   ·rw [dif_neg hk]
    exact exp_rest hf hd0 hd5 hC hin hok hP hroom (Or.inr (Or.inl ⟨h6,by omega⟩))
  rw [if_neg h6]
  by_cases h8 : how = 8 ∨ how = 9
  ·rw [if_pos h8]
   by_cases hn : 0 < (fnF vs rank 2 k late).length ∧ k.length < 4
   ·rw [if_pos hn]
    exact exp_merge hf hd0 hd5 hC hin hok hP hroom h8 hn.1 hn.2
   ·rw [if_neg hn]
    exact exp_rest hf hd0 hd5 hC hin hok hP hroom (Or.inr (Or.inr ⟨h8,hn⟩))
  rw [if_neg h8]
  exact exp_rest hf hd0 hd5 hC hin hok hP hroom (Or.inl (by omega))
end
end Go.Proofs.YtajabbnlbopcbaaGreatDoor
namespace Go.Proofs.YtajabbnlbopcbaaGreatDoor
open Go.RowKit
set_option linter.unusedSimpArgs false
set_option linter.unusedVariables false
def nmV (p : UInt8) (n : Nat) : ByteArray:=⟨#[p]⟩ ++ dcN n
theorem kws_dig : ∀ x ∈ kws,digB (byt x 1) = false:=by decide
theorem dcN_small {n : Nat} (h : n < 100) : (dcN n).size ≤ 2:=by
 have one : ∀ m,m < 10 → (dcN m).size = 1:=fun m hm => by
  rw [dcN_size,Lib.decDigits,dif_pos hm]
  rfl
 by_cases h1 : n < 10
 ·rw [one n h1]; omega
 ·rw [dcN_step n h1,ba_size,one (n / 10) (by omega)]
  show 1 + 1 ≤ 2
  omega
theorem nm_plain {p : UInt8} {n : Nat} (h : n < 100) (hp : letB (p.toNat : Int) = true) : plainB (nmV p n) = true:=by
 have hs : (nmV p n).size = 1 + (dcN n).size:=by unfold nmV; rw [ba_size]; rfl
 have h2:=dcN_small h
 have h1:=dcN_pos n
 have b0 : byt (nmV p n) 0 = (p.toNat : Int):=by
  unfold nmV
  rw [byt_left (show 0 < 1 by omega),byt_lt (show 0 < 1 by omega)]
  rfl
 have bs : ∀ j,byt (nmV p n) (1 + j) = byt (dcN n) j:=fun j => byt_right (a:=⟨#[p]⟩) (b:=dcN n) j
 have hk : kwB (nmV p n) = false:=by
  cases hkw : kwB (nmV p n)
  ·rfl
  ·have h9:=kws_dig _ (kw_mem hkw)
   have h8:=bs 0
   rw [Nat.add_zero] at h8
   rw [h8,dcN_dig n 0 (by omega)] at h9
   exact absurd h9 (by decide)
 unfold plainB
 simp only [Bool.and_eq_true,decide_eq_true_iff,Bool.not_eq_true']
 refine ⟨⟨⟨by omega,by rw [b0]; exact hp⟩,hk⟩,allB_true (fun j hj _ => ?_)⟩
 cases j with
 | zero => rw [b0]; exact let_word hp
 | succ j =>
  rw [Nat.add_comm j 1,bs j]
  exact dig_word (dcN_dig n j (by omega))
def isB (v : DVar) : Bool:=decide (v.type = 2) && decide (v.clock.length < 3)
theorem isB_len {v : DVar} (h : isB v = true) : v.clock.length < 3:=by
 unfold isB at h
 rw [Bool.and_eq_true,decide_eq_true_iff,decide_eq_true_iff] at h
 exact h.2
def dV : DVar:=⟨noN,0,[]⟩
def dE : DEq:=⟨[],[],noN,[]⟩
def dN : DNode:=⟨noN,[],[],[],[]⟩
def clF (code : List Int) (vs : List DVar) (c : Cur) : List DCond × Cur :=
 if (vs.filter isB).length = 0 then ([],c)
 else if (pkF code 3 c).1 = 2 then ([],(pkF code 3 c).2)
 else (((vs.filter isB).getD (pkF code (vs.filter isB).length (pkF code 3 c).2).1 dV).clock ++ [⟨((vs.filter isB).getD (pkF code (vs.filter isB).length (pkF code 3 c).2).1 dV).name,decide ((pkF code 2 (pkF code (vs.filter isB).length (pkF code 3 c).2).2).1 = 0)⟩],(pkF code 2 (pkF code (vs.filter isB).length (pkF code 3 c).2).2).2)
theorem getD_in {α : Type} {l : List α} {i : Nat} (d : α) (h : i < l.length) : l.getD i d ∈ l:=by
 rw [List.getD_eq_getElem?_getD,List.getElem?_eq_getElem h]
 exact List.getElem_mem h
theorem clF_ok {code : List Int} {vs : List DVar} (hv : vsOK vs) (c : Cur) : kOK (clF code vs c).1 ∧ (clF code vs c).1.length ≤ 3 ∧ ∀ j,okB (j + 3) c → okB j (clF code vs c).2:=by
 unfold clF
 split
 ·exact ⟨fun c hc => absurd hc (List.not_mem_nil),by simp,fun j hj => hj.less (by omega)⟩
 split
 ·exact ⟨fun c hc => absurd hc (List.not_mem_nil),by simp,fun j hj => pkF_ok (hj.less (by omega))⟩
 ·rename_i h0 _
  have hlt:=pkF_lt code (m:=(vs.filter isB).length) (pkF code 3 c).2 (by omega)
  have hm:=List.mem_filter.1 (getD_in dV hlt)
  refine ⟨kOK_snoc (hv _ hm.1).2.2.2 (hv _ hm.1).1 _,?_,fun j hj => pkF_ok (pkF_ok (pkF_ok hj))⟩
  have h9:=isB_len hm.2
  rw [List.length_append,List.length_singleton]
  omega
structure NS where
 sv : List DVar
 vs : List DVar
 eqs : List DEq
 c : Cur
def setR (r : Int) (c : Cur) : Cur:=⟨c.at_,r,c.seed⟩
theorem okB.setR {n : Nat} {c : Cur} (h : okB n c) {r : Int} (h0 : 0 ≤ r) (h1 : r ≤ 100) : okB n (setR r c):=⟨h.1,by have:=h.1; simp only [Go.Proofs.YtajabbnlbopcbaaGreatDoor.setR]; omega,h1,h.2.2.2⟩
def insTo (code : List Int) : Nat → Cur → List DVar × Cur
 | 0,c => ([],c)
 | n + 1,c => ((insTo code n c).1 ++ [⟨nmV 105 n,2 - ((pkF code 2 (insTo code n c).2).1 : Int),[]⟩],(pkF code 2 (insTo code n c).2).2)
def argTo (code : List Int) (sv : List DVar) (rank : Nat) (k : List DCond) (ins : List DVar) : Nat → Cur → List (List DItem) × Cur
 | 0,c => ([],c)
 | i + 1,c => ((argTo code sv rank k ins i c).1 ++ [(exF code sv rank 4 (setR 4 (argTo code sv rank k ins i c).2) (ins.getD i dV).type k false).1],(exF code sv rank 4 (setR 4 (argTo code sv rank k ins i c).2) (ins.getD i dV).type k false).2)
def nvTo (n : Nat) (os : List DVar) (k : List DCond) : Nat → List DVar
 | 0 => []
 | i + 1 => nvTo n os k i ++ [⟨nmV 118 (n + i),(os.getD i dV).type,k⟩]
def grCall (code : List Int) (s : NS) (k : List DCond) (f : DNode) (c : Cur) : NS :=
 ⟨s.sv ++ nvTo s.sv.length f.outs k f.outs.length,s.vs ++ nvTo s.sv.length f.outs k f.outs.length,s.eqs ++ [⟨(nvTo s.sv.length f.outs k f.outs.length).map (·.name),[],f.name,(argTo code (s.sv ++ nvTo s.sv.length f.outs k f.outs.length) s.sv.length k f.ins f.ins.length c).1⟩],(argTo code (s.sv ++ nvTo s.sv.length f.outs k f.outs.length) s.sv.length k f.ins f.ins.length c).2⟩
def oneV (code : List Int) (s : NS) (v : DVar) (r : Int) (k : List DCond) (c : Cur) : NS :=
 ⟨s.sv ++ [v],s.vs ++ [v],s.eqs ++ [⟨[v.name],(exF code (s.sv ++ [v]) s.sv.length 6 (setR r c) v.type k false).1,noN,[]⟩],(exF code (s.sv ++ [v]) s.sv.length 6 (setR r c) v.type k false).2⟩
def grOwn (code : List Int) (s : NS) (k : List DCond) (c : Cur) : NS:=oneV code s ⟨nmV 118 s.sv.length,2 - ((pkF code 2 c).1 : Int),k⟩ 9 k (pkF code 2 c).2
def grF (code : List Int) (before : List DNode) (s : NS) : NS :=
 if 0 < before.length ∧ (pkF code 5 (clF code s.sv s.c).2).1 ≤ 1 then
  grCall code s (clF code s.sv s.c).1 (before.getD (pkF code before.length (pkF code 5 (clF code s.sv s.c).2).2).1 dN) (pkF code before.length (pkF code 5 (clF code s.sv s.c).2).2).2
 else grOwn code s (clF code s.sv s.c).1 (if 0 < before.length then (pkF code 5 (clF code s.sv s.c).2).2 else (clF code s.sv s.c).2)
def ouF (code : List Int) (i : Nat) (s : NS) : NS:=oneV code s ⟨nmV 111 i,1 + ((pkF code 2 s.c).1 : Int),[]⟩ 10 [] (pkF code 2 s.c).2
def itF (f : Nat → NS → NS) : Nat → NS → NS
 | 0,s => s
 | n + 1,s => f n (itF f n s)
def pmF (code : List Int) : Nat → List DEq → List DEq → Cur → List DEq × Cur
 | 0,_,acc,c => (acc,c)
 | n + 1,es,acc,c => pmF code n (es.eraseIdx (pkF code es.length c).1) (acc ++ [es.getD (pkF code es.length c).1 dE]) (pkF code es.length c).2
def inN (code : List Int) (c : Cur) : Nat:=if (pkF code 9 (pkF code 3 c).2).1 = 8 then 0 else 1 + (pkF code 3 c).1
def nodI (code : List Int) (c : Cur) : List DVar × Cur:=insTo code (inN code c) (pkF code 9 (pkF code 3 c).2).2
def nodS (code : List Int) (before : List DNode) (i : List DVar × Cur) : NS:=itF (fun _ => grF code before) (1 + (pkF code 5 i.2).1) ⟨i.1,[],[],(pkF code 5 i.2).2⟩
def nodT (code : List Int) (s : NS) : NS:=itF (ouF code) (1 + (pkF code 2 s.c).1) ⟨s.sv,[],s.eqs,(pkF code 2 s.c).2⟩
def nodQ (code : List Int) (t : NS) : List DEq × Cur:=pmF code t.eqs.length t.eqs [] t.c
def nodF (code : List Int) (before : List DNode) (c : Cur) : DNode × Cur :=
 (⟨nmV 102 before.length,(nodI code c).1,(nodT code (nodS code before (nodI code c))).vs,(nodS code before (nodI code c)).vs,(nodQ code (nodT code (nodS code before (nodI code c)))).1⟩,(nodQ code (nodT code (nodS code before (nodI code c)))).2)
def prTo (code : List Int) : Nat → Cur → List DNode × Cur
 | 0,c => ([],c)
 | n + 1,c => ((prTo code n c).1 ++ [(nodF code (prTo code n c).1 (prTo code n c).2).1],(nodF code (prTo code n c).1 (prTo code n c).2).2)
def prF (code : List Int) (c : Cur) : List DNode × Cur:=prTo code (3 - (pkF code 3 c).1) (pkF code 3 c).2
def okDE (e : DEq) : Prop:=∃ q : PEq,q.eq = e ∧ okQ q
def okP (v : DVar) : Prop:=okW v ∧ v.clock = []
def okDN (n : DNode) : Prop:=(∃ q : PNode,q.node = n ∧ okNd q) ∧ n.ins.length ≤ 3 ∧ n.outs.length ≤ 2
structure SI (m : Nat) (s : NS) : Prop where
 sk : vsOK s.sv
 vk : vsOK s.vs
 sl : s.sv.length ≤ m
 vl : s.vs.length ≤ m
 ek : ∀ e ∈ s.eqs,okDE e
 el : s.eqs.length ≤ m
theorem SI.wide {m n : Nat} {s : NS} (h : SI m s) (hn : m ≤ n) : SI n s:=⟨h.sk,h.vk,Nat.le_trans h.sl hn,Nat.le_trans h.vl hn,h.ek,Nat.le_trans h.el hn⟩
theorem vsOK.app {a b : List DVar} (h : vsOK a) (k : vsOK b) : vsOK (a ++ b):=fun v hv => (List.mem_append.1 hv).elim (h v) (k v)
theorem vsOK.one {v : DVar} (h : okW v) : vsOK [v]:=fun x hx => by rw [List.mem_singleton] at hx; rw [hx]; exact h
theorem all_app {α : Type} {P : α → Prop} {a b : List α} (h : ∀ x ∈ a,P x) (k : ∀ x ∈ b,P x) : ∀ x ∈ a ++ b,P x:=fun v hv => (List.mem_append.1 hv).elim (h v) (k v)
theorem all_one {α : Type} {P : α → Prop} {x : α} (h : P x) : ∀ y ∈ [x],P y:=fun y hy => by rw [List.mem_singleton] at hy; rw [hy]; exact h
theorem insTo_ok (code : List Int) : ∀ (n : Nat) (c : Cur),n ≤ 3 → (∀ v ∈ (insTo code n c).1,okP v) ∧ (insTo code n c).1.length = n ∧ ∀ j,okB (j + n) c → okB j (insTo code n c).2
 | 0,c,_ => ⟨fun v hv => absurd hv (List.not_mem_nil),rfl,fun j hj => hj⟩
 | n + 1,c,hn => by
  obtain ⟨h1,h2,h3⟩:=insTo_ok code n c (by omega)
  have hlt:=pkF_lt code (m:=2) (insTo code n c).2 (by omega)
  refine ⟨all_app h1 (all_one ⟨⟨nm_plain (by omega) (by decide),?_,by simp,fun c hc => absurd hc (List.not_mem_nil)⟩,rfl⟩),by simp [insTo,h2],fun j hj => pkF_ok (h3 _ (hj.less (by omega)))⟩
  show 2 - ((pkF code 2 (insTo code n c).2).1 : Int) = 1 ∨ 2 - ((pkF code 2 (insTo code n c).2).1 : Int) = 2
  omega
theorem oneE {s : ByteArray} {code : List DItem} {ps : List Pc} (hs : plainB s = true) (hx : Ex code ps) (hl : code.length ≤ 3000) : okDE ⟨[s],code,noN,[]⟩:=by
 refine ⟨⟨[s],noN,[(code,ps)]⟩,rfl,⟨?_,?_⟩,⟨by simp,by simp⟩,all_one hs,fun h => absurd rfl h,fun _ => rfl,by simp,all_one hl⟩
 ·exact all_one hx
 ·intro _; rfl
theorem oneV_ok {code : List Int} {s : NS} {v : DVar} {r : Int} {k : List DCond} {c : Cur} {m : Nat} (h : SI m s) (hv : okW v) (hr0 : 0 ≤ r) (hr : r ≤ 100) (hk : kOK k) : SI (m + 1) (oneV code s v r k c) ∧ ∀ j,okB (j + 4371) c → okB j (oneV code s v r k c).c:=by
 have hvv:=h.sk.app (vsOK.one hv)
 obtain ⟨⟨ps,hp⟩,h2,h3⟩:=exF_dr (code:=code) (rank:=s.sv.length) hvv 6 (setR r c) v.type k false hk
 have hs : szE 6 ≤ 3000:=by decide
 have hs2 : kE 6 = 4371:=by decide
 refine ⟨⟨hvv,h.vk.app (vsOK.one hv),?_,?_,all_app h.ek (all_one (oneE hv.1 hp (by omega))),?_⟩,fun j hj => h3 j (by rw [hs2]; exact hj.setR hr0 hr)⟩
 ·have:=h.sl; simp only [oneV,List.length_append,List.length_singleton]; omega
 ·have:=h.vl; simp only [oneV,List.length_append,List.length_singleton]; omega
 ·have:=h.el; simp only [oneV,List.length_append,List.length_singleton]; omega
theorem nvTo_len (n : Nat) (os : List DVar) (k : List DCond) : ∀ i,(nvTo n os k i).length = i
 | 0 => rfl
 | i + 1 => by rw [nvTo,List.length_append,nvTo_len n os k i]; rfl
theorem nvTo_ok {n : Nat} {os : List DVar} {k : List DCond} (ho : vsOK os) (hk : kOK k) (hk3 : k.length ≤ 3) : ∀ i,i ≤ os.length → n + i < 100 → vsOK (nvTo n os k i)
 | 0,_,_ => fun v hv => absurd hv (List.not_mem_nil)
 | i + 1,hi,hn => by
  have hm:=ho _ (getD_in dV (l:=os) (i:=i) (by omega))
  exact (nvTo_ok ho hk hk3 i (by omega) (by omega)).app (vsOK.one ⟨nm_plain (by omega) (by decide),hm.2.1,show k.length ≤ 8 by omega,hk⟩)
theorem argTo_ok {code : List Int} {sv : List DVar} {rank : Nat} {k : List DCond} {ins : List DVar} (hv : vsOK sv) (hk : kOK k) (c : Cur) : ∀ i,(∃ l : List CP,l.map (·.1) = (argTo code sv rank k ins i c).1 ∧ (∀ x ∈ l,Ex x.1 x.2) ∧ (∀ x ∈ l,x.1.length ≤ 1093)) ∧ (argTo code sv rank k ins i c).1.length = i ∧ ∀ j,okB (j + 483 * i) c → okB j (argTo code sv rank k ins i c).2
 | 0 => ⟨⟨[],rfl,fun x hx => absurd hx (List.not_mem_nil),fun x hx => absurd hx (List.not_mem_nil)⟩,rfl,fun j hj => hj.less (by omega)⟩
 | i + 1 => by
  obtain ⟨⟨l,g1,g2,g3⟩,h2,h3⟩:=argTo_ok hv hk c i
  obtain ⟨⟨ps,hp⟩,q2,q3⟩:=exF_dr (code:=code) (rank:=rank) hv 4 (setR 4 (argTo code sv rank k ins i c).2) (ins.getD i dV).type k false hk
  have hs : szE 4 ≤ 1093:=by decide
  have hs2 : kE 4 = 483:=by decide
  refine ⟨⟨l ++ [(_,ps)],by rw [List.map_append,g1]; rfl,all_app g2 (all_one hp),all_app g3 (all_one (Nat.le_trans q2 hs))⟩,by simp [argTo,h2],fun j hj => q3 j ?_⟩
  rw [hs2]
  exact (h3 _ (hj.less (by omega))).setR (by omega) (by omega)
theorem okDN.parts {n : DNode} (h : okDN n) : plainB n.name = true ∧ (∀ v ∈ n.ins,okP v) ∧ (∀ v ∈ n.outs,okP v) ∧ vsOK n.vars ∧ 1 ≤ n.outs.length:=by
 obtain ⟨⟨q,rfl,h1,h2,h3,h4,_,h6,_⟩,_⟩:=h
 exact ⟨h1,h2,h3,h4,h6⟩
theorem grCall_ok {code : List Int} {s : NS} {k : List DCond} {f : DNode} {c : Cur} {m : Nat} (h : SI m s) (hm : m ≤ 90) (hk : kOK k) (hk3 : k.length ≤ 3) (hf : okDN f) : SI (m + 2) (grCall code s k f c) ∧ ∀ j,okB (j + 1449) c → okB j (grCall code s k f c).c:=by
 have hpt:=hf.parts
 have hsl:=h.sl
 have hfo:=hf.2.2
 have hfi:=hf.2.1
 have hnv:=nvTo_ok (n:=s.sv.length) (os:=f.outs) (fun v hv => (hpt.2.2.1 v hv).1) hk hk3 f.outs.length (Nat.le_refl _) (by omega)
 have hnl:=nvTo_len s.sv.length f.outs k f.outs.length
 obtain ⟨⟨l,g1,g2,g3⟩,h2,h3⟩:=argTo_ok (code:=code) (rank:=s.sv.length) (ins:=f.ins) (h.sk.app hnv) hk c f.ins.length
 refine ⟨⟨h.sk.app hnv,h.vk.app hnv,?_,?_,all_app h.ek (all_one ?_),?_⟩,fun j hj => h3 j (hj.less (by omega))⟩
 ·simp only [grCall,List.length_append,hnl]; omega
 ·have:=h.vl; simp only [grCall,List.length_append,hnl]; omega
 ·have hcs : ¬ f.name.size = 0:=by have:=(plain_parts hpt.1).1.1; omega
  refine ⟨⟨(nvTo s.sv.length f.outs k f.outs.length).map (·.name),f.name,l⟩,?_,⟨g2,fun h9 => absurd h9 hcs⟩,⟨?_,?_⟩,fun x hx => ?_,fun _ => hpt.1,fun h9 => absurd h9 hcs,?_,fun x hx => Nat.le_trans (g3 x hx) (by omega)⟩
  ·unfold PEq.eq
   rw [if_neg hcs,g1]
  ·have:=hpt.2.2.2.2
   rw [List.length_map,hnl]
   exact this
  ·rw [List.length_map,hnl]; omega
  ·obtain ⟨v,hv,rfl⟩:=List.mem_map.1 hx
   exact (hnv v hv).1
  ·have:=congrArg List.length g1
   rw [List.length_map] at this
   show l.length ≤ 500
   omega
 ·have:=h.el; simp only [grCall,List.length_append,List.length_singleton]; omega
theorem grOwn_ok {code : List Int} {s : NS} {k : List DCond} {c : Cur} {m : Nat} (h : SI m s) (hm : m ≤ 90) (hk : kOK k) (hk3 : k.length ≤ 3) : SI (m + 1) (grOwn code s k c) ∧ ∀ j,okB (j + 4372) c → okB j (grOwn code s k c).c:=by
 have hlt:=pkF_lt code (m:=2) c (by omega)
 have hsl:=h.sl
 have hv : okW ⟨nmV 118 s.sv.length,2 - ((pkF code 2 c).1 : Int),k⟩:=⟨nm_plain (by omega) (by decide),show 2 - ((pkF code 2 c).1 : Int) = 1 ∨ 2 - ((pkF code 2 c).1 : Int) = 2 by omega,show k.length ≤ 8 by omega,hk⟩
 have h9:=oneV_ok (code:=code) (r:=9) (c:=(pkF code 2 c).2) h hv (by omega) (by omega) hk
 exact ⟨h9.1,fun j hj => h9.2 j (pkF_ok hj)⟩
theorem grF_ok {code : List Int} {before : List DNode} {s : NS} {m : Nat} (h : SI m s) (hm : m ≤ 90) (hb : ∀ n ∈ before,okDN n) : SI (m + 2) (grF code before s) ∧ ∀ j,okB (j + 4376) s.c → okB j (grF code before s).c:=by
 obtain ⟨k1,k2,k3⟩:=clF_ok (code:=code) h.sk s.c
 unfold grF
 split
 ·rename_i hc
  have hlt:=pkF_lt code (m:=before.length) (pkF code 5 (clF code s.sv s.c).2).2 hc.1
  have h9:=grCall_ok (code:=code) (c:=(pkF code before.length (pkF code 5 (clF code s.sv s.c).2).2).2) h hm k1 k2 (hb _ (getD_in dN hlt))
  exact ⟨h9.1,fun j hj => h9.2 j (pkF_ok (pkF_ok (k3 _ (hj.less (by omega)))))⟩
 ·have h9:=grOwn_ok (code:=code) (c:=if 0 < before.length then (pkF code 5 (clF code s.sv s.c).2).2 else (clF code s.sv s.c).2) h hm k1 k2
  refine ⟨h9.1.wide (by omega),fun j hj => h9.2 j ?_⟩
  split
  ·exact pkF_ok (k3 _ (hj.less (by omega)))
  ·exact k3 _ (hj.less (by omega))
theorem ouF_ok {code : List Int} {i : Nat} {s : NS} {m : Nat} (h : SI m s) (hi : i < 100) : SI (m + 1) (ouF code i s) ∧ ∀ j,okB (j + 4372) s.c → okB j (ouF code i s).c:=by
 have hlt:=pkF_lt code (m:=2) s.c (by omega)
 have hv : okW ⟨nmV 111 i,1 + ((pkF code 2 s.c).1 : Int),[]⟩:=⟨nm_plain hi (by decide),show 1 + ((pkF code 2 s.c).1 : Int) = 1 ∨ 1 + ((pkF code 2 s.c).1 : Int) = 2 by omega,by simp,fun c hc => absurd hc (List.not_mem_nil)⟩
 have h9:=oneV_ok (code:=code) (r:=10) (c:=(pkF code 2 s.c).2) h hv (by omega) (by omega) (k:=[]) (fun c hc => absurd hc (List.not_mem_nil))
 exact ⟨h9.1,fun j hj => h9.2 j (pkF_ok hj)⟩
theorem itF_ok {f : Nat → NS → NS} {d e : Nat} {B : Nat} (hf : ∀ i m s,i < B → m ≤ 90 → SI m s → SI (m + d) (f i s) ∧ ∀ j,okB (j + e) s.c → okB j (f i s).c) {m : Nat} {s : NS} (h : SI m s) : ∀ n,n ≤ B → m + n * d ≤ 90 → SI (m + n * d) (itF f n s) ∧ ∀ j,okB (j + n * e) s.c → okB j (itF f n s).c
 | 0,_,_ => ⟨h.wide (by omega),fun j hj => hj.less (by omega)⟩
 | n + 1,hn,hm => by
  have e1 : (n + 1) * d = n * d + d:=Nat.succ_mul n d
  have e2 : (n + 1) * e = n * e + e:=Nat.succ_mul n e
  obtain ⟨h1,h2⟩:=itF_ok hf h n (by omega) (by omega)
  obtain ⟨g1,g2⟩:=hf n _ _ (by omega) (by omega) h1
  exact ⟨g1.wide (by omega),fun j hj => g2 j (h2 _ (hj.less (by omega)))⟩
theorem erase_in {α : Type} {l : List α} {i : Nat} : ∀ x ∈ l.eraseIdx i,x ∈ l:=fun x hx => List.mem_of_mem_eraseIdx hx
theorem pmF_ok {code : List Int} : ∀ (n : Nat) (es acc : List DEq) (c : Cur),n = es.length → (∀ e ∈ es,okDE e) → (∀ e ∈ acc,okDE e) → (∀ e ∈ (pmF code n es acc c).1,okDE e) ∧ (pmF code n es acc c).1.length = acc.length + es.length ∧ ∀ j,okB (j + n) c → okB j (pmF code n es acc c).2
 | 0,es,acc,c,hn,he,ha => ⟨ha,by simp only [pmF]; omega,fun j hj => hj⟩
 | n + 1,es,acc,c,hn,he,ha => by
  have hlt:=pkF_lt code (m:=es.length) c (by omega)
  have hl : (es.eraseIdx (pkF code es.length c).1).length = es.length - 1:=by rw [List.length_eraseIdx,if_pos hlt]
  obtain ⟨h1,h2,h3⟩:=pmF_ok n (es.eraseIdx (pkF code es.length c).1) (acc ++ [es.getD (pkF code es.length c).1 dE]) (pkF code es.length c).2 (by omega) (fun e h => he e (erase_in e h)) (all_app ha (all_one (he _ (getD_in dE hlt))))
  exact ⟨h1,by rw [pmF,h2,List.length_append,List.length_singleton]; omega,fun j hj => h3 j (pkF_ok (hj.less (by omega)))⟩
theorem nodI_ok (code : List Int) (c : Cur) : (∀ v ∈ (nodI code c).1,okP v) ∧ (nodI code c).1.length ≤ 3 ∧ ∀ j,okB (j + 5) c → okB j (nodI code c).2:=by
 have hlt:=pkF_lt code (m:=3) c (by omega)
 have hn : inN code c ≤ 3:=by unfold inN; split <;> omega
 obtain ⟨h1,h2,h3⟩:=insTo_ok code (inN code c) (pkF code 9 (pkF code 3 c).2).2 hn
 exact ⟨h1,by show List.length (insTo _ _ _).1 ≤ 3; omega,fun j hj => h3 j (pkF_ok (pkF_ok (hj.less (by omega))))⟩
theorem nodS0 {i : List DVar × Cur} (hi : ∀ v ∈ i.1,okP v) (hl : i.1.length ≤ 3) (c : Cur) : SI 3 ⟨i.1,[],[],c⟩:=⟨fun v hv => (hi v hv).1,fun v hv => absurd hv (List.not_mem_nil),hl,by simp,fun v hv => absurd hv (List.not_mem_nil),by simp⟩
theorem nodS_at {code : List Int} {before : List DNode} {i : List DVar × Cur} (hi : ∀ v ∈ i.1,okP v) (hl : i.1.length ≤ 3) (hb : ∀ n ∈ before,okDN n) (n : Nat) (hn : n ≤ 5) : SI (3 + n * 2) (itF (fun _ => grF code before) n ⟨i.1,[],[],(pkF code 5 i.2).2⟩) ∧ ∀ j,okB (j + n * 4376) (pkF code 5 i.2).2 → okB j (itF (fun _ => grF code before) n ⟨i.1,[],[],(pkF code 5 i.2).2⟩).c :=
 itF_ok (f:=fun _ => grF code before) (B:=5) (fun i m s _ hm h => grF_ok h hm hb) (nodS0 hi hl _) n hn (by omega)
theorem nodT0 {s : NS} (h : SI 13 s) (c : Cur) : SI 13 ⟨s.sv,[],s.eqs,c⟩:=⟨h.sk,fun v hv => absurd hv (List.not_mem_nil),h.sl,by simp,h.ek,h.el⟩
theorem nodT_at {code : List Int} {s : NS} (h : SI 13 s) (n : Nat) (hn : n ≤ 2) : SI (13 + n * 1) (itF (ouF code) n ⟨s.sv,[],s.eqs,(pkF code 2 s.c).2⟩) ∧ ∀ j,okB (j + n * 4372) (pkF code 2 s.c).2 → okB j (itF (ouF code) n ⟨s.sv,[],s.eqs,(pkF code 2 s.c).2⟩).c :=
 itF_ok (B:=2) (fun i m s hi _ h => ouF_ok h (by omega)) (nodT0 h _) n hn (by omega)
theorem ou_vs {code : List Int} {s : NS} : ∀ n,(itF (ouF code) n s).vs.length = s.vs.length + n ∧ ((∀ v ∈ s.vs,okP v) → n ≤ 2 → ∀ v ∈ (itF (ouF code) n s).vs,okP v)
 | 0 => ⟨rfl,fun h _ => h⟩
 | n + 1 => by
  obtain ⟨h1,h2⟩:=ou_vs (code:=code) (s:=s) n
  refine ⟨by simp only [itF,ouF,oneV,List.length_append,List.length_singleton,h1]; omega,fun h hn => all_app (h2 h (by omega)) (all_one ⟨⟨nm_plain (by omega) (by decide),?_,by simp,fun c hc => absurd hc (List.not_mem_nil)⟩,rfl⟩)⟩
  have hlt:=pkF_lt code (m:=2) (itF (ouF code) n s).c (by omega)
  show 1 + ((pkF code 2 (itF (ouF code) n s).c).1 : Int) = 1 ∨ 1 + ((pkF code 2 (itF (ouF code) n s).c).1 : Int) = 2
  omega
theorem one_eqs {code : List Int} {s : NS} : ∀ n,(itF (ouF code) n s).eqs.length = s.eqs.length + n
 | 0 => rfl
 | n + 1 => by simp only [itF,ouF,oneV,List.length_append,List.length_singleton,one_eqs n]; omega
theorem pick_all : ∀ (l : List DEq),(∀ e ∈ l,okDE e) → ∃ ql : List PEq,ql.map PEq.eq = l ∧ ∀ q ∈ ql,okQ q
 | [],_ => ⟨[],rfl,fun q hq => absurd hq (List.not_mem_nil)⟩
 | e :: l,h => by
  obtain ⟨q,h1,h2⟩:=h e (List.mem_cons_self ..)
  obtain ⟨ql,h3,h4⟩:=pick_all l (fun x hx => h x (List.mem_cons_of_mem _ hx))
  refine ⟨q :: ql,by rw [List.map_cons,h1,h3],fun x hx => ?_⟩
  rcases List.mem_cons.1 hx with rfl | hx
  ·exact h2
  ·exact h4 x hx
theorem nodF_ok {code : List Int} {before : List DNode} {c : Cur} (hb : ∀ n ∈ before,okDN n) (hbl : before.length < 100) : okDN (nodF code before c).1 ∧ ∀ j,okB (j + 40000) c → okB j (nodF code before c).2:=by
 obtain ⟨i1,i2,i3⟩:=nodI_ok code c
 have hg:=pkF_lt code (m:=5) (nodI code c).2 (by omega)
 obtain ⟨s1,s2⟩:=nodS_at (code:=code) i1 i2 hb (1 + (pkF code 5 (nodI code c).2).1) (by omega)
 have s3 : SI 13 (nodS code before (nodI code c)):=s1.wide (by omega)
 have s4 : ∀ j,okB (j + 21880) (pkF code 5 (nodI code c).2).2 → okB j (nodS code before (nodI code c)).c:=fun j hj => s2 j (hj.less (by omega))
 have hp1:=fun n => pkF_ok (code:=code) (n:=n) (m:=5) (c:=(nodI code c).2)
 unfold nodF
 generalize nodS code before (nodI code c) = s at s3 s4 ⊢
 have ho:=pkF_lt code (m:=2) s.c (by omega)
 obtain ⟨t1,t2⟩:=nodT_at (code:=code) s3 (1 + (pkF code 2 s.c).1) (by omega)
 have t3 : SI 15 (nodT code s):=t1.wide (by omega)
 have t4 : ∀ j,okB (j + 8744) (pkF code 2 s.c).2 → okB j (nodT code s).c:=fun j hj => t2 j (hj.less (by omega))
 obtain ⟨o1,o2⟩:=ou_vs (code:=code) (s:=⟨s.sv,[],s.eqs,(pkF code 2 s.c).2⟩) (1 + (pkF code 2 s.c).1)
 have o3 : (nodT code s).vs.length = 0 + (1 + (pkF code 2 s.c).1):=o1
 have o4 : ∀ v ∈ (nodT code s).vs,okP v:=o2 (fun v hv => absurd hv (List.not_mem_nil)) (by omega)
 have o5 : (nodT code s).eqs.length = s.eqs.length + (1 + (pkF code 2 s.c).1):=one_eqs _
 have hp2:=fun n => pkF_ok (code:=code) (n:=n) (m:=2) (c:=s.c)
 generalize nodT code s = t at t3 t4 o3 o4 o5 ⊢
 obtain ⟨q1,q2,q3⟩:=pmF_ok (code:=code) t.eqs.length t.eqs [] t.c rfl t3.ek (fun v hv => absurd hv (List.not_mem_nil))
 have q4 : (nodQ code t).1.length = 0 + t.eqs.length:=q2
 have q5 : ∀ e ∈ (nodQ code t).1,okDE e:=q1
 have q6 : ∀ j,okB (j + t.eqs.length) t.c → okB j (nodQ code t).2:=q3
 obtain ⟨ql,r1,r2⟩:=pick_all _ q5
 have r3:=congrArg List.length r1
 rw [List.length_map] at r3
 have h1:=t3.el
 have h2:=s3.vl
 refine ⟨⟨⟨⟨nmV 102 before.length,(nodI code c).1,t.vs,s.vs,ql⟩,by unfold PNode.node; rw [r1],nm_plain hbl (by decide),i1,o4,s3.vk,r2,by show 1 ≤ t.vs.length; omega,by show (nodI code c).1.length + t.vs.length + s.vs.length ≤ 500; omega,by show 1 ≤ ql.length; omega,by show ql.length ≤ 500; omega⟩,i2,by show t.vs.length ≤ 2; omega⟩,fun j hj => q6 j (t4 _ (hp2 _ (s4 _ (hp1 _ (i3 _ (hj.less (by omega)))))))⟩
theorem prTo_ok (code : List Int) (c : Cur) : ∀ n,n ≤ 3 → (∀ x ∈ (prTo code n c).1,okDN x) ∧ (prTo code n c).1.length = n ∧ ∀ j,okB (j + n * 40000) c → okB j (prTo code n c).2
 | 0,_ => ⟨fun x hx => absurd hx (List.not_mem_nil),rfl,fun j hj => hj.less (by omega)⟩
 | n + 1,hn => by
  obtain ⟨h1,h2,h3⟩:=prTo_ok code c n (by omega)
  obtain ⟨g1,g2⟩:=nodF_ok (code:=code) (c:=(prTo code n c).2) h1 (by omega)
  exact ⟨all_app h1 (all_one g1),by simp [prTo,h2],fun j hj => g2 j (h3 _ (hj.less (by omega)))⟩
theorem prF_ok (code : List Int) (c : Cur) : (∀ x ∈ (prF code c).1,okDN x) ∧ 1 ≤ (prF code c).1.length ∧ (prF code c).1.length ≤ 3 ∧ ∀ j,okB (j + 120001) c → okB j (prF code c).2:=by
 have hlt:=pkF_lt code (m:=3) c (by omega)
 obtain ⟨h1,h2,h3⟩:=prTo_ok code (pkF code 3 c).2 (3 - (pkF code 3 c).1) (by omega)
 have h4 : (prF code c).1.length = 3 - (pkF code 3 c).1:=h2
 exact ⟨h1,by omega,by omega,fun j hj => h3 j (pkF_ok (hj.less (by omega)))⟩
theorem pick_nodes : ∀ (l : List DNode),(∀ x ∈ l,okDN x) → ∃ ql : List PNode,ql.map PNode.node = l ∧ ∀ q ∈ ql,okNd q
 | [],_ => ⟨[],rfl,fun q hq => absurd hq (List.not_mem_nil)⟩
 | e :: l,h => by
  obtain ⟨⟨q,h1,h2⟩,_⟩:=h e (List.mem_cons_self ..)
  obtain ⟨ql,h3,h4⟩:=pick_nodes l (fun x hx => h x (List.mem_cons_of_mem _ hx))
  refine ⟨q :: ql,by rw [List.map_cons,h1,h3],fun x hx => ?_⟩
  rcases List.mem_cons.1 hx with rfl | hx
  ·exact h2
  ·exact h4 x hx
theorem prF_pr (code : List Int) (c : Cur) : ∃ ql : List PNode,ql.map PNode.node = (prF code c).1 ∧ okPr ql:=by
 obtain ⟨h1,h2,h3,_⟩:=prF_ok code c
 obtain ⟨ql,g1,g2⟩:=pick_nodes _ h1
 have g3:=congrArg List.length g1
 rw [List.length_map] at g3
 exact ⟨ql,g1,⟨by omega,by omega⟩,g2⟩
end Go.Proofs.YtajabbnlbopcbaaGreatDoor
