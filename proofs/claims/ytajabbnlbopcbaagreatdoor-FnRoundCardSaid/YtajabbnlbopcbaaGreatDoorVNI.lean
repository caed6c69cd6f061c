import Derived.Test.YtajabbnlbopcbaaGreatDoorPGI
namespace Go.Proofs.YtajabbnlbopcbaaGreatDoor
open Go.RowKit
set_option linter.unusedSimpArgs false
set_option linter.unusedVariables false
theorem Iz.kp {code : List Int} {W0 : World} {cb : Nat} {cv : Value} {w : World} {rb nb : Nat} {X : World} {c : Cur} {nm : ByteArray} {vi : Value} {is : List DVar} {T h : Nat} {Y : World} (p : Iz code W0 cb cv w rb nb X c nm vi is) (q : KpH T h X Y) (hw : w.heap.size ≤ h) (h1 : 43 ≠ T) (h3 : 67 ≠ T ∨ ∀ b,vi.ownBlock = some b → b < h) : Iz code W0 cb cv w rb nb Y c nm vi is :=
 ⟨p.cu.kp q (by have:=p.lc; omega),p.tr.kp q hw,p.lc,p.rbl,p.nbl,p.rn,p.rbx.kp q (Or.inl h1),p.nbx.kp q (Or.inl h1),p.ri.kp TVar_fr q (Or.inr (Nat.zero_le _)) h3⟩
theorem Iz.below {code : List Int} {W0 : World} {cb : Nat} {cv : Value} {w : World} {rb nb : Nat} {X : World} {c : Cur} {nm : ByteArray} {vi : Value} {is : List DVar} {Y : World} (p : Iz code W0 cb cv w rb nb X c nm vi is) (hb : Below X.heap.size X Y) : Iz code W0 cb cv w rb nb Y c nm vi is:=p.kp (KpH.below 1000000 X.heap.size hb) p.tr.size (by decide) (Or.inl (by decide))
theorem Iz.go {code : List Int} {W0 : World} {cb : Nat} {cv : Value} {w : World} {rb nb : Nat} {X : World} {c : Cur} {nm : ByteArray} {vi : Value} {is : List DVar} {Y : World} {c' : Cur} (p : Iz code W0 cb cv w rb nb X c nm vi is) (hc : CuAt code W0 cb cv Y c') (ht : Tr cb X Y) : Iz code W0 cb cv w rb nb Y c' nm vi is :=
 have q : KpH 36 cb X Y:=KpH.ofTr ht p.cu.blk (Nat.le_refl _)
 ⟨hc,p.tr.trans ht,p.lc,p.rbl,p.nbl,p.rn,p.rbx.kp q (Or.inl (by decide)),p.nbx.kp q (Or.inl (by decide)),p.ri.kp TVar_fr q (Or.inr (Nat.zero_le _)) (Or.inl (by decide))⟩
theorem Iz.push {code : List Int} {W0 : World} {cb : Nat} {cv : Value} {w : World} {rb nb : Nat} {X : World} {c : Cur} {nm : ByteArray} {vi : Value} {is : List DVar} (p : Iz code W0 cb cv w rb nb X c nm vi is) {s : ByteArray} {ty : Int} (hx : okW ⟨s,ty,[]⟩) (hl : is.length ≤ 90) :
  ∃ a' n' c' Z,Hid ((Builtin.append_ #[40,40] 40 #[vi,.slice (some ⟨X.heap.size,0,none⟩) 1 1]).run Tryz.prog (X.alloc (.cells #[.string s,.int .i64 ty,.slice none 0 0] 67)) = .ok (.slice a' n' c') Z) ∧ BlkAt (X.alloc (.cells #[.string s,.int .i64 ty,.slice none 0 0] 67)) nb 43 #[.string nm,vi,.slice none 0 0,.slice none 0 0,.slice none 0 0] ∧ BlkAt Z nb 43 #[.string nm,vi,.slice none 0 0,.slice none 0 0,.slice none 0 0] ∧ Hid (Iz code W0 cb cv w rb nb (Z.setCell ⟨nb,1,none⟩ (.slice a' n' c')) c nm (.slice a' n' c') (is ++ [⟨s,ty,[]⟩])):=by
 have hA : Below X.heap.size X (X.alloc (.cells #[.string s,.int .i64 ty,.slice none 0 0] 67)):=(Below.refl _ _).alloc (Nat.le_refl _) _
 have pA:=p.below hA
 have hwX:=p.tr.size
 have hk : Kz w.heap.size 0 (X.alloc (.cells #[.string s,.int .i64 ty,.slice none 0 0] 67)) (.slice none 0 0) []:=Kz.nil _ _ _
 obtain ⟨v',Z,g1,g2,g3,g4⟩:=pA.ri.push TVar_fr var_notS (Nat.le_trans hwX hA.size) (Kz.var (x:=⟨s,ty,[]⟩) hk hx) hk.2 rfl (eb:=X.heap.size) (blk_box X _ _) (show (is.length + 1) * 48 ≤ _ by omega) 40
 obtain ⟨a',c',rfl⟩:=g2.slice
 have hq:=pA.ri.blk
 have q : KpH 67 w.heap.size (X.alloc (.cells #[.string s,.int .i64 ty,.slice none 0 0] 67)) Z:=KpH.ofGrown g3 (fun b hb => ⟨(hq b hb).1,(hq b hb).2.2⟩)
 have hbZ:=pA.nbx.kp q (Or.inl (by decide))
 have q2 : KpH 43 w.heap.size Z (Z.setCell ⟨nb,1,none⟩ (.slice a' (is ++ [(⟨s,ty,[]⟩ : DVar)]).length c')):=KpH.set hbZ p.nbl 1 _
 exact ⟨a',_,c',Z,g1,pA.nbx,hbZ,⟨(pA.cu.kp q p.lc).kp q2 p.lc,(pA.tr.kp q (Nat.le_refl _)).kp q2 (Nat.le_refl _),p.lc,p.rbl,p.nbl,p.rn,(Tr.setCell _ _ _ _).blk (pA.rbx.kp q (Or.inl (by decide))) p.rn,hbZ.set 1 _,g2.kp TVar_fr q2 (Or.inr (Nat.zero_le _)) (Or.inl (by decide))⟩⟩
theorem Iz.pick {code : List Int} {W0 : World} {cb : Nat} {cv : Value} {w : World} {rb nb : Nat} {X : World} {c : Cur} {nm : ByteArray} {vi : Value} {is : List DVar} {ia : Option Addr} {ic : Nat} (p : Iz code W0 cb cv w rb nb X c nm (.slice ia is.length ic) is) (hok : okB 1 c) {p2 : Nat} {c1 : Cur} (hp : pkF code 2 c = (p2,c1)) {s : ByteArray} (hx : okW ⟨s,2 - (p2 : Int),[]⟩) (hl : is.length ≤ 90) (Y : World) (hY : Below X.heap.size X Y) :
  Calls Tryz.prog 9 #[.pointer (some ⟨cb,0,none⟩),.int .i64 2] Y (fun e W => ∃ a' n' c' Z,e = .returned (.int .i64 p2) ∧ W.cell? ⟨nb,1,none⟩ = some (.slice ia is.length ic) ∧ (W.alloc (.cells #[.string s,.int .i64 (2 - (p2 : Int)),.slice none 0 0] 67)).cell? ⟨nb,1,none⟩ = some (.slice ia is.length ic) ∧ nb < W.heap.size ∧ Hid ((Builtin.append_ #[40,40] 40 #[.slice ia is.length ic,.slice (some ⟨W.heap.size,0,none⟩) 1 1]).run Tryz.prog (W.alloc (.cells #[.string s,.int .i64 (2 - (p2 : Int)),.slice none 0 0] 67)) = .ok (.slice a' n' c') Z) ∧ Z.cell? ⟨nb,1,none⟩ = some (.slice ia is.length ic) ∧ Z.frozen? ⟨nb,1,none⟩ = false ∧ nb < Z.heap.size ∧ Hid (Iz code W0 cb cv w rb nb (Z.setCell ⟨nb,1,none⟩ (.slice a' n' c')) c1 nm (.slice a' n' c') (is ++ [⟨s,2 - (p2 : Int),[]⟩]))):=by
 have pY:=p.below hY
 have h9:=pick_ok pY.cu 2 (by omega) hok
 rw [hp] at h9
 refine h9.mono ?_
 rintro e W ⟨rfl,hc,ht⟩
 have pW:=pY.go hc ht
 obtain ⟨a',n',c',Z,r1,r2,r3,r4⟩:=pW.push hx hl
 exact ⟨a',n',c',Z,rfl,pW.nbx.cell (i:=1) rfl,r2.cell (i:=1) rfl,pW.nbx.lt,r1,r3.cell (i:=1) rfl,r3.free 1,r3.lt,r4⟩
set_option maxRecDepth 1000000 in
theorem inc0 {u : Nat → Value} {j : Nat} (hj : j < 1000) {Z : World} (h7 : u 7 = .int .i64 j) {K K1 : Act → World → Prop} {PO : Ending → World → Prop} (HK : ∀ x : Array Value,x.size = 266 → x.getD 0 undef = u 0 → x.getD 1 undef = u 1 → x.getD 4 undef = u 4 → x.getD 5 undef = u 5 → x.getD 6 undef = u 6 → x.getD 7 undef = .int .i64 ((j : Int) + 1) → K ⟨x,[]⟩ Z) : Code.wp Tryz.prog (rtC 2 (inC (inC (rtC 1 (lfC (rtC 4 (Tryz.f21.body.getD .skip))))))) (Exit.then K (Exit.inBlock 0 (Exit.then K1 (bodyPost Tryz.prog Tryz.f21 PO)))) (FrN u) Z:=by
 have hw1 : IntKind.i64.wrap ((j : Int) + 1) = (j : Int) + 1:=by rw [IntKind.wrap_i64]; omega
 have HKK:=hide HK
 clear HK
 unfold FrN
 rw [h7]
 conv => arg 2; whnf
 go_wp2
 exact uh HKK _ rfl rfl rfl rfl rfl rfl rfl
set_option maxRecDepth 1000000 in
theorem ins_exit {u : Nat → Value} {n : Nat} {Z : World} (h6 : u 6 = .int .i64 n) (h7 : u 7 = .int .i64 n) {K K1 : Act → World → Prop} {PO : Ending → World → Prop} (HK : ∀ x : Array Value,x.size = 266 → x.getD 0 undef = u 0 → x.getD 1 undef = u 1 → x.getD 4 undef = u 4 → x.getD 5 undef = u 5 → K1 ⟨x,[]⟩ Z) : Code.wp Tryz.prog (inC (inC (rtC 1 (lfC (rtC 4 (Tryz.f21.body.getD .skip)))))) (Exit.then K (Exit.inBlock 0 (Exit.then K1 (bodyPost Tryz.prog Tryz.f21 PO)))) (FrN u) Z:=by
 have HKK:=hide HK
 clear HK
 unfold FrN
 rw [h6,h7]
 clear h6 h7
 conv => arg 2; whnf
 go_wp2
 exact uh HKK _ rfl rfl rfl rfl rfl
set_option maxRecDepth 1000000 in
set_option maxHeartbeats 8000000 in
theorem ins_round {code : List Int} {W0 : World} {cb : Nat} {cv : Value} {w : World} {rb nb : Nat} {X : World} {c : Cur} {nm : ByteArray} {vi : Value} {is : List DVar} (p : Iz code W0 cb cv w rb nb X c nm vi is) (hl : is.length ≤ 90) (hok : okB 1 c) {i n : Nat} (hi : i < n) (hn : n ≤ 50)
  {u : Nat → Value} (h0 : u 0 = .pointer (some ⟨cb,0,none⟩)) (h5 : u 5 = .pointer (some ⟨nb,0,none⟩)) (h6 : u 6 = .int .i64 n) (h7 : u 7 = .int .i64 i) {K K1 : Act → World → Prop} {PO : Ending → World → Prop}
  (HK : ∀ x Z vi',x.size = 266 → x.getD 0 undef = .pointer (some ⟨cb,0,none⟩) → x.getD 1 undef = u 1 → x.getD 4 undef = u 4 → x.getD 5 undef = .pointer (some ⟨nb,0,none⟩) → x.getD 6 undef = .int .i64 n → x.getD 7 undef = .int .i64 ((i : Int) + 1) → Iz code W0 cb cv w rb nb Z (pkF code 2 c).2 nm vi' (is ++ [⟨nmV 105 i,2 - ((pkF code 2 c).1 : Int),[]⟩]) → K ⟨x,[]⟩ Z) :
  Code.wp Tryz.prog (inC (inC (rtC 1 (lfC (rtC 4 (Tryz.f21.body.getD .skip)))))) (Exit.then K (Exit.inBlock 0 (Exit.then K1 (bodyPost Tryz.prog Tryz.f21 PO)))) (FrN u) X:=by
 obtain ⟨ia,ic,rfl⟩:=p.ri.slice
 have hsn : nmV 105 i = (⟨#[105]⟩ : ByteArray) ++ dcT (i : Int):=by unfold nmV; rw [dcT_nat]
 have hpl:=nm_plain (p:=105) (n:=i) (by omega) (by decide)
 rw [hsn] at hpl HK
 have hp2:=pkF_lt code (m:=2) c (by omega)
 obtain ⟨p2,c1,hq⟩:=pair_ex (pkF code 2 c)
 rw [hq] at HK hp2
 replace hp2 : p2 < 2:=hp2
 have hxw : okW ⟨(⟨#[105]⟩ : ByteArray) ++ dcT (i : Int),2 - (p2 : Int),[]⟩:=⟨hpl,show 2 - (p2 : Int) = 1 ∨ 2 - (p2 : Int) = 2 by omega,by simp,fun c hc => absurd hc (List.not_mem_nil)⟩
 have HPK:=hide (fun Y hY => p.pick (vi:=.slice none 0 0) hok hq hxw hl Y hY)
 have HDC : Hid (∀ Y,Below X.heap.size X Y → Calls Tryz.prog 30 #[.int .i64 (i : Int)] Y (fun e Z => e = .returned (.string (dcT (i : Int))) ∧ Z.cell? ⟨nb,1,none⟩ = some (.slice ia is.length ic) ∧ Hid (Below X.heap.size X Z))):=hide (fun Y hY => by
  refine (l1Dec_ok (i : Int) (by omega) Y).mono ?_
  rintro e Z ⟨rfl,hZ⟩
  have hb:=hY.trans (hZ.mono hY.size)
  exact ⟨rfl,(p.below hb).nbx.cell (i:=1) rfl,hb⟩)
 obtain ⟨m1,m2⟩:=Sum1 i (by omega)
 have hw2 : IntKind.i64.wrap (2 - (p2 : Int)) = 2 - (p2 : Int):=by rw [IntKind.wrap_i64]; omega
 have hiI : (i : Int) < (n : Int):=by omega
 have n1:=p.nbx.cell (i:=1) (v:=.slice ia is.length ic) rfl
 have HKK:=hide HK
 clear HK p hsn hpl hxw hq hok
 unfold FrN
 rw [h0,h5,h6,h7]
 clear h0 h5 h6 h7
 conv => arg 2; whnf
 go_wp2_with fail
 go_region_law (first | (go_simp; go_at_call 30; refine (uh HDC _ ((Below.refl _ _).drew)).mono ?_; rintro e w8 ⟨rfl,o0,HB8⟩) | (go_simp; go_at_call 9; refine (uh HPK _ (uh HB8)).mono ?_; rintro e w9 ⟨a',n',c',Z,rfl,z1,z2,z3,HRUN,z4,z5,z6,HN⟩) | (refine step_append_run rfl _ _ 40 40 rfl rfl _ _ _ rfl rfl (uh HRUN) ?_))
 all_goals
  rename_i K7 HK7
  refine HK7 _ _ ?_
  clear HK7
  rw [frN_mk _ rfl]
  refine inc0 (j:=i) (by omega) rfl ?_
  intro y hy j0 j1 j4 j5 j6 j7
  exact uh HKK y _ _ hy j0 j1 j4 j5 j6 j7 (uh HN)
end Go.Proofs.YtajabbnlbopcbaaGreatDoor
