import Derived.Test.YtajabbnlbopcbaaGreatDoorVN1
namespace Go.Proofs.YtajabbnlbopcbaaGreatDoor
open Go.RowKit
set_option linter.unusedSimpArgs false
set_option linter.unusedVariables false
def thC : Code → Code
 | .cond _ a _ => a
 | c => c
structure Ez (h : Nat) (X : World) (eb : Nat) (lv av : Value) (fn : ByteArray) (ls : List ByteArray) : Prop where
 box : BlkAt X eb 58 #[lv,.slice none 0 0,.string fn,av]
 hb : h ≤ eb
 rl : OwnV elStr X h lv ls
theorem Ez.kp {T g h : Nat} {X Y : World} {eb : Nat} {lv av : Value} {fn : ByteArray} {ls : List ByteArray} (p : Ez h X eb lv av fn ls) (q : KpH T g X Y) (h1 : 58 ≠ T) (h2 : 9 ≠ T) : Ez h Y eb lv av fn ls:=⟨p.box.kp q (Or.inl h1),p.hb,p.rl.kp q (Or.inl h2)⟩
theorem Ez.below {h : Nat} {X Y : World} {eb : Nat} {lv av : Value} {fn : ByteArray} {ls : List ByteArray} (p : Ez h X eb lv av fn ls) (hb : Below X.heap.size X Y) : Ez h Y eb lv av fn ls:=p.kp (KpH.below 1000000 0 hb) (by decide) (by decide)
theorem Nz.pushL {code : List Int} {W0 : World} {cb : Nat} {cv : Value} {w : World} {rb nb sb : Nat} {X : World} {c : Cur} {nm : ByteArray} {sv vi vo vv qv ev : Value} {rank : Nat} {xs is os vs : List DVar} {qs es : List DEq} {hi : Nat} (p : Nz code W0 cb cv w rb nb sb X c nm sv vi vo vv qv ev rank xs is os vs qs es hi) {eb : Nat} {lv : Value} {fn : ByteArray} {ls : List ByteArray} (q : Ez hi X eb lv (.slice none 0 0) fn ls) (s : ByteArray) (hl : ls.length ≤ 900) (hwh : w.heap.size ≤ hi) :
  ∃ a' n' c' Z,Hid ((Builtin.append_ #[54,54] 54 #[lv,.slice (some ⟨X.heap.size,0,none⟩) 1 1]).run Tryz.prog (X.alloc (.cells #[.string s] 9)) = .ok (.slice a' n' c') Z) ∧ BlkAt Z eb 58 #[lv,.slice none 0 0,.string fn,.slice none 0 0] ∧ Hid (Nz code W0 cb cv w rb nb sb (Z.setCell ⟨eb,0,none⟩ (.slice a' n' c')) c nm sv vi vo vv qv ev rank xs is os vs qs es hi) ∧ Hid (Ez hi (Z.setCell ⟨eb,0,none⟩ (.slice a' n' c')) eb (.slice a' n' c') (.slice none 0 0) fn (ls ++ [s])) ∧ Hid (∀ T h,T ≠ 9 → T ≠ 58 → ∀ cs,BlkAt X h T cs → BlkAt (Z.setCell ⟨eb,0,none⟩ (.slice a' n' c')) h T cs) ∧ Hid (∀ kv k,Kz w.heap.size hi X kv k → Kz w.heap.size hi (Z.setCell ⟨eb,0,none⟩ (.slice a' n' c')) kv k):=by
 have hA : Below X.heap.size X (X.alloc (.cells #[.string s] 9)):=(Below.refl _ _).alloc (Nat.le_refl _) _
 have pA:=p.below hA
 have qA:=q.below hA
 obtain ⟨v',Z,g1,g2,g3,_⟩:=run_append_one elStr (X.alloc (.cells #[.string s] 9)) 54 hi lv ls qA.rl X.heap.size s (fun j u hu => (blk_box X #[.string s] 9).cell (by simpa [elStr] using hu)) (show (ls.length + 1) * 16 ≤ _ by omega) pA.hl
 obtain ⟨a',c',rfl⟩:=g2.slice
 have k1 : KpH 9 hi (X.alloc (.cells #[.string s] 9)) Z:=KpH.own (E:=elStr) qA.rl g3
 have hbZ:=qA.box.kp k1 (Or.inl (by decide))
 have k2 : KpH 58 hi Z (Z.setCell ⟨eb,0,none⟩ (.slice a' (ls ++ [s]).length c')):=KpH.set hbZ q.hb 0 _
 refine ⟨a',_,c',Z,g1,hbZ,(pA.kp k1 hwh (by decide) (by decide) (by decide) (Or.inr (Nat.le_refl _)) (Or.inl (by decide))).kp k2 hwh (by decide) (by decide) (by decide) (Or.inl (by decide)) (Or.inr (Nat.le_refl _)),⟨hbZ.set 0 _,q.hb,g2.kp k2 (Or.inl (by decide))⟩,fun T h h1 h2 cs hb => ((hb.below hA hb.lt).kp k1 (Or.inl h1)).kp k2 (Or.inl h2),fun kv k hk => ((hk.kp (KpH.below 1000000 X.heap.size hA) (Or.inr p.hl)).kp k1 (Or.inr (Nat.le_refl _))).kp k2 (Or.inl (by decide))⟩
set_option maxRecDepth 1000000 in
set_option maxHeartbeats 8000000 in
theorem pushes_ok {code : List Int} {W0 : World} {cb : Nat} {cv : Value} {w : World} {rb nb sb : Nat} {X : World} {c : Cur} {nm : ByteArray} {sv vi vo vv qv ev : Value} {rank : Nat} {xs is os vs : List DVar} {qs es : List DEq} {hi : Nat} {k : List DCond} {ka : Option Addr} {kn kc : Nat} (hk : Kz w.heap.size hi X (.slice ka kn kc) k) {s : ByteArray} {ty : Int} (hx : okW ⟨s,ty,k⟩) (p : Nz code W0 cb cv w rb nb sb X c nm sv vi vo vv qv ev rank xs is os vs qs es hi) (hwh : w.heap.size ≤ hi) (hl : xs.length ≤ 90) (hvl : vs.length ≤ 90)
  {eb vb fb : Nat} {lv : Value} {fn : ByteArray} {ls : List ByteArray} (q : Ez hi X eb lv (.slice none 0 0) fn ls) (hll : ls.length ≤ 90) (hvb : BlkAt X vb 67 #[.string s,.int .i64 ty,.slice ka kn kc]) (hv1 : sv.ownBlock ≠ some vb) (hv2 : vv.ownBlock ≠ some vb) {fc : Array Value} (hfb : BlkAt X fb 43 fc) (hfn : fb ≠ nb)
  {u : Nat → Value} (h5 : u 5 = .pointer (some ⟨nb,0,none⟩)) (h8 : u 8 = .pointer (some ⟨sb,0,none⟩)) (h14 : u 14 = .pointer (some ⟨eb,0,none⟩)) (h17 : u 17 = .pointer (some ⟨vb,0,none⟩)) {K K1 K2 K3 K4 K5 K6 : Act → World → Prop} {PO : Ending → World → Prop}
  (HK : ∀ x Z sv' vv' lv',x.size = 266 → x.getD 0 undef = u 0 → x.getD 1 undef = u 1 → x.getD 4 undef = u 4 → x.getD 5 undef = .pointer (some ⟨nb,0,none⟩) → x.getD 8 undef = .pointer (some ⟨sb,0,none⟩) → x.getD 9 undef = u 9 → x.getD 10 undef = u 10 → x.getD 11 undef = u 11 → x.getD 12 undef = u 12 → x.getD 13 undef = u 13 → x.getD 14 undef = .pointer (some ⟨eb,0,none⟩) → x.getD 94 undef = u 94 → x.getD 95 undef = u 95 → x.getD 96 undef = u 96 → Nz code W0 cb cv w rb nb sb Z c nm sv' vi vo vv' qv ev rank (xs ++ [⟨s,ty,k⟩]) is os (vs ++ [⟨s,ty,k⟩]) qs es hi → Ez hi Z eb lv' (.slice none 0 0) fn (ls ++ [s]) → BlkAt Z fb 43 fc → Kz w.heap.size hi Z (.slice ka kn kc) k → K5 ⟨x,[]⟩ Z) :
  Code.wp Tryz.prog (rtC 2 (inC (lfC (rtC 1 (rtC 1 (inC (inC (rtC 1 (lfC (rtC 2 (thC (rtC 1 (lfC (rtC 2 (inC (lfC (rtC 1 (inC (inC (rtC 1 (lfC (rtC 8 (Tryz.f21.body.getD .skip))))))))))))))))))))))) (Exit.inBlock 5 (Exit.then K5 (Exit.then K4 (Exit.inBlock 4 (Exit.then K6 (Exit.then K3 (Exit.inBlock 3 (Exit.then K2 (Exit.then K (Exit.inBlock 2 (Exit.then K1 (bodyPost Tryz.prog Tryz.f21 PO)))))))))))) (FrN u) X:=by
 obtain ⟨sa,sc,rfl⟩:=p.vz.s.slice
 obtain ⟨va,vc,rfl⟩:=p.vz.v.slice
 obtain ⟨la,lc,rfl⟩:=q.rl.slice
 obtain ⟨sa2,sn2,sc2,Z1,HR1,hbz1,HM1,hn1,HF1⟩:=p.pushS (x:=⟨s,ty,k⟩) hx hk (by omega)
 clear hn1
 replace HR1 : Hid ((Builtin.append_ #[40,40] 40 #[.slice sa xs.length sc,.slice (some ⟨X.heap.size,0,none⟩) 1 1]).run Tryz.prog (X.alloc (.cells #[.string s,.int .i64 ty,.slice ka kn kc] 67)) = .ok (.slice sa2 sn2 sc2) Z1):=HR1
 have q1b : KpH 91 w.heap.size Z1 (Z1.setCell ⟨sb,0,none⟩ (.slice sa2 sn2 sc2)):=KpH.set hbz1 p.sbl 0 _
 have hvbW:=((uh HF1).2.1 vb _ hvb hv1).kp q1b (Or.inl (by decide))
 have kW:=(hk.kp (uh HF1).1 (Or.inl (by decide))).kp q1b (Or.inl (by decide))
 have qW:=(q.kp (uh HF1).1 (by decide) (by decide)).kp q1b (by decide) (by decide)
 have fW:=(hfb.kp (uh HF1).1 (Or.inl (by decide))).kp q1b (Or.inl (by decide))
 obtain ⟨va2,vn2,vc2,Z2,HR2,hbz2,HM2,hn2,HF2⟩:=(uh HM1).pushV (x:=⟨s,ty,k⟩) hx kW (by omega)
 clear hn2
 have hz1 : (Z1.setCell ⟨sb,0,none⟩ (.slice sa2 sn2 sc2)).heap.size = Z1.heap.size:=by simp [World.setCell]
 rw [hz1] at HR2
 replace HR2 : Hid ((Builtin.append_ #[40,40] 40 #[.slice va vs.length vc,.slice (some ⟨Z1.heap.size,0,none⟩) 1 1]).run Tryz.prog ((Z1.setCell ⟨sb,0,none⟩ (.slice sa2 sn2 sc2)).alloc (.cells #[.string s,.int .i64 ty,.slice ka kn kc] 67)) = .ok (.slice va2 vn2 vc2) Z2):=HR2
 have q2b : KpH 43 w.heap.size Z2 (Z2.setCell ⟨nb,3,none⟩ (.slice va2 vn2 vc2)):=KpH.set hbz2 p.nbl 3 _
 have hvbX:=((uh HF2).2.1 vb _ hvbW hv2).kp q2b (Or.inl (by decide))
 have kX:=(kW.kp (uh HF2).1 (Or.inl (by decide))).kp q2b (Or.inl (by decide))
 have qX:=(qW.kp (uh HF2).1 (by decide) (by decide)).kp q2b (by decide) (by decide)
 have fX:=(Tr.setCell nb Z2 3 (.slice va2 vn2 vc2)).blk (fW.kp (uh HF2).1 (Or.inl (by decide))) hfn
 obtain ⟨la3,ln3,lc3,Z3,HR3,hbz3,HM3,HQ3,HF3,HK3⟩:=(uh HM2).pushL qX s (by omega) hwh
 have hz2 : (Z2.setCell ⟨nb,3,none⟩ (.slice va2 vn2 vc2)).heap.size = Z2.heap.size:=by simp [World.setCell]
 rw [hz2] at HR3
 replace HR3 : Hid ((Builtin.append_ #[54,54] 54 #[.slice la ls.length lc,.slice (some ⟨Z2.heap.size,0,none⟩) 1 1]).run Tryz.prog ((Z2.setCell ⟨nb,3,none⟩ (.slice va2 vn2 vc2)).alloc (.cells #[.string s] 9)) = .ok (.slice la3 ln3 lc3) Z3):=HR3
 have HFN : Hid (BlkAt (Z3.setCell ⟨eb,0,none⟩ (.slice la3 ln3 lc3)) fb 43 fc ∧ Kz w.heap.size hi (Z3.setCell ⟨eb,0,none⟩ (.slice la3 ln3 lc3)) (.slice ka kn kc) k):=⟨uh HF3 _ _ (by decide) (by decide) _ fX,uh HK3 _ _ kX⟩
 have a0:=hvb.cell (i:=0) (v:=.string s) rfl
 have a1:=hvb.cell (i:=1) (v:=.int .i64 ty) rfl
 have a2:=hvb.cell (i:=2) (v:=.slice ka kn kc) rfl
 have a3:=p.sbx.cell (i:=0) (v:=.slice sa xs.length sc) rfl
 have b0:=hbz1.cell (i:=0) (v:=.slice sa xs.length sc) rfl
 have b1:=hbz1.free 0
 have b2:=hbz1.lt
 have c0:=hvbW.cell (i:=0) (v:=.string s) rfl
 have c2:=hvbW.cell (i:=1) (v:=.int .i64 ty) rfl
 have c3:=hvbW.cell (i:=2) (v:=.slice ka kn kc) rfl
 have c4:=(uh HM1).nbx.cell (i:=3) (v:=.slice va vs.length vc) rfl
 have d0:=hbz2.cell (i:=3) (v:=.slice va vs.length vc) rfl
 have d1:=hbz2.free 3
 have d2:=hbz2.lt
 have e0:=hvbX.cell (i:=0) (v:=.string s) rfl
 have e1:=qX.box.cell (i:=0) (v:=.slice la ls.length lc) rfl
 have f0:=hbz3.cell (i:=0) (v:=.slice la ls.length lc) rfl
 have f1:=hbz3.free 0
 have f2:=hbz3.lt
 have HKK:=hide HK
 clear HK hk hx p hwh q hvb hv1 hv2 hfb hfn hbz1 HM1 HF1 q1b hvbW kW qW fW hbz2 HM2 HF2 hz1 q2b hvbX kX qX fX hbz3 HF3 HK3 hz2
 unfold FrN
 rw [h5,h8,h14,h17]
 clear h5 h8 h14 h17
 conv => arg 2; whnf
 go_wp2_with (at_builtin; go_must (first | (refine wpList_append_run rfl _ _ 40 40 rfl rfl _ _ _ rfl rfl (uh HR1) ?_; clear HR1) | (refine wpList_append_run rfl _ _ 40 40 rfl rfl _ _ _ rfl rfl (uh HR2) ?_; clear HR2) | refine wpList_append_run rfl _ _ 54 54 rfl rfl _ _ _ rfl rfl (uh HR3) ?_))
 exact uh HKK _ _ _ _ _ rfl rfl rfl rfl rfl rfl rfl rfl rfl rfl rfl rfl rfl rfl rfl (uh HM3) (uh HQ3) (uh HFN).1 (uh HFN).2
theorem dec_at {X1 : World} {sb ob : Nat} {sv : Value} {oty : Int} {T U : Nat} {c1 c2 : Array Value} (h1 : BlkAt X1 sb T c1) (e1 : c1[0]? = some sv) (h2 : BlkAt X1 ob U c2) (e2 : c2[1]? = some (.int .i64 oty)) (n : Nat) (hn : n < 100) (Y : World) (hY : Below X1.heap.size X1 Y) :
  Calls Tryz.prog 30 #[.int .i64 (n : Int)] Y (fun e Z => e = .returned (.string (dcT (n : Int))) ∧ Z.cell? ⟨sb,0,none⟩ = some sv ∧ Z.cell? ⟨ob,1,none⟩ = some (.int .i64 oty) ∧ Hid (Below X1.heap.size X1 Z ∧ Below Y.heap.size Y Z)):=by
 refine (l1Dec_ok (n : Int) (by omega) Y).mono ?_
 rintro e Z ⟨rfl,hZ⟩
 have hb:=hY.trans (hZ.mono hY.size)
 exact ⟨rfl,(h1.below hb h1.lt).cell e1,(h2.below hb h2.lt).cell e2,hb,hZ⟩
set_option maxRecDepth 1000000 in
theorem inc4 {u : Nat → Value} {j : Nat} (hj : j < 1000) {Z : World} (h96 : u 96 = .int .i64 j) {K K1 K2 K3 K4 K6 : Act → World → Prop} {PO : Ending → World → Prop} (HK : ∀ x : Array Value,x.size = 266 → x.getD 0 undef = u 0 → x.getD 1 undef = u 1 → x.getD 4 undef = u 4 → x.getD 5 undef = u 5 → x.getD 8 undef = u 8 → x.getD 9 undef = u 9 → x.getD 10 undef = u 10 → x.getD 11 undef = u 11 → x.getD 12 undef = u 12 → x.getD 13 undef = u 13 → x.getD 14 undef = u 14 → x.getD 94 undef = u 94 → x.getD 95 undef = u 95 → x.getD 96 undef = .int .i64 ((j : Int) + 1) → K4 ⟨x,[]⟩ Z) : Code.wp Tryz.prog (rtC 3 (inC (inC (rtC 1 (lfC (rtC 2 (thC (rtC 1 (lfC (rtC 2 (inC (lfC (rtC 1 (inC (inC (rtC 1 (lfC (rtC 8 (Tryz.f21.body.getD .skip))))))))))))))))))) (Exit.then K4 (Exit.inBlock 4 (Exit.then K6 (Exit.then K3 (Exit.inBlock 3 (Exit.then K2 (Exit.then K (Exit.inBlock 2 (Exit.then K1 (bodyPost Tryz.prog Tryz.f21 PO)))))))))) (FrN u) Z:=by
 have hw1 : IntKind.i64.wrap ((j : Int) + 1) = (j : Int) + 1:=by rw [IntKind.wrap_i64]; omega
 have HKK:=hide HK
 clear HK
 unfold FrN
 rw [h96]
 conv => arg 2; whnf
 go_wp2
 exact uh HKK _ rfl rfl rfl rfl rfl rfl rfl rfl rfl rfl rfl rfl rfl rfl rfl
theorem dec_box {X1 : World} {sb ob : Nat} {sv : Value} {oty : Int} {T U : Nat} {c1 c2 : Array Value} (h1 : BlkAt X1 sb T c1) (e1 : c1[0]? = some sv) (h2 : BlkAt X1 ob U c2) (e2 : c2[1]? = some (.int .i64 oty)) (n : Nat) (hn : n < 100) :
  Calls Tryz.prog 30 #[.int .i64 (n : Int)] (X1.drew.alloc (.cells #[.string ⟨#[]⟩,.int .i64 0,.slice none 0 0] 67)) (fun e Z => e = .returned (.string (dcT (n : Int))) ∧ Z.cell? ⟨sb,0,none⟩ = some sv ∧ Z.cell? ⟨ob,1,none⟩ = some (.int .i64 oty) ∧ Z.cell? ⟨X1.heap.size,0,none⟩ = some (.string ⟨#[]⟩) ∧ Z.cell? ⟨X1.heap.size,1,none⟩ = some (.int .i64 0) ∧ Z.cell? ⟨X1.heap.size,2,none⟩ = some (.slice none 0 0) ∧ Z.frozen? ⟨X1.heap.size,0,none⟩ = false ∧ Z.frozen? ⟨X1.heap.size,1,none⟩ = false ∧ Z.frozen? ⟨X1.heap.size,2,none⟩ = false ∧ X1.heap.size < Z.heap.size ∧ Hid (Below X1.heap.size X1 Z ∧ BlkAt Z X1.heap.size 67 #[.string ⟨#[]⟩,.int .i64 0,.slice none 0 0])):=by
 refine (dec_at h1 e1 h2 e2 n hn _ (((Below.refl _ _).drew).alloc (by simp) _)).mono ?_
 rintro e Z ⟨rfl,k1,k2,k3⟩
 have h9:=blk_box X1.drew #[.string ⟨#[]⟩,.int .i64 0,.slice none 0 0] 67
 have h8 : BlkAt (X1.drew.alloc (.cells #[.string ⟨#[]⟩,.int .i64 0,.slice none 0 0] 67)) X1.heap.size 67 #[.string ⟨#[]⟩,.int .i64 0,.slice none 0 0]:=by simpa using h9
 have hb:=h8.below (uh k3).2 h8.lt
 exact ⟨rfl,k1,k2,hb.cell (i:=0) rfl,hb.cell (i:=1) rfl,hb.cell (i:=2) rfl,hb.free 0,hb.free 1,hb.free 2,hb.lt,(uh k3).1,hb⟩
set_option maxRecDepth 1000000 in
set_option maxHeartbeats 8000000 in
theorem nv_round {code : List Int} {W0 : World} {cb : Nat} {cv : Value} {w : World} {rb nb sb : Nat} {X : World} {c : Cur} {nm : ByteArray} {sv vi vo vv qv ev : Value} {rank : Nat} {xs is os vs : List DVar} {qs es : List DEq} {hi : Nat} {k : List DCond} {ka : Option Addr} {kn kc : Nat} (hk : Kz w.heap.size hi X (.slice ka kn kc) k) (hkk : kOK k) (hk3 : k.length ≤ 3) (p : Nz code W0 cb cv w rb nb sb X c nm sv vi vo vv qv ev rank xs is os vs qs es hi) (hwh : w.heap.size ≤ hi) (hl : xs.length ≤ 90) (hvl : vs.length ≤ 90)
  {eb fb : Nat} {lv : Value} {fn : ByteArray} {ls : List ByteArray} (q : Ez hi X eb lv (.slice none 0 0) fn ls) (hll : ls.length ≤ 90) {fc : Array Value} (hfb : BlkAt X fb 43 fc) (hfn : fb ≠ nb)
  {outs : List DVar} {oa : Option Addr} {on oc : Nat} (ho : SlAt 3 48 RVar (cb + 1) X (.slice oa on oc) outs) (hov : vsOK outs) {j : Nat} (hj : j < outs.length) (hoc : outs.length ≤ 100)
  {u : Nat → Value} (h0 : u 0 = .pointer (some ⟨cb,0,none⟩)) (h5 : u 5 = .pointer (some ⟨nb,0,none⟩)) (h8 : u 8 = .pointer (some ⟨sb,0,none⟩)) (h12 : u 12 = .slice ka kn kc) (h14 : u 14 = .pointer (some ⟨eb,0,none⟩)) (h94 : u 94 = .slice oa on oc) (h95 : u 95 = .int .i64 on) (h96 : u 96 = .int .i64 j) {K K1 K2 K3 K4 K6 : Act → World → Prop} {PO : Ending → World → Prop}
  (HK : ∀ x Z sv' vv' lv',x.size = 266 → x.getD 0 undef = .pointer (some ⟨cb,0,none⟩) → x.getD 1 undef = u 1 → x.getD 4 undef = u 4 → x.getD 5 undef = .pointer (some ⟨nb,0,none⟩) → x.getD 8 undef = .pointer (some ⟨sb,0,none⟩) → x.getD 9 undef = u 9 → x.getD 10 undef = u 10 → x.getD 11 undef = u 11 → x.getD 12 undef = .slice ka kn kc → x.getD 13 undef = u 13 → x.getD 14 undef = .pointer (some ⟨eb,0,none⟩) → x.getD 94 undef = .slice oa on oc → x.getD 95 undef = .int .i64 on → x.getD 96 undef = .int .i64 ((j : Int) + 1) → Nz code W0 cb cv w rb nb sb Z c nm sv' vi vo vv' qv ev rank (xs ++ [⟨nmV 118 xs.length,(outs.getD j dV).type,k⟩]) is os (vs ++ [⟨nmV 118 xs.length,(outs.getD j dV).type,k⟩]) qs es hi → Ez hi Z eb lv' (.slice none 0 0) fn (ls ++ [nmV 118 xs.length]) → BlkAt Z fb 43 fc → Kz w.heap.size hi Z (.slice ka kn kc) k → K4 ⟨x,[]⟩ Z) :
  Code.wp Tryz.prog (inC (inC (rtC 1 (lfC (rtC 2 (thC (rtC 1 (lfC (rtC 2 (inC (lfC (rtC 1 (inC (inC (rtC 1 (lfC (rtC 8 (Tryz.f21.body.getD .skip)))))))))))))))))) (Exit.then K4 (Exit.inBlock 4 (Exit.then K6 (Exit.then K3 (Exit.inBlock 3 (Exit.then K2 (Exit.then K (Exit.inBlock 2 (Exit.then K1 (bodyPost Tryz.prog Tryz.f21 PO)))))))))) (FrN u) X:=by
 obtain ⟨sa,sc,rfl⟩:=p.vz.s.slice
 obtain ⟨a9,c9,he9,hcp,_,hx⟩:=ho
 simp only [Value.slice.injEq] at he9
 obtain ⟨rfl,hon,rfl⟩:=he9
 obtain ⟨b,o,cs,rfl,_,hb,hcs,hc,hR⟩:=hx j hj
 obtain ⟨cl,rfl,hn1,hn2,hcl⟩:=hR
 have r0:=hc 0 (by simp)
 have r1:=hc 1 (by simp)
 have r2:=hc 2 (by simp)
 simp only [Nat.add_zero,List.getElem_cons_zero,List.getElem_cons_succ] at r0 r1 r2
 obtain ⟨la,lc,rfl⟩:=hcl.shape
 have hot:=(hov _ (List.getElem_mem hj)).2.1
 have eD : outs.getD j dV = outs[j]:=by rw [List.getD_eq_getElem?_getD,List.getElem?_eq_getElem hj]; rfl
 rw [eD] at HK
 generalize outs[j] = ov at *
 obtain ⟨onm,oty,ock⟩:=ov
 simp only at r0 r1 r2 hot
 have hjI : (j : Int) < (on : Int):=by omega
 have hjn : j < on:=by omega
 obtain ⟨X1,hX1⟩ : ∃ X1,X1 = X.alloc (.cells #[.string onm,.int .i64 oty,.slice la ock.length lc] 67):=⟨_,rfl⟩
 have hA : Below X.heap.size X X1:=hX1 ▸ (Below.refl _ _).alloc (Nat.le_refl _) _
 have hob : BlkAt X1 X.heap.size 67 #[.string onm,.int .i64 oty,.slice la ock.length lc]:=hX1 ▸ blk_box X _ _
 have p1:=p.below hA
 have hsn : nmV 118 xs.length = (⟨#[118]⟩ : ByteArray) ++ dcT (xs.length : Int):=by unfold nmV; rw [dcT_nat]
 have hpl:=nm_plain (p:=118) (n:=xs.length) (by omega) (by decide)
 have HDC : Hid (∀ Y,Below X1.heap.size X1 Y → Calls Tryz.prog 30 #[.int .i64 (xs.length : Int)] Y _):=hide (fun Y hY => dec_at p1.sbx (sv:=.slice sa xs.length sc) rfl hob (oty:=oty) rfl xs.length (by omega) Y hY)
 have HDB:=hide (dec_box p1.sbx (sv:=.slice sa xs.length sc) rfl hob (oty:=oty) rfl xs.length (by omega))
 obtain ⟨m1,m2⟩:=Sum1 xs.length (by omega)
 have s0:=p1.sbx.cell (i:=0) (v:=.slice sa xs.length sc) rfl
 have s1:=hob.cell (i:=1) (v:=.int .i64 oty) rfl
 have n1:=World.new_ne X1 ⟨sb,0,none⟩ s0
 have n2:=World.new_ne X1 ⟨X.heap.size,1,none⟩ s1
 have HDR : Hid (Below X1.heap.size X1 X1.drew):=(Below.refl _ _).drew
 have HX1:=hide hX1
 have HP:=hide p1
 have HQ:=hide (q.below hA)
 have HKZ:=hide (hk.kp (KpH.below 1000000 X.heap.size hA) (Or.inr p.hl))
 have HFB:=hide (hfb.below hA hfb.lt)
 rw [hsn] at hpl HK
 have HKK:=hide HK
 have HXW : Hid (okW ⟨(⟨#[118]⟩ : ByteArray) ++ dcT (xs.length : Int),oty,k⟩):=⟨hpl,hot,show k.length ≤ 8 by omega,hkk⟩
 have HSN:=hide hsn
 have HBL:=hide (And.intro (fun b => p.vz.s.blk b) (fun b => p.vz.v.blk b))
 clear HK p q hk hfb hA hob p1 hX1 hc hcs hcl hx hcp eD hon hsn
 unfold FrN
 rw [h0,h5,h8,h12,h14,h94,h95,h96]
 clear h0 h5 h8 h12 h14 h94 h95 h96
 conv => arg 2; whnf
 go_wp2_with fail
 rw [← uh HX1]
 go_region_held3 (fun w' => w'.cell? ⟨sb,0,none⟩ = some (.slice sa xs.length sc) ∧ w'.cell? ⟨X.heap.size,1,none⟩ = some (.int .i64 oty)) (go_keep) (first | (go_at_call 30; refine (uh HDC _ (uh HDR)).mono ?_; rintro e Y ⟨rfl,o0,o1,HY⟩) | (go_at_call 30; refine (uh HDB).mono ?_; rintro e Y ⟨rfl,o0,o1,z0,z1,z2,z3,z4,z5,z6,HY⟩))
 ·have hW : Below X1.heap.size X1 (Y.alloc (.cells #[.string ((⟨#[118]⟩ : ByteArray) ++ dcT (xs.length : Int)),.int .i64 oty,.slice ka kn kc] 67)):=(uh HY).1.alloc (uh HY).1.size _
  have hvb : BlkAt (Y.alloc (.cells #[.string ((⟨#[118]⟩ : ByteArray) ++ dcT (xs.length : Int)),.int .i64 oty,.slice ka kn kc] 67)) Y.heap.size 67 #[.string ((⟨#[118]⟩ : ByteArray) ++ dcT (xs.length : Int)),.int .i64 oty,.slice ka kn kc]:=blk_box Y _ _
  have hge : X1.heap.size ≤ Y.heap.size:=(uh HY).1.size
  rename_i K7 HK7 K8 HK8 hHeld
  have h7:=hide HK7
  refine HK8 _ _ ?_
  clear HK7 HK8
  have hXs : X.heap.size < X1.heap.size:=(uh HX1).symm ▸ (by simp)
  rw [frN_mk _ rfl]
  refine pushes_ok ((uh HKZ).kp (KpH.below 1000000 X1.heap.size hW) (Or.inr (uh HP).hl)) (uh HXW) ((uh HP).below hW) hwh hl hvl ((uh HQ).below hW) hll hvb (fun e => by have:=((uh HBL).1 _ e).2.1; omega) (fun e => by have:=((uh HBL).2 _ e).2.1; omega) ((uh HFB).below hW (uh HFB).lt) hfn rfl rfl rfl rfl ?_
  intro x Z sv' vv' lv' hsz k0 k1 k4 k5 k8 k9 k10 k11 k12 k13 k14 k94 k95 k96 hn hq hf hk
  refine uh h7 _ _ ?_
  rw [frN_mk x hsz]
  refine inc4 (u:=fun i => x.getD i undef) (j:=j) (by omega) k96 ?_
  intro y hy j0 j1 j4 j5 j8 j9 j10 j11 j12 j13 j14 j94 j95 j96
  exact uh HKK y Z sv' vv' lv' hy (j0.trans k0) (j1.trans k1) (j4.trans k4) (j5.trans k5) (j8.trans k8) (j9.trans k9) (j10.trans k10) (j11.trans k11) (j12.trans k12) (j13.trans k13) (j14.trans k14) (j94.trans k94) (j95.trans k95) j96 hn hq hf hk
 ·have hW : Below X1.heap.size X1 (((Y.setCell ⟨X1.heap.size,0,none⟩ (.string ((⟨#[118]⟩ : ByteArray) ++ dcT (xs.length : Int)))).setCell ⟨X1.heap.size,1,none⟩ (.int .i64 oty)).setCell ⟨X1.heap.size,2,none⟩ (.slice ka kn kc)):=(uh HY).1.trans ((Tr.set3 X1.heap.size Y _ _ _).below (uh HY).1.size (Nat.le_refl _))
  have hvb:=(uh HY).2.set3 (x:=.string ((⟨#[118]⟩ : ByteArray) ++ dcT (xs.length : Int))) (y:=.int .i64 oty) (z:=.slice ka kn kc)
  have hge : X1.heap.size ≤ X1.heap.size:=Nat.le_refl _
  rename_i K7 HK7 K8 HK8 hHeld
  have h7:=hide HK7
  refine HK8 _ _ ?_
  clear HK7 HK8
  have hXs : X.heap.size < X1.heap.size:=(uh HX1).symm ▸ (by simp)
  rw [frN_mk _ rfl]
  refine pushes_ok ((uh HKZ).kp (KpH.below 1000000 X1.heap.size hW) (Or.inr (uh HP).hl)) (uh HXW) ((uh HP).below hW) hwh hl hvl ((uh HQ).below hW) hll hvb (fun e => by have:=((uh HBL).1 _ e).2.1; omega) (fun e => by have:=((uh HBL).2 _ e).2.1; omega) ((uh HFB).below hW (uh HFB).lt) hfn rfl rfl rfl rfl ?_
  intro x Z sv' vv' lv' hsz k0 k1 k4 k5 k8 k9 k10 k11 k12 k13 k14 k94 k95 k96 hn hq hf hk
  refine uh h7 _ _ ?_
  rw [frN_mk x hsz]
  refine inc4 (u:=fun i => x.getD i undef) (j:=j) (by omega) k96 ?_
  intro y hy j0 j1 j4 j5 j8 j9 j10 j11 j12 j13 j14 j94 j95 j96
  exact uh HKK y Z sv' vv' lv' hy (j0.trans k0) (j1.trans k1) (j4.trans k4) (j5.trans k5) (j8.trans k8) (j9.trans k9) (j10.trans k10) (j11.trans k11) (j12.trans k12) (j13.trans k13) (j14.trans k14) (j94.trans k94) (j95.trans k95) j96 hn hq hf hk
theorem Nz.arg {code : List Int} {W0 : World} {cb : Nat} {cv : Value} {w : World} {rb nb sb : Nat} {X : World} {c : Cur} {nm : ByteArray} {sv vi vo vv qv ev : Value} {rank : Nat} {xs is os vs : List DVar} {qs es : List DEq} {hi : Nat} (p : Nz code W0 cb cv w rb nb sb X c nm sv vi vo vv qv ev rank xs is os vs qs es hi) {eb B : Nat} {la aa : Option Addr} {ll lc an ac : Nat} {fn : ByteArray} {ls : List ByteArray} {ags : List (List DItem)} (q : Ez hi X eb (.slice la ll lc) (.slice aa an ac) fn ls) (m : MkR rItems TItems B X (.slice aa an ac) ags) (heB : eb < B) (hBX : B ≤ X.heap.size) (hwh : w.heap.size ≤ hi) (hal : ags.length ≤ 90) {kv : Value} {k : List DCond} (hk : Kz w.heap.size hi X kv k) (hkk : kOK k) (hk3 : k.length ≤ 3) (hl : xs.length ≤ 100) (hv : vsOK xs) (kind : Int) (hok : okB 483 c) :
  Calls Tryz.prog 32 #[.pointer (some ⟨cb,0,none⟩),.agg #[sv,.int .i64 rank],.int .i64 kind,kv,.bool false,.int .i64 2] X (fun e Y => ∃ a n cap a' n' c' Z,e = .returned (.slice a n cap) ∧ Y.cell? ⟨eb,3,none⟩ = some (.slice aa an ac) ∧ (Y.alloc (.cells #[.slice a n cap] 55)).cell? ⟨eb,3,none⟩ = some (.slice aa an ac) ∧ eb < Y.heap.size ∧ Hid ((Builtin.append_ #[56,56] 56 #[.slice aa an ac,.slice (some ⟨Y.heap.size,0,none⟩) 1 1]).run Tryz.prog (Y.alloc (.cells #[.slice a n cap] 55)) = .ok (.slice a' n' c') Z) ∧ Z.cell? ⟨eb,3,none⟩ = some (.slice aa an ac) ∧ Z.frozen? ⟨eb,3,none⟩ = false ∧ eb < Z.heap.size ∧ Hid (Nz code W0 cb cv w rb nb sb (Z.setCell ⟨eb,3,none⟩ (.slice a' n' c')) (exF code xs rank 4 c kind k false).2 nm sv vi vo vv qv ev rank xs is os vs qs es hi) ∧ Hid (Ez hi (Z.setCell ⟨eb,3,none⟩ (.slice a' n' c')) eb (.slice la ll lc) (.slice a' n' c') fn ls) ∧ Hid (MkR rItems TItems B (Z.setCell ⟨eb,3,none⟩ (.slice a' n' c')) (.slice a' n' c') (ags ++ [(exF code xs rank 4 c kind k false).1])) ∧ Hid (Kz w.heap.size hi (Z.setCell ⟨eb,3,none⟩ (.slice a' n' c')) kv k ∧ B ≤ (Z.setCell ⟨eb,3,none⟩ (.slice a' n' c')).heap.size)):=by
 obtain ⟨⟨ps,hx⟩,hd2,hd3⟩:=exF_dr (code:=code) (rank:=rank) hv 4 c kind k false hkk
 have hs6 : szE 4 ≤ 1093:=by decide
 have hke : kE 4 = 483:=by decide
 refine (exp_ok 4 2 rfl (by omega) X c sv kv kind k false (p.exIn hl hv hk hkk (by omega)) (by rw [hke]; exact hok)).mono ?_
 rintro e Y ⟨a,cap,rfl,ho,hc,ht⟩
 have hlc:=p.lc
 have hwX:=p.tr.size
 have hbh:=q.hb
 have pY:=p.go hc ht
 have qt : KpH 36 cb X Y:=KpH.ofTr ht p.cu.blk (Nat.le_refl _)
 have qY:=q.kp qt (by decide) (by decide)
 have kY:=hk.kp qt (Or.inl (by decide))
 have hA : Below Y.heap.size Y (Y.alloc (.cells #[.slice a (exF code xs rank 4 c kind k false).1.length cap] 55)):=(Below.refl _ _).alloc (Nat.le_refl _) _
 have pA:=pY.below hA
 have qA:=qY.below hA
 have kA:=kY.kp (KpH.below 1000000 Y.heap.size hA) (Or.inr pY.hl)
 have hfin : Fin (fun w bs => TItems w (rawIts a (exF code xs rank 4 c kind k false).1.length cap).1 (exF code xs rank 4 c kind k false).1 bs) X.heap.size Y.heap.size Y:=by
  obtain ⟨bs,f1,f2,f3⟩:=ho.fin (ok:=okI) (its_ok hx) (by simp [elItem]; omega)
  exact ⟨bs,⟨_,rfl,f1⟩,f2,f3⟩
 obtain ⟨v',Z,g1,g2,g3,g4⟩:=m.snoc TItems_fr ht.size (fun b h1 h2 => ht.block b h2 (by omega)) hA hfin hBX rfl (eb:=Y.heap.size) (blk_box Y _ _) (show (ags.length + 1) * 24 ≤ _ by omega) 56
 obtain ⟨a',c',rfl⟩:=g2.slice
 have hmA : MkR rItems TItems B (Y.alloc (.cells #[.slice a (exF code xs rank 4 c kind k false).1.length cap] 55)) (.slice aa an ac) ags:=(m.tr TItems_fr ht (by omega)).keep TItems_fr hA.size (fun b _ h2 => hA.block b h2)
 have k1 : KpH 55 B (Y.alloc (.cells #[.slice a (exF code xs rank 4 c kind k false).1.length cap] 55)) Z:=by
  obtain ⟨css,subs,h1,_⟩:=hmA
  exact KpH.own (E:=rItems) h1 g3
 have hhB : hi ≤ B:=by omega
 have hbZ:=qA.box.kp k1 (Or.inl (by decide))
 have k2 : KpH 58 hi Z (Z.setCell ⟨eb,3,none⟩ (.slice a' (ags ++ [(exF code xs rank 4 c kind k false).1]).length c')):=KpH.set hbZ q.hb 3 _
 exact ⟨a,_,cap,a',_,c',Z,rfl,qY.box.cell (i:=3) rfl,qA.box.cell (i:=3) rfl,qY.box.lt,g1,hbZ.cell (i:=3) rfl,hbZ.free 3,hbZ.lt,(pA.kp k1 (by omega) (by decide) (by decide) (by decide) (Or.inr hhB) (Or.inl (by decide))).kp k2 hwh (by decide) (by decide) (by decide) (Or.inl (by decide)) (Or.inr (Nat.le_refl _)),⟨hbZ.set 3 _,q.hb,(qA.rl.kp k1 (Or.inl (by decide))).kp k2 (Or.inl (by decide))⟩,g2.tr TItems_fr (Tr.setCell eb Z 3 _) heB,(kA.kp k1 (Or.inr hhB)).kp k2 (Or.inl (by decide)),Nat.le_trans hBX (Nat.le_trans ht.size (Nat.le_trans hA.size (Nat.le_trans k1.size k2.size)))⟩
end Go.Proofs.YtajabbnlbopcbaaGreatDoor
