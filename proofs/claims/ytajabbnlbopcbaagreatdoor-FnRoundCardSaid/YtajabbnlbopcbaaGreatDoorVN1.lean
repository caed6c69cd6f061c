import Derived.Test.YtajabbnlbopcbaaGreatDoorVM2
import Derived.Deep.Cut
import Derived.Deep.RegionHeld3
namespace Go.Proofs.YtajabbnlbopcbaaGreatDoor
open Go.RowKit
set_option linter.unusedSimpArgs false
set_option linter.unusedVariables false
theorem Sum1 (n : Nat) (h : n < 100) : ¬ (9223372036854775807 < 1 + (dcT (n : Int)).size) ∧ ¬ ((9223372036854775807 : Int) < 1 + ((dcT (n : Int)).size : Int)):=by
 have:=dcN_small h
 rw [dcT_nat]
 omega
set_option maxRecDepth 1000000 in
set_option maxHeartbeats 8000000 in
theorem own_ok {code : List Int} {W0 : World} {cb : Nat} {cv : Value} {w : World} {rb nb sb : Nat} {X : World} {c : Cur} {nm : ByteArray} {sv vi vo vv qv ev : Value} {rank : Nat} {xs is os vs : List DVar} {qs es : List DEq} {hi : Nat} {k : List DCond} {ka : Option Addr} {kn kc : Nat} (hk : Kz w.heap.size hi X (.slice ka kn kc) k) (hkk : kOK k) (hk3 : k.length ≤ 3) (p : Nz code W0 cb cv w rb nb sb X c nm sv vi vo vv (.slice none 0 0) ev xs.length xs is os vs [] es hi) (hl : xs.length ≤ 90) (hvl : vs.length ≤ 90) (hel : es.length ≤ 90) (hv : vsOK xs) (hok : okB 4372 c)
  {u : Nat → Value} (h0 : u 0 = .pointer (some ⟨cb,0,none⟩)) (h5 : u 5 = .pointer (some ⟨nb,0,none⟩)) (h8 : u 8 = .pointer (some ⟨sb,0,none⟩)) (h9 : u 9 = ev) (h12 : u 12 = .slice ka kn kc) {K K1 K2 : Act → World → Prop} {PO : Ending → World → Prop}
  (HK : ∀ x Z sv' vv' ev' hi',x.size = 266 → x.getD 0 undef = .pointer (some ⟨cb,0,none⟩) → x.getD 1 undef = u 1 → x.getD 4 undef = u 4 → x.getD 5 undef = .pointer (some ⟨nb,0,none⟩) → x.getD 8 undef = .pointer (some ⟨sb,0,none⟩) → x.getD 10 undef = u 10 → x.getD 11 undef = u 11 → x.getD 9 undef = ev' → Nz code W0 cb cv w rb nb sb Z (grOwn code ⟨xs,vs,es,c⟩ k c).c nm sv' vi vo vv' (.slice none 0 0) ev' xs.length (grOwn code ⟨xs,vs,es,c⟩ k c).sv is os (grOwn code ⟨xs,vs,es,c⟩ k c).vs [] (grOwn code ⟨xs,vs,es,c⟩ k c).eqs hi' → K2 ⟨x,[]⟩ Z) :
  Code.wp Tryz.prog (rtC 3 (inC (lfC (rtC 1 (inC (inC (rtC 1 (lfC (rtC 8 (Tryz.f21.body.getD .skip)))))))))) (Exit.inBlock 3 (Exit.then K2 (Exit.then K (Exit.inBlock 2 (Exit.then K1 (bodyPost Tryz.prog Tryz.f21 PO)))))) (FrN u) X:=by
 obtain ⟨sa,sc,rfl⟩:=p.vz.s.slice
 obtain ⟨va,vc,rfl⟩:=p.vz.v.slice
 obtain ⟨ea,ec,rfl⟩:=p.qz.e.slice
 have HDC:=hide (l1Dec_ok (xs.length : Int) (by omega) X)
 have HP : Hid (∀ Y,Below X.heap.size X Y → Calls Tryz.prog 9 #[.pointer (some ⟨cb,0,none⟩),.int .i64 2] Y (CuAns code W0 cb cv Y (.int .i64 (pkF code 2 c).1) (pkF code 2 c).2)):=hide (fun Y hY => pick_ok (p.cu.below hY) 2 (by omega) (hok.less (by omega)))
 have hp2:=pkF_lt code (m:=2) c (by omega)
 have HOK : Hid (okB 4371 (pkF code 2 c).2):=pkF_ok hok
 have HEQ : Hid (∀ p2 c1,pkF code 2 c = (p2,c1) → grOwn code ⟨xs,vs,es,c⟩ k c = oneV code ⟨xs,vs,es,c⟩ ⟨nmV 118 xs.length,2 - (p2 : Int),k⟩ 9 k c1):=hide (fun p2 c1 h9 => by unfold grOwn; rw [h9])
 generalize hq : pkF code 2 c = Q at *
 obtain ⟨p2,c1⟩:=Q
 have HE:=hide (uh HEQ p2 c1 rfl)
 replace HP : Hid (∀ Y,Below X.heap.size X Y → Calls Tryz.prog 9 #[.pointer (some ⟨cb,0,none⟩),.int .i64 2] Y (CuAns code W0 cb cv Y (.int .i64 p2) c1)):=HP
 replace HOK : Hid (okB 4371 c1):=HOK
 replace hp2 : p2 < 2:=hp2
 have HPN:=hide p
 have HKZ:=hide hk
 have HKK:=hide HK
 have y0:=p.sbx.cell (i:=0) (v:=.slice sa xs.length sc) rfl
 obtain ⟨m1,m2⟩:=Sum1 xs.length (by omega)
 have hw1 : IntKind.i64.wrap (2 - (p2 : Int)) = 2 - (p2 : Int):=by rw [IntKind.wrap_i64]; omega
 clear p hk HK hq HEQ hok
 unfold FrN
 rw [h0,h5,h8,h9,h12]
 clear h0 h5 h8 h9 h12
 conv => arg 2; whnf
 go_wp2_with fail
 refine (uh HDC).mono ?_
 rintro e X1 ⟨rfl,hX1⟩
 have HN1:=hide ((uh HPN).below hX1)
 have HP1:=hide (uh HP X1 hX1)
 have HK1:=hide ((uh HKZ).kp (KpH.below 1000000 X.heap.size hX1) (Or.inr (uh HPN).hl))
 clear hX1 HP HDC y0 HPN HKZ
 go_wp2_with fail
 refine (uh HP1).mono ?_
 rintro e X2 ⟨rfl,hc2,ht2⟩
 have HN2:=hide ((uh HN1).go hc2 ht2)
 have HK2:=hide ((uh HK1).kp (KpH.ofTr ht2 (uh HN1).cu.blk (Nat.le_refl _)) (Or.inl (by decide)))
 clear hc2 ht2 HP1 HN1 HK1
 have hsn : nmV 118 xs.length = (⟨#[118]⟩ : ByteArray) ++ dcT (xs.length : Int):=by unfold nmV; rw [dcT_nat]
 have hpl:=nm_plain (p:=118) (n:=xs.length) (by omega) (by decide)
 rw [hsn] at HE hpl
 have HXW : Hid (okW ⟨(⟨#[118]⟩ : ByteArray) ++ dcT (xs.length : Int),2 - (p2 : Int),k⟩):=⟨hpl,show 2 - (p2 : Int) = 1 ∨ 2 - (p2 : Int) = 2 by omega,show k.length ≤ 8 by omega,hkk⟩
 clear hsn m1 m2
 generalize (⟨#[118]⟩ : ByteArray) ++ dcT (xs.length : Int) = s at *
 have hV : Below X2.heap.size X2 (X2.alloc (.cells #[.string s,.int .i64 (2 - (p2 : Int)),.slice ka kn kc] 67)):=(Below.refl _ _).alloc (Nat.le_refl _) _
 have hvb : BlkAt (X2.alloc (.cells #[.string s,.int .i64 (2 - (p2 : Int)),.slice ka kn kc] 67)) X2.heap.size 67 #[.string s,.int .i64 (2 - (p2 : Int)),.slice ka kn kc]:=blk_box X2 _ _
 have pV:=(uh HN2).below hV
 have kV:=(uh HK2).kp (KpH.below 1000000 X2.heap.size hV) (Or.inr (uh HN2).hl)
 have hVz : (X2.alloc (.cells #[.string s,.int .i64 (2 - (p2 : Int)),.slice ka kn kc] 67)).heap.size = X2.heap.size + 1:=by simp
 have hw2:=(uh HN2).tr.size
 have hcbw:=(uh HN2).lc
 obtain ⟨sa2,sn2,sc2,Z1,HR1,hbz1,HM1,hn1,HF1⟩:=pV.pushS (x:=⟨s,(2 - (p2 : Int)),k⟩) (uh HXW) kV (by omega)
 rw [hVz] at HR1
 replace HR1 : Hid ((Builtin.append_ #[40,40] 40 #[.slice sa xs.length sc,.slice (some ⟨X2.heap.size + 1,0,none⟩) 1 1]).run Tryz.prog ((X2.alloc (.cells #[.string s,.int .i64 (2 - (p2 : Int)),.slice ka kn kc] 67)).alloc (.cells #[.string s,.int .i64 (2 - (p2 : Int)),.slice ka kn kc] 67)) = .ok (.slice sa2 sn2 sc2) Z1):=HR1
 have hvb1:=(uh HF1).2.1 X2.heap.size _ hvb (fun e => by have:=((uh HN2).vz.s.blk _ e).2.1; omega)
 have q1:=(uh HF1).1
 have q1b : KpH 91 w.heap.size Z1 (Z1.setCell ⟨sb,0,none⟩ (.slice sa2 sn2 sc2)):=KpH.set hbz1 (uh HN2).sbl 0 _
 have hvbW:=hvb1.kp q1b (Or.inl (by decide))
 have kW:=(kV.kp q1 (Or.inl (by decide))).kp q1b (Or.inl (by decide))
 obtain ⟨va2,vn2,vc2,Z2,HR2,hbz2,HM2,hn2,HF2⟩:=(uh HM1).pushV (x:=⟨s,(2 - (p2 : Int)),k⟩) (uh HXW) kW (by omega)
 have hz1 : (Z1.setCell ⟨sb,0,none⟩ (.slice sa2 sn2 sc2)).heap.size = Z1.heap.size:=by simp [World.setCell]
 rw [hz1] at HR2
 replace HR2 : Hid ((Builtin.append_ #[40,40] 40 #[.slice va vs.length vc,.slice (some ⟨Z1.heap.size,0,none⟩) 1 1]).run Tryz.prog ((Z1.setCell ⟨sb,0,none⟩ (.slice sa2 sn2 sc2)).alloc (.cells #[.string s,.int .i64 (2 - (p2 : Int)),.slice ka kn kc] 67)) = .ok (.slice va2 vn2 vc2) Z2):=HR2
 have hvb2:=(uh HF2).2.1 X2.heap.size _ hvbW (fun e => by have:=((uh HN2).vz.v.blk _ e).2.1; omega)
 have q2:=(uh HF2).1
 have q2b : KpH 43 w.heap.size Z2 (Z2.setCell ⟨nb,3,none⟩ (.slice va2 vn2 vc2)):=KpH.set hbz2 (uh HN2).nbl 3 _
 have hvbX:=hvb2.kp q2b (Or.inl (by decide))
 have kX:=(kW.kp q2 (Or.inl (by decide))).kp q2b (Or.inl (by decide))
 have HM3:=hide ((uh HM2).room 9)
 have HVB:=hide ((Tr.setCell cb _ 2 (.int .i64 9)).blk hvbX (by omega))
 have HKX:=hide (kX.kp (KpH.ofTr (Tr.setCell cb _ 2 (.int .i64 9)) (uh HM2).cu.blk (Nat.le_refl _)) (Or.inl (by decide)))
 have a0:=hvb.cell (i:=0) (v:=.string s) rfl
 have a1:=hvb.cell (i:=1) (v:=.int .i64 (2 - (p2 : Int))) rfl
 have a2:=hvb.cell (i:=2) (v:=.slice ka kn kc) rfl
 have a3:=pV.sbx.cell (i:=0) (v:=.slice sa xs.length sc) rfl
 have b0:=hbz1.cell (i:=0) (v:=.slice sa xs.length sc) rfl
 have b1:=hbz1.free 0
 have b2:=hbz1.lt
 have c0:=hvbW.cell (i:=0) (v:=.string s) rfl
 have c2:=hvbW.cell (i:=1) (v:=.int .i64 (2 - (p2 : Int))) rfl
 have c3:=hvbW.cell (i:=2) (v:=.slice ka kn kc) rfl
 have c4:=(uh HM1).nbx.cell (i:=3) (v:=.slice va vs.length vc) rfl
 have d0:=hbz2.cell (i:=3) (v:=.slice va vs.length vc) rfl
 have d1:=hbz2.free 3
 have d2:=hbz2.lt
 have e0:=(uh HM2).cu.blk.cell (i:=2) (v:=.int .i64 c1.room) rfl
 have e1:=(uh HM2).cu.blk.free 2
 have e2:=(uh HM2).cu.blk.lt
 have HWZ:=hide hw2
 clear hV hvb pV kV hVz hbz1 hn1 hvb1 q1 q1b hvbW kW hbz2 hn2 hz1 hvb2 q2 q2b hvbX kX hw2 HF1 HF2 HM1 HM2 HN2 HK2
 go_wp2_with (at_builtin; go_must (first | (refine wpList_append_run rfl _ _ 40 40 rfl rfl _ _ _ rfl rfl (uh HR1) ?_; clear HR1) | refine wpList_append_run rfl _ _ 40 40 rfl rfl _ _ _ rfl rfl (uh HR2) ?_))
 clear a0 a1 a2 a3 b0 b1 b2 c0 c2 c3 c4 d0 d1 d2 e0 e1 e2 HR2
 have HVX : Hid (vsOK (xs ++ [⟨s,2 - (p2 : Int),k⟩])):=hv.app (vsOK.one (uh HXW))
 have HXL : Hid ((xs ++ [(⟨s,2 - (p2 : Int),k⟩ : DVar)]).length ≤ 100):=hide (by rw [List.length_append,List.length_singleton]; omega)
 obtain ⟨XW,hXW⟩ : ∃ XW,XW = (Z2.setCell ⟨nb,3,none⟩ (.slice va2 vn2 vc2)).setCell ⟨cb,2,none⟩ (.int .i64 9):=⟨_,rfl⟩
 rw [← hXW] at HM3 HVB HKX ⊢
 clear hXW
 have hdr : Below XW.heap.size XW XW.drew:=(Below.refl _ _).drew
 have hda : Below XW.drew.heap.size XW.drew (XW.drew.alloc (.cells #[.string s] 9)):=(Below.refl _ _).alloc (Nat.le_refl _) _
 have hsz : w.heap.size ≤ XW.drew.heap.size:=Nat.le_trans (uh HM3).tr.size hdr.size
 have pA:=(uh HM3).below hdr
 have pB:=pA.below hda
 have bA:=(uh HVB).below hdr (uh HVB).lt
 have bB:=bA.below hda bA.lt
 have kA:=(uh HKX).kp (KpH.below 1000000 XW.heap.size hdr) (Or.inr (uh HM3).hl)
 have kB:=kA.kp (KpH.below 1000000 XW.drew.heap.size hda) (Or.inr pA.hl)
 have HI1 : Hid (∀ Y,Y = XW.drew → Calls Tryz.prog 32 #[.pointer (some ⟨cb,0,none⟩),.agg #[.slice sa2 sn2 sc2,.int .i64 xs.length],.int .i64 (2 - (p2 : Int)),.slice ka kn kc,.bool false,.int .i64 0] Y _):=hide (fun Y hY => by subst hY; exact pA.eqA hpl bA (uh HWZ) (uh HXL) (uh HVX) kA hkk (by omega) (by omega) (2 - (p2 : Int)) ((uh HOK).setR (by omega) (by omega)))
 have HI2 : Hid (∀ Y,Y = XW.drew.alloc (.cells #[.string s] 9) → Calls Tryz.prog 32 #[.pointer (some ⟨cb,0,none⟩),.agg #[.slice sa2 sn2 sc2,.int .i64 xs.length],.int .i64 (2 - (p2 : Int)),.slice ka kn kc,.bool false,.int .i64 0] Y _):=hide (fun Y hY => by exact (hY ▸ pB).eqB hpl (hY ▸ bB) (uh HWZ) (uh HXL) (uh HVX) (hY ▸ kB) hkk (by omega) (by omega) (2 - (p2 : Int)) ((uh HOK).setR (by omega) (by omega)) hY hsz)
 have i0:=(uh HVB).cell (i:=0) (v:=.string s) rfl
 have i1:=(uh HVB).cell (i:=1) (v:=.int .i64 (2 - (p2 : Int))) rfl
 have s0:=(uh HM3).sbx.cell (i:=0) (v:=.slice sa2 sn2 sc2) rfl
 have s1:=(uh HM3).sbx.cell (i:=1) (v:=.int .i64 xs.length) rfl
 have n1:=World.new_ne XW ⟨sb,0,none⟩ s0
 have n2:=World.new_ne XW ⟨sb,1,none⟩ s1
 have n3:=World.new_ne XW ⟨X2.heap.size,0,none⟩ i0
 have n4:=World.new_ne XW ⟨X2.heap.size,1,none⟩ i1
 clear hdr hda hsz pA pB bA bB kA kB HM3 HVB HKX
 go_region_held3 (fun w' => w'.cell? ⟨sb,0,none⟩ = some (.slice sa2 sn2 sc2) ∧ w'.cell? ⟨sb,1,none⟩ = some (.int .i64 xs.length) ∧ w'.cell? ⟨X2.heap.size,0,none⟩ = some (.string s) ∧ w'.cell? ⟨X2.heap.size,1,none⟩ = some (.int .i64 (2 - (p2 : Int)))) (first | exact uh HFV | go_keep) (first | (go_at_call 32; with_reducible refine (uh HI1 _ rfl).mono ?_; rintro e w9 ⟨a9,n9,p9,va9,vn9,vc9,w5,rfl,o0,o1,o2,o3,l1,l2,HFV,HRUN,HWK,HNN⟩; have m1:=World.new_ne w9 ⟨sb,0,none⟩ o0; have m2:=World.new_ne w9 ⟨sb,1,none⟩ o1; have m3:=World.new_ne w9 ⟨X2.heap.size,0,none⟩ o2; have m4:=World.new_ne w9 ⟨X2.heap.size,1,none⟩ o3) | (go_at_call 32; refine (uh HI2 _ rfl).mono ?_; rintro e w9 ⟨a9,n9,p9,va9,vn9,vc9,w5,rfl,o0,o1,o2,o3,l1,l2,HFV,HRUN,HWK,HNN⟩) | (refine step_append_run rfl _ _ 41 41 rfl rfl _ _ _ rfl rfl (uh HRUN) ?_))
 all_goals
  have HFN:=hide (uh HKK)
  clear HRUN HI1 HI2 HFV HKK
  go_wp2
  refine uh HFN _ _ (.slice sa2 sn2 sc2) (.slice va2 vn2 vc2) _ w5.heap.size rfl rfl rfl rfl rfl rfl rfl rfl rfl ?_
  rw [uh HE]
  exact uh HWK
end Go.Proofs.YtajabbnlbopcbaaGreatDoor
