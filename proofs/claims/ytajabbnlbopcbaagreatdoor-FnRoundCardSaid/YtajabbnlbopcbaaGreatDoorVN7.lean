import Derived.Test.YtajabbnlbopcbaaGreatDoorVN3
namespace Go.Proofs.YtajabbnlbopcbaaGreatDoor
open Go.RowKit
set_option linter.unusedSimpArgs false
set_option linter.unusedVariables false
set_option maxRecDepth 1000000 in
theorem inc6 {u : Nat → Value} {j : Nat} (hj : j < 1000) {Z : World} (h132 : u 132 = .int .i64 j) {K K1 K2 K3 K4 K6 : Act → World → Prop} {PO : Ending → World → Prop} (HK : ∀ x : Array Value,x.size = 266 → x.getD 0 undef = u 0 → x.getD 1 undef = u 1 → x.getD 4 undef = u 4 → x.getD 5 undef = u 5 → x.getD 8 undef = u 8 → x.getD 9 undef = u 9 → x.getD 10 undef = u 10 → x.getD 11 undef = u 11 → x.getD 12 undef = u 12 → x.getD 14 undef = u 14 → x.getD 130 undef = u 130 → x.getD 131 undef = u 131 → x.getD 132 undef = .int .i64 ((j : Int) + 1) → K4 ⟨x,[]⟩ Z) : Code.wp Tryz.prog (rtC 3 (inC (inC (rtC 1 (lfC (rtC 3 (thC (rtC 1 (lfC (rtC 2 (inC (lfC (rtC 1 (inC (inC (rtC 1 (lfC (rtC 8 (Tryz.f21.body.getD .skip))))))))))))))))))) (Exit.then K4 (Exit.inBlock 6 (Exit.then K6 (Exit.then K3 (Exit.inBlock 3 (Exit.then K2 (Exit.then K (Exit.inBlock 2 (Exit.then K1 (bodyPost Tryz.prog Tryz.f21 PO)))))))))) (FrN u) Z:=by
 have hw1 : IntKind.i64.wrap ((j : Int) + 1) = (j : Int) + 1:=by rw [IntKind.wrap_i64]; omega
 have HKK:=hide HK
 clear HK
 unfold FrN
 rw [h132]
 conv => arg 2; whnf
 go_wp2
 exact uh HKK _ rfl rfl rfl rfl rfl rfl rfl rfl rfl rfl rfl rfl rfl rfl
set_option maxRecDepth 1000000 in
set_option maxHeartbeats 8000000 in
theorem arg_round {code : List Int} {W0 : World} {cb : Nat} {cv : Value} {w : World} {rb nb sb : Nat} {X : World} {c : Cur} {nm : ByteArray} {sv vi vo vv qv ev : Value} {rank : Nat} {xs is os vs : List DVar} {qs es : List DEq} {hi : Nat} {k : List DCond} {ka : Option Addr} {kn kc : Nat} (hk : Kz w.heap.size hi X (.slice ka kn kc) k) (hkk : kOK k) (hk3 : k.length ≤ 3) (p : Nz code W0 cb cv w rb nb sb X c nm sv vi vo vv qv ev rank xs is os vs qs es hi) (hwh : w.heap.size ≤ hi) (hl : xs.length ≤ 100) (hv : vsOK xs)
  {eb B : Nat} {lv av : Value} {fn : ByteArray} {ls : List ByteArray} {ags : List (List DItem)} (q : Ez hi X eb lv av fn ls) (m : MkR rItems TItems B X av ags) (heB : eb < B) (hBX : B ≤ X.heap.size) (hal : ags.length ≤ 90)
  {ins : List DVar} {oa : Option Addr} {on oc : Nat} (ho : SlAt 3 48 RVar (cb + 1) X (.slice oa on oc) ins) {j : Nat} (hj : j < ins.length) (hoc : ins.length ≤ 100) (hok : okB 483 c)
  {u : Nat → Value} (h0 : u 0 = .pointer (some ⟨cb,0,none⟩)) (h8 : u 8 = .pointer (some ⟨sb,0,none⟩)) (h12 : u 12 = .slice ka kn kc) (h14 : u 14 = .pointer (some ⟨eb,0,none⟩)) (h130 : u 130 = .slice oa on oc) (h131 : u 131 = .int .i64 on) (h132 : u 132 = .int .i64 j) {K K1 K2 K3 K4 K6 : Act → World → Prop} {PO : Ending → World → Prop}
  (HK : ∀ x Z av',x.size = 266 → x.getD 0 undef = .pointer (some ⟨cb,0,none⟩) → x.getD 1 undef = u 1 → x.getD 4 undef = u 4 → x.getD 5 undef = u 5 → x.getD 8 undef = .pointer (some ⟨sb,0,none⟩) → x.getD 9 undef = u 9 → x.getD 10 undef = u 10 → x.getD 11 undef = u 11 → x.getD 12 undef = .slice ka kn kc → x.getD 14 undef = .pointer (some ⟨eb,0,none⟩) → x.getD 130 undef = .slice oa on oc → x.getD 131 undef = .int .i64 on → x.getD 132 undef = .int .i64 ((j : Int) + 1) → Nz code W0 cb cv w rb nb sb Z (exF code xs rank 4 (setR 4 c) (ins.getD j dV).type k false).2 nm sv vi vo vv qv ev rank xs is os vs qs es hi → Ez hi Z eb lv av' fn ls → MkR rItems TItems B Z av' (ags ++ [(exF code xs rank 4 (setR 4 c) (ins.getD j dV).type k false).1]) → Kz w.heap.size hi Z (.slice ka kn kc) k → B ≤ Z.heap.size → K4 ⟨x,[]⟩ Z) :
  Code.wp Tryz.prog (inC (inC (rtC 1 (lfC (rtC 3 (thC (rtC 1 (lfC (rtC 2 (inC (lfC (rtC 1 (inC (inC (rtC 1 (lfC (rtC 8 (Tryz.f21.body.getD .skip)))))))))))))))))) (Exit.then K4 (Exit.inBlock 6 (Exit.then K6 (Exit.then K3 (Exit.inBlock 3 (Exit.then K2 (Exit.then K (Exit.inBlock 2 (Exit.then K1 (bodyPost Tryz.prog Tryz.f21 PO)))))))))) (FrN u) X:=by
 obtain ⟨sa,sc,rfl⟩:=p.vz.s.slice
 obtain ⟨la,lc,rfl⟩:=q.rl.slice
 obtain ⟨aa,ac,rfl⟩:=m.slice
 obtain ⟨a9,c9,he9,hcp,hq9,hx⟩:=ho
 simp only [Value.slice.injEq] at he9
 obtain ⟨rfl,hon,rfl⟩:=he9
 obtain ⟨b,o,cs,rfl,hlb,hb,hcs,hc,hR⟩:=hx j hj
 obtain ⟨cl,rfl,hn1,hn2,hcl⟩:=hR
 have r0:=hc 0 (by simp)
 have r1:=hc 1 (by simp)
 have r2:=hc 2 (by simp)
 simp only [Nat.add_zero,List.getElem_cons_zero,List.getElem_cons_succ] at r0 r1 r2
 obtain ⟨fa,fc,rfl⟩:=hcl.shape
 have eD : ins.getD j dV = ins[j]:=by rw [List.getD_eq_getElem?_getD,List.getElem?_eq_getElem hj]; rfl
 rw [eD] at HK
 generalize ins[j] = ov at *
 obtain ⟨onm,oty,ock⟩:=ov
 simp only at r0 r1 r2
 have hjI : (j : Int) < (on : Int):=by omega
 have hjn : j < on:=by omega
 have hw1 : IntKind.i64.wrap ((j : Int) + 1) = (j : Int) + 1:=by rw [IntKind.wrap_i64]; omega
 have hcbw:=p.lc
 have hwX:=p.tr.size
 obtain ⟨X1,hX1⟩ : ∃ X1,X1 = X.alloc (.cells #[.string onm,.int .i64 oty,.slice fa ock.length fc] 67):=⟨_,rfl⟩
 have hA : Below X.heap.size X X1:=hX1 ▸ (Below.refl _ _).alloc (Nat.le_refl _) _
 have hob : BlkAt X1 X.heap.size 67 #[.string onm,.int .i64 oty,.slice fa ock.length fc]:=hX1 ▸ blk_box X _ _
 have p1:=p.below hA
 obtain ⟨X2,hX2⟩ : ∃ X2,X2 = X1.setCell ⟨cb,2,none⟩ (.int .i64 4):=⟨_,rfl⟩
 have hT : Tr cb X1 X2:=hX2 ▸ Tr.setCell _ _ _ _
 have qt : KpH 36 cb X1 X2:=KpH.ofTr hT p1.cu.blk (Nat.le_refl _)
 have p2 : Nz code W0 cb cv w rb nb sb X2 (setR 4 c) nm (.slice sa xs.length sc) vi vo vv qv ev rank xs is os vs qs es hi:=hX2 ▸ p1.room 4
 have hob2:=hT.blk hob (by omega)
 have q2:=(q.below hA).kp qt (by decide) (by decide)
 have m2:=(m.keep TItems_fr hA.size (fun b _ h2 => hA.block b h2)).tr TItems_fr hT (by have:=q.hb; omega)
 have k2:=(hk.kp (KpH.below 1000000 X.heap.size hA) (Or.inr p.hl)).kp qt (Or.inl (by decide))
 have hB2 : B ≤ X2.heap.size:=Nat.le_trans hBX (Nat.le_trans hA.size hT.size)
 have HOK : Hid (okB 483 (setR 4 c)):=hok.setR (by omega) (by omega)
 have HIT : Hid (∀ W,Below X2.heap.size X2 W → Calls Tryz.prog 32 #[.pointer (some ⟨cb,0,none⟩),.agg #[.slice sa xs.length sc,.int .i64 rank],.int .i64 oty,.slice ka kn kc,.bool false,.int .i64 2] W _):=hide (fun W hW => (p2.below hW).arg (q2.below hW) (m2.keep TItems_fr hW.size (fun b _ h2 => hW.block b h2)) heB (Nat.le_trans hB2 hW.size) hwh hal (k2.kp (KpH.below 1000000 X2.heap.size hW) (Or.inr p2.hl)) hkk hk3 hl hv oty (uh HOK))
 have y0:=p1.cu.blk.cell (i:=2) (v:=.int .i64 c.room) rfl
 have y1:=p1.cu.blk.free 2
 have y2:=p1.cu.blk.lt
 have s0:=p2.sbx.cell (i:=0) (v:=.slice sa xs.length sc) rfl
 have s1:=p2.sbx.cell (i:=1) (v:=.int .i64 rank) rfl
 have s2:=hob2.cell (i:=1) (v:=.int .i64 oty) rfl
 have s3:=q2.box.cell (i:=3) (v:=.slice aa ags.length ac) rfl
 have HX:=hide (And.intro hX1 hX2)
 have HKK:=hide HK
 have HBX:=hide hBX
 have HDW : Hid (∀ W,Below X2.heap.size X2 W → X2.heap.size ≤ W.heap.size):=hide (fun W h => h.size)
 have HB2:=hide hB2
 rw [hX1] at y0 y1 y2
 clear HK p q m hk hA hob p1 hT qt p2 hob2 q2 m2 k2 hB2 hc hcs hcl hx hcp hq9 hX1 hX2 hon eD hn1 hn2 hok hBX hal heB hwX
 unfold FrN
 rw [h0,h8,h12,h14,h130,h131,h132]
 clear h0 h8 h12 h14 h130 h131 h132
 conv => arg 2; whnf
 go_wp2_with fail
 rw [← (uh HX).1,← (uh HX).2]
 clear r0 r1 r2 y0 y1 y2
 go_region_law (first | (go_simp; go_at_call 32; refine (uh HIT _ ((Below.refl _ _).drew)).mono ?_; rintro e w9 ⟨a,n,cap,a',n',c',Z,rfl,z1,z2,z3,HRUN,z4,z5,z6,HN,HQ,HM,HKZ⟩) | (refine step_append_run rfl _ _ 56 56 rfl rfl _ _ _ rfl rfl (uh HRUN) ?_))
 all_goals
  rename_i K7 HK7
  refine HK7 _ _ ?_
  clear HK7
  rw [frN_mk _ rfl]
  refine inc6 (j:=j) (by omega) rfl ?_
  intro y hy j0 j1 j4 j5 j8 j9 j10 j11 j12 j14 j130 j131 j132
  exact uh HKK y _ _ hy j0 j1 j4 j5 j8 j9 j10 j11 j12 j14 j130 j131 j132 (uh HN) (uh HQ) (uh HM) (uh HKZ).1 (uh HKZ).2
end Go.Proofs.YtajabbnlbopcbaaGreatDoor
