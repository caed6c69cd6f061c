import Derived.Test.YtajabbnlbopcbaaGreatDoorVNI
namespace Go.Proofs.YtajabbnlbopcbaaGreatDoor
open Go.RowKit
set_option linter.unusedSimpArgs false
set_option linter.unusedVariables false
set_option maxRecDepth 1000000 in
theorem ins_loop {code : List Int} {W0 : World} {cb : Nat} {cv : Value} {w : World} {rb nb : Nat} {X : World} {c : Cur} {nm : ByteArray} {vi : Value} {is : List DVar} (p : Iz code W0 cb cv w rb nb X c nm (.slice none 0 0) []) {n : Nat} (hn : n ≤ 3) (hok : okB 10 c)
  {u : Nat → Value} (h0 : u 0 = .pointer (some ⟨cb,0,none⟩)) (h5 : u 5 = .pointer (some ⟨nb,0,none⟩)) (h6 : u 6 = .int .i64 n) (h7 : u 7 = .int .i64 0) {K1 : Act → World → Prop} {PO : Ending → World → Prop}
  (HK : ∀ x Z vi9,x.size = 266 → x.getD 0 undef = .pointer (some ⟨cb,0,none⟩) ∧ x.getD 1 undef = u 1 ∧ x.getD 4 undef = u 4 ∧ x.getD 5 undef = .pointer (some ⟨nb,0,none⟩) → Iz code W0 cb cv w rb nb Z (insTo code n c).2 nm vi9 (insTo code n c).1 → K1 ⟨x,[]⟩ Z) :
  Code.wp Tryz.prog (.loop (inC (inC (rtC 1 (lfC (rtC 4 (Tryz.f21.body.getD .skip))))))) (Exit.inBlock 0 (Exit.then K1 (bodyPost Tryz.prog Tryz.f21 PO))) (FrN u) X:=by
 refine wp_loop (fun a' wr => ∃ (x : Array Value) (g : Nat) (vi9 : Value),a' = ⟨x,[]⟩ ∧ x.size = 266 ∧ (x.getD 0 undef = .pointer (some ⟨cb,0,none⟩) ∧ x.getD 1 undef = u 1 ∧ x.getD 4 undef = u 4 ∧ x.getD 5 undef = .pointer (some ⟨nb,0,none⟩) ∧ x.getD 6 undef = .int .i64 n ∧ x.getD 7 undef = .int .i64 g) ∧ g ≤ n ∧ Iz code W0 cb cv w rb nb wr (insTo code g c).2 nm vi9 (insTo code g c).1) (fun a' _ => n - slotN 7 a') ?_ ?_
 ·exact ⟨_,0,.slice none 0 0,rfl,rfl,⟨h0,rfl,rfl,h5,h6,h7⟩,Nat.zero_le _,p⟩
 ·rintro a' wr ⟨x,g,vi9,rfl,hsz,⟨k0,k1,k4,k5,k6,k7⟩,hg,hI⟩
  rw [slotN_int k7,frN_mk x hsz]
  obtain ⟨_,i2,i3⟩:=insTo_ok code g c (by omega)
  by_cases hlt : g < n
  ·refine ins_round hI (by omega) (i3 1 (hok.less (by omega))) hlt (by omega) k0 k5 k6 k7 ?_
   intro y Z vi' hy j0 j1 j4 j5 j6 j7 hi2
   refine ⟨⟨y,g + 1,vi',rfl,hy,⟨j0,j1.trans k1,j4.trans k4,j5,j6,j7⟩,hlt,hi2⟩,?_⟩
   rw [slotN_int j7]
   omega
  ·have e : g = n:=by omega
   subst e
   refine ins_exit k6 k7 ?_
   intro y hy j0 j1 j4 j5
   exact HK y wr vi9 hy ⟨j0.trans k0,j1.trans k1,j4.trans k4,j5.trans k5⟩ hI
set_option maxRecDepth 1000000 in
set_option maxHeartbeats 8000000 in
theorem node_drawn {code : List Int} {W0 : World} {cb : Nat} {cv : Value} {w : World} {c : Cur} (h : CuAt code W0 cb cv w c) {before : List DNode} {bv : Value} (hbf : SlAt 5 112 RNode (cb + 1) w bv before) (hbn : before.length ≤ 3) (hbo : ∀ n,n ∈ before → okDN n) (hok : okB 40000 c) :
  Calls Tryz.prog 21 #[.pointer (some ⟨cb,0,none⟩),bv] w (NdAns code W0 cb cv w (nodF code before c)):=by
 obtain ⟨ba,bc,rfl⟩:=hbf.shape
 have hlc:=h.blk.lt
 have hA : Below w.heap.size w (w.alloc (.cells #[.string ⟨#[]⟩,.slice none 0 0,.slice none 0 0,.slice none 0 0,.slice none 0 0] 43)):=(Below.refl _ _).alloc (Nat.le_refl _) _
 have HRB:=hide (blk_box w #[.string ⟨#[]⟩,.slice none 0 0,.slice none 0 0,.slice none 0 0,.slice none 0 0] 43)
 have HDC:=hide (l1Dec_ok (before.length : Int) (by omega) (w.alloc (.cells #[.string ⟨#[]⟩,.slice none 0 0,.slice none 0 0,.slice none 0 0,.slice none 0 0] 43)))
 have HA:=hide hA
 have HH:=hide h
 have hsn : nmV 102 before.length = (⟨#[102]⟩ : ByteArray) ++ dcT (before.length : Int):=by unfold nmV; rw [dcT_nat]
 have hpl:=nm_plain (p:=102) (n:=before.length) (by omega) (by decide)
 obtain ⟨m1,m2⟩:=Sum1 before.length (by omega)
 obtain ⟨PO,hPO⟩ : ∃ PO : Ending → World → Prop,PO = NdAns code W0 cb cv w (nodF code before c):=⟨_,rfl⟩
 rw [← hPO]
 have hp3:=pkF_lt code (m:=3) c (by omega)
 have HO3 : Hid (okB 39999 (pkF code 3 c).2):=pkF_ok (hok.less (by omega))
 have HO9 : Hid (okB 39998 (pkF code 9 (pkF code 3 c).2).2):=pkF_ok ((uh HO3).less (by omega))
 have HND : Hid (nodF code before c = (⟨nmV 102 before.length,(insTo code (if (pkF code 9 (pkF code 3 c).2).1 = 8 then 0 else 1 + (pkF code 3 c).1) (pkF code 9 (pkF code 3 c).2).2).1,(nodT code (nodS code before (insTo code (if (pkF code 9 (pkF code 3 c).2).1 = 8 then 0 else 1 + (pkF code 3 c).1) (pkF code 9 (pkF code 3 c).2).2))).vs,(nodS code before (insTo code (if (pkF code 9 (pkF code 3 c).2).1 = 8 then 0 else 1 + (pkF code 3 c).1) (pkF code 9 (pkF code 3 c).2).2)).vs,(nodQ code (nodT code (nodS code before (insTo code (if (pkF code 9 (pkF code 3 c).2).1 = 8 then 0 else 1 + (pkF code 3 c).1) (pkF code 9 (pkF code 3 c).2).2)))).1⟩,(nodQ code (nodT code (nodS code before (insTo code (if (pkF code 9 (pkF code 3 c).2).1 = 8 then 0 else 1 + (pkF code 3 c).1) (pkF code 9 (pkF code 3 c).2).2)))).2)):=hide rfl
 rw [hsn] at hpl HND
 rw [uh HND] at hPO
 have HP3:=hide (fun Y (hY : CuAt code W0 cb cv Y c) => pick_ok hY 3 (by omega) (hok.less (by omega)))
 have HP9:=hide (fun Y (hY : CuAt code W0 cb cv Y (pkF code 3 c).2) => pick_ok hY 9 (by omega) ((uh HO3).less (by omega)))
 generalize pkF code 9 (pkF code 3 c).2 = Q9 at *
 generalize pkF code 3 c = Q3 at *
 obtain ⟨p3,c3⟩:=Q3
 obtain ⟨p9,c9⟩:=Q9
 have HPO:=hide hPO
 replace HP3 : Hid (∀ Y,CuAt code W0 cb cv Y c → Calls Tryz.prog 9 #[.pointer (some ⟨cb,0,none⟩),.int .i64 3] Y (CuAns code W0 cb cv Y (.int .i64 p3) c3)):=HP3
 replace HP9 : Hid (∀ Y,CuAt code W0 cb cv Y c3 → Calls Tryz.prog 9 #[.pointer (some ⟨cb,0,none⟩),.int .i64 9] Y (CuAns code W0 cb cv Y (.int .i64 p9) c9)):=HP9
 replace hp3 : p3 < 3:=hp3
 have HO5 : Hid (okB 39998 c9):=HO9
 have HO4 : Hid (okB 10 c9):=HO5.less (by omega)
 have hw1 : IntKind.i64.wrap (1 + (p3 : Int)) = 1 + (p3 : Int):=by rw [IntKind.wrap_i64]; omega
 clear h hA hsn hok hPO HND HO3 HO9
 go_enter Tryz.func21,Tryz.ntmps21
 go_wp2_with fail
 refine (uh HDC).mono ?_
 rintro e A1 ⟨rfl,hb1⟩
 obtain ⟨A2,hA2⟩ : ∃ A2,A2 = A1.alloc (.cells #[.string ((⟨#[102]⟩ : ByteArray) ++ dcT (before.length : Int)),.slice none 0 0,.slice none 0 0,.slice none 0 0,.slice none 0 0] 43):=⟨_,rfl⟩
 have hb2 : Below A1.heap.size A1 A2:=hA2 ▸ (Below.refl _ _).alloc (Nat.le_refl _) _
 have hnb : BlkAt A2 A1.heap.size 43 #[.string ((⟨#[102]⟩ : ByteArray) ++ dcT (before.length : Int)),.slice none 0 0,.slice none 0 0,.slice none 0 0,.slice none 0 0]:=hA2 ▸ blk_box A1 _ _
 have hrl:=(uh HRB).lt
 have hrb1:=(uh HRB).below hb1 hrl
 have hbw : Below w.heap.size w A2:=((uh HA).trans (hb1.mono (uh HA).size)).trans (hb2.mono (Nat.le_trans (uh HA).size hb1.size))
 have hsz1:=Nat.le_trans (uh HA).size hb1.size
 have hl1:=hrb1.lt
 have p2 : Iz code W0 cb cv w w.heap.size A1.heap.size A2 c ((⟨#[102]⟩ : ByteArray) ++ dcT (before.length : Int)) (.slice none 0 0) []:=⟨(uh HH).below hbw,Tr.of_below hbw,hlc,Nat.le_refl _,hsz1,by omega,hrb1.below hb2 hl1,hnb,Rk.nil _ _ _ _ _⟩
 have HPA:=hide (uh HP3 A2 p2.cu)
 have HP2:=hide p2
 have HA2:=hide hA2
 clear hb1 hb2 hnb hrl hrb1 hbw hsz1 hl1 p2 HRB HDC HA HH HP3 hA2
 go_wp2_with fail
 rw [← uh HA2]
 refine (uh HPA).mono ?_
 rintro e A3 ⟨rfl,hc3,ht3⟩
 have p3':=(uh HP2).go hc3 ht3
 have HPB:=hide (uh HP9 A3 p3'.cu)
 have HP3':=hide p3'
 clear hc3 ht3 p3' HPA HP2 HP9 HA2
 go_wp2_with fail
 refine (uh HPB).mono ?_
 rintro e A4 ⟨rfl,hc4,ht4⟩
 have p4:=(uh HP3').go hc4 ht4
 clear hc4 ht4 HPB HP3' m1 m2
 by_cases h8 : p9 = 8
 ·have d8 : ((p9 : Int) == 8) = true:=by rw [beq_iff_eq]; omega
  have HNX : (if p9 = 8 then 0 else 1 + p3) = 0:=if_pos h8
  have HN8:=hide HNX
  clear HNX h8
  go_wp2_with fail
  have HNX:=uh HN8
  rename_i K1 H1
  have H11:=hide H1
  clear H1
  rw [frN_mk _ rfl]
  refine ins_loop (vi:=.slice none 0 0) (is:=[]) (n:=0) p4 (by omega) (uh HO4) rfl rfl rfl rfl ?_
  intro x W vi9 hsz ⟨k0,k1,k4,k5⟩ hI
  refine uh H11 _ _ ?_
  obtain ⟨i1,i2,i3⟩:=insTo_ok code 0 c9 (by omega)
  show Code.wp Tryz.prog (rtC 5 (Tryz.f21.body.getD .skip)) _ _ _
  rw [frN_mk x hsz,uh HPO,HNX]
  exact seg5 hI i1 (by omega) (plain_len hpl) hbf hbn hbo (i3 _ ((uh HO5).less (by omega))) k0 k1 k4 k5
 ·have d8 : ((p9 : Int) == 8) = false:=by rw [beq_eq_false_iff_ne]; omega
  have HNX : (if p9 = 8 then 0 else 1 + p3) = 1 + p3:=if_neg h8
  have HN8:=hide HNX
  clear HNX h8
  go_wp2_with fail
  have HNX:=uh HN8
  rename_i K1 H1
  have H11:=hide H1
  clear H1
  rw [frN_mk _ rfl]
  refine ins_loop (vi:=.slice none 0 0) (is:=[]) (n:=(1 + p3)) p4 (by omega) (uh HO4) rfl rfl (congrArg (Value.int .i64) (show (1 + (p3 : Int)) = ((1 + p3 : Nat) : Int) by omega)) rfl ?_
  intro x W vi9 hsz ⟨k0,k1,k4,k5⟩ hI
  refine uh H11 _ _ ?_
  obtain ⟨i1,i2,i3⟩:=insTo_ok code (1 + p3) c9 (by omega)
  show Code.wp Tryz.prog (rtC 5 (Tryz.f21.body.getD .skip)) _ _ _
  rw [frN_mk x hsz,uh HPO,HNX]
  exact seg5 hI i1 (by omega) (plain_len hpl) hbf hbn hbo (i3 _ ((uh HO5).less (by omega))) k0 k1 k4 k5
end Go.Proofs.YtajabbnlbopcbaaGreatDoor
namespace Go.Proofs.YtajabbnlbopcbaaGreatDoor
open Go.RowKit
set_option linter.unusedSimpArgs false
set_option linter.unusedVariables false
def Np (lo : Nat) (X : World) (v : Value) (ns : List DNode) : Prop:=∃ (css : List (Raw 5)) (subs : List (List Nat)),OwnV rNode X lo v css ∧ All3 (fun c x s => TNode X c.1 x s) css ns subs ∧ ∀ b,b ∈ subs.flatten → lo ≤ b ∧ ∃ cur U,U ∈ tyN ∧ X.heap[b]? = some (Obj.cells cur U (0,0))
section
variable {T h lo : Nat} {X Y A : World} {v : Value} {ns : List DNode}
theorem ty_kp {b : Nat} (hs : lo ≤ b ∧ ∃ cur U,U ∈ tyN ∧ X.heap[b]? = some (Obj.cells cur U (0,0))) (p : KpH T h X Y) (ht : T ∉ tyN) : Y.heap[b]? = X.heap[b]? ∧ (lo ≤ b ∧ ∃ cur U,U ∈ tyN ∧ Y.heap[b]? = some (Obj.cells cur U (0,0))):=by
 obtain ⟨h1,cur,U,h3,h4⟩:=hs
 have e:=p.oth b cur U h4 (fun e => ht (e ▸ h3))
 exact ⟨e,h1,cur,U,h3,e.trans h4⟩
theorem Np.nil (lo : Nat) (X : World) : Np lo X (.slice none 0 0) []:=⟨[],[],OwnV.nil _ _,.nil,fun b hb => absurd hb (List.not_mem_nil)⟩
theorem Np.slice (hr : Np lo X v ns) : ∃ a cap,v = .slice a ns.length cap:=by
 obtain ⟨css,subs,h1,h2,h3⟩:=hr
 rw [← h2.len.1]
 exact h1.slice
theorem Np.kp (hr : Np lo X v ns) (p : KpH T h X Y) (ht : T ∉ tyN) (hn : rNode.T ≠ T) : Np lo Y v ns:=by
 obtain ⟨css,subs,h1,h2,h3⟩:=hr
 exact ⟨css,subs,h1.kp p (Or.inl hn),h2.mono (fun c x s _ _ hs h9 => TNode_fr _ _ _ _ _ h9 (fun b hb => (ty_kp (h3 b (List.mem_flatten.2 ⟨s,hs,hb⟩)) p ht).1)),fun b hb => (ty_kp (h3 b hb) p ht).2⟩
theorem Np.below (hr : Np lo X v ns) (hb : Below X.heap.size X Y) : Np lo Y v ns:=hr.kp (KpH.below 1000000 0 hb) (by decide) (by decide)
theorem Np.push (hr : Np lo A v ns) (hB : lo ≤ A.heap.size) {c : Raw 5} {x : DNode} {s : List Nat} (hc : TNode A c.1 x s) (hs : ∀ b,b ∈ s → lo ≤ b ∧ ∃ cur U,U ∈ tyN ∧ A.heap[b]? = some (Obj.cells cur U (0,0))) {eb : Nat} (hbx : BlkAt A eb 43 c.1.toArray) (hl : ns.length ≤ 100) :
  ∃ v' Z,(Builtin.append_ #[23,23] 23 #[v,.slice (some ⟨eb,0,none⟩) 1 1]).run Tryz.prog A = .ok v' Z ∧ Np lo Z v' (ns ++ [x]) ∧ KpH 43 lo A Z:=by
 obtain ⟨css,subs,h1,h2,h3⟩:=hr
 obtain ⟨v',Z,hrun,ho,hg,_⟩:=run_append_one rNode A 23 lo v css h1 eb c (fun j u hu => hbx.cell (by rw [List.getElem?_toArray]; exact hu)) (show (css.length + 1) * 112 ≤ _ by rw [h2.len.1]; omega) hB
 have p : KpH 43 lo A Z:=KpH.own (E:=rNode) h1 hg
 have hN : 43 ∉ tyN:=by decide
 refine ⟨v',Z,hrun,⟨css ++ [c],subs ++ [s],ho,(h2.mono (fun c x s _ _ hs h9 => TNode_fr _ _ _ _ _ h9 (fun b hb => (ty_kp (h3 b (List.mem_flatten.2 ⟨s,hs,hb⟩)) p hN).1))).app (.cons (TNode_fr _ _ _ _ _ hc (fun b hb => (ty_kp (hs b hb) p hN).1)) .nil),fun b hb => ?_⟩,p⟩
 rw [List.flatten_append,List.mem_append] at hb
 rcases hb with hb | hb
 ·exact (ty_kp (h3 b hb) p hN).2
 ·simp only [List.flatten_cons,List.flatten_nil,List.append_nil] at hb
  exact (ty_kp (hs b hb) p hN).2
theorem Np.sl (hr : Np lo X v ns) (hl : ns.length ≤ 1000) {l : Nat} (hlo : l ≤ lo) : SlAt 5 112 RNode l X v ns:=by
 obtain ⟨css,subs,h1,h2,h3⟩:=hr
 have h9 : RowT rNode TNode X v ns (blkOf v ++ subs.flatten):=⟨css,subs,h1.low (Nat.zero_le _),show css.length * 112 ≤ _ by rw [h2.len.1]; omega,h2,rfl⟩
 refine h9.slLo rfl (fun _ => rfl) (fun cs x bs h g => TNode_lo h g) (fun b hb => ?_)
 rcases List.mem_append.1 hb with hb | hb
 ·have:=h1.block b (mem_blkOf.1 hb); omega
 ·have:=(h3 b hb).1; omega
end
structure Pg (code : List Int) (W0 : World) (cb : Nat) (cv : Value) (w : World) (rb pb : Nat) (X : World) (c : Cur) (pv : Value) (ns : List DNode) : Prop where
 cu : CuAt code W0 cb cv X c
 tr : Tr cb w X
 lc : cb < w.heap.size
 rbl : w.heap.size ≤ rb
 pbl : w.heap.size ≤ pb
 rn : rb ≠ pb
 rbx : BlkAt X rb 25 #[.slice none 0 0]
 pbx : BlkAt X pb 25 #[pv]
 np : Np w.heap.size X pv ns
section
variable {code : List Int} {W0 : World} {cb : Nat} {cv : Value} {w : World} {rb pb : Nat} {X Y : World} {c c' : Cur} {pv : Value} {ns : List DNode}
theorem Pg.below (p : Pg code W0 cb cv w rb pb X c pv ns) (hb : Below X.heap.size X Y) : Pg code W0 cb cv w rb pb Y c pv ns :=
 ⟨p.cu.below hb,p.tr.trans (Tr.of_below hb),p.lc,p.rbl,p.pbl,p.rn,p.rbx.below hb p.rbx.lt,p.pbx.below hb p.pbx.lt,p.np.below hb⟩
theorem Pg.go (p : Pg code W0 cb cv w rb pb X c pv ns) (hc : CuAt code W0 cb cv Y c') (ht : Tr cb X Y) : Pg code W0 cb cv w rb pb Y c' pv ns :=
 have q : KpH 36 cb X Y:=KpH.ofTr ht p.cu.blk (Nat.le_refl _)
 ⟨hc,p.tr.trans ht,p.lc,p.rbl,p.pbl,p.rn,p.rbx.kp q (Or.inl (by decide)),p.pbx.kp q (Or.inl (by decide)),p.np.kp q (by decide) (by decide)⟩
theorem Pg.node {a : Option Addr} {cap : Nat} (p : Pg code W0 cb cv w rb pb X c (.slice a ns.length cap) ns) (hbn : ns.length ≤ 3) (hbo : ∀ n,n ∈ ns → okDN n) (hok : okB 40000 c) (W : World) (hW : Below X.heap.size X W) :
  Calls Tryz.prog 21 #[.pointer (some ⟨cb,0,none⟩),.slice a ns.length cap] W (fun e Y => ∃ nm a1 n1 c1 a2 n2 c2 a3 n3 c3 a4 n4 c4 a' n' c' Z,e = .returned (.agg #[.string nm,.slice a1 n1 c1,.slice a2 n2 c2,.slice a3 n3 c3,.slice a4 n4 c4]) ∧ Y.cell? ⟨pb,0,none⟩ = some (.slice a ns.length cap) ∧ (Y.alloc (.cells #[.string nm,.slice a1 n1 c1,.slice a2 n2 c2,.slice a3 n3 c3,.slice a4 n4 c4] 43)).cell? ⟨pb,0,none⟩ = some (.slice a ns.length cap) ∧ pb < Y.heap.size ∧ Hid ((Builtin.append_ #[23,23] 23 #[.slice a ns.length cap,.slice (some ⟨Y.heap.size,0,none⟩) 1 1]).run Tryz.prog (Y.alloc (.cells #[.string nm,.slice a1 n1 c1,.slice a2 n2 c2,.slice a3 n3 c3,.slice a4 n4 c4] 43)) = .ok (.slice a' n' c') Z) ∧ Z.cell? ⟨pb,0,none⟩ = some (.slice a ns.length cap) ∧ Z.frozen? ⟨pb,0,none⟩ = false ∧ pb < Z.heap.size ∧ Hid (Pg code W0 cb cv w rb pb (Z.setCell ⟨pb,0,none⟩ (.slice a' n' c')) (nodF code ns c).2 (.slice a' n' c') (ns ++ [(nodF code ns c).1]))):=by
 have pW:=p.below hW
 refine (node_drawn pW.cu (pW.np.sl (by omega) pW.lc) hbn hbo hok).mono ?_
 rintro e Y ⟨a1,n1,c1,a2,n2,c2,a3,n3,c3,a4,n4,c4,bs,rfl,ht,hb,hc,htr⟩
 have pY:=pW.go hc htr
 have hA : Below Y.heap.size Y (Y.alloc (.cells #[.string (nodF code ns c).1.name,.slice a1 n1 c1,.slice a2 n2 c2,.slice a3 n3 c3,.slice a4 n4 c4] 43)):=(Below.refl _ _).alloc (Nat.le_refl _) _
 have pA:=pY.below hA
 have hwW:=pW.tr.size
 have hs : ∀ b,b ∈ bs → w.heap.size ≤ b ∧ ∃ cur U,U ∈ tyN ∧ Y.heap[b]? = some (Obj.cells cur U (0,0)):=fun b hb9 => ⟨by have:=(hb b hb9).1; omega,(hb b hb9).2.2⟩
 have qA:=KpH.below 1000000 0 hA
 have hN9 : (1000000 : Nat) ∉ tyN:=by decide
 obtain ⟨v',Z,g1,g2,g3⟩:=pA.np.push pA.tr.size (TNode_fr _ _ _ _ _ ht (fun b hb9 => (ty_kp (hs b hb9) qA hN9).1)) (fun b hb9 => (ty_kp (hs b hb9) qA hN9).2) (eb:=Y.heap.size) (blk_box Y _ _) (by omega)
 obtain ⟨a',c',rfl⟩:=g2.slice
 have hbZ:=pA.pbx.kp g3 (Or.inl (by decide))
 have q2 : KpH 25 w.heap.size Z (Z.setCell ⟨pb,0,none⟩ (.slice a' (ns ++ [(nodF code ns c).1]).length c')):=KpH.set hbZ p.pbl 0 _
 exact ⟨_,a1,n1,c1,a2,n2,c2,a3,n3,c3,a4,n4,c4,a',_,c',Z,rfl,pY.pbx.cell (i:=0) rfl,pA.pbx.cell (i:=0) rfl,pY.pbx.lt,g1,hbZ.cell (i:=0) rfl,hbZ.free 0,hbZ.lt,⟨(pA.cu.kp g3 p.lc).kp q2 p.lc,(pA.tr.kp g3 (Nat.le_refl _)).kp q2 (Nat.le_refl _),p.lc,p.rbl,p.pbl,p.rn,(Tr.setCell _ _ _ _).blk (pA.rbx.kp g3 (Or.inl (by decide))) p.rn,hbZ.set 0 _,g2.kp q2 (by decide) (by decide)⟩⟩
def PrAns (code : List Int) (W0 : World) (cb : Nat) (cv : Value) (w : World) (x : List DNode × Cur) (e : Ending) (w' : World) : Prop :=
 ∃ a n cap,e = .returned (.agg #[.slice a n cap]) ∧ Hid (n = x.1.length) ∧ Np w.heap.size w' (.slice a n cap) x.1 ∧ CuAt code W0 cb cv w' x.2 ∧ Tr cb w w'
set_option maxHeartbeats 8000000 in
set_option maxRecDepth 8000 in
theorem program_drawn (h : CuAt code W0 cb cv w c) (hok : okB 120001 c) : Calls Tryz.prog 8 #[.pointer (some ⟨cb,0,none⟩)] w (PrAns code W0 cb cv w (prF code c)):=by
 have hlc:=h.blk.lt
 obtain ⟨A,hAA⟩ : ∃ A,A = (w.alloc (.cells #[.slice none 0 0] 25)).alloc (.cells #[.slice none 0 0] 25):=⟨_,rfl⟩
 have hA : Below w.heap.size w A:=hAA ▸ ((Below.refl _ _).alloc (Nat.le_refl _) _).alloc (by simp) _
 have b1 : BlkAt A w.heap.size 25 #[.slice none 0 0]:=hAA ▸ (blk_box w _ _).below ((Below.refl _ _).alloc (Nat.le_refl _) _) (by simp)
 have b2 : BlkAt A (w.heap.size + 1) 25 #[.slice none 0 0]:=by
  have h9:=blk_box (w.alloc (.cells #[.slice none 0 0] 25)) #[.slice none 0 0] 25
  rw [hAA]
  simpa using h9
 have p0 : Pg code W0 cb cv w w.heap.size (w.heap.size + 1) A c (.slice none 0 0) []:=⟨h.below hA,Tr.of_below hA,hlc,Nat.le_refl _,by omega,by omega,b1,b2,Np.nil _ _⟩
 have HP:=hide (pick_ok p0.cu 3 (by omega) (hok.less (by omega)))
 have hp3:=pkF_lt code (m:=3) c (by omega)
 have HTO : Hid (∀ n,n ≤ 3 → (∀ x ∈ (prTo code n (pkF code 3 c).2).1,okDN x) ∧ (prTo code n (pkF code 3 c).2).1.length = n ∧ (n < 3 → okB 40000 (prTo code n (pkF code 3 c).2).2)):=hide (fun n hn => by
  obtain ⟨t1,t2,t3⟩:=prTo_ok code (pkF code 3 c).2 n hn
  exact ⟨t1,t2,fun h3 => t3 _ ((pkF_ok (m:=3) (n:=120000) hok).less (by omega))⟩)
 have HE : Hid (prF code c = prTo code (3 - (pkF code 3 c).1) (pkF code 3 c).2):=hide rfl
 obtain ⟨PO,hPO⟩ : ∃ PO : Ending → World → Prop,PO = PrAns code W0 cb cv w (prF code c):=⟨_,rfl⟩
 rw [← hPO]
 rw [uh HE] at hPO
 generalize pkF code 3 c = Q at *
 obtain ⟨p3,c1⟩:=Q
 replace HP : Hid (Calls Tryz.prog 9 #[.pointer (some ⟨cb,0,none⟩),.int .i64 3] A (CuAns code W0 cb cv A (.int .i64 p3) c1)):=HP
 replace HTO : Hid (∀ n,n ≤ 3 → (∀ x ∈ (prTo code n c1).1,okDN x) ∧ (prTo code n c1).1.length = n ∧ (n < 3 → okB 40000 (prTo code n c1).2)):=HTO
 replace hp3 : p3 < 3:=hp3
 obtain ⟨n,hn⟩ : ∃ n,n = 3 - p3:=⟨_,rfl⟩
 have HPO : Hid (PO = PrAns code W0 cb cv w (prTo code n c1)):=by rw [hn]; exact hPO
 have hw1 : IntKind.i64.wrap (3 - (p3 : Int)) = (n : Int):=by rw [IntKind.wrap_i64]; omega
 have hn3 : n ≤ 3:=by omega
 have HP0:=hide p0
 have HAA:=hide hAA
 clear h hA b1 b2 p0 hok hPO HE hn hAA
 go_enter Tryz.func8,Tryz.ntmps8
 go_wp2_with fail
 rw [← uh HAA]
 refine (uh HP).mono ?_
 rintro e A3 ⟨rfl,hc3,ht3⟩
 have HP3:=hide ((uh HP0).go hc3 ht3)
 clear hc3 ht3 HP0 HP HAA hp3
 go_wp2
 go_loopg [5] n (fun g x wr => ∃ (i : Nat) (pv : Value),i ≤ n ∧ g = n - i ∧ x = .int .i64 i ∧ Pg code W0 cb cv w w.heap.size (w.heap.size + 1) wr (prTo code i c1).2 pv (prTo code i c1).1)
 case atStart => exact ⟨0,.slice none 0 0,Nat.zero_le _,rfl,rfl,uh HP3⟩
 case round =>
  obtain ⟨i,pv,hi,hg,rfl,hpg⟩:=hrel
  have HG:=hide hg
  obtain ⟨t1,t2,t3⟩:=uh HTO i (by omega)
  obtain ⟨pa,pc,rfl⟩:=hpg.np.slice
  by_cases hlt : i < n
  ·have HIT:=hide (fun W hW => hpg.node (by omega) t1 (t3 (by omega)) W hW)
   have n1:=hpg.pbx.cell (i:=0) (v:=.slice pa (prTo code i c1).1.length pc) rfl
   have hiI : (i : Int) < (n : Int):=by omega
   clear hg hpg t1 t2 t3
   generalize (prTo code i c1).1.length = L9 at *
   go_wp2_with fail
   go_region_law (first | (go_simp; go_at_call 21; refine (uh HIT _ ((Below.refl _ _).drew)).mono ?_; rintro e w9 ⟨nm,a1,m1,k1,a2,m2,k2,a3,m3,k3,a4,m4,k4,a',n',c',Z,rfl,z1,z2,z3,HRUN,z4,z5,z6,HN⟩) | (refine step_append_run rfl _ _ 23 23 rfl rfl _ _ _ rfl rfl (uh HRUN) ?_))
   all_goals
    clear HIT HRUN z1 z2 z3 z4 z5 z6 n1
    go_wp2
    go_roundg (n - (i + 1))
    case measure => have:=uh HG; omega
    case rel => exact ⟨i + 1,_,hlt,rfl,by go_num,uh HN⟩
  ·have e : i = n:=by omega
   subst e
   have hr:=hpg.rbx.set 0 (.slice pa (prTo code i c1).1.length pc)
   have r0:=hr.cell (i:=0) (v:=.slice pa (prTo code i c1).1.length pc) rfl
   have n1:=hpg.pbx.cell (i:=0) (v:=.slice pa (prTo code i c1).1.length pc) rfl
   have y0:=hpg.rbx.cell (i:=0) (v:=.slice none 0 0) rfl
   have y1:=hpg.rbx.free 0
   have y2:=hpg.rbx.lt
   have q : KpH 25 w.heap.size wr (wr.setCell ⟨w.heap.size,0,none⟩ (.slice pa (prTo code i c1).1.length pc)):=KpH.set hpg.rbx hpg.rbl 0 _
   have HF : Hid (PO (.returned (.agg #[.slice pa (prTo code i c1).1.length pc])) (wr.setCell ⟨w.heap.size,0,none⟩ (.slice pa (prTo code i c1).1.length pc))):=by
    show PO _ _
    rw [uh HPO]
    exact ⟨_,_,_,rfl,hide rfl,hpg.np.kp q (by decide) (by decide),hpg.cu.kp q hlc,hpg.tr.kp q (Nat.le_refl _)⟩
   clear hg hpg t1 t2 t3 hr q HPO HTO
   generalize (prTo code i c1).1.length = L9 at *
   go_wp2
   refine bodyPost_ret ?_ rfl (uh HF)
   simp [results,Tryz.results8,go_sem,r0]
end
end Go.Proofs.YtajabbnlbopcbaaGreatDoor
namespace Go.Proofs.YtajabbnlbopcbaaGreatDoor
open Go.RowKit
set_option linter.unusedSimpArgs false
set_option linter.unusedVariables false
def rInts : ElF Tryz.prog (Raw 1):=elRaw 64 26 1 24 (.slice none 0 0) Tryz.underlying26 (by kernel_rfl) rfl (by decide) (by decide)
def rNum : ElF Tryz.prog (Raw 1):=elRaw 3 64 1 8 (.int .i64 0) Tryz.underlying64 (by kernel_rfl) rfl (by decide) (by decide)
def rawNum (x : Int) : Raw 1:=⟨[.int .i64 x],rfl,fun u hu => by
 simp only [List.mem_cons,List.not_mem_nil,or_false] at hu
 rw [hu]
 rfl⟩
def Sm {sz : Nat} (E : ElF Tryz.prog (Raw sz)) (lo : Nat) (X : World) (v : Value) (m : Nat) : Prop:=∃ css,OwnV E X lo v css ∧ css.length ≤ m
section
variable {sz : Nat} {E : ElF Tryz.prog (Raw sz)} {lo m : Nat} {X Y A : World} {v : Value}
theorem Sm.slice (h : Sm E lo X v m) : ∃ a n cap,v = .slice a n cap:=by
 obtain ⟨css,h1,_⟩:=h
 obtain ⟨a,c,e⟩:=h1.slice
 exact ⟨a,_,c,e⟩
theorem Sm.tr (h : Sm E lo X v m) {cb : Nat} (ht : Tr cb X Y) (hb : cb < lo) : Sm E lo Y v m:=by
 obtain ⟨css,h1,h2⟩:=h
 exact ⟨css,h1.trk ht hb,h2⟩
theorem Sm.below (h : Sm E lo X v m) (hb : Below X.heap.size X Y) : Sm E lo Y v m:=by
 obtain ⟨css,h1,h2⟩:=h
 exact ⟨css,h1.below hb,h2⟩
theorem Sm.kp {T g : Nat} (h : Sm E lo X v m) (p : KpH T g X Y) (hT : E.T ≠ T ∨ lo ≤ 0 ∧ False ∨ ∀ b,v.ownBlock = some b → b < g) : Sm E lo Y v m:=by
 obtain ⟨css,h1,h2⟩:=h
 exact ⟨css,h1.kp p (hT.elim Or.inl (fun h => Or.inr (h.elim (fun h => h.2.elim) id))),h2⟩
theorem Sm.push (h : Sm E lo A v m) (hB : lo ≤ A.heap.size) (hf : ∀ c,E.f c = c.1) (c : Raw sz) {eb : Nat} (hbx : BlkAt A eb E.T c.1.toArray) (hm : (m + 1) * E.byt ≤ 140737488355328) :
  ∃ a' n' c' Z,(Builtin.append_ #[E.ST,E.ST] E.ST #[v,.slice (some ⟨eb,0,none⟩) 1 1]).run Tryz.prog A = .ok (.slice a' n' c') Z ∧ Sm E lo Z (.slice a' n' c') (m + 1) ∧ KpH E.T lo A Z:=by
 obtain ⟨css,h1,h2⟩:=h
 obtain ⟨v',Z,g1,g2,g3,_⟩:=run_append_one E A E.ST lo v css h1 eb c (fun j u hu => hbx.cell (by rw [List.getElem?_toArray,← hf]; exact hu)) (Nat.le_trans (Nat.mul_le_mul_right _ (by omega)) hm) hB
 obtain ⟨a',c',rfl⟩:=g2.slice
 exact ⟨a',_,c',Z,g1,⟨css ++ [c],g2,by simp; omega⟩,KpH.own (E:=E) h1 g3⟩
end
def valsR : List Int:=[0,1,2,3,-1,5,-7,10,1000,2147483647,-2147483648,65537]
theorem valsR_at : ∀ i,i < 12 → (#[Value.int .i64 0,.int .i64 1,.int .i64 2,.int .i64 3,.int .i64 (-1),.int .i64 5,.int .i64 (-7),.int .i64 10,.int .i64 1000,.int .i64 2147483647,.int .i64 (-2147483648),.int .i64 65537] : Array Value)[i]? = some (.int .i64 (valsR.getD i 0)):=by
 intro i hi
 match i,hi with
 | 0,_ => rfl
 | 1,_ => rfl
 | 2,_ => rfl
 | 3,_ => rfl
 | 4,_ => rfl
 | 5,_ => rfl
 | 6,_ => rfl
 | 7,_ => rfl
 | 8,_ => rfl
 | 9,_ => rfl
 | 10,_ => rfl
 | 11,_ => rfl
end Go.Proofs.YtajabbnlbopcbaaGreatDoor
namespace Go.Proofs.YtajabbnlbopcbaaGreatDoor
open Go.RowKit
set_option linter.unusedSimpArgs false
set_option linter.unusedVariables false
structure Rz (code : List Int) (W0 : World) (cb : Nat) (cv : Value) (w : World) (nb : Nat) (nc : Array Value) (X : World) (c : Cur) : Prop where
 cu : CuAt code W0 cb cv X c
 tr : Tr cb w X
 lc : cb < w.heap.size
 nbl : w.heap.size ≤ nb
 box : BlkAt X nb 43 nc
section
variable {code : List Int} {W0 : World} {cb : Nat} {cv : Value} {w : World} {nb : Nat} {nc : Array Value} {X Y : World} {c c' : Cur}
theorem Rz.below (p : Rz code W0 cb cv w nb nc X c) (hb : Below X.heap.size X Y) : Rz code W0 cb cv w nb nc Y c:=⟨p.cu.below hb,p.tr.trans (Tr.of_below hb),p.lc,p.nbl,p.box.below hb p.box.lt⟩
theorem Rz.go (p : Rz code W0 cb cv w nb nc X c) (hc : CuAt code W0 cb cv Y c') (ht : Tr cb X Y) : Rz code W0 cb cv w nb nc Y c':=⟨hc,p.tr.trans ht,p.lc,p.nbl,ht.blk p.box (by have:=p.lc; have:=p.nbl; omega)⟩
theorem Rz.kp {T h : Nat} (p : Rz code W0 cb cv w nb nc X c) (q : KpH T h X Y) (hw : w.heap.size ≤ h) (hT : 43 ≠ T) : Rz code W0 cb cv w nb nc Y c:=⟨p.cu.kp q (by have:=p.lc; omega),p.tr.kp q hw,p.lc,p.nbl,p.box.kp q (Or.inl hT)⟩
theorem row_pick (p : Rz code W0 cb cv w nb nc X c) {B m : Nat} {a : Option Addr} {n cap : Nat} (hr : Sm rNum B X (.slice a n cap) m) (hB : w.heap.size ≤ B) (hBX : B ≤ X.heap.size) (hm : m ≤ 100) {lo9 m9 : Nat} {v9 : Value} (h9 : Sm rInts lo9 X v9 m9) (hlo : w.heap.size ≤ lo9) {K : Nat} (hok : okB (K + 1) c) :
  Calls Tryz.prog 9 #[.pointer (some ⟨cb,0,none⟩),.int .i64 2] X (fun e Y => ∃ (x : Int),∃ a' n' c' Z c1,e = .returned (.int .i64 x) ∧ Hid ((Builtin.append_ #[64,64] 64 #[.slice a n cap,.slice (some ⟨Y.heap.size,0,none⟩) 1 1]).run Tryz.prog (Y.alloc (.cells #[.int .i64 x] 3)) = .ok (.slice a' n' c') Z) ∧ Hid (Rz code W0 cb cv w nb nc Z c1 ∧ Sm rNum B Z (.slice a' n' c') (m + 1) ∧ Sm rInts lo9 Z v9 m9 ∧ okB K c1 ∧ B ≤ Z.heap.size)):=by
 refine (pick_ok p.cu 2 (by omega) (hok.less (by omega))).mono ?_
 rintro e Y ⟨rfl,hc,ht⟩
 have hlc:=p.lc
 have pY:=p.go hc ht
 have hA : Below Y.heap.size Y (Y.alloc (.cells #[.int .i64 ((pkF code 2 c).1 : Int)] 3)):=(Below.refl _ _).alloc (Nat.le_refl _) _
 have hBA:=Nat.le_trans hBX (Nat.le_trans ht.size hA.size)
 obtain ⟨a',n',c',Z,g1,g2,g3⟩:=((hr.tr ht (by omega)).below hA).push hBA (fun _ => rfl) (rawNum ((pkF code 2 c).1 : Int)) (eb:=Y.heap.size) (blk_box Y _ _) (show (m + 1) * 8 ≤ _ by omega)
 exact ⟨_,a',n',c',Z,_,rfl,g1,(pY.below hA).kp g3 hB (by decide),g2,((h9.tr ht (by omega)).below hA).kp g3 (Or.inl (by decide)),pkF_ok hok,Nat.le_trans hBA g3.size⟩
theorem row_pick12 (p : Rz code W0 cb cv w nb nc X c) {B m : Nat} {a : Option Addr} {n cap : Nat} (hr : Sm rNum B X (.slice a n cap) m) (hB : w.heap.size ≤ B) (hBX : B ≤ X.heap.size) (hm : m ≤ 100) {lo9 m9 : Nat} {v9 : Value} (h9 : Sm rInts lo9 X v9 m9) (hlo : w.heap.size ≤ lo9) {K : Nat} (hok : okB (K + 1) c) {vb : Nat} (hv : BlkAt X vb 3 #[.int .i64 0,.int .i64 1,.int .i64 2,.int .i64 3,.int .i64 (-1),.int .i64 5,.int .i64 (-7),.int .i64 10,.int .i64 1000,.int .i64 2147483647,.int .i64 (-2147483648),.int .i64 65537]) (hvb : cb < vb) :
  Calls Tryz.prog 9 #[.pointer (some ⟨cb,0,none⟩),.int .i64 12] X (fun e Y => ∃ (q : Nat) (x : Int),∃ a' n' c' Z c1,e = .returned (.int .i64 q) ∧ q < 12 ∧ (q : Int) < 12 ∧ Y.cell? ⟨vb,q,none⟩ = some (.int .i64 x) ∧ Hid ((Builtin.append_ #[64,64] 64 #[.slice a n cap,.slice (some ⟨Y.heap.size,0,none⟩) 1 1]).run Tryz.prog (Y.alloc (.cells #[.int .i64 x] 3)) = .ok (.slice a' n' c') Z) ∧ Hid (Rz code W0 cb cv w nb nc Z c1 ∧ Sm rNum B Z (.slice a' n' c') (m + 1) ∧ Sm rInts lo9 Z v9 m9 ∧ okB K c1 ∧ B ≤ Z.heap.size)):=by
 refine (pick_ok p.cu 12 (by omega) (hok.less (by omega))).mono ?_
 rintro e Y ⟨rfl,hc,ht⟩
 have hlc:=p.lc
 have pY:=p.go hc ht
 have hlt:=pkF_lt code (m:=12) c (by omega)
 have hcell:=(ht.blk hv (by omega)).cell (valsR_at _ hlt)
 have hA : Below Y.heap.size Y (Y.alloc (.cells #[.int .i64 (valsR.getD (pkF code 12 c).1 0)] 3)):=(Below.refl _ _).alloc (Nat.le_refl _) _
 have hBA:=Nat.le_trans hBX (Nat.le_trans ht.size hA.size)
 obtain ⟨a',n',c',Z,g1,g2,g3⟩:=((hr.tr ht (by omega)).below hA).push hBA (fun _ => rfl) (rawNum (valsR.getD (pkF code 12 c).1 0)) (eb:=Y.heap.size) (blk_box Y _ _) (show (m + 1) * 8 ≤ _ by omega)
 exact ⟨_,_,a',n',c',Z,_,rfl,hlt,by omega,hcell,g1,(pY.below hA).kp g3 hB (by decide),g2,((h9.tr ht (by omega)).below hA).kp g3 (Or.inl (by decide)),pkF_ok hok,Nat.le_trans hBA g3.size⟩
set_option maxHeartbeats 8000000 in
set_option maxRecDepth 8000 in
theorem rows_drawn (h : CuAt code W0 cb cv w c) {nm : ByteArray} {ia : Option Addr} {ic : Nat} {v2 v3 v4 : Value} {ins : List DVar} (hin : SlAt 3 48 RVar (cb + 1) w (.slice ia ins.length ic) ins) (hl : ins.length ≤ 3) (hok : okB 60 c) :
  Calls Tryz.prog 10 #[.pointer (some ⟨cb,0,none⟩),.agg #[.string nm,.slice ia ins.length ic,v2,v3,v4],.int .i64 10] w (fun e Y => ∃ a n cap,e = .returned (.slice a n cap) ∧ Tr cb w Y):=by
 have hlc:=h.blk.lt
 obtain ⟨A,hAA⟩ : ∃ A,A = (w.alloc (.cells #[.string nm,.slice ia ins.length ic,v2,v3,v4] 43)).alloc (.cells #[] 64):=⟨_,rfl⟩
 have hA : Below w.heap.size w A:=hAA ▸ ((Below.refl _ _).alloc (Nat.le_refl _) _).alloc (by simp) _
 have hbx : BlkAt A w.heap.size 43 #[.string nm,.slice ia ins.length ic,v2,v3,v4]:=hAA ▸ (blk_box w _ _).below ((Below.refl _ _).alloc (Nat.le_refl _) _) (by simp)
 have hs0 : Sm rInts (w.heap.size + 1) A (.slice (some ⟨w.heap.size + 1,0,none⟩) 0 0) 0:=by
  have h9:=OwnV.start (E:=rInts) (w.alloc (.cells #[.string nm,.slice ia ins.length ic,v2,v3,v4] 43)) (w.heap.size + 1) (by simp)
  have hz : (w.alloc (.cells #[.string nm,.slice ia ins.length ic,v2,v3,v4] 43)).heap.size = w.heap.size + 1:=by simp
  rw [hz] at h9
  rw [hAA]
  exact ⟨[],h9,Nat.le_refl _⟩
 have p0 : Rz code W0 cb cv w w.heap.size #[.string nm,.slice ia ins.length ic,v2,v3,v4] A c:=⟨h.below hA,Tr.of_below hA,hlc,Nat.le_refl _,hbx⟩
 have HP:=hide (pick_ok p0.cu 10 (by omega) (hok.less (by omega)))
 have hp10:=pkF_lt code (m:=10) c (by omega)
 have HOK : Hid (okB 50 (pkF code 10 c).2):=pkF_ok (hok.less (by omega))
 generalize pkF code 10 c = Q at *
 obtain ⟨p10,c1⟩:=Q
 replace HP : Hid (Calls Tryz.prog 9 #[.pointer (some ⟨cb,0,none⟩),.int .i64 10] A (CuAns code W0 cb cv A (.int .i64 p10) c1)):=HP
 replace hp10 : p10 < 10:=hp10
 replace HOK : Hid (okB 50 c1):=HOK
 obtain ⟨k9,hk9⟩ : ∃ k9,k9 = 10 - p10:=⟨_,rfl⟩
 have hw1 : IntKind.i64.wrap (10 - (p10 : Int)) = (k9 : Int):=by rw [IntKind.wrap_i64]; omega
 have hk10 : k9 ≤ 10:=by omega
 have HP0:=hide (And.intro p0 hs0)
 have HAA:=hide hAA
 have HIN:=hide hin
 have hAz:=hA.size
 clear h hA hbx hs0 p0 hok hk9 hAA hin
 obtain ⟨PO,hPO⟩ : ∃ PO : Ending → World → Prop,PO = fun e Y => ∃ a n cap,e = .returned (.slice a n cap) ∧ Tr cb w Y:=⟨_,rfl⟩
 rw [← hPO]
 have HPO:=hide hPO
 clear hPO
 go_enter Tryz.func10,Tryz.ntmps10
 go_wp2_with fail
 rw [← uh HAA]
 refine (uh HP).mono ?_
 rintro e A1 ⟨rfl,hc1,ht1⟩
 have HP1:=hide (And.intro ((uh HP0).1.go hc1 ht1) ((uh HP0).2.tr ht1 (by omega)))
 clear hc1 ht1 HP0 HP HAA hp10
 go_wp2
 go_loopg [7,9] k9 (fun g x7 x9 wr => ∃ (i : Nat) (c9 : Cur),i ≤ k9 ∧ g = k9 - i ∧ x9 = .int .i64 i ∧ Sm rInts (w.heap.size + 1) wr x7 i ∧ Rz code W0 cb cv w w.heap.size #[.string nm,.slice ia ins.length ic,v2,v3,v4] wr c9 ∧ okB (5 * (10 - i)) c9)
 case atStart => exact ⟨0,c1,Nat.zero_le _,rfl,rfl,(uh HP1).2,(uh HP1).1,uh HOK⟩
 case round =>
  obtain ⟨i,c9,hi,hg,rfl,hsm,hrz,hok9⟩:=hrel
  rename World => wq
  have HG:=hide hg
  obtain ⟨ra,rn,rc,rfl⟩:=hsm.slice
  by_cases hlt : i < k9
  ·have hiI : (i : Int) < (k9 : Int):=by omega
   obtain ⟨D,hDD⟩ : ∃ D,D = wq.alloc (.cells #[] 3):=⟨_,rfl⟩
   have hD : Below wq.heap.size wq D:=hDD ▸ (Below.refl _ _).alloc (Nat.le_refl _) _
   have hsr : Sm rNum wq.heap.size D (.slice (some ⟨wq.heap.size,0,none⟩) 0 0) 0:=hDD ▸ ⟨[],OwnV.start (E:=rNum) wq wq.heap.size (Nat.le_refl _),Nat.le_refl _⟩
   have hD1:=(hrz.below hD).box.cell (i:=1) (v:=.slice ia ins.length ic) rfl
   have HD:=hide (And.intro (hrz.below hD) (And.intro (hsm.below hD) (And.intro hsr (And.intro hok9 hD.size))))
   have hwr:=hrz.tr.size
   have HDD:=hide hDD
   rw [hDD] at hD1
   clear hg hrz hsm hok9 hD hsr
   go_wp2
   rw [← uh HDD]
   clear hD1 hDD
   go_loopg [10,29] ins.length (fun g x10 x29 wr => ∃ (j : Nat) (c8 : Cur),j ≤ ins.length ∧ g = ins.length - j ∧ x29 = .int .i64 j ∧ Sm rNum wq.heap.size wr x10 j ∧ Sm rInts (w.heap.size + 1) wr (.slice ra rn rc) i ∧ Rz code W0 cb cv w w.heap.size #[.string nm,.slice ia ins.length ic,v2,v3,v4] wr c8 ∧ okB (5 * (10 - i) - j) c8 ∧ wq.heap.size ≤ wr.heap.size)
   case atStart => exact ⟨0,c9,Nat.zero_le _,rfl,rfl,(uh HD).2.2.1,(uh HD).2.1,(uh HD).1,(uh HD).2.2.2.1,(uh HD).2.2.2.2⟩
   case round =>
    obtain ⟨j,c8,hj,hg8,rfl,hs8,hr8,hz8,hok8,hwz⟩:=hrel
    have HG8:=hide hg8
    obtain ⟨sa,sn,sc,rfl⟩:=hs8.slice
    by_cases hjt : j < ins.length
    ·obtain ⟨a9,c9',he9,_,_,hx⟩:=uh HIN
     simp only [Value.slice.injEq] at he9
     obtain ⟨rfl,_,rfl⟩:=he9
     obtain ⟨b,o,cs,rfl,hlb,hb,hcs,hc,hR⟩:=hx j hjt
     obtain ⟨cl,rfl,hn1,hn2,hcl⟩:=hR
     obtain ⟨la,lc,rfl⟩:=hcl.shape
     have k0:=(World.cell?_of_block (hz8.tr.block b hb (by omega))).trans (hc 0 (by simp))
     have k1:=(World.cell?_of_block (hz8.tr.block b hb (by omega))).trans (hc 1 (by simp))
     have k2:=(World.cell?_of_block (hz8.tr.block b hb (by omega))).trans (hc 2 (by simp))
     simp only [Nat.add_zero,List.getElem_cons_zero,List.getElem_cons_succ] at k0 k1 k2
     have hjI : (j : Int) < (ins.length : Int):=by omega
     generalize ins[j] = ov at *
     obtain ⟨onm,oty,ock⟩:=ov
     simp only at k0 k1 k2
     obtain ⟨G,hGG⟩ : ∃ G,G = wr.alloc (.cells #[.string onm,.int .i64 oty,.slice la ock.length lc] 67):=⟨_,rfl⟩
     have hG : Below wr.heap.size wr G:=hGG ▸ (Below.refl _ _).alloc (Nat.le_refl _) _
     have hvb : BlkAt G wr.heap.size 67 #[.string onm,.int .i64 oty,.slice la ock.length lc]:=hGG ▸ blk_box wr _ _
     have t1:=hvb.cell (i:=1) (v:=.int .i64 oty) rfl
     rw [hGG] at t1
     have hGz:=hG.size
     have hww:=hz8.tr.size
     have hK : 5 * (10 - i) - j = (5 * (10 - i) - (j + 1)) + 1:=by omega
     rw [hK] at hok8
     have HGG:=hide hGG
     have pG:=hz8.below hG
     have sG:=hs8.below hG
     have iG:=hr8.below hG
     by_cases ht2 : oty = 2
     ·have d2 : (oty == 2) = true:=by rw [beq_iff_eq]; exact ht2
      have HPK:=hide (row_pick pG sG (by omega) (by omega) (by omega) iG (by omega) hok8)
      clear hg8 hs8 hr8 hz8 hok8 hx hc hcs hcl hG hvb hGG pG sG iG hK ht2 hn1 hn2
      go_wp2_with (first | (go_at_call 9; rw [← uh HGG]; refine (uh HPK).mono ?_; rintro e Y9 ⟨x9,a',n',c',Z9,c7,rfl,HRUN,HST⟩; clear t1 k0 k1 k2) | (at_builtin; go_must (refine wpList_append_run rfl _ _ 64 64 rfl rfl _ _ _ rfl rfl (uh HRUN) ?_)))
      go_roundg (ins.length - (j + 1))
      case measure => have:=uh HG8; omega
      case rel =>
       obtain ⟨q1,q2,q3,q4,q5⟩:=uh HST
       exact ⟨j + 1,c7,hjt,rfl,by go_num,q2,q3,q1,q4,q5⟩
     ·have d2 : (oty == 2) = false:=by rw [beq_eq_false_iff_ne]; exact ht2
      obtain ⟨V,hVV⟩ : ∃ V,V = G.alloc (.cells #[.int .i64 0,.int .i64 1,.int .i64 2,.int .i64 3,.int .i64 (-1),.int .i64 5,.int .i64 (-7),.int .i64 10,.int .i64 1000,.int .i64 2147483647,.int .i64 (-2147483648),.int .i64 65537] 3):=⟨_,rfl⟩
      have hV : Below G.heap.size G V:=hVV ▸ (Below.refl _ _).alloc (Nat.le_refl _) _
      have hvv : BlkAt V G.heap.size 3 #[.int .i64 0,.int .i64 1,.int .i64 2,.int .i64 3,.int .i64 (-1),.int .i64 5,.int .i64 (-7),.int .i64 10,.int .i64 1000,.int .i64 2147483647,.int .i64 (-2147483648),.int .i64 65537]:=hVV ▸ blk_box G _ _
      have hGs : G.heap.size = wr.heap.size + 1:=by rw [uh HGG]; simp
      rw [hGs] at hvv
      have hVz:=hV.size
      have HPK:=hide (row_pick12 (pG.below hV) (sG.below hV) (by omega) (by omega) (by omega) (iG.below hV) (by omega) hok8 hvv (by omega))
      have HVV:=hide hVV
      clear hg8 hs8 hr8 hz8 hok8 hx hc hcs hcl hG hvb hGG pG sG iG hK ht2 hn1 hn2 hV hvv hVV hGs
      go_wp2_with (first | (go_at_call 9; rw [← uh HGG,← uh HVV]; refine (uh HPK).mono ?_; rintro e Y9 ⟨q9,x9,a',n',c',Z9,c7,rfl,hq1,hq2,hcl,HRUN,HST⟩; clear t1 k0 k1 k2) | (at_builtin; go_must (refine wpList_append_run rfl _ _ 64 64 rfl rfl _ _ _ rfl rfl (uh HRUN) ?_)))
      go_roundg (ins.length - (j + 1))
      case measure => have:=uh HG8; omega
      case rel =>
       obtain ⟨q1,q2,q3,q4,q5⟩:=uh HST
       exact ⟨j + 1,c7,hjt,rfl,by go_num,q2,q3,q1,q4,q5⟩
    ·have e : j = ins.length:=by omega
     have hA9 : Below wr.heap.size wr (wr.alloc (.cells #[.slice sa sn sc] 64)):=(Below.refl _ _).alloc (Nat.le_refl _) _
     have hww:=hz8.tr.size
     have hzz:=hz8.box.lt
     obtain ⟨a',n',c',Z9,g1,g2,g3⟩:=(hr8.below hA9).push (by have:=hA9.size; omega) (fun _ => rfl) (rawIts sa sn sc) (eb:=wr.heap.size) (blk_box wr _ _) (show (i + 1) * 24 ≤ _ by omega)
     have HRUN : Hid ((Builtin.append_ #[26,26] 26 #[.slice ra rn rc,.slice (some ⟨wr.heap.size,0,none⟩) 1 1]).run Tryz.prog (wr.alloc (.cells #[.slice sa sn sc] 64)) = .ok (.slice a' n' c') Z9):=g1
     have HST:=hide (And.intro g2 (And.intro ((hz8.below hA9).kp g3 (by omega) (by decide)) (hok8.less (m:=5 * (10 - (i + 1))) (by omega))))
     clear hg8 hs8 hr8 hz8 hok8 hA9 g1 g2 g3 hj hjt
     subst e
     go_wp2_with (at_builtin; go_must (refine wpList_append_run rfl _ _ 26 26 rfl rfl _ _ _ rfl rfl (uh HRUN) ?_))
     go_roundg (k9 - (i + 1))
     case measure => have:=uh HG; omega
     case rel =>
      obtain ⟨q1,q2,q3⟩:=uh HST
      exact ⟨i + 1,c8,hlt,rfl,by go_num,q1,q2,q3⟩
  ·have e : i = k9:=by omega
   have HF : Hid (PO (.returned (.slice ra rn rc)) wq):=by
    show PO _ _
    rw [uh HPO]
    exact ⟨_,_,_,rfl,hrz.tr⟩
   clear hg hsm hrz hok9
   subst e
   go_wp2
   first | go_ret | skip
   exact uh HF
end
end Go.Proofs.YtajabbnlbopcbaaGreatDoor
