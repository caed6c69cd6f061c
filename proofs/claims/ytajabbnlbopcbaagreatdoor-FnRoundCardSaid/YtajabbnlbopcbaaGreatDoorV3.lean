import Derived.Test.YtajabbnlbopcbaaGreatDoorRV1
import Derived.Test.YtajabbnlbopcbaaGreatDoorPGA
namespace Go.Proofs.YtajabbnlbopcbaaGreatDoor
open Go.RowKit
set_option linter.unusedSimpArgs false
set_option linter.unusedVariables false
theorem Kept.of_tr {r : Nat} {w w' : World} (h : Tr r w w') : Kept (r + 1) w.heap.size w w':=⟨h.size,fun k hk hlt => h.block k hlt (by omega)⟩
structure Xs (code : List Int) (W0 : World) (cb : Nat) (cv : Value) (w : World) (b7 : Nat) (sv : Value) (rank : Nat) (X : World) (c : Cur) : Prop where
 cu : CuAt code W0 cb cv X c
 box : BlkAt X b7 91 #[sv,.int .i64 rank]
 tr : Tr cb w X
 lc : cb < w.heap.size
 lb : w.heap.size ≤ b7
structure ExIn (code : List Int) (W0 : World) (cb : Nat) (cv : Value) (vs : List DVar) (w : World) (c : Cur) (sv kv : Value) (k : List DCond) : Prop where
 cu : CuAt code W0 cb cv w c
 sl : SlAt 3 48 RVar (cb + 1) w sv vs
 kl : SlAt 2 24 RCond (cb + 1) w kv k
 kk : kOK k
 k4 : k.length ≤ 4
 few : vs.length ≤ 100
 vk : vsOK vs
def ExC (code : List Int) (W0 : World) (cb : Nat) (cv : Value) (vs : List DVar) (rank f : Nat) (d : Int) : Prop :=
 ∀ (w : World) (c : Cur) (sv kv : Value) (kind : Int) (k : List DCond) (late : Bool),ExIn code W0 cb cv vs w c sv kv k → okB (kE f) c →
  Calls Tryz.prog 32 #[.pointer (some ⟨cb,0,none⟩),.agg #[sv,.int .i64 rank],.int .i64 kind,kv,.bool late,.int .i64 d] w (ExAns code W0 cb cv w (exF code vs rank f c kind k late))
section
variable {code : List Int} {W0 : World} {cb : Nat} {cv : Value} {w : World} {c c' : Cur} {vs : List DVar} {sv kv : Value} {k : List DCond} {b7 rank : Nat} {X Y : World}
theorem Xs.go (h : Xs code W0 cb cv w b7 sv rank X c) (hc : CuAt code W0 cb cv Y c') (ht : Tr cb X Y) : Xs code W0 cb cv w b7 sv rank Y c' :=
 ⟨hc,ht.blk h.box (by have:=h.lc; have:=h.lb; omega),h.tr.trans ht,h.lc,h.lb⟩
theorem Xs.below (h : Xs code W0 cb cv w b7 sv rank X c) (hb : Below X.heap.size X Y) : Xs code W0 cb cv w b7 sv rank Y c:=h.go (h.cu.below hb) (Tr.of_below hb)
theorem CuAt.grown (h : CuAt code W0 cb cv X c) {row : Option Nat} (hg : X.grownBy Y row) {B : Nat} (hr : ∀ b,row = some b → B ≤ b) (hB : cb < B) : CuAt code W0 cb cv Y c:=by
 have hl:=h.low
 exact ⟨h.cod,h.few,h.low,h.old.trans ⟨hg.os,hg.tape,hg.output,hg.size,fun k hk => hg.block k (by have:=h.old.size; omega) (fun e => by have:=hr k e.symm; omega)⟩,(hg.block cb h.blk.lt (fun e => by have:=hr cb e.symm; omega)).trans h.blk⟩
theorem Xs.grown (h : Xs code W0 cb cv w b7 sv rank X c) {row : Option Nat} (hg : X.grownBy Y row) {B : Nat} (hr : ∀ b,row = some b → B ≤ b) (hB : b7 < B) : Xs code W0 cb cv w b7 sv rank Y c :=
 have hlc:=h.lc
 have hlb:=h.lb
 ⟨h.cu.grown hg hr (by omega),(hg.block b7 h.box.lt (fun e => by have:=hr b7 e.symm; omega)).trans h.box,h.tr.grown hg (fun b hb => by have:=hr b hb; omega),h.lc,h.lb⟩
theorem ExIn.at (h : ExIn code W0 cb cv vs w c sv kv k) (hx : Xs code W0 cb cv w b7 sv rank X c') : ExIn code W0 cb cv vs X c' sv kv k :=
 ⟨hx.cu,h.sl.kept RVar_kept (Kept.of_tr hx.tr),h.kl.kept RCond_kept (Kept.of_tr hx.tr),h.kk,h.k4,h.few,h.vk⟩
def Wk (code : List Int) (W0 : World) (cb : Nat) (cv : Value) (w : World) (b7 : Nat) (sv : Value) (rank : Nat) (X : World) (c : Cur) (a : Option Addr) (n cap : Nat) (xs : List DItem) : Prop :=
 Xs code W0 cb cv w b7 sv rank X c ∧ OwnV elItem X (b7 + 1) (.slice a n cap) xs ∧ n = xs.length ∧ 0 < xs.length ∧ xs.length ≤ 4000
def RFlat {P : Program} {α : Type} (E : ElF P α) (_ : Nat) (_ : World) (cs : List Value) (x : α) : Prop:=cs = E.f x
abbrev AppRun (Y : World) (a : Option Addr) (n cap : Nat) (a2 : Option Addr) (n2 cap2 : Nat) (a3 : Option Addr) (n3 cap3 : Nat) (Z : World) : Prop :=
 (Builtin.append_ #[55,55] 55 #[.slice a n cap,.slice a2 n2 cap2]).run Tryz.prog Y = .ok (.slice a3 n3 cap3) Z
theorem OwnV.trk {α : Type} {E : ElF Tryz.prog α} {base : Nat} {v : Value} {xs : List α} (h : OwnV E X base v xs) (ht : Tr cb X Y) (hb : cb < base) : OwnV E Y base v xs :=
 h.ofBlock (fun b hb2 => by have h9:=World.ownsRow.lt h b hb2; exact ht.block b h9.2 (by omega))
theorem Wk.go {a : Option Addr} {n cap : Nat} {xs : List DItem} (h : Wk code W0 cb cv w b7 sv rank X c a n cap xs) (hy : Xs code W0 cb cv w b7 sv rank Y c') (ht : Tr cb X Y) : Wk code W0 cb cv w b7 sv rank Y c' a n cap xs :=
 ⟨hy,h.2.1.trk ht (by have:=h.1.lc; have:=h.1.lb; omega),h.2.2⟩
theorem Wk.app {a a2 : Option Addr} {n cap n2 cap2 : Nat} {xs ys : List DItem} (h : Wk code W0 cb cv w b7 sv rank Y c' a n cap xs) {B : Nat} (h2 : OwnV elItem Y B (.slice a2 n2 cap2) ys) (hl : xs.length + ys.length ≤ 4000) :
  ∃ a3 n3 cap3 Z,AppRun Y a n cap a2 n2 cap2 a3 n3 cap3 Z ∧ Wk code W0 cb cv w b7 sv rank Z c' a3 n3 cap3 (xs ++ ys):=by
 obtain ⟨hx,ho,hn,hp,hq⟩:=h
 rcases ho.shape with ⟨_,h0⟩ | ⟨g,cap1,hv,hg,_,hc⟩
 ·rw [h0] at hp
  exact absurd hp (by simp)
 simp only [Value.slice.injEq] at hv
 obtain ⟨rfl,rfl,rfl⟩:=hv
 obtain ⟨g',cap',Z,hrun,ho',hgr⟩:=run_append_all elItem (R:=RFlat elItem) (fun _ _ _ h => h) Y 55 (b7 + 1) g cap xs ho (.slice a2 n2 cap2) ys (h2.at (fun _ _ => rfl) (by simp [elItem]; omega)) (by simp [elItem]; omega) hx.box.lt
 refine ⟨_,_,_,_,hrun,hx.grown hgr (B:=b7 + 1) (fun b hb => by simp only [Option.some.injEq] at hb; omega) (by omega),ho',by simp,by simp; omega,by simp; omega⟩
theorem Wk.snoc {a : Option Addr} {n cap : Nat} {xs : List DItem} (h : Wk code W0 cb cv w b7 sv rank X c a n cap xs) (op val : Int) (nm : ByteArray) (hl : xs.length < 4000) :
  ∃ a3 n3 cap3 Z,Hid (AppRun (X.alloc (.cells #[.int .i64 op,.int .i64 val,.string nm] 88)) a n cap (some ⟨X.heap.size,0,none⟩) 1 1 a3 n3 cap3 Z) ∧ Hid (Wk code W0 cb cv w b7 sv rank Z c a3 n3 cap3 (xs ++ [⟨op,val,nm⟩])):=by
 have hA : Below X.heap.size X (X.alloc (.cells #[.int .i64 op,.int .i64 val,.string nm] 88)):=(Below.refl _ _).alloc (Nat.le_refl _) _
 exact (h.go (h.1.below hA) (Tr.of_below hA)).app (own_item (w:=X) (Nat.le_refl X.heap.size)) (by simp; omega)
theorem Wk.end {a : Option Addr} {n cap : Nat} {xs : List DItem} (h : Wk code W0 cb cv w b7 sv rank X c a n cap xs) : ExAns code W0 cb cv w (xs,c) (.returned (.slice a n cap)) X:=by
 obtain ⟨hx,ho,rfl,hp,hq⟩:=h
 exact ⟨a,cap,rfl,ho.low (by have:=hx.lb; omega),hx.cu,hx.tr⟩
theorem szE_le {f : Nat} (h : f ≤ 6) : szE f ≤ 1093:=by
 match f,h with
 | 0,_ => decide
 | 1,_ => decide
 | 2,_ => decide
 | 3,_ => decide
 | 4,_ => decide
 | 5,_ => decide
 | 6,_ => decide
theorem Ex.pos {c : List DItem} {ps : List Pc} (h : Ex c ps) : 0 < c.length:=h (fun c _ => 0 < c.length) (fun t l _ _ _ => by simp)
theorem exp_first {f : Nat} (hf : f ≤ 5) {d : Int} (hC : ExC code W0 cb cv vs rank f d) {c0 : Cur} {kv0 : Value} {k0 : List DCond} (hin : ExIn code W0 cb cv vs w c0 sv kv0 k0) (hx : Xs code W0 cb cv w b7 sv rank X c) (hkl : SlAt 2 24 RCond (cb + 1) X kv k) (hkk : kOK k) (hk4 : k.length ≤ 4) (hok : okB (kE f) c) (kind : Int) (late : Bool) :
  Calls Tryz.prog 32 #[.pointer (some ⟨cb,0,none⟩),.agg #[sv,.int .i64 rank],.int .i64 kind,kv,.bool late,.int .i64 d] X (fun e Y => ∃ a n cap,e = .returned (.slice a n cap) ∧ Hid (Wk code W0 cb cv w b7 sv rank Y (exF code vs rank f c kind k late).2 a n cap (exF code vs rank f c kind k late).1) ∧ Hid (Tr cb X Y)):=by
 refine (hC X c sv kv kind k late ⟨hx.cu,(hin.at hx).sl,hkl,hkk,hk4,hin.few,hin.vk⟩ hok).mono ?_
 rintro e Y ⟨a,cap,rfl,ho,hc,ht⟩
 have hd:=exF_dr (code:=code) (rank:=rank) hin.vk f c kind k late hkk
 have hs:=szE_le (f:=f) (by omega)
 refine ⟨a,_,cap,rfl,⟨hx.go hc ht,ho.low hx.box.lt,rfl,?_,?_⟩,ht⟩
 ·obtain ⟨ps,hp⟩:=hd.1
  exact hp.pos
 ·have:=hd.2.1
  omega
theorem exp_next {f : Nat} (hf : f ≤ 5) {d : Int} (hC : ExC code W0 cb cv vs rank f d) {c0 : Cur} {kv0 : Value} {k0 : List DCond} (hin : ExIn code W0 cb cv vs w c0 sv kv0 k0) {a : Option Addr} {n cap : Nat} {xs : List DItem} (hw : Wk code W0 cb cv w b7 sv rank X c a n cap xs) (hxs : xs.length ≤ 2500) (hkl : SlAt 2 24 RCond (cb + 1) X kv k) (hkk : kOK k) (hk4 : k.length ≤ 4) (hok : okB (kE f) c) (kind : Int) (late : Bool) :
  Calls Tryz.prog 32 #[.pointer (some ⟨cb,0,none⟩),.agg #[sv,.int .i64 rank],.int .i64 kind,kv,.bool late,.int .i64 d] X (fun e Y => ∃ a2 n2 cap2 a3 n3 cap3 Z,e = .returned (.slice a2 n2 cap2) ∧ Hid (AppRun Y a n cap a2 n2 cap2 a3 n3 cap3 Z) ∧ Hid (Wk code W0 cb cv w b7 sv rank Z (exF code vs rank f c kind k late).2 a3 n3 cap3 (xs ++ (exF code vs rank f c kind k late).1)) ∧ Hid (Kept (cb + 1) X.heap.size X Y)):=by
 refine (exp_first hf hC hin hw.1 hkl hkk hk4 hok kind late).mono ?_
 rintro e Y ⟨a2,n2,cap2,rfl,h2,ht⟩
 have hd:=exF_dr (code:=code) (rank:=rank) hin.vk f c kind k late hkk
 have hs:=szE_le (f:=f) (by omega)
 obtain ⟨a3,n3,cap3,Z,hr,hz⟩:=(hw.go (uh h2).1 (uh ht)).app (uh h2).2.1 (by have:=hd.2.1; omega)
 exact ⟨a2,n2,cap2,a3,n3,cap3,Z,rfl,hr,hz,Kept.of_tr (uh ht)⟩
theorem ExAns.up {x : List DItem × Cur} {e : Ending} (h : ExAns code W0 cb cv X x e Y) (ht : Tr cb w X) : ExAns code W0 cb cv w x e Y:=by
 obtain ⟨a,cap,rfl,ho,hc,ht2⟩:=h
 exact ⟨a,cap,rfl,ho.low ht.size,hc,ht.trans ht2⟩
theorem ExAns.of_eq {x y : List DItem × Cur} {e : Ending} (h : ExAns code W0 cb cv X x e Y) (hxy : y = x) : ExAns code W0 cb cv X y e Y:=hxy ▸ h
theorem OwnV.scell {base : Nat} {v : Value} {xs : List ByteArray} (h : OwnV elStr X base v xs) {i : Nat} (hi : i < xs.length) (hn : xs.length ≤ 1000) : ∃ g cap,v = .slice (some ⟨g,0,none⟩) xs.length cap ∧ X.cell? ⟨g,i,none⟩ = some (.string (xs.getD i noN)):=by
 obtain ⟨a,cap,hv,_,_,hx⟩:=h.at (R:=RFlat elStr) (fun _ _ => rfl) (by simp [elStr]; omega)
 obtain ⟨b,o,cs,rfl,_,hb,hl,hc,hR⟩:=hx i hi
 rcases h.shape with ⟨_,h0⟩ | ⟨g,cap1,hv1,_⟩
 ·rw [h0] at hi
  exact absurd hi (by simp)
 rw [hv] at hv1
 simp only [Value.slice.injEq,Option.some.injEq,Addr.mk.injEq] at hv1
 obtain ⟨⟨rfl,rfl,_⟩,_,rfl⟩:=hv1
 have h0:=hc 0 (by rw [hR]; simp [elStr])
 have e : cs = [.string xs[i]]:=hR
 subst e
 refine ⟨_,_,hv,?_⟩
 rw [List.getD_eq_getElem?_getD,List.getElem?_eq_getElem hi]
 simpa [elStr] using h0
end
end Go.Proofs.YtajabbnlbopcbaaGreatDoor
namespace Go.Proofs.YtajabbnlbopcbaaGreatDoor
open Go.RowKit
set_option linter.unusedSimpArgs false
set_option linter.unusedVariables false
section
variable {code : List Int} {W0 : World} {cb : Nat} {cv : Value} {w : World} {c c' : Cur} {vs : List DVar} {sv kv : Value} {k : List DCond} {b7 rank : Nat} {X Y : World}
set_option maxRecDepth 4000 in
set_option maxHeartbeats 8000000 in
theorem exp_leaf0 {f : Nat} {d : Int} (hd0 : 0 ≤ d) (hd6 : d ≤ 6) {kind : Int} {late : Bool} (hin : ExIn code W0 cb cv vs w c sv kv k) (hok : okB (kE f) c) {how : Nat} {c3 : Cur} (hP12 : pkF code 12 (dcR c) = (how,c3)) (hlf : c3.room ≤ 0 ∨ 5 < d ∨ how ≤ 1) (hnm : (fnF vs rank kind k late).length = 0) :
  Calls Tryz.prog 32 #[.pointer (some ⟨cb,0,none⟩),.agg #[sv,.int .i64 rank],.int .i64 kind,kv,.bool late,.int .i64 d] w (ExAns code W0 cb cv w (lfF code (fnF vs rank kind k late) kind c3)):=by
 have hkE : 3 ≤ kE (f):=by generalize f = F9; cases F9 <;> simp [kE]
 obtain ⟨sa,sc,rfl⟩:=hin.sl.shape
 obtain ⟨ka,kc,rfl⟩:=hin.kl.shape
 have hcu:=hin.cu
 have hblk:=hcu.blk
 have hcl:=hblk.lt
 obtain ⟨A,hAA⟩ : ∃ A,A = w.setCell ⟨cb,2,none⟩ (.int .i64 (c.room - 1)):=⟨_,rfl⟩
 have hTA : Tr cb w A:=hAA ▸ Tr.setCell _ _ _ _
 have hcA : CuAt code W0 cb cv A (dcR c):=hcu.go hTA (by rw [hAA]; exact hblk.set 2 _)
 have hAz : A.heap.size = w.heap.size:=by rw [hAA]; simp
 obtain ⟨B,hBB⟩ : ∃ B,B = A.alloc (.cells #[.slice sa vs.length sc,.int .i64 rank] 91):=⟨_,rfl⟩
 have hB : Below A.heap.size A B:=hBB ▸ (Below.refl _ _).alloc (Nat.le_refl _) _
 have hbs : BlkAt B w.heap.size 91 #[.slice sa vs.length sc,.int .i64 rank]:=by rw [hBB,← hAz]; exact blk_box A _ _
 have hcB:=hcA.below hB
 have hxB : Xs code W0 cb cv w w.heap.size (.slice sa vs.length sc) rank B (dcR c):=⟨hcB,hbs,hTA.trans (Tr.of_below hB),hcl,Nat.le_refl _⟩
 have hinB:=hin.at hxB
 have HFD:=hide (find_ok (hinB.sl.lower RVar_lowers (Nat.zero_le _)) (hinB.kl.lower RCond_lowers (Nat.zero_le _)) (Nat.le_trans hin.few (by omega)) rank kind late)
 have hok1 : okB (kE (f) - 1) (dcR c):=by
  obtain ⟨g1,g2,g3,g4⟩:=hok
  exact ⟨by simp only [dcR]; omega,by simp only [dcR]; omega,by simp only [dcR]; omega,g4⟩
 have hokp : okB (kE (f) - 2) (pkF code 12 (dcR c)).2:=pkF_ok (by rw [show kE (f) - 2 + 1 = kE (f) - 1 by omega]; exact hok1)
 have hrm:=pkF_room code 12 (dcR c)
 have hhow:=pkF_lt code (m:=12) (dcR c) (by omega)
 have HPK : Hid (∀ X,Below B.heap.size B X → Calls Tryz.prog 9 #[.pointer (some ⟨cb,0,none⟩),.int .i64 12] X (CuAns code W0 cb cv X (.int .i64 (pkF code 12 (dcR c)).1) (pkF code 12 (dcR c)).2)):=hide (fun X hX => pick_ok (hcB.below hX) 12 (by omega) (hok1.less (by omega)))
 have c2:=hblk.cell (i:=2) (v:=.int .i64 c.room) rfl
 have f2:=hblk.free 2
 have s0:=hxB.box.cell (i:=0) (v:=.slice sa vs.length sc) rfl
 have s1:=hxB.box.cell (i:=1) (v:=.int .i64 rank) rfl
 obtain ⟨PO,hPO⟩ : ∃ PO : Ending → World → Prop,PO = ExAns code W0 cb cv w (lfF code (fnF vs rank kind k late) kind c3):=⟨_,rfl⟩
 rw [← hPO]
 have HPO:=hide hPO
 have HIN:=hide hin
 have HXB:=hide hxB
 have HAB:=hide (And.intro hAA hBB)
 have hbd:=hok
 obtain ⟨r1,r2,r3,r4⟩:=hbd
 have hrm2 : (pkF code 12 (dcR c)).2.room = c.room - 1:=hrm
 rw [hBB,hAA] at s0 s1
 clear hcu hblk hTA hcA hAz hB hbs hcB hxB hinB hok1 hPO hin hAA hBB hrm
 rw [hP12] at hokp hhow hrm2 HPK
 replace hokp : okB (kE (f) - 2) c3:=hokp
 replace hhow : how < 12:=hhow
 replace hrm2 : c3.room = c.room - 1:=hrm2
 replace HPK : Hid (∀ X,Below B.heap.size B X → Calls Tryz.prog 9 #[.pointer (some ⟨cb,0,none⟩),.int .i64 12] X (CuAns code W0 cb cv X (.int .i64 how) c3)):=HPK
 clear hP12
 go_enter Tryz.func32,Tryz.ntmps32
 go_wp2_with fail
 rw [← (uh HAB).1,← (uh HAB).2]
 refine (uh HFD).mono ?_
 rintro e w2 ⟨na,ncap,rfl,hno,hb2⟩
 have HP3:=hide (uh HPK _ hb2)
 have HX2:=hide ((uh HXB).below hb2)
 have HNO:=hide hno
 clear hno HFD HPK s0 s1 c2 f2
 go_wp2_with fail
 refine (uh HP3).mono ?_
 rintro e w3 ⟨rfl,hc3,ht3⟩
 have HX3:=hide ((uh HX2).go hc3 ht3)
 have hnb : ∀ b,(Value.slice na (fnF vs rank kind k late).length ncap).ownBlock = some b → b ≠ cb:=fun b hb => by have:=(World.ownsRow.lt (uh HNO) b hb).1; have:=(uh HXB).tr.size; omega
 have HN3:=hide ((uh HNO).ofBlock (fun b hb => ht3.block b (World.ownsRow.lt (uh HNO) b hb).2 (hnb b hb)))
 have y2:=(uh HX3).cu.blk.cell (i:=2) (v:=.int .i64 c3.room) rfl
 have t0:=(uh HX3).box.cell (i:=0) (v:=.slice sa vs.length sc) rfl
 have t1:=(uh HX3).box.cell (i:=1) (v:=.int .i64 rank) rfl
 have hBz:=(uh HXB).tr.size
 have hfl:=fnTo_len vs rank kind k late vs.length
 clear hc3 ht3 hnb HP3 HX2 HNO hb2 hrm2
 have hcs : (decide (c3.room ≤ 0) = true) ∨ (decide (c3.room ≤ 0) = false ∧ decide (5 < d) = true) ∨ (decide (c3.room ≤ 0) = false ∧ decide (5 < d) = false ∧ decide ((how : Int) ≤ 1) = true):=by
  simp only [decide_eq_true_eq,decide_eq_false_iff_not]
  omega
 have hov : okB 1 c3:=hokp.less (by omega)
 have hfw:=(uh HIN).few
 have hfl2 : (fnF vs rank kind k late).length ≤ 100:=Nat.le_trans hfl hfw
 clear hlf hfl
 have HF : Hid (∀ e X,ExAns code W0 cb cv w3 (cnF code kind c3) e X → PO e X):=fun e X hx => by
  rw [uh HPO]
  have e9 : lfF code (fnF vs rank kind k late) kind c3 = cnF code kind c3:=by unfold lfF; rw [if_pos hnm]
  rw [e9]
  exact hx.up (uh HX3).tr
 have HCN:=hide (const_ok (uh HX3).cu kind hov)
 clear HN3 HIN HPO HX3
 try rw [hnm]
 clear hnm hfl2
 rcases hcs with q1 | ⟨q1,q2⟩ | ⟨q1,q2,q3⟩
 all_goals
  go_wp2_with fail
  refine (uh HCN).mono ?_
  rintro e w4 h4
  have HF4:=hide (uh HF _ _ h4)
  obtain ⟨a4,cap4,rfl,_⟩:=h4
  clear HF HCN
  go_wp2
  first | go_ret | skip
  exact uh HF4
set_option maxRecDepth 4000 in
set_option maxHeartbeats 8000000 in
theorem exp_leaf1 {f : Nat} {d : Int} (hd0 : 0 ≤ d) (hd6 : d ≤ 6) {kind : Int} {late : Bool} (hin : ExIn code W0 cb cv vs w c sv kv k) (hok : okB (kE f) c) {how : Nat} {c3 : Cur} (hP12 : pkF code 12 (dcR c) = (how,c3)) (hlf : c3.room ≤ 0 ∨ 5 < d ∨ how ≤ 1) (hnm : 0 < (fnF vs rank kind k late).length) :
  Calls Tryz.prog 32 #[.pointer (some ⟨cb,0,none⟩),.agg #[sv,.int .i64 rank],.int .i64 kind,kv,.bool late,.int .i64 d] w (ExAns code W0 cb cv w (lfF code (fnF vs rank kind k late) kind c3)):=by
 have hkE : 3 ≤ kE (f):=by generalize f = F9; cases F9 <;> simp [kE]
 obtain ⟨sa,sc,rfl⟩:=hin.sl.shape
 obtain ⟨ka,kc,rfl⟩:=hin.kl.shape
 have hcu:=hin.cu
 have hblk:=hcu.blk
 have hcl:=hblk.lt
 obtain ⟨A,hAA⟩ : ∃ A,A = w.setCell ⟨cb,2,none⟩ (.int .i64 (c.room - 1)):=⟨_,rfl⟩
 have hTA : Tr cb w A:=hAA ▸ Tr.setCell _ _ _ _
 have hcA : CuAt code W0 cb cv A (dcR c):=hcu.go hTA (by rw [hAA]; exact hblk.set 2 _)
 have hAz : A.heap.size = w.heap.size:=by rw [hAA]; simp
 obtain ⟨B,hBB⟩ : ∃ B,B = A.alloc (.cells #[.slice sa vs.length sc,.int .i64 rank] 91):=⟨_,rfl⟩
 have hB : Below A.heap.size A B:=hBB ▸ (Below.refl _ _).alloc (Nat.le_refl _) _
 have hbs : BlkAt B w.heap.size 91 #[.slice sa vs.length sc,.int .i64 rank]:=by rw [hBB,← hAz]; exact blk_box A _ _
 have hcB:=hcA.below hB
 have hxB : Xs code W0 cb cv w w.heap.size (.slice sa vs.length sc) rank B (dcR c):=⟨hcB,hbs,hTA.trans (Tr.of_below hB),hcl,Nat.le_refl _⟩
 have hinB:=hin.at hxB
 have HFD:=hide (find_ok (hinB.sl.lower RVar_lowers (Nat.zero_le _)) (hinB.kl.lower RCond_lowers (Nat.zero_le _)) (Nat.le_trans hin.few (by omega)) rank kind late)
 have hok1 : okB (kE (f) - 1) (dcR c):=by
  obtain ⟨g1,g2,g3,g4⟩:=hok
  exact ⟨by simp only [dcR]; omega,by simp only [dcR]; omega,by simp only [dcR]; omega,g4⟩
 have hokp : okB (kE (f) - 2) (pkF code 12 (dcR c)).2:=pkF_ok (by rw [show kE (f) - 2 + 1 = kE (f) - 1 by omega]; exact hok1)
 have hrm:=pkF_room code 12 (dcR c)
 have hhow:=pkF_lt code (m:=12) (dcR c) (by omega)
 have HPK : Hid (∀ X,Below B.heap.size B X → Calls Tryz.prog 9 #[.pointer (some ⟨cb,0,none⟩),.int .i64 12] X (CuAns code W0 cb cv X (.int .i64 (pkF code 12 (dcR c)).1) (pkF code 12 (dcR c)).2)):=hide (fun X hX => pick_ok (hcB.below hX) 12 (by omega) (hok1.less (by omega)))
 have c2:=hblk.cell (i:=2) (v:=.int .i64 c.room) rfl
 have f2:=hblk.free 2
 have s0:=hxB.box.cell (i:=0) (v:=.slice sa vs.length sc) rfl
 have s1:=hxB.box.cell (i:=1) (v:=.int .i64 rank) rfl
 obtain ⟨PO,hPO⟩ : ∃ PO : Ending → World → Prop,PO = ExAns code W0 cb cv w (lfF code (fnF vs rank kind k late) kind c3):=⟨_,rfl⟩
 rw [← hPO]
 have HPO:=hide hPO
 have HIN:=hide hin
 have HXB:=hide hxB
 have HAB:=hide (And.intro hAA hBB)
 have hbd:=hok
 obtain ⟨r1,r2,r3,r4⟩:=hbd
 have hrm2 : (pkF code 12 (dcR c)).2.room = c.room - 1:=hrm
 rw [hBB,hAA] at s0 s1
 clear hcu hblk hTA hcA hAz hB hbs hcB hxB hinB hok1 hPO hin hAA hBB hrm
 rw [hP12] at hokp hhow hrm2 HPK
 replace hokp : okB (kE (f) - 2) c3:=hokp
 replace hhow : how < 12:=hhow
 replace hrm2 : c3.room = c.room - 1:=hrm2
 replace HPK : Hid (∀ X,Below B.heap.size B X → Calls Tryz.prog 9 #[.pointer (some ⟨cb,0,none⟩),.int .i64 12] X (CuAns code W0 cb cv X (.int .i64 how) c3)):=HPK
 clear hP12
 go_enter Tryz.func32,Tryz.ntmps32
 go_wp2_with fail
 rw [← (uh HAB).1,← (uh HAB).2]
 refine (uh HFD).mono ?_
 rintro e w2 ⟨na,ncap,rfl,hno,hb2⟩
 have HP3:=hide (uh HPK _ hb2)
 have HX2:=hide ((uh HXB).below hb2)
 have HNO:=hide hno
 clear hno HFD HPK s0 s1 c2 f2
 go_wp2_with fail
 refine (uh HP3).mono ?_
 rintro e w3 ⟨rfl,hc3,ht3⟩
 have HX3:=hide ((uh HX2).go hc3 ht3)
 have hnb : ∀ b,(Value.slice na (fnF vs rank kind k late).length ncap).ownBlock = some b → b ≠ cb:=fun b hb => by have:=(World.ownsRow.lt (uh HNO) b hb).1; have:=(uh HXB).tr.size; omega
 have HN3:=hide ((uh HNO).ofBlock (fun b hb => ht3.block b (World.ownsRow.lt (uh HNO) b hb).2 (hnb b hb)))
 have y2:=(uh HX3).cu.blk.cell (i:=2) (v:=.int .i64 c3.room) rfl
 have t0:=(uh HX3).box.cell (i:=0) (v:=.slice sa vs.length sc) rfl
 have t1:=(uh HX3).box.cell (i:=1) (v:=.int .i64 rank) rfl
 have hBz:=(uh HXB).tr.size
 have hfl:=fnTo_len vs rank kind k late vs.length
 clear hc3 ht3 hnb HP3 HX2 HNO hb2 hrm2
 have hcs : (decide (c3.room ≤ 0) = true) ∨ (decide (c3.room ≤ 0) = false ∧ decide (5 < d) = true) ∨ (decide (c3.room ≤ 0) = false ∧ decide (5 < d) = false ∧ decide ((how : Int) ≤ 1) = true):=by
  simp only [decide_eq_true_eq,decide_eq_false_iff_not]
  omega
 have hov : okB 1 c3:=hokp.less (by omega)
 have hfw:=(uh HIN).few
 have hfl2 : (fnF vs rank kind k late).length ≤ 100:=Nat.le_trans hfl hfw
 clear hlf hfl
 have e9 : lfF code (fnF vs rank kind k late) kind c3 = ([⟨3,0,(fnF vs rank kind k late).getD (pkF code (fnF vs rank kind k late).length c3).1 noN⟩],(pkF code (fnF vs rank kind k late).length c3).2):=by unfold lfF; rw [if_neg (by omega)]
 rw [e9] at HPO
 clear e9
 generalize fnF vs rank kind k late = NM at *
 have HPK:=hide (pick_ok (uh HX3).cu NM.length (by omega) hov)
 have hlt:=pkF_lt code (m:=NM.length) c3 (by omega)
 have HTR:=hide (uh HX3).tr
 have hcB2 : cb < B.heap.size:=by omega
 generalize pkF code NM.length c3 = P at *
 obtain ⟨j,c4⟩:=P
 have HPK2 : Hid (Calls Tryz.prog 9 #[.pointer (some ⟨cb,0,none⟩),.int .i64 NM.length] w3 (CuAns code W0 cb cv w3 (.int .i64 j) c4)):=HPK
 have hj : j < NM.length:=hlt
 have HPO2 : Hid (PO = ExAns code W0 cb cv w ([⟨3,0,NM.getD j noN⟩],c4)):=HPO
 clear HIN HPO HX3 HPK hlt
 have dn : decide (0 < (NM.length : Int)) = true:=by simp; omega
 have hjI : (j : Int) < (NM.length : Int):=by omega
 obtain ⟨g,cap,hv,_⟩:=(uh HN3).scell hj (by omega)
 rw [hv]
 rw [hv] at HN3
 clear hv
 rcases hcs with q1 | ⟨q1,q2⟩ | ⟨q1,q2,q3⟩
 all_goals
  go_wp2_with fail
  refine (uh HPK2).mono ?_
  rintro e w4 ⟨rfl,hc4,ht4⟩
  obtain ⟨g2,cap2,hv2,g0⟩:=((uh HN3).trk ht4 hcB2).scell hj (by omega)
  simp only [Value.slice.injEq,Option.some.injEq,Addr.mk.injEq] at hv2
  obtain ⟨⟨rfl,_,_⟩,_,rfl⟩:=hv2
  have HF:=hide (one_item (op:=3) (val:=0) (nm:=NM.getD j noN) hc4 ((uh HTR).trans ht4))
  clear HPK2 hc4 ht4
  generalize NM.getD j noN = nm at *
  generalize NM.length = NL at *
  go_wp2
  first | go_ret | skip
  rw [uh HPO2]
  exact uh HF
theorem exp_leaf {f : Nat} {d : Int} (hd0 : 0 ≤ d) (hd6 : d ≤ 6) {kind : Int} {late : Bool} (hin : ExIn code W0 cb cv vs w c sv kv k) (hok : okB (kE f) c) {how : Nat} {c3 : Cur} (hP12 : pkF code 12 (dcR c) = (how,c3)) (hlf : c3.room ≤ 0 ∨ 5 < d ∨ how ≤ 1) :
  Calls Tryz.prog 32 #[.pointer (some ⟨cb,0,none⟩),.agg #[sv,.int .i64 rank],.int .i64 kind,kv,.bool late,.int .i64 d] w (ExAns code W0 cb cv w (lfF code (fnF vs rank kind k late) kind c3)):=by
 rcases Nat.eq_zero_or_pos (fnF vs rank kind k late).length with h | h
 ·exact exp_leaf0 hd0 hd6 hin hok hP12 hlf h
 ·exact exp_leaf1 hd0 hd6 hin hok hP12 hlf h
end
end Go.Proofs.YtajabbnlbopcbaaGreatDoor
