import Derived.Test.YtajabbnlbopcbaaGreatDoorVNJ
import Derived.Test.YtajabbnlbopcbaaGreatDoorData
import Derived.Test.YtajabbnlbopcbaaGreatDoorProg
import Derived.WalkLawsBesides
import Derived.Deep.LoopGhost
import Derived.Deep.RegionWith
import Derived.RegionTactic
import Derived.BigQuiet
import Derived.Deep.QuietTactic
namespace Go.Proofs.YtajabbnlbopcbaaGreatDoor
open Go.RowKit
set_option linter.unusedSimpArgs false
set_option linter.unusedVariables false
theorem Np.cells {lo : Nat} {X : World} {v : Value} {ns : List DNode} (hr : Np lo X v ns) {i : Nat} (hi : i < ns.length) (hl : ns.length ≤ 100) : ∃ g cap nm a1 n1 c1 a2 n2 c2 a3 n3 c3 a4 n4 c4,v = .slice (some ⟨g,0,none⟩) ns.length cap ∧ lo ≤ g ∧ (X.cell? ⟨g,i * 5,none⟩ = some (.string nm) ∧ X.cell? ⟨g,i * 5 + 1,none⟩ = some (.slice a1 n1 c1) ∧ X.cell? ⟨g,i * 5 + 2,none⟩ = some (.slice a2 n2 c2) ∧ X.cell? ⟨g,i * 5 + 3,none⟩ = some (.slice a3 n3 c3) ∧ X.cell? ⟨g,i * 5 + 4,none⟩ = some (.slice a4 n4 c4)) ∧ n1 = ns[i].ins.length ∧ ∀ l,l ≤ lo → SlAt 3 48 RVar l X (.slice a1 n1 c1) ns[i].ins:=by
 obtain ⟨css,subs,h1,h2,h3⟩:=hr
 have hcl:=h2.len
 have hi2 : i < css.length:=by omega
 obtain ⟨g,cap,hv,hg,_,hcell⟩:=h1.rcell rfl (fun _ => rfl) hi2 (show css.length * 112 ≤ _ by omega)
 obtain ⟨v1,v2,v3,v4,b1,b2,b3,b4,e,hn,t1,t2,t3,t4,hbs⟩:=h2.get i hi2 hi (by omega)
 have s1:=t1
 have s2:=t2
 have s3:=t3
 have s4:=t4
 obtain ⟨q1,_,o1,_,l1,_⟩:=s1
 obtain ⟨q2,_,o2,_,l2,_⟩:=s2
 obtain ⟨q3,_,o3,_,l3,_⟩:=s3
 obtain ⟨q4,_,o4,_,l4,_⟩:=s4
 obtain ⟨a1,c1,rfl⟩:=o1.slice
 obtain ⟨a2,c2,rfl⟩:=o2.slice
 obtain ⟨a3,c3,rfl⟩:=o3.slice
 obtain ⟨a4,c4,rfl⟩:=o4.slice
 refine ⟨g,cap,ns[i].name,a1,q1.length,c1,a2,q2.length,c2,a3,q3.length,c3,a4,q4.length,c4,by rw [hv,hcl.1],hg,⟨?_,?_,?_,?_,?_⟩,l1.len.1,fun l hl9 => t1.slLo rfl (fun _ => rfl) (fun cs x bs h g => TVar_lo h g) (fun b hb => ?_)⟩
 ·have h9:=hcell 0 _ (by rw [e]; rfl)
  simpa using h9
 ·exact hcell 1 _ (by rw [e]; rfl)
 ·exact hcell 2 _ (by rw [e]; rfl)
 ·exact hcell 3 _ (by rw [e]; rfl)
 ·exact hcell 4 _ (by rw [e]; rfl)
 ·have:=(h3 b (List.mem_flatten.2 ⟨_,List.getElem_mem (n:=i) (by omega),by rw [hbs]; simp [hb]⟩)).1
  omega
def c00 : Cur:=⟨0,0,0⟩
def DcAns (code : List Int) (w : World) (e : Ending) (w' : World) : Prop:=∃ (at_ : Int) (a : Option Addr) (n cap : Nat) (ra : Option Addr) (rn rc : Nat),e = .returned (.tuple #[.agg #[.slice a n cap],.int .i64 at_,.slice ra rn rc]) ∧ SlAt 5 112 RNode w.heap.size w' (.slice a n cap) (prF code c00).1 ∧ Below w.heap.size w w'
set_option maxHeartbeats 8000000 in
set_option maxRecDepth 8000 in
theorem drawn_ok {code : List Int} {w : World} {cv : Value} (hcod : SlAt 1 1 RByte 0 w cv code) (hfew : code.length ≤ 1048576) : Calls Tryz.prog 4 #[cv] w (DcAns code w):=by
 obtain ⟨ca,cc,rfl⟩:=hcod.shape
 obtain ⟨A,hAA⟩ : ∃ A,A = (w.alloc (.cells #[.slice none 0 0] 25)).alloc (.cells #[.slice ca code.length cc,.int .i64 0,.int .i64 0,.int .i64 0] 36):=⟨_,rfl⟩
 have hA : Below w.heap.size w A:=hAA ▸ ((Below.refl _ _).alloc (Nat.le_refl _) _).alloc (by simp) _
 have hrb : BlkAt A w.heap.size 25 #[.slice none 0 0]:=hAA ▸ (blk_box w _ _).below ((Below.refl _ _).alloc (Nat.le_refl _) _) (by simp)
 have hcb : BlkAt A (w.heap.size + 1) 36 #[.slice ca code.length cc,.int .i64 0,.int .i64 0,.int .i64 0]:=by
  have h9:=blk_box (w.alloc (.cells #[.slice none 0 0] 25)) #[.slice ca code.length cc,.int .i64 0,.int .i64 0,.int .i64 0] 36
  rw [hAA]
  simpa using h9
 have hcu : CuAt code w (w.heap.size + 1) (.slice ca code.length cc) A c00:=⟨hcod,hfew,by omega,hA,hcb⟩
 have hok : okB 200000 c00:=⟨by decide,by decide,by decide,by decide⟩
 have HPD:=hide (program_drawn hcu (hok.less (by omega)))
 obtain ⟨f1,f2,f3,f4⟩:=prF_ok code c00
 have HOK : Hid (okB 70000 (prF code c00).2):=f4 _ (hok.less (by omega))
 obtain ⟨PO,hPO⟩ : ∃ PO : Ending → World → Prop,PO = DcAns code w:=⟨_,rfl⟩
 rw [← hPO]
 have HFI : Hid (∀ n ∈ (prF code c00).1,n.ins.length ≤ 3):=hide (fun n hn => (f1 n hn).2.1)
 have HPO : Hid (∀ (at_ : Int) (a : Option Addr) (n cap : Nat) (ra : Option Addr) (rn rc : Nat) Y,SlAt 5 112 RNode w.heap.size Y (.slice a n cap) (prF code c00).1 → Below w.heap.size w Y → PO (.returned (.tuple #[.agg #[.slice a n cap],.int .i64 at_,.slice ra rn rc])) Y):=hide (fun at_ a n cap ra rn rc Y h1 h2 => by rw [hPO]; exact ⟨at_,a,n,cap,ra,rn,rc,rfl,h1,h2⟩)
 generalize prF code c00 = PR at *
 obtain ⟨ns,c1⟩:=PR
 replace HPD : Hid (Calls Tryz.prog 8 #[.pointer (some ⟨w.heap.size + 1,0,none⟩)] A (PrAns code w (w.heap.size + 1) (.slice ca code.length cc) A (ns,c1))):=HPD
 replace f2 : 1 ≤ ns.length:=f2
 replace f3 : ns.length ≤ 3:=f3
 replace HOK : Hid (okB 70000 c1):=HOK
 have HA:=hide (And.intro hA hrb)
 have HAA:=hide hAA
 have hAz:=hcb.lt
 clear hA hrb hcb hcu hok hcod f1 f4 hPO hAA
 go_enter Tryz.func4,Tryz.ntmps4
 go_wp2_with fail
 rw [← uh HAA]
 refine (uh HPD).mono ?_
 rintro e X1 ⟨pa,pn,pc,rfl,hpn,hnp,hc1,ht1⟩
 have hpn:=uh hpn
 replace hpn : pn = ns.length:=hpn
 subst hpn
 obtain ⟨B,hBB⟩ : ∃ B,B = X1.alloc (.cells #[.slice pa ns.length pc] 25):=⟨_,rfl⟩
 have hB : Below X1.heap.size X1 B:=hBB ▸ (Below.refl _ _).alloc (Nat.le_refl _) _
 have hpb : BlkAt B X1.heap.size 25 #[.slice pa ns.length pc]:=hBB ▸ blk_box X1 _ _
 have hrbB:=(ht1.blk (uh HA).2 (by omega)).below hB (by have:=(ht1.blk (uh HA).2 (by omega)).lt; omega)
 have hcB:=hc1.below hB
 have htB : Tr (w.heap.size + 1) A B:=ht1.trans (Tr.of_below hB)
 have hnB:=hnp.below hB
 have HP6:=hide (pick_ok hcB 6 (by omega) ((uh HOK).less (by omega)))
 have HO6 : Hid (okB 60000 (pkF code 6 c1).2):=pkF_ok ((uh HOK).less (by omega))
 generalize pkF code 6 c1 = Q6 at *
 obtain ⟨p6,c6⟩:=Q6
 replace HP6 : Hid (Calls Tryz.prog 9 #[.pointer (some ⟨w.heap.size + 1,0,none⟩),.int .i64 6] B (CuAns code w (w.heap.size + 1) (.slice ca code.length cc) B (.int .i64 p6) c6)):=HP6
 replace HO6 : Hid (okB 60000 c6):=HO6
 have i0:=hpb.cell (i:=0) (v:=.slice pa ns.length pc) rfl
 have hX1:=ht1.size
 have HBB:=hide hBB
 rw [hBB] at i0
 have HST:=hide (And.intro hpb (And.intro hrbB (And.intro hcB (And.intro htB hnB))))
 have hw1 : IntKind.i64.wrap ((ns.length : Int) - 1) = ((ns.length - 1 : Nat) : Int):=by rw [IntKind.wrap_i64]; omega
 clear hnp hc1 ht1 hB hpb hrbB hcB htB hnB hBB HPD HOK HAA
 go_wp2_with fail
 rw [← uh HBB]
 refine (uh HP6).mono ?_
 rintro e X2 ⟨rfl,hc2,ht2⟩
 obtain ⟨hpb,hrbB,hcB,htB,hnB⟩:=uh HST
 have hpb2:=ht2.blk hpb (by omega)
 have hrb2:=ht2.blk hrbB (by omega)
 have ht02:=htB.trans ht2
 have hn2 : Np A.heap.size X2 (.slice pa ns.length pc) ns:=hnB.kp (KpH.ofTr (h:=0) ht2 hcB.blk (Nat.zero_le _)) (by decide) (by decide)
 clear hpb hrbB hcB htB hnB HP6 HST i0 HBB
 have HEND : Hid (∀ (q : Nat) (c9 : Cur) X9,q < ns.length → CuAt code w (w.heap.size + 1) (.slice ca code.length cc) X9 c9 → Tr (w.heap.size + 1) X2 X9 → okB 60 c9 → ∃ g cap nm a1 n1 k1 a2 n2 k2 a3 n3 k3 a4 n4 k4,pa = some ⟨g,0,none⟩ ∧ pc = cap ∧ (X9.cell? ⟨g,q * 5,none⟩ = some (.string nm) ∧ X9.cell? ⟨g,q * 5 + 1,none⟩ = some (.slice a1 n1 k1) ∧ X9.cell? ⟨g,q * 5 + 2,none⟩ = some (.slice a2 n2 k2) ∧ X9.cell? ⟨g,q * 5 + 3,none⟩ = some (.slice a3 n3 k3) ∧ X9.cell? ⟨g,q * 5 + 4,none⟩ = some (.slice a4 n4 k4)) ∧ X9.cell? ⟨X1.heap.size,0,none⟩ = some (.slice pa ns.length pc) ∧ Hid (∀ W,Below X9.heap.size X9 W → Calls Tryz.prog 10 #[.pointer (some ⟨w.heap.size + 1,0,none⟩),.agg #[.string nm,.slice a1 n1 k1,.slice a2 n2 k2,.slice a3 n3 k3,.slice a4 n4 k4],.int .i64 10] W (fun e Y => ∃ ra rn rc,e = .returned (.slice ra rn rc) ∧ Y.cell? ⟨X1.heap.size,0,none⟩ = some (.slice pa ns.length pc) ∧ Y.cell? ⟨w.heap.size,0,none⟩ = some (.slice none 0 0) ∧ Y.frozen? ⟨w.heap.size,0,none⟩ = false ∧ w.heap.size < Y.heap.size ∧ (Y.setCell ⟨w.heap.size,0,none⟩ (.slice pa ns.length pc)).cell? ⟨w.heap.size,0,none⟩ = some (.slice pa ns.length pc) ∧ Hid (∀ at_ : Int,PO (.returned (.tuple #[.agg #[.slice pa ns.length pc],.int .i64 at_,.slice ra rn rc])) (Y.setCell ⟨w.heap.size,0,none⟩ (.slice pa ns.length pc)))))):=by
  intro q c9 X9 hq hc9 ht9 hok9
  have hn9 : Np A.heap.size X9 (.slice pa ns.length pc) ns:=hn2.kp (KpH.ofTr (h:=0) ht9 hc2.blk (Nat.zero_le _)) (by decide) (by decide)
  have hp9:=ht9.blk hpb2 (by omega)
  have hr9:=ht9.blk hrb2 (by omega)
  have h09:=ht02.trans ht9
  obtain ⟨g,cap,nm,a1,n1,k1,a2,n2,k2,a3,n3,k3,a4,n4,k4,hv,hg,hcs,hl9,hsl⟩:=hn9.cells hq (by omega)
  simp only [Value.slice.injEq,true_and] at hv
  refine ⟨g,cap,nm,a1,n1,k1,a2,n2,k2,a3,n3,k3,a4,n4,k4,hv.1,hv.2,hcs,hp9.cell (i:=0) rfl,hide (fun W hW => ?_)⟩
  have hi3:=uh HFI ns[q] (List.getElem_mem hq)
  rw [hl9] at hsl ⊢
  refine (rows_drawn (hc9.below hW) ((hsl _ (by omega)).kept RVar_kept (Kept.of_below hW)) hi3 hok9).mono ?_
  rintro e Y ⟨ra,rn,rc,rfl,htY⟩
  have htW : Tr (w.heap.size + 1) X9 Y:=(Tr.of_below hW).trans htY
  have hpY:=htW.blk hp9 (by omega)
  have hrY:=htW.blk hr9 (by omega)
  have h0Y:=h09.trans htW
  have hnY : Np A.heap.size Y (.slice pa ns.length pc) ns:=hn9.kp (KpH.ofTr (h:=0) htW hc9.blk (Nat.zero_le _)) (by decide) (by decide)
  have qs : KpH 25 w.heap.size Y (Y.setCell ⟨w.heap.size,0,none⟩ (.slice pa ns.length pc)):=KpH.set hrY (Nat.le_refl _) 0 _
  refine ⟨ra,rn,rc,rfl,hpY.cell (i:=0) rfl,hrY.cell (i:=0) rfl,hrY.free 0,hrY.lt,(hrY.set 0 _).cell (i:=0) rfl,hide (fun at_ => uh HPO at_ _ _ _ _ _ _ _ ((hnY.kp qs (by decide) (by decide)).sl (by omega) (by have:=(uh HA).1.size; omega)) ?_)⟩
  have hb1 : Below w.heap.size w Y:=(uh HA).1.trans (h0Y.below (uh HA).1.size (by omega))
  exact hb1.trans ((Tr.setCell w.heap.size Y 0 _).below hb1.size (Nat.le_refl _))
 have j0:=hpb2.cell (i:=0) (v:=.slice pa ns.length pc) rfl
 have HC2:=hide hc2
 clear hpb2 hrb2 ht02 hn2 hc2 ht2 HPO HFI
 by_cases h5 : p6 = 5
 ·have d5 : ((p6 : Int) == 5) = true:=by rw [beq_iff_eq]; omega
  have HPL:=hide (pick_ok (uh HC2) ns.length (by omega) ((uh HO6).less (by omega)))
  have hlt:=pkF_lt code (m:=ns.length) c6 (by omega)
  have HO9 : Hid (okB 60 (pkF code ns.length c6).2):=pkF_ok ((uh HO6).less (by omega))
  generalize pkF code ns.length c6 = Q9 at *
  obtain ⟨q,c9⟩:=Q9
  replace HPL : Hid (Calls Tryz.prog 9 #[.pointer (some ⟨w.heap.size + 1,0,none⟩),.int .i64 ns.length] X2 (CuAns code w (w.heap.size + 1) (.slice ca code.length cc) X2 (.int .i64 q) c9)):=HPL
  replace hlt : q < ns.length:=hlt
  clear h5
  go_wp2_with fail
  refine (uh HPL).mono ?_
  rintro e X3 ⟨rfl,hc3,ht3⟩
  obtain ⟨g,cap,nm,a1,n1,k1,a2,n2,k2,a3,n3,k3,a4,n4,k4,rfl,rfl,⟨x0,x1,x2,x3,x4⟩,x5,HIT⟩:=uh HEND q c9 X3 hlt hc3 ht3 (uh HO9)
  have hqI : (q : Int) < (ns.length : Int):=by omega
  clear hc3 ht3 HEND HPL j0
  go_wp2_with fail
  go_region_law (first | (go_simp; go_at_call 10; refine (uh HIT _ ((Below.refl _ _).drew)).mono ?_; rintro e Y ⟨ra,rn,rc,rfl,y1,y2,y3,y4,y5,HF⟩))
  all_goals
   go_wp2
   refine bodyPost_ret (v:=.tuple #[.agg #[.slice (some ⟨g,0,none⟩) ns.length pc],.int .i64 (q : Int),.slice ra rn rc]) ?_ rfl (uh HF q)
   simp [results,Tryz.results4,go_sem,y5]
 ·have d5 : ((p6 : Int) == 5) = false:=by rw [beq_eq_false_iff_ne]; omega
  obtain ⟨g,cap,nm,a1,n1,k1,a2,n2,k2,a3,n3,k3,a4,n4,k4,rfl,rfl,⟨x0,x1,x2,x3,x4⟩,x5,HIT⟩:=uh HEND (ns.length - 1) c6 X2 (by omega) (uh HC2) (Tr.refl _ _) ((uh HO6).less (by omega))
  have hqI : ((ns.length - 1 : Nat) : Int) < (ns.length : Int):=by omega
  have hlt : ns.length - 1 < ns.length:=by omega
  clear HEND j0 h5
  generalize ns.length - 1 = q at *
  go_wp2_with fail
  go_region_law (first | (go_simp; go_at_call 10; refine (uh HIT _ ((Below.refl _ _).drew)).mono ?_; rintro e Y ⟨ra,rn,rc,rfl,y1,y2,y3,y4,y5,HF⟩))
  all_goals
   go_wp2
   refine bodyPost_ret (v:=.tuple #[.agg #[.slice (some ⟨g,0,none⟩) ns.length pc],.int .i64 (q : Int),.slice ra rn rc]) ?_ rfl (uh HF q)
   simp [results,Tryz.results4,go_sem,y5]
def YesPost (w : World) (e : Ending) (w' : World) : Prop:=e = .returned (.bool true) ∧ Below w.heap.size w w'
theorem below_drewN {B : Nat} {w w' : World} (h : Below B w w') (n : Nat) : Below B w (w'.drewN n):=by
 induction n with
 | zero => exact h
 | succ n ih => exact ih.drew
set_option maxHeartbeats 1000000 in
theorem hNames_ok (xs : List ByteArray) (v u : Value) (w : World) (hv : SlAt 1 16 RStr 0 w v xs) (hu : SlAt 1 16 RStr 0 w u xs) :
  Calls Tryz.prog 18 #[v,u] w (YesPost w):=by
 obtain ⟨a,cap,rfl,_,hn,hx⟩:=hv
 obtain ⟨a2,cap2,rfl,_,_,hy⟩:=hu
 unfold Len at hn
 have HX:=hide hx
 have HY:=hide hy
 clear hx hy
 go_enter Tryz.func18,Tryz.ntmps18
 go_wp2
 go_loopg [13] xs.length (fun g i wr => ∃ (k : Nat),k ≤ xs.length ∧ g = xs.length - k ∧ i = .int .i64 k ∧ Below w.heap.size w wr)
 case atStart => exact ⟨0,Nat.zero_le _,by omega,rfl,Below.refl _ _⟩
 case round =>
  obtain ⟨k,hk,hg,rfl,hbl⟩:=hrel
  have HG:=hide hg
  clear hg
  by_cases hlt : k < xs.length
  ·obtain ⟨b,o,cs,rfl,_,hb,hcs,hc,hR⟩:=uh HX k hlt
   have hc : ∀ j (hj : j < cs.length),wr.cell? ⟨b,o + k * 1 + j,none⟩ = some cs[j]:=fun j hj => by rw [hbl.cell (p:=⟨b,_,none⟩) hb]; exact hc j hj
   obtain ⟨b2,o2,cs2,rfl,_,hb2,hcs2,hc2,hR2⟩:=uh HY k hlt
   have hc2 : ∀ j (hj : j < cs2.length),wr.cell? ⟨b2,o2 + k * 1 + j,none⟩ = some cs2[j]:=fun j hj => by rw [hbl.cell (p:=⟨b2,_,none⟩) hb2]; exact hc2 j hj
   have hR:=RStr_kept.stays _ _ _ _ _ hbl.drew hR
   have hR2:=RStr_kept.stays _ _ _ _ _ hbl.drew hR2
   obtain ⟨rfl,hsn⟩:=hR
   obtain ⟨rfl,hsn2⟩:=hR2
   have c0:=hc 0 (by simp)
   have d0:=hc2 0 (by simp)
   simp only [Nat.mul_one,Nat.add_zero,List.getElem_cons_zero,List.getElem_cons_succ] at c0 d0
   clear hc hcs hc2 hcs2
   have hlt' : (k : Int) < (xs.length : Int):=by omega
   generalize xs[k] = s at *
   go_wp2_with fail
   go_quiet (fail)
   go_wp2
   go_roundg (xs.length - (k + 1))
   case measure => have:=uh HG; omega
   case rel => exact ⟨k + 1,by omega,rfl,by go_num,below_drewN hbl _⟩
  ·go_wp2
   go_ret
   exact ⟨rfl,hbl⟩
set_option maxHeartbeats 1000000 in
theorem hCode_ok (xs : List DItem) (v u : Value) (w : World) (hv : SlAt 3 32 RItem 0 w v xs) (hu : SlAt 3 32 RItem 0 w u xs) :
  Calls Tryz.prog 19 #[v,u] w (YesPost w):=by
 obtain ⟨a,cap,rfl,_,hn,hx⟩:=hv
 obtain ⟨a2,cap2,rfl,_,_,hy⟩:=hu
 unfold Len at hn
 have HX:=hide hx
 have HY:=hide hy
 clear hx hy
 go_enter Tryz.func19,Tryz.ntmps19
 go_wp2
 go_loopg [13] xs.length (fun g i wr => ∃ (k : Nat),k ≤ xs.length ∧ g = xs.length - k ∧ i = .int .i64 k ∧ Below w.heap.size w wr)
 case atStart => exact ⟨0,Nat.zero_le _,by omega,rfl,Below.refl _ _⟩
 case round =>
  obtain ⟨k,hk,hg,rfl,hbl⟩:=hrel
  have HG:=hide hg
  clear hg
  by_cases hlt : k < xs.length
  ·obtain ⟨b,o,cs,rfl,_,hb,hcs,hc,hR⟩:=uh HX k hlt
   have hc : ∀ j (hj : j < cs.length),wr.cell? ⟨b,o + k * 3 + j,none⟩ = some cs[j]:=fun j hj => by rw [hbl.cell (p:=⟨b,_,none⟩) hb]; exact hc j hj
   obtain ⟨b2,o2,cs2,rfl,_,hb2,hcs2,hc2,hR2⟩:=uh HY k hlt
   have hc2 : ∀ j (hj : j < cs2.length),wr.cell? ⟨b2,o2 + k * 3 + j,none⟩ = some cs2[j]:=fun j hj => by rw [hbl.cell (p:=⟨b2,_,none⟩) hb2]; exact hc2 j hj
   have hR:=RItem_kept.stays _ _ _ _ _ hbl.drew hR
   have hR2:=RItem_kept.stays _ _ _ _ _ hbl.drew hR2
   obtain ⟨rfl,hsn,_,_⟩:=hR
   obtain ⟨rfl,hsn2,_,_⟩:=hR2
   have c0:=hc 0 (by simp)
   have d0:=hc2 0 (by simp)
   have c1:=hc 1 (by simp)
   have d1:=hc2 1 (by simp)
   have c2:=hc 2 (by simp)
   have d2:=hc2 2 (by simp)
   simp only [Nat.mul_one,Nat.add_zero,List.getElem_cons_zero,List.getElem_cons_succ] at c0 d0 c1 d1 c2 d2
   clear hc hcs hc2 hcs2
   have hlt' : (k : Int) < (xs.length : Int):=by omega
   generalize xs[k] = t at *
   obtain ⟨op,val,s⟩:=t
   simp only at *
   go_wp2_with fail
   go_quiet (fail)
   go_wp2
   go_roundg (xs.length - (k + 1))
   case measure => have:=uh HG; omega
   case rel => exact ⟨k + 1,by omega,rfl,by go_num,below_drewN hbl _⟩
  ·go_wp2
   go_ret
   exact ⟨rfl,hbl⟩
set_option maxHeartbeats 1000000 in
theorem hCodes_ok (xs : List (List DItem)) (v u : Value) (w : World) (hv : SlAt 1 24 RItems 0 w v xs) (hu : SlAt 1 24 RItems 0 w u xs) :
  Calls Tryz.prog 20 #[v,u] w (YesPost w):=by
 obtain ⟨a,cap,rfl,_,hn,hx⟩:=hv
 obtain ⟨a2,cap2,rfl,_,_,hy⟩:=hu
 unfold Len at hn
 have HX:=hide hx
 have HY:=hide hy
 clear hx hy
 go_enter Tryz.func20,Tryz.ntmps20
 go_wp2
 go_loopg [13] xs.length (fun g i wr => ∃ (k : Nat),k ≤ xs.length ∧ g = xs.length - k ∧ i = .int .i64 k ∧ Below w.heap.size w wr)
 case atStart => exact ⟨0,Nat.zero_le _,by omega,rfl,Below.refl _ _⟩
 case round =>
  obtain ⟨k,hk,hg,rfl,hbl⟩:=hrel
  have HG:=hide hg
  clear hg
  by_cases hlt : k < xs.length
  ·obtain ⟨b,o,cs,rfl,_,hb,hcs,hc,hR⟩:=uh HX k hlt
   have hc : ∀ j (hj : j < cs.length),wr.cell? ⟨b,o + k * 1 + j,none⟩ = some cs[j]:=fun j hj => by rw [hbl.cell (p:=⟨b,_,none⟩) hb]; exact hc j hj
   obtain ⟨b2,o2,cs2,rfl,_,hb2,hcs2,hc2,hR2⟩:=uh HY k hlt
   have hc2 : ∀ j (hj : j < cs2.length),wr.cell? ⟨b2,o2 + k * 1 + j,none⟩ = some cs2[j]:=fun j hj => by rw [hbl.cell (p:=⟨b2,_,none⟩) hb2]; exact hc2 j hj
   have hR:=RItems_kept.stays _ _ _ _ _ hbl.drew hR
   have hR2:=RItems_kept.stays _ _ _ _ _ hbl.drew hR2
   obtain ⟨p1,rfl,q1⟩:=hR
   have P1:=hide q1
   clear q1
   obtain ⟨p2,rfl,q2⟩:=hR2
   have P2:=hide q2
   clear q2
   have c0:=hc 0 (by simp)
   have d0:=hc2 0 (by simp)
   simp only [Nat.mul_one,Nat.add_zero,List.getElem_cons_zero,List.getElem_cons_succ] at c0 d0
   clear hc hcs hc2 hcs2
   have hlt' : (k : Int) < (xs.length : Int):=by omega
   go_wp2_with fail
   go_region_with (go_at_call 19; refine (hCode_ok _ _ _ _ (uh P1) (uh P2)).mono ?_; rintro e w1 ⟨rfl,hb1⟩)
   all_goals
    go_wp2
    go_roundg (xs.length - (k + 1))
    case measure => have:=uh HG; omega
    case rel => exact ⟨k + 1,by omega,rfl,by go_num,hbl.drew.trans (hb1.mono hbl.drew.size)⟩
  ·go_wp2
   go_ret
   exact ⟨rfl,hbl⟩
set_option maxHeartbeats 4000000 in
theorem hVars_ok (xs : List DVar) (v u : Value) (w : World) (hv : SlAt 3 48 RVar 0 w v xs) (hu : SlAt 3 48 RVar 0 w u xs) :
  Calls Tryz.prog 17 #[v,u] w (YesPost w):=by
 obtain ⟨a,cap,rfl,_,hn,hx⟩:=hv
 obtain ⟨a2,cap2,rfl,_,_,hy⟩:=hu
 unfold Len at hn
 have HX:=hide hx
 have HY:=hide hy
 clear hx hy
 go_enter Tryz.func17,Tryz.ntmps17
 go_wp2
 go_loopg [14] xs.length (fun g i wr => ∃ (k : Nat),k ≤ xs.length ∧ g = xs.length - k ∧ i = .int .i64 k ∧ Below w.heap.size w wr)
 case atStart => exact ⟨0,Nat.zero_le _,by omega,rfl,Below.refl _ _⟩
 case round =>
  obtain ⟨k,hk,hg,rfl,hbl⟩:=hrel
  rename World => wq
  have HG:=hide hg
  clear hg
  by_cases hlt : k < xs.length
  ·obtain ⟨b,o,cs,rfl,_,hb,hcs,hc,hR⟩:=uh HX k hlt
   obtain ⟨b2,o2,cs2,rfl,_,hb2,hcs2,hc2,hR2⟩:=uh HY k hlt
   obtain ⟨cl,rfl,hs1,_,q1⟩:=hR
   obtain ⟨cl2,rfl,hs2,_,q2⟩:=hR2
   have HC : Hid (∀ Y,Below w.heap.size w Y → ∀ j (hj : j < 3),Y.cell? ⟨b,o + k * 3 + j,none⟩ = some ([Value.string xs[k].name,.int .i64 xs[k].type,cl][j]'(by simpa using hj)) ∧ Y.cell? ⟨b2,o2 + k * 3 + j,none⟩ = some ([Value.string xs[k].name,.int .i64 xs[k].type,cl2][j]'(by simpa using hj))):=hide (fun Y hY j hj => ⟨(hY.cell (p:=⟨b,_,none⟩) hb).trans (hc j (by simpa using hj)),(hY.cell (p:=⟨b2,_,none⟩) hb2).trans (hc2 j (by simpa using hj))⟩)
   obtain ⟨la,lc,rfl⟩:=q1.shape
   obtain ⟨la2,lc2,rfl⟩:=q2.shape
   have Q1:=hide q1
   have Q2:=hide q2
   have c0:=(uh HC wq hbl 0 (by omega)).1
   have d0:=(uh HC wq hbl 0 (by omega)).2
   have c1:=(uh HC wq hbl 1 (by omega)).1
   have d1:=(uh HC wq hbl 1 (by omega)).2
   have c2:=(uh HC wq hbl 2 (by omega)).1
   have d2:=(uh HC wq hbl 2 (by omega)).2
   simp only [Nat.add_zero,List.getElem_cons_zero,List.getElem_cons_succ] at c0 c1 c2 d0 d1 d2
   have hlt' : (k : Int) < (xs.length : Int):=by omega
   clear hc hcs hc2 hcs2 q1 q2
   generalize xs[k] = t at *
   obtain ⟨nm,ty,clk⟩:=t
   simp only at *
   have e1 : (nm.toList != nm.toList) = false:=by simp
   have e2 : (ty != ty) = false:=by simp
   have e3 : ((clk.length : Int) != (clk.length : Int)) = false:=by simp
   go_wp2_with fail
   go_quiet (fail)
   have HB2 : Hid (Below w.heap.size w (wq.drewN nq)):=below_drewN hbl nq
   obtain ⟨wd,hwd⟩ : ∃ z,z = wq.drewN nq:=⟨_,rfl⟩
   rw [← hwd] at HB2 ⊢
   clear hwd c0 d0 c1 d1 c2 d2
   have c2:=(uh HC wd (uh HB2) 2 (by omega)).1
   simp only [List.getElem_cons_zero,List.getElem_cons_succ] at c2
   go_wp2
   clear c2 e1 e2 e3
   have hkl : clk.length ≤ 140737488355328:=by
    obtain ⟨_,_,_,_,h9,_⟩:=uh Q1
    exact h9
   go_loopg [62] clk.length (fun g i wr => ∃ (j : Nat),j ≤ clk.length ∧ g = clk.length - j ∧ i = .int .i64 j ∧ Below w.heap.size w wr)
   case atStart => exact ⟨0,Nat.zero_le _,by omega,rfl,uh HB2⟩
   case round =>
    obtain ⟨j,hj,hg2,rfl,hbl2⟩:=hrel
    have HG2:=hide hg2
    clear hg2
    by_cases hjt : j < clk.length
    ·obtain ⟨a9,c9,he9,_,_,hx9⟩:=uh Q1
     obtain ⟨a8,c8,he8,_,_,hx8⟩:=uh Q2
     simp only [Value.slice.injEq] at he9 he8
     obtain ⟨rfl,_,rfl⟩:=he9
     obtain ⟨rfl,_,rfl⟩:=he8
     obtain ⟨b3,o3,cs3,rfl,_,hb3,hcs3,hc3,hR3⟩:=hx9 j hjt
     obtain ⟨b4,o4,cs4,rfl,_,hb4,hcs4,hc4,hR4⟩:=hx8 j hjt
     obtain ⟨rfl,_⟩:=hR3
     obtain ⟨rfl,_⟩:=hR4
     have t0:=(hbl2.cell (p:=⟨b3,o3 + j * 2 + 0,none⟩) hb3).trans (hc3 0 (by simp))
     have t1:=(hbl2.cell (p:=⟨b3,o3 + j * 2 + 1,none⟩) hb3).trans (hc3 1 (by simp))
     have s0:=(hbl2.cell (p:=⟨b4,o4 + j * 2 + 0,none⟩) hb4).trans (hc4 0 (by simp))
     have s1:=(hbl2.cell (p:=⟨b4,o4 + j * 2 + 1,none⟩) hb4).trans (hc4 1 (by simp))
     have c2:=(uh HC wr hbl2 2 (by omega)).1
     have d2:=(uh HC wr hbl2 2 (by omega)).2
     simp only [Nat.add_zero,List.getElem_cons_zero,List.getElem_cons_succ] at t0 t1 s0 s1 c2 d2
     have hjI : (j : Int) < (clk.length : Int):=by omega
     clear hc3 hcs3 hc4 hcs4 hx9 hx8
     generalize clk[j] = cd at *
     obtain ⟨cn,con⟩:=cd
     simp only at t0 t1 s0 s1
     go_wp2_with fail
     go_quiet (fail)
     have HB3 : Hid (Below w.heap.size w (wr.drewN nq)):=below_drewN hbl2 nq
     go_wp2
     go_roundg (clk.length - (j + 1))
     case measure => have:=uh HG2; omega
     case rel => exact ⟨j + 1,hjt,rfl,by go_num,uh HB3⟩
    ·have e : j = clk.length:=by omega
     subst e
     go_wp2
     go_roundg (xs.length - (k + 1))
     case measure => have:=uh HG; omega
     case rel => exact ⟨k + 1,by omega,rfl,by go_num,hbl2⟩
  ·go_wp2
   go_ret
   exact ⟨rfl,hbl⟩
set_option maxHeartbeats 8000000 in
set_option maxRecDepth 8000 in
theorem hProgram_ok (ns : List DNode) (v u : Value) (w : World) (hv : SlAt 5 112 RNode 0 w v ns) (hu : SlAt 5 112 RNode 0 w u ns) :
  Calls Tryz.prog 7 #[.agg #[v],.agg #[u]] w (YesPost w):=by
 obtain ⟨a,cap,rfl,_,hn,hx⟩:=hv
 obtain ⟨a2,cap2,rfl,_,_,hy⟩:=hu
 unfold Len at hn
 obtain ⟨A,hAA⟩ : ∃ A,A = (w.alloc (.cells #[.slice a ns.length cap] 25)).alloc (.cells #[.slice a2 ns.length cap2] 25):=⟨_,rfl⟩
 have hA : Below w.heap.size w A:=hAA ▸ ((Below.refl _ _).alloc (Nat.le_refl _) _).alloc (by simp) _
 have hp : BlkAt A w.heap.size 25 #[.slice a ns.length cap]:=hAA ▸ (blk_box w _ _).below ((Below.refl _ _).alloc (Nat.le_refl _) _) (by simp)
 have hq : BlkAt A (w.heap.size + 1) 25 #[.slice a2 ns.length cap2]:=by
  have h9:=blk_box (w.alloc (.cells #[.slice a ns.length cap] 25)) #[.slice a2 ns.length cap2] 25
  rw [hAA]
  simpa using h9
 have HBX : Hid (∀ Y,Below A.heap.size A Y → Y.cell? ⟨w.heap.size,0,none⟩ = some (.slice a ns.length cap) ∧ Y.cell? ⟨w.heap.size + 1,0,none⟩ = some (.slice a2 ns.length cap2)):=hide (fun Y hY => ⟨(hp.below hY hp.lt).cell (i:=0) rfl,(hq.below hY hq.lt).cell (i:=0) rfl⟩)
 have HWA : Hid (∀ Y,Below A.heap.size A Y → Below w.heap.size w Y):=hide (fun Y hY => hA.trans (hY.mono hA.size))
 have p0:=(uh HBX A (Below.refl _ _)).1
 have q0:=(uh HBX A (Below.refl _ _)).2
 have HX:=hide hx
 have HY:=hide hy
 have HAA:=hide hAA
 rw [hAA] at p0 q0
 clear hx hy hA hp hq hAA
 go_enter Tryz.func7,Tryz.ntmps7
 go_wp2
 rw [← uh HAA]
 clear p0 q0
 go_loopg [21] ns.length (fun g i wr => ∃ (k : Nat),k ≤ ns.length ∧ g = ns.length - k ∧ i = .int .i64 k ∧ Below A.heap.size A wr)
 case atStart => exact ⟨0,Nat.zero_le _,by omega,rfl,Below.refl _ _⟩
 case round =>
  obtain ⟨k,hk,hg,rfl,hbl⟩:=hrel
  rename World => wq
  have HG:=hide hg
  clear hg
  by_cases hlt : k < ns.length
  ·have hww:=uh HWA wq hbl
   obtain ⟨b,o,cs,rfl,_,hb,hcs,hc,hR⟩:=uh HX k hlt
   obtain ⟨b2,o2,cs2,rfl,_,hb2,hcs2,hc2,hR2⟩:=uh HY k hlt
   obtain ⟨i1,o1,v1,e1,rfl,hl1,r1,r2,r3,r4⟩:=hR
   obtain ⟨i2,o2',v2,e2,rfl,hl2,s1,s2,s3,s4⟩:=hR2
   have c0:=(hww.cell (p:=⟨b,o + k * 5 + 0,none⟩) hb).trans (hc 0 (by simp))
   have c1:=(hww.cell (p:=⟨b,o + k * 5 + 1,none⟩) hb).trans (hc 1 (by simp))
   have c2:=(hww.cell (p:=⟨b,o + k * 5 + 2,none⟩) hb).trans (hc 2 (by simp))
   have c3:=(hww.cell (p:=⟨b,o + k * 5 + 3,none⟩) hb).trans (hc 3 (by simp))
   have c4:=(hww.cell (p:=⟨b,o + k * 5 + 4,none⟩) hb).trans (hc 4 (by simp))
   obtain ⟨ia,ic,rfl⟩:=r1.shape
   obtain ⟨oa,oc,rfl⟩:=r2.shape
   obtain ⟨va,vc,rfl⟩:=r3.shape
   obtain ⟨ea,ec,rfl⟩:=r4.shape
   obtain ⟨ia2,ic2,rfl⟩:=s1.shape
   obtain ⟨oa2,oc2,rfl⟩:=s2.shape
   obtain ⟨va2,vc2,rfl⟩:=s3.shape
   obtain ⟨ea2,ec2,rfl⟩:=s4.shape
   obtain ⟨C1,hC1⟩ : ∃ C1,C1 = wq.alloc (.cells #[.string ns[k].name,.slice ia ns[k].ins.length ic,.slice oa ns[k].outs.length oc,.slice va ns[k].vars.length vc,.slice ea ns[k].eqs.length ec] 43):=⟨_,rfl⟩
   have hb1 : Below wq.heap.size wq C1:=hC1 ▸ (Below.refl _ _).alloc (Nat.le_refl _) _
   have hw1:=hww.trans (hb1.mono hww.size)
   have d0:=(hw1.cell (p:=⟨b2,o2 + k * 5 + 0,none⟩) hb2).trans (hc2 0 (by simp))
   have d1:=(hw1.cell (p:=⟨b2,o2 + k * 5 + 1,none⟩) hb2).trans (hc2 1 (by simp))
   have d2:=(hw1.cell (p:=⟨b2,o2 + k * 5 + 2,none⟩) hb2).trans (hc2 2 (by simp))
   have d3:=(hw1.cell (p:=⟨b2,o2 + k * 5 + 3,none⟩) hb2).trans (hc2 3 (by simp))
   have d4:=(hw1.cell (p:=⟨b2,o2 + k * 5 + 4,none⟩) hb2).trans (hc2 4 (by simp))
   obtain ⟨C2,hC2⟩ : ∃ C2,C2 = C1.alloc (.cells #[.string ns[k].name,.slice ia2 ns[k].ins.length ic2,.slice oa2 ns[k].outs.length oc2,.slice va2 ns[k].vars.length vc2,.slice ea2 ns[k].eqs.length ec2] 43):=⟨_,rfl⟩
   have hb2' : Below C1.heap.size C1 C2:=hC2 ▸ (Below.refl _ _).alloc (Nat.le_refl _) _
   have hw2:=hw1.trans (hb2'.mono hw1.size)
   have hAC : Below A.heap.size A C2:=(hbl.trans (hb1.mono hbl.size)).trans (hb2'.mono (Nat.le_trans hbl.size hb1.size))
   have hz1 : C1.heap.size = wq.heap.size + 1:=by rw [hC1]; simp
   have hn1 : BlkAt C2 wq.heap.size 43 #[.string ns[k].name,.slice ia ns[k].ins.length ic,.slice oa ns[k].outs.length oc,.slice va ns[k].vars.length vc,.slice ea ns[k].eqs.length ec]:=by
    have h9:=blk_box wq #[.string ns[k].name,.slice ia ns[k].ins.length ic,.slice oa ns[k].outs.length oc,.slice va ns[k].vars.length vc,.slice ea ns[k].eqs.length ec] 43
    rw [← hC1] at h9
    exact h9.below hb2' h9.lt
   have hn2 : BlkAt C2 (wq.heap.size + 1) 43 #[.string ns[k].name,.slice ia2 ns[k].ins.length ic2,.slice oa2 ns[k].outs.length oc2,.slice va2 ns[k].vars.length vc2,.slice ea2 ns[k].eqs.length ec2]:=by
    have h9:=blk_box C1 #[.string ns[k].name,.slice ia2 ns[k].ins.length ic2,.slice oa2 ns[k].outs.length oc2,.slice va2 ns[k].vars.length vc2,.slice ea2 ns[k].eqs.length ec2] 43
    rw [← hC2,hz1] at h9
    exact h9
   have HCC : Hid (∀ Y,Below C2.heap.size C2 Y → BlkAt Y wq.heap.size 43 #[.string ns[k].name,.slice ia ns[k].ins.length ic,.slice oa ns[k].outs.length oc,.slice va ns[k].vars.length vc,.slice ea ns[k].eqs.length ec] ∧ BlkAt Y (wq.heap.size + 1) 43 #[.string ns[k].name,.slice ia2 ns[k].ins.length ic2,.slice oa2 ns[k].outs.length oc2,.slice va2 ns[k].vars.length vc2,.slice ea2 ns[k].eqs.length ec2] ∧ Below A.heap.size A Y ∧ Below w.heap.size w Y):=hide (fun Y hY => ⟨hn1.below hY hn1.lt,hn2.below hY hn2.lt,hAC.trans (hY.mono hAC.size),hw2.trans (hY.mono hw2.size)⟩)
   have R1:=hide (And.intro r1 s1)
   have R2:=hide (And.intro r2 s2)
   have R3:=hide (And.intro r3 s3)
   have R4:=hide (And.intro r4 s4)
   have HV1 : Hid (∀ Y,Below C2.heap.size C2 Y → Calls Tryz.prog 17 #[.slice ia ns[k].ins.length ic,.slice ia2 ns[k].ins.length ic2] Y (YesPost Y)):=hide (fun Y hY => hVars_ok _ _ _ Y ((uh R1).1.stays RVar_kept (uh HCC Y hY).2.2.2) ((uh R1).2.stays RVar_kept (uh HCC Y hY).2.2.2))
   have HV2 : Hid (∀ Y,Below C2.heap.size C2 Y → Calls Tryz.prog 17 #[.slice oa ns[k].outs.length oc,.slice oa2 ns[k].outs.length oc2] Y (YesPost Y)):=hide (fun Y hY => hVars_ok _ _ _ Y ((uh R2).1.stays RVar_kept (uh HCC Y hY).2.2.2) ((uh R2).2.stays RVar_kept (uh HCC Y hY).2.2.2))
   have HV3 : Hid (∀ Y,Below C2.heap.size C2 Y → Calls Tryz.prog 17 #[.slice va ns[k].vars.length vc,.slice va2 ns[k].vars.length vc2] Y (YesPost Y)):=hide (fun Y hY => hVars_ok _ _ _ Y ((uh R3).1.stays RVar_kept (uh HCC Y hY).2.2.2) ((uh R3).2.stays RVar_kept (uh HCC Y hY).2.2.2))
   have p0:=(uh HBX wq hbl).1
   have q0:=(uh HBX C1 (hbl.trans (hb1.mono hbl.size))).2
   have m0:=hn1.cell (i:=0) (v:=.string ns[k].name) rfl
   have m1:=hn1.cell (i:=1) (v:=.slice ia ns[k].ins.length ic) rfl
   have x0:=hn2.cell (i:=0) (v:=.string ns[k].name) rfl
   have x1:=hn2.cell (i:=1) (v:=.slice ia2 ns[k].ins.length ic2) rfl
   have HCE:=hide (And.intro hC1 hC2)
   have hlt' : (k : Int) < (ns.length : Int):=by omega
   simp only [Nat.add_zero,List.getElem_cons_zero,List.getElem_cons_succ] at c0 c1 c2 c3 c4 d0 d1 d2 d3 d4
   rw [hC1] at q0 d0 d1 d2 d3 d4
   rw [hC2,hC1] at m0 m1 x0 x1
   clear hc hcs hc2 hcs2 r1 r2 r3 r4 s1 s2 s3 s4 hb1 hw1 hb2' hw2 hAC hz1 hn1 hn2 hww hC1 hC2 hl1 hl2
   generalize ns[k] = nd at *
   obtain ⟨nm,xin,xout,xvar,xeq⟩:=nd
   simp only at *
   have en : (nm.toList != nm.toList) = false:=by simp
   have ee : ((xeq.length : Int) != (xeq.length : Int)) = false:=by simp
   go_wp2_with fail
   rw [← (uh HCE).1,← (uh HCE).2]
   refine (uh HV1 C2 (Below.refl _ _)).mono ?_
   rintro e Y1 ⟨rfl,hb1⟩
   clear p0 q0 m0 m1 x0 x1 c0 c1 c2 c3 c4 d0 d1 d2 d3 d4 HCE HV1 en
   have m2:=(uh HCC Y1 hb1).1.cell (i:=2) (v:=.slice oa xout.length oc) rfl
   have x2:=(uh HCC Y1 hb1).2.1.cell (i:=2) (v:=.slice oa2 xout.length oc2) rfl
   go_wp2_with fail
   refine (uh HV2 Y1 hb1).mono ?_
   rintro e Y2 ⟨rfl,hb2'⟩
   have hb2:=hb1.trans (hb2'.mono hb1.size)
   clear m2 x2 HV2 hb2' hb1
   have m3:=(uh HCC Y2 hb2).1.cell (i:=3) (v:=.slice va xvar.length vc) rfl
   have x3:=(uh HCC Y2 hb2).2.1.cell (i:=3) (v:=.slice va2 xvar.length vc2) rfl
   go_wp2_with fail
   refine (uh HV3 Y2 hb2).mono ?_
   rintro e Y3 ⟨rfl,hb3'⟩
   have hb3:=hb2.trans (hb3'.mono hb2.size)
   clear m3 x3 HV3 hb3' hb2
   have m4:=(uh HCC Y3 hb3).1.cell (i:=4) (v:=.slice ea xeq.length ec) rfl
   have x4:=(uh HCC Y3 hb3).2.1.cell (i:=4) (v:=.slice ea2 xeq.length ec2) rfl
   go_wp2
   clear m4 x4 ee
   have hxl : xeq.length ≤ 140737488355328:=by
    obtain ⟨_,_,_,_,h9,_⟩:=(uh R4).1
    exact h9
   go_loopg [75] xeq.length (fun g i wr => ∃ (j : Nat),j ≤ xeq.length ∧ g = xeq.length - j ∧ i = .int .i64 j ∧ Below C2.heap.size C2 wr)
   case atStart => exact ⟨0,Nat.zero_le _,by omega,rfl,hb3⟩
   case round =>
    obtain ⟨j,hj,hg2,rfl,hbl2⟩:=hrel
    rename World => wz
    have HG2:=hide hg2
    clear hg2
    by_cases hjt : j < xeq.length
    ·have hww:=(uh HCC wz hbl2).2.2.2
     obtain ⟨a9,c9,he9,_,_,hx9⟩:=(uh R4).1
     obtain ⟨a8,c8,he8,_,_,hx8⟩:=(uh R4).2
     simp only [Value.slice.injEq] at he9 he8
     obtain ⟨rfl,_,rfl⟩:=he9
     obtain ⟨rfl,_,rfl⟩:=he8
     obtain ⟨b3,o3,cs3,rfl,_,hb3,hcs3,hc3,hR3⟩:=hx9 j hjt
     obtain ⟨b4,o4,cs4,rfl,_,hb4,hcs4,hc4,hR4⟩:=hx8 j hjt
     obtain ⟨l1,k1,g1,rfl,_,r1,r2,r3⟩:=hR3
     obtain ⟨l2,k2,g2,rfl,_,s1,s2,s3⟩:=hR4
     have c0:=(hww.cell (p:=⟨b3,o3 + j * 4 + 0,none⟩) hb3).trans (hc3 0 (by simp))
     have c1:=(hww.cell (p:=⟨b3,o3 + j * 4 + 1,none⟩) hb3).trans (hc3 1 (by simp))
     have c2:=(hww.cell (p:=⟨b3,o3 + j * 4 + 2,none⟩) hb3).trans (hc3 2 (by simp))
     have c3:=(hww.cell (p:=⟨b3,o3 + j * 4 + 3,none⟩) hb3).trans (hc3 3 (by simp))
     obtain ⟨la,lc,rfl⟩:=r1.shape
     obtain ⟨ka,kc,rfl⟩:=r2.shape
     obtain ⟨ga,gc,rfl⟩:=r3.shape
     obtain ⟨la2,lc2,rfl⟩:=s1.shape
     obtain ⟨ka2,kc2,rfl⟩:=s2.shape
     obtain ⟨ga2,gc2,rfl⟩:=s3.shape
     obtain ⟨D1,hD1⟩ : ∃ D1,D1 = wz.alloc (.cells #[.slice la xeq[j].lhs.length lc,.slice ka xeq[j].code.length kc,.string xeq[j].call,.slice ga xeq[j].args.length gc] 58):=⟨_,rfl⟩
     have hb1 : Below wz.heap.size wz D1:=hD1 ▸ (Below.refl _ _).alloc (Nat.le_refl _) _
     have hw1:=hww.trans (hb1.mono hww.size)
     have d0:=(hw1.cell (p:=⟨b4,o4 + j * 4 + 0,none⟩) hb4).trans (hc4 0 (by simp))
     have d1:=(hw1.cell (p:=⟨b4,o4 + j * 4 + 1,none⟩) hb4).trans (hc4 1 (by simp))
     have d2:=(hw1.cell (p:=⟨b4,o4 + j * 4 + 2,none⟩) hb4).trans (hc4 2 (by simp))
     have d3:=(hw1.cell (p:=⟨b4,o4 + j * 4 + 3,none⟩) hb4).trans (hc4 3 (by simp))
     obtain ⟨D2,hD2⟩ : ∃ D2,D2 = D1.alloc (.cells #[.slice la2 xeq[j].lhs.length lc2,.slice ka2 xeq[j].code.length kc2,.string xeq[j].call,.slice ga2 xeq[j].args.length gc2] 58):=⟨_,rfl⟩
     have hb2' : Below D1.heap.size D1 D2:=hD2 ▸ (Below.refl _ _).alloc (Nat.le_refl _) _
     have hw2:=hw1.trans (hb2'.mono hw1.size)
     have hAC : Below C2.heap.size C2 D2:=(hbl2.trans (hb1.mono hbl2.size)).trans (hb2'.mono (Nat.le_trans hbl2.size hb1.size))
     have hz1 : D1.heap.size = wz.heap.size + 1:=by rw [hD1]; simp
     have hn1 : BlkAt D2 wz.heap.size 58 #[.slice la xeq[j].lhs.length lc,.slice ka xeq[j].code.length kc,.string xeq[j].call,.slice ga xeq[j].args.length gc]:=by
      have h9:=blk_box wz #[.slice la xeq[j].lhs.length lc,.slice ka xeq[j].code.length kc,.string xeq[j].call,.slice ga xeq[j].args.length gc] 58
      rw [← hD1] at h9
      exact h9.below hb2' h9.lt
     have hn2 : BlkAt D2 (wz.heap.size + 1) 58 #[.slice la2 xeq[j].lhs.length lc2,.slice ka2 xeq[j].code.length kc2,.string xeq[j].call,.slice ga2 xeq[j].args.length gc2]:=by
      have h9:=blk_box D1 #[.slice la2 xeq[j].lhs.length lc2,.slice ka2 xeq[j].code.length kc2,.string xeq[j].call,.slice ga2 xeq[j].args.length gc2] 58
      rw [← hD2,hz1] at h9
      exact h9
     have HDD : Hid (∀ Y,Below D2.heap.size D2 Y → BlkAt Y wz.heap.size 58 #[.slice la xeq[j].lhs.length lc,.slice ka xeq[j].code.length kc,.string xeq[j].call,.slice ga xeq[j].args.length gc] ∧ BlkAt Y (wz.heap.size + 1) 58 #[.slice la2 xeq[j].lhs.length lc2,.slice ka2 xeq[j].code.length kc2,.string xeq[j].call,.slice ga2 xeq[j].args.length gc2] ∧ Below C2.heap.size C2 Y ∧ Below w.heap.size w Y):=hide (fun Y hY => ⟨hn1.below hY hn1.lt,hn2.below hY hn2.lt,hAC.trans (hY.mono hAC.size),hw2.trans (hY.mono hw2.size)⟩)
     have T1:=hide (And.intro r1 s1)
     have T2:=hide (And.intro r2 s2)
     have T3:=hide (And.intro r3 s3)
     have HV1 : Hid (∀ Y,Below D2.heap.size D2 Y → Calls Tryz.prog 18 #[.slice la xeq[j].lhs.length lc,.slice la2 xeq[j].lhs.length lc2] Y (YesPost Y)):=hide (fun Y hY => hNames_ok _ _ _ Y ((uh T1).1.stays RStr_kept (uh HDD Y hY).2.2.2) ((uh T1).2.stays RStr_kept (uh HDD Y hY).2.2.2))
     have HV2 : Hid (∀ Y,Below D2.heap.size D2 Y → Calls Tryz.prog 19 #[.slice ka xeq[j].code.length kc,.slice ka2 xeq[j].code.length kc2] Y (YesPost Y)):=hide (fun Y hY => hCode_ok _ _ _ Y ((uh T2).1.stays RItem_kept (uh HDD Y hY).2.2.2) ((uh T2).2.stays RItem_kept (uh HDD Y hY).2.2.2))
     have HV3 : Hid (∀ Y,Below D2.heap.size D2 Y → Calls Tryz.prog 20 #[.slice ga xeq[j].args.length gc,.slice ga2 xeq[j].args.length gc2] Y (YesPost Y)):=hide (fun Y hY => hCodes_ok _ _ _ Y ((uh T3).1.stays RItems_kept (uh HDD Y hY).2.2.2) ((uh T3).2.stays RItems_kept (uh HDD Y hY).2.2.2))
     have n4:=(uh HCC wz hbl2).1.cell (i:=4) (v:=.slice (some ⟨b3,o3,none⟩) xeq.length ec) rfl
     have y4:=(uh HCC D1 (hbl2.trans (hb1.mono hbl2.size))).2.1.cell (i:=4) (v:=.slice (some ⟨b4,o4,none⟩) xeq.length ec2) rfl
     have m0:=hn1.cell (i:=0) (v:=.slice la xeq[j].lhs.length lc) rfl
     have x0:=hn2.cell (i:=0) (v:=.slice la2 xeq[j].lhs.length lc2) rfl
     have HDE:=hide (And.intro hD1 hD2)
     have hjI : (j : Int) < (xeq.length : Int):=by omega
     simp only [Nat.add_zero,List.getElem_cons_zero,List.getElem_cons_succ] at c0 c1 c2 c3 d0 d1 d2 d3
     rw [hD1] at y4 d0 d1 d2 d3
     rw [hD2,hD1] at m0 x0
     clear hc3 hcs3 hc4 hcs4 r1 r2 r3 s1 s2 s3 hb1 hw1 hb2' hw2 hAC hz1 hn1 hn2 hww hD1 hD2 hx9 hx8
     generalize xeq[j] = eq at *
     obtain ⟨lhs,cod,cal,arg⟩:=eq
     simp only at *
     have en : (cal.toList != cal.toList) = false:=by simp
     go_wp2_with fail
     rw [← (uh HDE).1,← (uh HDE).2]
     refine (uh HV1 D2 (Below.refl _ _)).mono ?_
     rintro e Z1 ⟨rfl,hz1⟩
     clear n4 y4 m0 x0 c0 c1 c2 c3 d0 d1 d2 d3 HDE HV1
     have m1:=(uh HDD Z1 hz1).1.cell (i:=1) (v:=.slice ka cod.length kc) rfl
     have x1:=(uh HDD Z1 hz1).2.1.cell (i:=1) (v:=.slice ka2 cod.length kc2) rfl
     go_wp2_with fail
     refine (uh HV2 Z1 hz1).mono ?_
     rintro e Z2 ⟨rfl,hz2'⟩
     have hz2:=hz1.trans (hz2'.mono hz1.size)
     clear m1 x1 HV2 hz2' hz1
     have m2:=(uh HDD Z2 hz2).1.cell (i:=2) (v:=.string cal) rfl
     have x2:=(uh HDD Z2 hz2).2.1.cell (i:=2) (v:=.string cal) rfl
     have m3:=(uh HDD Z2 hz2).1.cell (i:=3) (v:=.slice ga arg.length gc) rfl
     have x3:=(uh HDD Z2 hz2).2.1.cell (i:=3) (v:=.slice ga2 arg.length gc2) rfl
     go_wp2_with fail
     refine (uh HV3 Z2 hz2).mono ?_
     rintro e Z3 ⟨rfl,hz3'⟩
     have hz3:=hz2.trans (hz3'.mono hz2.size)
     have HZ3:=hide (uh HDD Z3 hz3).2.2.1
     clear m2 x2 m3 x3 HV3 hz3' hz2 hz3
     go_wp2
     go_roundg (xeq.length - (j + 1))
     case measure => have:=uh HG2; omega
     case rel => exact ⟨j + 1,hjt,rfl,by go_num,uh HZ3⟩
    ·have e : j = xeq.length:=by omega
     have HZ:=hide (uh HCC wz hbl2).2.2.1
     subst e
     go_wp2
     go_roundg (ns.length - (k + 1))
     case measure => have:=uh HG; omega
     case rel => exact ⟨k + 1,by omega,rfl,by go_num,uh HZ⟩
  ·go_wp2
   go_ret
   exact ⟨rfl,uh HWA _ hbl⟩
end Go.Proofs.YtajabbnlbopcbaaGreatDoor
